import PyProof.Rows.All
import Wide.All
import OpenK.AllK
import Wide.FinOn
import Lean
import PyProof.EqAt
import PyProof.EqKinds
import PyProof.TupleCall
import PyProof.NeKinds
import PySem.Challenge.RW_cascade_k53_a_row_moved
set_option maxHeartbeats 2000000
set_option Elab.async false
set_option linter.all false
set_option maxRecDepth 100000
abbrev cA:=@List.getElem?_eq_getElem
abbrev cK:=@List.getElem?_eq_some_iff
abbrev cz:=@List.length_map
abbrev cy:=@PySem.wpAny_bind
abbrev cW:=@List.mem_of_getElem?
abbrev cQ:=@List.getElem?_map
abbrev dI:=@PySem.Heap.get?_push_of_some
abbrev dj:=@List.mem_singleton
abbrev cG:=@PySem.wpAny_pure
abbrev dY:=@List.getD_eq_getElem?_getD
abbrev cM:=@Nat.le_refl
abbrev dF:=@List.length_append
abbrev eC:=@Option.map_eq_some_iff
abbrev eU:=@List.getElem?_append_right
abbrev dw:=@List.mem_append
abbrev dP:=@List.mem_cons_self
abbrev c7:=@List.mem_map
abbrev e8:=@List.getElem?_append_left
abbrev d9:=@Array.length_toList
abbrev dh:=@PySem.Heap.lt_size
abbrev eK:=@List.mem_append_right
abbrev dJ:=@List.mem_filter
abbrev eO:=@PySem.Heap.get?_push_size
abbrev fc:=@List.mem_cons_of_mem
abbrev dE:=@Nat.le_trans
abbrev eM:=@List.size_toArray
abbrev dQ:=@List.mem_cons
abbrev fy:=@List.mem_iff_getElem?
abbrev cT:=@PyProof.Rows.wpS_bind
abbrev dX:=@decide_eq_true
abbrev dC:=@PySem.sizeLine_eq
abbrev eE:=@List.map_append
abbrev f':=@PySem.F.plainAttrs_list
abbrev ft:=@Nat.lt_of_lt_of_le
abbrev dS:=@Nat.ne_of_lt
abbrev fh:=@List.append_assoc
abbrev fY:=@List.contains_iff_mem
abbrev cY:=@PyProof.Rows.wpS_pure
abbrev fg:=@decide_eq_false
abbrev gZ:=@List.length_filter_le
abbrev fK:=@List.length_take
abbrev iN:=@PySem.F.slot_list_append
abbrev iA:=@PySem.F.type_list_append
abbrev fq:=@List.mem_range
abbrev gy:=@Bool.false_ne_true
abbrev fB:=@Option.some.inj
abbrev gi:=@of_decide_eq_true
abbrev i':=@Array.getElem?_eq_getElem
abbrev ie:=@List.getElem?_eq_none
abbrev hY:=@List.pairwise_append
abbrev gj:=@List.take_length
abbrev gk:=@PySem.PassesOwn.never
abbrev dL:=@congrArg
abbrev iU:=@Array.getElem?_toList
abbrev jg:=@PySem.Heap.get?_update_other
abbrev hG:=@List.take_add_one
abbrev hV:=@Int.toNat_natCast
abbrev gV:=@List.append_nil
abbrev im:=@List.getElem?_inj
abbrev nR:=@Nat.exists_eq_add_one_of_ne_zero
abbrev lQ:=@Array.perm_iff_toList_perm
abbrev fR:=@Nat.le_of_lt
abbrev gw:=@PySem.wpAny_holding
abbrev gv:=@List.map_cons
abbrev iY:=@List.length_range
abbrev iB:=@List.lookup_cons
abbrev jA:=@List.mem_append_left
abbrev nJ:=@List.pairwise_iff_getElem
abbrev ou:=@Array.getD_eq_getD_getElem?
abbrev j6:=@Array.toList_append
abbrev i7:=@List.getElem_mem
abbrev i6:=@PySem.wpAny_call_entry
abbrev iZ:=@Bool.eq_iff_iff
abbrev lT:=@List.take_append_drop
abbrev lC:=@PySem.mem_of_lookup
abbrev pJ:=@PySem.F.slot_dict_keyiterator_next
abbrev jv:=@Bool.and_eq_true
abbrev jc:=@List.nodup_cons
abbrev hZ:=@List.map_map
abbrev sf:=@List.Nodup.length_le_of_subset
abbrev m6:=@List.Pairwise.sublist
abbrev nX:=@List.length_eq_zero_iff
abbrev jz:=@List.length_cons
abbrev iq:=@PyProof.Rows.wpS_forRange
abbrev eJ:=@Ne.symm
abbrev mh:=@PySem.wpAny_setField_rec
abbrev gN:=@PySem.wpAny_mono
abbrev pQ:=@List.idxOf_lt_length_iff
abbrev mO:=@beq_eq_false_iff_ne
abbrev hJ:=@Nat.zero_le
abbrev mM:=@List.getElem?_range
abbrev mw:=@Nat.add_sub_cancel'
abbrev lA:=@List.mem_reverse
abbrev lI:=@Nat.le_add_right
abbrev jb:=@Nat.lt_irrefl
abbrev lO:=@PySem.wpAny_newObj_type
abbrev pE:=@PySem.wpAny_callSpecial?_slot
abbrev pq:=@List.pairwise_singleton
abbrev l7:=@List.ext_getElem?
abbrev n9:=@PySem.lookup_relabel_local
abbrev lH:=@PySem.W.kia_one
abbrev tR:=@PySem.F.slot_dict_itemiterator_next
abbrev oT:=@Classical.choose_spec
abbrev fV:=@PySem.boot_len
abbrev qv:=@PySem.F.slot_list_index
abbrev qk:=@PySem.F.type_list_index
abbrev jt:=@PySem.W.mg_none_of
abbrev uP:=@Array.getElem?_eq_some_iff
abbrev n7:=@PySem.wpAny_truthy_bool
abbrev nZ:=@List.foldl_append
abbrev pC:=@List.map_congr_left
abbrev oh:=@Bool.eq_false_iff
abbrev oN:=@List.filter_sublist
abbrev ve:=@List.drop_eq_getElem_cons
abbrev u9:=@Nat.sub_lt_left_of_lt_add
abbrev rk:=@PySem.Heap.get?_update_self
abbrev xK:=@PySem.wpAny_typeNameOfWhole_itemiter
abbrev mP:=@Array.size_push
abbrev oD:=@PySem.wpAny_Call_Name_kw
abbrev ui:=@List.getElem?_take_of_lt
abbrev oC:=@List.filter_append
abbrev pM:=@List.getElem_idxOf
abbrev om:=@Nat.lt_succ_self
abbrev wS:=@PySem.wpAny_typeNameOfWhole_keyiter
abbrev sk:=@PySem.Around.under_plainId
abbrev r9:=@List.mem_of_mem_take
abbrev xw:=@PySem.F.slot_dict_keyiterator_iter
abbrev sV:=@Nat.add_sub_cancel_left
abbrev ka:=@Nat.ne_of_gt
abbrev lG:=@Nat.sub_self
abbrev pB:=@PySem.wpAny_dictEntries
abbrev oJ:=@PySem.wpAny_setState_of
abbrev wF:=@PyProof.Rows.callWith_type1
abbrev oB:=@List.length_drop
abbrev oW:=@List.all_eq_true
abbrev oA:=@List.getElem_map
abbrev jr:=@PyProof.Rows.boot_tuple
abbrev nq:=@PySem.Paired.length
abbrev ue:=@List.length_singleton
abbrev tm:=@List.Perm.append_left
abbrev qC:=@List.pairwise_cons
abbrev ql:=@of_decide_eq_false
abbrev rf:=@decide_eq_true_iff
abbrev n':=@PySem.Heap.size_push
abbrev x8:=@Classical.byContradiction
abbrev vU:=@List.extract_eq_take_drop
abbrev tK:=@List.getElem?_of_mem
abbrev oE:=@PySem.wpAny_passesOwn
abbrev qh:=@List.take_sublist
abbrev oS:=@List.length_set
abbrev oz:=@PySem.codeAny_builtin
abbrev sA:=@Array.toList_push
abbrev qb:=@PySem.wpAny_pyIter_slot
abbrev si:=@List.pairwise_map
abbrev pU:=@Nat.not_lt_zero
abbrev qz:=@List.filter_congr
abbrev nH:=@Nat.le_of_eq
abbrev nI:=@PySem.codeAny_mono
abbrev l6:=@Nat.le_succ
abbrev uz:=@List.replicate_succ
abbrev uK:=@Nat.add_le_add_left
abbrev nS:=@PySem.wpAny_attempt
abbrev sN:=@PySem.F.plain_extend_loop
abbrev iP:=@PyProof.Rows.wpS_mono
abbrev qq:=@List.cons_append
abbrev xh:=@PySem.wpAny_pyNext_list_item
abbrev wn:=@List.take_of_length_le
abbrev vk:=@List.length_pos_of_mem
abbrev xr:=@List.Perm.append_right
abbrev sZ:=@Nat.lt_of_le_of_lt
abbrev uN:=@Nat.lt_of_le_of_ne
abbrev ud:=@List.getElem?_drop
abbrev zu:=@List.countP_eq_length_filter
abbrev n0:=@PySem.F.called_set
abbrev sq:=@PySem.wpAny_dictEpoch
abbrev sw:=@Nat.min_eq_left
abbrev xW:=@List.perm_append_comm
abbrev sL:=@PySem.wpAny_pyIter_list
abbrev lZ:=@beq_iff_eq
abbrev tN:=@Nat.lt_succ_of_lt
abbrev tV:=@Nat.le_succ_of_le
abbrev lW:=@PyProof.Rows.wpS_modify
abbrev wI:=@Array.toList_extract
abbrev xY:=@Array.toList_reverse
abbrev vQ:=@List.mem_erase_of_ne
abbrev xa:=@Nat.add_le_add_right
abbrev AB:=@PySem.Calls.call_function_entry
abbrev qm:=@PySem.wpAny_fieldsOf
abbrev sE:=@beq_self_eq_true
abbrev uq:=@PySem.wpAny_askSetting
abbrev v6:=@List.toList_toArray
abbrev ya:=@Nat.add_lt_add_left
abbrev Bm:=@PySem.wpAny_comprehension_free
abbrev mW:=@PySem.wpAny_rule
abbrev yu:=@List.length_erase_of_mem
abbrev zG:=@List.Pairwise.imp_of_mem
abbrev pZ:=@PySem.wpAny_standAt
abbrev xE:=@PySem.W.callWith_K
abbrev qx:=@List.any_cons
abbrev vO:=@PySem.tupleKind_room_in1
abbrev qw:=@PySem.plainId_quiet
abbrev yX:=@PyProof.Rows.F.plain_set_update_loop
abbrev tH:=@PyProof.Rows.get?_update_seq
abbrev pY:=@PyProof.Rows.listUpdate_at
abbrev yr:=@PySem.Calls.callWith_builtin
abbrev zb:=@PySem.wpAny_isOneOf_itemiter
abbrev yH:=@Array.getElem?_eq_none
abbrev y7:=@List.filter_eq_nil_iff
abbrev zH:=@List.not_of_lt_findIdx
abbrev vz:=@List.any_eq_false
abbrev vl:=@List.flatten_cons
abbrev Em:=@PySem.F.args_dict_itemiterator_next_1
abbrev xP:=@Nat.le_of_lt_succ
abbrev wO:=@Array.size_append
abbrev zX:=@PySem.wpAny_pyNext_list_end
abbrev yE:=@List.length_replicate
abbrev BU:=@PySem.F.entry_dict_itemiterator_next
abbrev Cq:=@PySem.F.args_dict_keyiterator_next_1
abbrev CJ:=@PySem.F.args_dict_keyiterator_iter_1
abbrev BK:=@Array.mem_of_getElem?
abbrev pX:=@Nat.zero_add
abbrev rh:=@Int.zero_add
abbrev xC:=@Nat.le_of_not_lt
abbrev vB:=@List.ext_getElem
abbrev wk:=@List.any_eq_true
abbrev CB:=@PySem.F.entry_dict_keyiterator_next
abbrev EO:=@PySem.F.entry_dict_keyiterator_iter
abbrev wg:=@Array.toList_map
abbrev yh:=@List.countP_cons
abbrev zw:=@Array.mem_toList_iff
abbrev Bc:=@Nat.le_sub_of_add_le
abbrev BB:=@List.mem_of_mem_drop
abbrev uQ:=@Int.ofNat.inj
abbrev tj:=@PySem.wpAny_newList
abbrev Fl:=@List.dropLast_concat_getLast
abbrev sF:=@Bool.true_and
abbrev oV:=@PySem.call_meets
abbrev xg:=@PySem.wpAny_execs_nil
abbrev Ap:=@PySem.W.plainGet_of
abbrev w9:=@List.of_mem_zip
abbrev xz:=@PySem.wpAny_loadPart'
abbrev wp:=@PySem.size_of_entries
abbrev zK:=@PySem.wpAny_raiseNew_none
abbrev q0:=@PySem.wpAny_field
abbrev v8:=@PySem.wpAny_updateSeq
abbrev j5:=@PyProof.Rows.wpS_get
abbrev Fc:=@PySem.Calls.Name_function_global
abbrev DV:=@Array.toList_setIfInBounds
abbrev FD:=@List.nodup_iff_pairwise_ne
abbrev sP:=@Nat.lt_trans
abbrev vd:=@Nat.add_zero
abbrev z9:=@Array.Perm.mem_iff
abbrev uV:=@Int.lt_trans
abbrev zr:=@List.getElem?_take
abbrev vZ:=@Bool.false_and
abbrev yW:=@PySem.wpAny_assign_Name
abbrev BE:=@Option.isSome_map
abbrev zD:=@List.nodup_append
abbrev AJ:=@PySem.wpAny_forIn_list
abbrev wh:=@List.map_nil
abbrev zU:=@List.foldl_cons
abbrev xo:=@Nat.add_comm
abbrev A':=@List.nil_append
abbrev BI:=@PySem.wpAny_specialOf
abbrev zm:=@PySem.wpAny_ite_split
abbrev yY:=@PyProof.Rows.entry_list_sort
abbrev wK:=@List.any_map
abbrev sh:=@ite_congr
abbrev BP:=@Array.Perm.refl
abbrev wD:=@Nat.min_self
abbrev yV:=@PyProof.Rows.boot_isinstance
abbrev uc:=@PySem.wpAny_call
abbrev uC:=@PySem.intKind_is
abbrev pP:=@PyProof.Rows.wpS_lift
abbrev xc:=@PySem.seqIndex_of
abbrev xJ:=@PySem.wpAny_of_eq
abbrev wR:=@PySem.wpAny_alloc
abbrev x9:=@PyProof.Rows.seqEpoch_at
abbrev wc:=@PyProof.Rows.boot_sorted
section
open PySem
abbrev gP:=List (List (List Nat))
abbrev LN:=List (List Nat)
abbrev cu:=List Nat
abbrev VP:=Value -> Shared -> Prop
abbrev AO:=List (Addr × Obj)
abbrev SV:=Str -> Option Value
abbrev As:=List Addr
abbrev Vs:=List Value
abbrev AV:=Array Value
abbrev Zs:=List Int
abbrev Ss:=List Str
abbrev Sh:=Shared
abbrev Vl:=Value
abbrev Pg:=Program
abbrev Fd:=FuncData
abbrev Ar:=Around
end
abbrev wA:=@if_neg
abbrev wB:=@if_pos
abbrev wC:=@absurd
abbrev wE:=@False.elim
open PySem in
abbrev Ad:=Addr
namespace L2
open PySem PySem.Spec PyProof.Rows
abbrev dr:=Sum Int Str
def ro:dr->Vl->Bool
 | .inl k,v=>Value.isInt k v
 | .inr x,v=>Value.isStrOf x v
def yx(w:World):dr->Int
 | .inl k=>hashInt k
 | .inr x=>hashStr w x
theorem mz: ∀{k:dr} {v:Vl},ro k v=true->(∃i t,k=Sum.inl i/\v=Value.int i t)∨(∃x t,k=Sum.inr x/\v=Value.str x t)
 | .inl i,v,h=>by
  obtain⟨t,e⟩:=Value.isInt_shape (k:=i) (v:=v) h;exact .inl ⟨i,t,rfl,e⟩
 | .inr x,v,h=>by
  obtain⟨t,e⟩:=Value.isStrOf_shape (x:=x) (v:=v) h;exact .inr ⟨x,t,rfl,e⟩
def IL(i:Int)(t:Tok):ro (.inl i) (.int i t)=true:=by simp[ro,Value.isInt]
def Hj(x:Str)(t:Tok):ro (.inr x) (.str x t)=true:=by simp[ro,Value.isStrOf]
def Mj(a b:Int):decide ((Sum.inl a:dr)=Sum.inl b)=(a==b):=by
 by_cases e:a=b
 .subst e;simp
 .have h: ¬(Sum.inl a:dr)=Sum.inl b:=λq=>e (Sum.inl.inj q);rw[fg h];exact(mO.mpr e).symm
def Ju(a b:Str):decide ((Sum.inr a:dr)=Sum.inr b)=decide (a=b):=by
 by_cases e:a=b
 .subst e;simp
 .have h: ¬(Sum.inr a:dr)=Sum.inr b:=λq=>e (Sum.inr.inj q);rw[fg h,fg e]
def G2(a:Int)(b:Str):decide ((Sum.inl a:dr)=Sum.inr b)=false:=fg (λq=>nomatch q)
def JE(a:Str)(b:Int):decide ((Sum.inr a:dr)=Sum.inl b)=false:=fg (λq=>nomatch q)
def je(c:Pg)(w:World):PySem.KeyKind c w dr where
 is:=ro
 hash:=yx w
 inj:=λv a b l g=>by
  rcases mz l with⟨i,t,rfl,rfl⟩|⟨x,t,rfl,rfl⟩
  .rcases mz g with⟨j,u,rfl,e⟩|⟨y,u,rfl,e⟩
   .injection e with d _;rw[d]
   .exact nomatch e
  .rcases mz g with⟨j,u,rfl,e⟩|⟨y,u,rfl,e⟩
   .exact nomatch e
   .injection e with d _;rw[d]
 byValue:=λk v h=>by
  rcases mz h with⟨i,t,rfl,rfl⟩|⟨x,t,rfl,rfl⟩<;>rfl
 pyHash:=λf h=>by
  rcases mz f with⟨i,t,rfl,rfl⟩|⟨x,t,rfl,rfl⟩
  .exact wpAny_pyHash_int h
  .exact wpAny_pyHash_str h
 eqBool:=λm f h=>by
  rcases mz m with⟨i,t,rfl,rfl⟩|⟨x,t,rfl,rfl⟩
  .rcases mz f with⟨j,u,rfl,rfl⟩|⟨y,u,rfl,rfl⟩
   .rw[Mj]at h;exact wpAny_eqBool_int h
   .rw[G2]at h;exact SeqAt.EqAt.int_str i t y u _ _ _ _ h
  .rcases mz f with⟨j,u,rfl,rfl⟩|⟨y,u,rfl,rfl⟩
   .rw[JE]at h;exact SeqAt.EqAt.str_int x t j u _ _ _ _ h
   .rw[Ju]at h;exact wpAny_eqBool_str h
 «strs»:=λk x t v h=>by
  rcases mz h with⟨i,u,rfl,e⟩|⟨y,u,rfl,e⟩
  .exact nomatch e
  .injection e with d _
   subst d;cases v<;>rfl
def Hi(a:Pg)(w:World)(i:Int)(t:Tok):(je a w).is (.inl i) (.int i t)=true:=IL i t
def MJ(a:Pg)(w:World)(x:Str)(t:Tok):(je a w).is (.inr x) (.str x t)=true:=Hj x t
inductive V where
 |non|bl (b:Bool)|int (i:Int)|str (x:Str)|byt (b:Array UInt8)|flt (b:UInt64)|ref (a:Ad)|ty (n:String)
 deriving DecidableEq
def RelV:V->Vl->Prop
 | .non,u=>u=Value.none
 | .bl b,u=>u=Value.bool b
 | .int i,u=> ∃t,u=Value.int i t
 | .str x,u=> ∃t,u=Value.str x t
 | .byt b,u=> ∃t,u=Value.bytes b t
 | .flt b,u=> ∃t,u=Value.float b t
 | .ref a,u=>u=Value.ref a
 | .ty n,u=>u=Value.type n
abbrev Vals:List V->List Vl->Prop:=Paired RelV
def Vals.length{xs:List V}{a:Vs}(r:Vals xs a):xs.length=a.length:=nq r
theorem Vals.get: ∀{a:List V} {b:Vs} {i:Nat} {x:V},Vals a b->a[i]? =some x-> ∃u,b[i]? =some u/\RelV x u
 |_,_,_,_,.nil,e=>by simp at e
 |_,_,0,_,.cons r _,e=>by simp at e;subst e;exact⟨_,rfl,r⟩
 |_,_,i+1,x,.cons _ t,e=>by
  obtain⟨u,c,d⟩:=Vals.get (i:=i) (x:=x) t (by simpa using e);exact⟨u,by simpa using c,d⟩
theorem Vals.set{x:V}{u:Vl}(r:RelV x u): ∀{a:List V} {b:Vs} (i:Nat),Vals a b->Vals (a.set i x) (b.set i u)
 |_,_,_,.nil=> .nil
 |_,_,0,.cons _ t=> .cons r t
 |_,_,i+1,.cons q t=> .cons q (Vals.set r i t)
theorem Vals.append: ∀{a b:List V} {c d:Vs},Vals a c->Vals b d->Vals (a++b) (c++d)
 |_,_,_,_,.nil,s=>s
 |_,_,_,_,.cons r t,s=> .cons r (Vals.append t s)
theorem Vals.take: ∀{a:List V} {b:Vs} (n:Nat),Vals a b->Vals (a.take n) (b.take n)
 |_,_,0,_=> .nil
 |_,_,_+1,.nil=> .nil
 |_,_,n+1,.cons r t=> .cons r (Vals.take n t)
theorem Vals.drop: ∀{a:List V} {b:Vs} (n:Nat),Vals a b->Vals (a.drop n) (b.drop n)
 |_,_,0,r=>r
 |_,_,_+1,.nil=> .nil
 |_,_,n+1,.cons _ t=>Vals.drop n t
def RelO:Option V->Option Vl->Prop
 |some v,some u=>RelV v u
 |none,none=>True
 |_,_=>False
def KV{a:Type}:List (a×V)->List (a×Vl)->Prop:=Paired λ(p:a×V) (q:a×Vl)=>p.1=q.1/\RelV p.2 q.2
def kV:dr->V
 | .inl i=> .int i
 | .inr x=> .str x
inductive HO where
 |lst (xs:List V)
 |tup (xs:List V)
 |dK (kvs:List (dr×V))|dT (kvs:List (List dr×V))
 |set (S:Int->Bool) (n:Nat)
 |ins (C dx:Ad) (fs:List (Str×V))
 |own (x:Ad)
 |xd (fs:List (Str×V))
 |met (f x:Ad)
 |rng (lo hi:Int)
 |frz (o:Obj) (u:HO)
 |tbl (ps:AV)
 |ext (φ:Heap->Prop)
abbrev Hp:=Ad->Option HO
def cw(H:Hp)(a:Ad)(o:HO):Hp:=λb=>if b=a then some o else H b
def cC{H:Hp}{a:Ad}{o:HO}:cw H a o a=some o:=by unfold cw;rw[wB rfl]
def cF{H:Hp}{a b:Ad}{o:HO}(h:b≠a):cw H a o b=H b:=by unfold cw;rw[wA h]
def Kt{H:Hp}{a:Ad}{o u:HO}:cw (cw H a o) a u=cw H a u:=by
 funext b;unfold cw;split<;>rfl
def iE{H:Hp}{a b:Ad}{o u:HO}(h:H a=some o)(c:H b=some u)(d:o≠u):a≠b:=by
 intro e;subst e;rw[h]at c;exact d (fB c)
def DN:HO->Nat
 | .lst _=>0
 | .tup _=>1
 | .dK _=>2
 | .dT _=>3
 | .tbl _=>4
 | .ext _=>5
 | .rng _ _=>6
 | .frz _ _=>7
 |_=>8
def nE{H:Hp}{a b:Ad}{o u:HO}(h:H a=some o)(k:H b=some u)(d:(DN o==DN u)=false:=by rfl):a≠b:=iE h k λe=>by rw[e,sE]at d;cases d
def dO{H:Hp}{a b:Ad}{o:HO}(h:H a=some o)(c:H b=none):a≠b:=by
 intro e;subst e;rw[h]at c;cases c
def TupD(h:Heap)(a:Ad)(b:AV):Prop:= ∃o,h.get? a=some o/\o.cls= .type "tuple"/\ ∃n,o.data= .seq b n/\o.dict=none
def TupD.is{h:Heap}{a:Ad}{b:AV}(p:TupD h a b):IsTup h a b:=let⟨o,e,c,n,d,_⟩:=p;⟨o,e,c,n,d⟩
def TupD.new(h:Heap)(a:AV):TupD (h.push {cls:= .type "tuple",data:= .seq a}) h.objs.size a:=⟨_,eO _ rfl,rfl,_,rfl,rfl⟩
section
variable(P:Pg)(w:World)
def ObjOk(H:Hp)(h:Heap)(a:Ad):HO->Prop
 | .lst d=>d.length<=sizeLine/\ ∃(b:Vs) (n:Nat),Vals d b/\h.get? a=some {cls:= .type "list",data:= .seq b.toArray n}
 | .tup d=>d.length<=sizeLine/\ ∃b:Vs,Vals d b/\TupD h a b.toArray
 | .dK c=>c.length<=sizeLine/\(a==sysModules)=false/\ ∃j,KV c j/\h.DictOf (je P w) a j
 | .dT c=>c.length<=sizeLine/\(a==sysModules)=false/\ ∃d:List (List dr×Ad×Vl),
   Paired (λ(p:List dr×V) (q:List dr×Ad×Vl)=>p.1=q.1/\H q.2.1=some (.tup (p.1.map kV))/\RelV p.2 q.2.2) c d/\
   ∃o k r,h.get? a=some o/\o.ExactDict/\o.data= .dict k r/\k.toList=d.map (entryOfKey (tupleKind (je P w)))/\(d.map (·.1)).Nodup
 | .set S n=>h.SetOf (intKind P w) a S n
 | .ins C g fs=>H g=some (.own a)/\fs.length<=1000/\g≠a/\h.get? a=some (PySem.W.instObj C g)/\
   ∃e,h.Ns1 g e/\(∀f,RelO (fs.lookup f) (e f))/\PySem.Within e (fs.map (·.1))
 | .own _=> ∃o,h.get? a=some o
 | .xd fs=> ∃e,h.Ns1 a e/\ ∀f,RelO (fs.lookup f) (e f)
 | .rng lo s=> ∃t u v,h.get? a=some {cls:= .type "range",data:= .fields #[.int lo t,.int s u,.int 1 v]}
 | .frz o u=>h.get? a=some o/\ObjOk H h a u
 | .tbl y=>h.get? a=some {cls:= .none,data:= .fields y}
 | .met f x=>h.get? a=some (PySem.W.methodObj (.ref f) (.ref x))
 | .ext i=>i h/\(∃o,h.get? a=some o)/\ ∀l m:Heap,i l->(∀o,l.get? a=some o->m.get? a=some o)->i m
def HOk(H:Hp)(h:Heap):Prop:= ∀a o,H a=some o->ObjOk P w H h a o
end
section
variable{P:Pg}{w:World}{H H':Hp}{h h':Heap}{a:Ad}{o:HO}
def ObjOk.lt(x:ObjOk P w H h a o):a<h.objs.size:=by
 cases o with
 |lst xs=>obtain⟨_,_,_,_,e⟩:=x;exact dh e
 |tup xs=>obtain⟨_,_,_,p⟩:=x;exact p.is.lt
 |dK b=>obtain⟨_,_,_,_,o,_,_,e,_⟩:=x;exact dh e
 |dT b=>obtain⟨_,_,_,_,o,_,_,e,_⟩:=x;exact dh e
 |set S n=>obtain⟨o,_,_,_,e,_⟩:=x;exact dh e
 |ins C c fs=>obtain⟨_,_,_,e,_⟩:=x;exact dh e
 |own y=>obtain⟨_,e⟩:=x;exact dh e
 |xd fs=>obtain⟨_,⟨_,_,_,e,_⟩,_⟩:=x;exact dh e
 |rng lo d=>obtain⟨_,_,_,e⟩:=x;exact dh e
 |frz g u=>obtain⟨e,_⟩:=x;exact dh e
 |tbl i=>exact dh (show h.get? a=some _ from x)
 |met f y=>exact dh (show h.get? a=some _ from x)
 |ext j=>obtain⟨_,⟨_,e⟩,_⟩:=x;exact dh e
theorem Paired.mapP{e g:Type}{F G:e->g->Prop}: ∀{c:List e} {d:List g},Paired F c d->(∀a b,F a b->G a b)->Paired G c d
 |_,_,.nil,_=> .nil
 |_,_,.cons r t,f=> .cons (f _ _ r) (Paired.mapP t f)
def ObjOk.stay(x:ObjOk P w H h a o)(k: ∀b u,(b=a∨H b=some (.own a))->h.get? b=some u->h'.get? b=some u)
  (E: ∀b,H b=some (.own a)->H' b=some (.own a)) (ht: ∀b m,H b=some (.tup m)->H' b=some (.tup m)):ObjOk P w H' h' a o:=by
 induction o with
 |lst m=>obtain⟨z,l,n,r,e⟩:=x;exact⟨z,l,n,r,k _ _ (.inl rfl) e⟩
 |tup m=>obtain⟨z,l,r,g,e,c⟩:=x;exact⟨z,l,r,g,k _ _ (.inl rfl) e,c⟩
 |dK s=>obtain⟨z,y,G,r,g,i,j,e,c⟩:=x;exact⟨z,y,G,r,g,i,j,k _ _ (.inl rfl) e,c⟩
 |dT s=>
  obtain⟨z,y,m,r,g,i,j,e,c⟩:=x;exact⟨z,y,m,Paired.mapP r λp q z=>⟨z.1,ht _ _ z.2.1,z.2.2⟩,g,i,j,k _ _ (.inl rfl) e,c⟩
 |set S n=>obtain⟨g,i,j,t,e,c⟩:=x;exact⟨g,i,j,t,k _ _ (.inl rfl) e,c⟩
 |ins C M fs=>
  obtain⟨d,z,I,e,A,⟨B,i,j,J,c⟩,r⟩:=x;exact⟨E _ d,z,I,k _ _ (.inl rfl) e,A,⟨B,i,j,k _ _ (.inr d) J,c⟩,r⟩
 |own y=>obtain⟨g,e⟩:=x;exact⟨g,k _ _ (.inl rfl) e⟩
 |xd fs=>obtain⟨A,⟨B,i,j,e,c⟩,r⟩:=x;exact⟨A,⟨B,i,j,k _ _ (.inl rfl) e,c⟩,r⟩
 |rng lo N=>obtain⟨t,u,v,e⟩:=x;exact⟨t,u,v,k _ _ (.inl rfl) e⟩
 |frz g u L=>obtain⟨e,q⟩:=x;exact⟨k _ _ (.inl rfl) e,L q⟩
 |tbl D=>
  have e:h.get? a=some {cls:= .none,data:= .fields D}:=x;show h'.get? a=some {cls:= .none,data:= .fields D};exact k a _ (.inl rfl) e
 |met f y=>
  have e:h.get? a=some (PySem.W.methodObj (.ref f) (.ref y)):=x;show h'.get? a=some (PySem.W.methodObj (.ref f) (.ref y));exact k a _ (.inl rfl) e
 |ext O=>obtain⟨p,⟨o,e⟩,st⟩:=x;exact⟨st _ _ p λo q=>k _ _ (.inl rfl) q,⟨o,k _ _ (.inl rfl) e⟩,st⟩
def HOk.lt(x:HOk P w H h)(e:H a=some o):a<h.objs.size:=(x a o e).lt
def HOk.fresh(x:HOk P w H h)(e:h.objs.size<=a):H a=none:=by
 cases q:H a with
 |none=>rfl
 |some u=>exact wC (ft (x.lt q) e) (jb _)
def HOk.kept(x:HOk P w H h)(k: ∀b u,h.get? b=some u->h'.get? b=some u):HOk P w H h':=λa o e=>
 (x a o e).stay (λb u _ q=>k b u q) (λ_ q=>q) λ_ _ q=>q
def HOk.laid(x:HOk P w H h)(k: ∀b u,h.get? b=some u->h'.get? b=some u)(g:h.objs.size<=a)(new:ObjOk P w (cw H a o) h' a o):HOk P w (cw H a o) h':=λb u e=>by
 have d:=x.fresh g;by_cases f:b=a
 .subst f;rw[cC]at e;cases e;exact new
 .rw[cF f]at e;exact(x b u e).stay (λc v _ q=>k c v q) (λc q=>by rw[cF (dO q d)];exact q) λc i q=>by rw[cF (dO q d)];exact q
end
def Rd(H:Hp)(a:Ad)(u:HO):Prop:=H a=some u∨ ∃o,H a=some (.frz o u)
def Rd.ok{P:Pg}{w:World}{H:Hp}{h:Heap}{a:Ad}{u:HO}(r:Rd H a u)(x:HOk P w H h):ObjOk P w H h a u:=by
 rcases r with r|⟨o,r⟩
 .exact x a u r
 .obtain⟨_,q⟩:=x a _ r;exact q
def uO:Option HO->Prop
 |some (.lst _)=>True
 |some (.dK _)=>True
 |some (.dT _)=>True
 |some (.set _ _)=>True
 |some (.ins _ _ _)=>True
 |some (.ext _)=>True
 |_=>False
section
variable{P:Pg}{w:World}{H:Hp}{h h':Heap}{x e:Ad}{o':HO}
def HOk.write(ok:HOk P w H h)(g:uO (H x))(m:e=x∨H e=some (.own x))(k: ∀b u,b≠e->h.get? b=some u->h'.get? b=some u)(l: ∃u,h'.get? e=some u)
  (new:ObjOk P w (cw H x o') h' x o'):HOk P w (cw H x o') h':=λb u q=>by
 have d: ∀c y,H c=some (.own y)->c≠x:=λc y r z=>by subst z;rw[r]at g;exact g
 have f: ∀c i,H c=some (.tup i)->c≠x:=λc i r z=>by subst z;rw[r]at g;exact g
 by_cases j:b=x
 .subst j;rw[cC]at q;cases q;exact new
 .rw[cF j]at q;by_cases a:b=e
  .have n:H b=some (.own x):=by
    rcases m with z|z
    .exact wC (a.trans z) j
    .rw[a];exact z
   rw[q]at n;cases n;obtain⟨v,o⟩:=l;exact⟨v,by rw[a];exact o⟩
  .refine(ok b u q).stay (λc v hc r=>k c v ?_ r) (λc r=>by rw[cF (d c b r)];exact r) λc i r=>by rw[cF (f c i r)];exact r
   rcases hc with rfl|hc
   .exact a
   .rintro rfl
    rcases m with z|z
    .exact d c b hc z
    .rw[hc]at z;cases z;exact j rfl
end
structure Un(fs ex:As)(H H':Hp)(h h':Heap):Prop where
 keep: ∀b o,h.get? b=some o->H b=none->b∉fs->b∉ex->h'.get? b=some o
 slot: ∀b o,h.get? b=some o->H b=none->b∈fs->b∉ex-> ∃sl,h'.get? b=some {o with slots:=sl}
 free: ∀b o,h.get? b=some o->H b=none->b∉ex->H' b=none
 there: ∀b o,h.get? b=some o->b∉ex-> ∃o',h'.get? b=some o'
 tups: ∀b xs,H b=some (.tup xs)->H' b=some (.tup xs)
 frzs: ∀b o u,H b=some (.frz o u)->H' b=some (.frz o u)
 tbls: ∀b ps,H b=some (.tbl ps)-> ∃more,H' b=some (.tbl (ps++more))
section
variable{fs fs' ex ex':As}{H H1 H2:Hp}{h h1 h2 h':Heap}{a x e:Ad}{o:HO}
def Un.any(u:Un fs ex H H1 h h1){b:Ad}{ob:Obj}(q:h.get? b=some ob)(n:H b=none)(c:b∉ex): ∃sl,h1.get? b=some {ob with slots:=sl}:=by
 by_cases d:b∈fs
 .exact u.slot b ob q n d c
 .exact⟨ob.slots,u.keep b ob q n d c⟩
def Un.kept(k: ∀b u,h.get? b=some u->h'.get? b=some u):Un fs ex H H h h':=
 ⟨λb c q _ _ _=>k b c q,λb c q _ _ _=>⟨c.slots,k b c q⟩,λ_ _ _ n _=>n,λb c q _=>⟨c,k b c q⟩,λ_ _ q=>q,λ_ _ _ q=>q,λ_ d q=>⟨#[],by rw[q];simp⟩⟩
def Un.refl:Un fs ex H H h h:=Un.kept λ_ _ q=>q
def Un.laid(k: ∀b u,h.get? b=some u->h'.get? b=some u)(d:h.objs.size<=a)(c:H a=none):Un fs ex H (cw H a o) h h' where
 keep:=λb u q _ _ _=>k b u q
 slot:=λb u q _ _ _=>⟨u.slots,k b u q⟩
 free:=λb u q n _=>by rw[cF (dS (ft (dh q) d))];exact n
 there:=λb u q _=>⟨u,k b u q⟩
 tups:=λb f q=>by rw[cF (dO q c)];exact q
 frzs:=λb u f q=>by rw[cF (dO q c)];exact q
 tbls:=λb g q=>⟨#[],by rw[cF (dO q c),q];simp⟩
def Un.write(d:uO (H x))(l:e=x∨H e=some (.own x))(k: ∀b u,b≠e->h.get? b=some u->h'.get? b=some u)(f: ∃u,h'.get? e=some u):Un fs ex H (cw H x o) h h':=by
 have i: ∀b,H b=none->b≠x:=λb n z=>by subst z;rw[n]at d;exact d
 have j: ∀b,H b=none->b≠e:=λb n z=>by
  subst z
  rcases l with r|r
  .exact i b n r
  .rw[n]at r;cases r
 have g: ∀b u,H b=some u-> ¬uO (some u)->b≠x:=λb u q m z=>by subst z;rw[q]at d;exact m d
 refine⟨λb u q n _ _=>k b u (j b n) q,λb u q n _ _=>⟨u.slots,k b u (j b n) q⟩,λb u q n _=>by rw[cF (i b n)];exact n,λb u q _=>?_,
  λb p q=>by rw[cF (g b _ q λz=>z)];exact q,λb u p q=>by rw[cF (g b _ q λz=>z)];exact q,λb s q=>⟨#[],by rw[cF (g b _ q λz=>z),q];simp⟩⟩
 by_cases c:b=e
 .subst c;exact f
 .exact⟨u,k b u c q⟩
end
def vD(h:Heap)(H:Hp):As:=(List.range h.objs.size).filter λa=>(H a).isSome
def mC(h:Heap)(H:Hp):Heap:=PySem.W.hideAll h (vD h H)
def ID(h:Heap)(H:Hp):(mC h H).objs.size=h.objs.size:=PySem.W.hideAll_size _ _
def AI{h:Heap}{H:Hp}{b:Ad}{o:Obj}(e:h.get? b=some o)(n:H b=none):(mC h H).get? b=some o:=
 PySem.W.hideAll_get _ e λa=>by
  have q:(H b).isSome=true:=(dJ.mp a).2;rw[n]at q;simp at q
def Gn{h:Heap}{H:Hp}{b:Ad}{o:Obj}(e:(mC h H).get? b=some o):h.get? b=some o/\H b=none:=by
 have a:h.get? b=some o:=PySem.W.of_hideAll (vD h H) e;refine⟨a,?_⟩;cases q:H b with
 |none=>rfl
 |some x=>
  have c:b∈vD h H:=dJ.mpr ⟨fq.mpr (dh a),by simp[q]⟩;have z:(mC h H).get? b=none:=PySem.W.hideAll_none (vD h H) c;rw[z]at e;cases e
def JO(g h:Heap)(L:Ad):AO:=(List.range h.objs.size).filterMap λa=>if a=L∨(g.get? a).isSome=true then none else(h.get? a).map λo=>(a,o)
def rest(g h:Heap)(L d:Ad):AO:=(JO g h L).filter λp=>decide (p.1≠d)
structure Mod(K:W.Frag)(mg:SV)(base:Heap):Prop where
 kin:K.In base
 glob:base.Ns mainGlobals mg
 blt: ∃mb,base.Ns builtinsNs mb/\ ∀x:Str,x≠"__name__"->mb x=bootBuiltins x
 nolimit:base.NoLimit
structure Cx where
 prog:Pg
 w:World
 K:W.Frag
 mg:SV
 base:Heap
 A:Ar
 N:Ss
 s₀:Sh
 H₀:Hp
 env:Env
 outer:List Env
 stack:List Env
 ex:As
 fn:Str->Bool
 calm:Bool
 pn:AO
 xe:VP
def iF(l:List Env):As:=l.filterMap (·.frame)
abbrev Cx.fs(X:Cx):As:=iF X.outer
def xi(a:Scope)(x:Str):Prop:=a.names.lookup x=some .local∨a.names.lookup x=some .cell∨a.names.lookup x=some .free
def sO(a:Scope)(x:Str):Prop:=a.names.lookup x=some .local∨a.names.lookup x=some .cell
def yp(a:Env)(h:Heap)(m:SV)(x:Str)(u:Vl):Prop:=
 (a.kindOf x=some .local/\m x=some u)∨((a.kindOf x=some .cell∨a.kindOf x=some .free)/\ ∃c,a.cells.lookup x=some c/\h.IsCell c (some u))
structure Cx.Ok(X:Cx):Prop where
 mod:Mod X.K X.mg X.base
 kind:X.env.scope.kind= .function
 glob:X.env.globals=mainGlobals
 blt:X.env.builtins=builtinsNs
 above:X.s₀.heap.objs.size<=X.env.locals
 inj: ∀x y c,X.env.cells.lookup x=some c->X.env.cells.lookup y=some c->x=y
 has: ∀x,(X.env.kindOf x=some .cell∨X.env.kindOf x=some .free)-> ∃c,X.env.cells.lookup x=some c
 cab: ∀x c,X.fn x=true->X.env.cells.lookup x=some c->X.s₀.heap.objs.size<=c
 hd:X.calm=true->X.A.handled=none
 frames:X.A.frames=some X.stack
 stk:X.stack=X.outer∨(X.stack=X.env::X.outer/\X.env.frame=some X.env.locals)
 exf: ∀b∈X.ex,b≠X.env.locals/\ ∀x c,X.env.cells.lookup x=some c->c≠b
 bs: ∀b o,X.base.get? b=some o->X.s₀.heap.get? b=some o/\X.H₀ b=none
 bsz:X.base.objs.size<=X.s₀.heap.objs.size
 noex: ∀b o,X.base.get? b=some o->b∉X.ex
 exfs: ∀b∈X.ex,b∉X.fs
 funs:X.s₀.heap.FunFrames X.base X.outer
 frf: ∀b∈X.fs,X.H₀ b=none
structure Inv(X:Cx)(za:AO)(σ:List (Option V))(H:Hp)(s:Sh):Prop where
 ok:X.Ok
 os:s.os=X.s₀.os
 bare:AllBare s.gens
 base:Un X.fs X.ex X.H₀ H X.s₀.heap s.heap
 loc: ∃m,s.heap.Ns X.env.locals m/\ ∀(i:Nat) (x:Str) (v:V),X.N[i]? =some x->σ[i]? =some (some v)->xi X.env.scope x-> ∃u,RelV v u/\yp X.env s.heap m x u
 cell: ∀x c,X.env.cells.lookup x=some c-> ∃v,s.heap.IsCell c v
 free:H X.env.locals=none
 freeC: ∀x c,X.env.cells.lookup x=some c->H c=none
 pin: ∀p∈X.pn++za,s.heap.get? p.1=some p.2/\H p.1=none/\p.1≠X.env.locals/\p.1∉X.fs/\ ∀v,p.2.data≠ .cell v
 hok:HOk X.prog X.w H s.heap
 len:σ.length=X.N.length
section
variable{X:Cx}{za:AO}{σ:List (Option V)}{H H':Hp}{s:Sh}{h':Heap}
def Cx.Ok.nofr(ok:X.Ok){b:Ad}{o:Obj}(e:X.base.get? b=some o):b∉X.fs:=λa=>by
 have:=(ok.funs.mem a).1;rw[e]at this;cases this
def Inv.bs(I:Inv X za σ H s): ∀b o,X.base.get? b=some o->s.heap.get? b=some o/\H b=none:=λb o e=>
 ⟨I.base.keep b o (I.ok.bs b o e).1 (I.ok.bs b o e).2 (I.ok.nofr e) (I.ok.noex b o e),I.base.free b o (I.ok.bs b o e).1 (I.ok.bs b o e).2 (I.ok.noex b o e)⟩
def Inv.bk(I:Inv X za σ H s): ∀b o,X.base.get? b=some o->s.heap.get? b=some o:=λb o e=>(I.bs b o e).1
def Inv.mod(I:Inv X za σ H s):Mod X.K X.mg X.base:=I.ok.mod
def Inv.kIn(I:Inv X za σ H s):X.K.In s.heap:=I.ok.mod.kin.keeps I.bk
def Inv.lt(I:Inv X za σ H s):X.env.locals<s.heap.objs.size:=let⟨_,a,_⟩:=I.loc;a.lt
def Inv.sz(I:Inv X za σ H s):X.s₀.heap.objs.size<=s.heap.objs.size:=dE I.ok.above (fR I.lt)
def Inv.nofs(I:Inv X za σ H s){a:Ad}(h:s.heap.objs.size<=a):a∉X.fs:=λb=>by
 obtain⟨_,o,c,_⟩:=I.ok.funs.mem b;exact wC (ft (dh c) (dE I.sz h)) (jb _)
def Inv.cne(I:Inv X za σ H s): ∀x c,X.env.cells.lookup x=some c->c≠X.env.locals:=λx c e z=>by
 obtain⟨v,o,d,f⟩:=I.cell x c e;obtain⟨m,⟨g,h,i,a,b,_⟩,_⟩:=I.loc;rw[z,a]at d;cases d;rw[b]at f;cases f
def Inv.funs(I:Inv X za σ H s):s.heap.FunFrames X.base X.outer:=by
 have all: ∀(l:List Env),(∀b∈iF l,b∈X.fs)->X.s₀.heap.FunFrames X.base l->s.heap.FunFrames X.base l:=by
  intro l
  induction l with
  |nil=>intro _ _;trivial
  |cons g r h=>
   intro f i;obtain⟨j,⟨L,o,a,k,m,n⟩,p⟩:=i;have c:L∈X.fs:=f L (by unfold iF;rw[List.filterMap_cons,a];exact List.mem_cons_self);obtain⟨sl,e⟩:=I.base.slot L o m (I.ok.frf L c) c λz=>I.ok.exfs L z c
   exact⟨j,⟨L,_,a,k,e,n⟩,h (λb d=>f b (by unfold iF;rw[List.filterMap_cons,a];exact List.mem_cons_of_mem _ d)) p⟩
 exact all X.outer (λ_ d=>d) I.ok.funs
def Inv.stack(I:Inv X za σ H s):s.heap.FunFrames X.base X.stack:=by
 rcases I.ok.stk with e|⟨e,a⟩
 .rw[e];exact I.funs
 .rw[e];obtain⟨m,b,_⟩:=I.loc;refine .cons (by rw[I.ok.kind];decide) a b ?_ I.funs;exact Heap.get?_none_of_le (dE I.ok.bsz I.ok.above)
def Inv.stkSub(I:Inv X za σ H s): ∀b∈iF X.stack,b∈X.env.locals::X.fs:=λb a=>by
 rcases I.ok.stk with e|⟨e,c⟩
 .rw[e]at a;exact fc _ a
 .rw[e]at a;unfold iF at a;rw[List.filterMap_cons,c]at a;exact a
def Inv.stkFree(I:Inv X za σ H s): ∀b∈iF X.stack,H b=none:=λb hb=>by
 rcases dQ.mp (I.stkSub b hb)with e|hb
 .rw[e];exact I.free
 .obtain⟨_,o,a,_⟩:=I.ok.funs.mem hb;exact I.base.free b o a (I.ok.frf b hb) λz=>I.ok.exfs b z hb
def Inv.step{g':Array GenState}{t':Nat}{d':Drawn}{ch:As}(I:Inv X za σ H s)
  (f: ∀b∈ch,(b∈X.ex∨X.s₀.heap.objs.size<=b)/\b≠X.env.locals/\(∀x c,X.env.cells.lookup x=some c->c≠b)/\ ∀p∈X.pn++za,p.1≠b)
  (keep: ∀b o,b≠X.env.locals->b∉X.fs->b∉ch->s.heap.get? b=some o->H b=none->h'.get? b=some o)
  (w: ∀b o,b≠X.env.locals->b∈X.fs->b∉ch->s.heap.get? b=some o->H b=none-> ∃sl,h'.get? b=some {o with slots:=sl}) (free: ∀b o,b∉ch->s.heap.get? b=some o->H b=none->H' b=none)
  (A: ∀b o,b∉ch->s.heap.get? b=some o-> ∃D,h'.get? b=some D)
  (tups: ∀b y,H b=some (.tup y)->H' b=some (.tup y)) (E: ∀b o u,H b=some (.frz o u)->H' b=some (.frz o u)) (G: ∀b M,H b=some (.tbl M)-> ∃more,H' b=some (.tbl (M++more)))
  (ns: ∀m,s.heap.Ns X.env.locals m->h'.Ns X.env.locals m) (N:HOk X.prog X.w H' h') (hg:AllBare g'):
  Inv X za σ H' {s with heap:=h',gens:=g',drawn:=d',toks:=t'}:=by
 have J: ∀b o,X.s₀.heap.get? b=some o->b≠X.env.locals:=λb o e=>dS (ft (dh e) I.ok.above);have j: ∀b o,X.s₀.heap.get? b=some o->b∉X.ex->b∉ch:=λb o e a B=>by
  rcases (f b B).1 with z|z
  .exact a z
  .exact wC (ft (dh e) z) (jb _)
 have g: ∀x c,X.env.cells.lookup x=some c-> ∀v,s.heap.IsCell c v->h'.IsCell c v:=λx c e v ⟨o,C,O⟩=>by
  have h:c∉ch:=λz=>(f c z).2.2.1 x c e rfl;by_cases T:c∈X.fs
  .obtain⟨sl,q⟩:=w c o (I.cne x c e) T h C (I.freeC x c e);exact⟨_,q,O⟩
  .exact⟨o,keep c o (I.cne x c e) T h C (I.freeC x c e),O⟩
 refine⟨I.ok,I.os,hg,⟨λb o e n B a=>?_,λb o e n B a=>?_,λb o e n a=>?_,λb o e a=>?_,λb y e=>tups b y (I.base.tups b y e),λb o y e=>E b o y (I.base.frzs b o y e),λb M e=>?_⟩,?_,λx c e=>?_,?_,λx c e=>?_,λp U=>?_,N,I.len⟩
 .exact keep b o (J b o e) B (j b o e a) (I.base.keep b o e n B a) (I.base.free b o e n a)
 .obtain⟨sl,t⟩:=I.base.slot b o e n B a;obtain⟨Q,L⟩:=w b _ (J b o e) B (j b o e a) t (I.base.free b o e n a);exact⟨Q,L⟩
 .obtain⟨D,t⟩:=I.base.there b o e a;exact free b D (j b o e a) t (I.base.free b o e n a)
 .obtain⟨D,t⟩:=I.base.there b o e a;exact A b D (j b o e a) t
 .obtain⟨m1,t⟩:=I.base.tbls b M e;obtain⟨m2,L⟩:=G b _ t;exact⟨m1++m2,by rw[L,Array.append_assoc]⟩
 .obtain⟨m,hn,hl⟩:=I.loc;refine⟨m,ns m hn,λi x v t L e3=>?_⟩;obtain⟨u,r,l⟩:=hl i x v t L e3;refine⟨u,r,?_⟩
  rcases l with l|⟨k,c,e,z⟩
  .exact .inl l
  .exact .inr ⟨k,c,e,g x c e _ z⟩
 .obtain⟨v,z⟩:=I.cell x c e;exact⟨v,g x c e v z⟩
 .obtain⟨m,⟨o,_,_,C,_⟩,_⟩:=I.loc;exact free _ o (λz=>(f _ z).2.1 rfl) C I.free
 .obtain⟨v,o,C,O⟩:=I.cell x c e;exact free c o (λz=>(f c z).2.2.1 x c e rfl) C (I.freeC x c e)
 .obtain⟨e,n,Y,nf,d⟩:=I.pin p U;have h:p.1∉ch:=λz=>(f p.1 z).2.2.2 p U rfl;exact⟨keep p.1 p.2 Y nf h e n,free p.1 p.2 h e n,Y,nf,d⟩
def Inv.un{t':Nat}(I:Inv X za σ H s)(u:Un X.fs [] H H' s.heap h')(c:HOk X.prog X.w H' h'):Inv X za σ H' {s with heap:=h',toks:=t'}:=by
 obtain⟨m,⟨o,l,p,h,r⟩,_⟩:=id I.loc;obtain⟨sl,i⟩:=u.any h I.free (by simp);exact I.step (g':=s.gens) (d':=s.drawn) (ch:=[]) (λ_ z=>nomatch z) (λb o _ d _ e n=>u.keep b o e n d (by simp)) (λb o _ d _ e n=>u.slot b o e n d (by simp)) (λb o _ e n=>u.free b o e n (by simp)) (λb o _ e=>u.there b o e (by simp)) u.tups u.frzs u.tbls (λq j=>by
  obtain⟨t,f,g,a,k⟩:=j;rw[h]at a;cases a;exact⟨_,f,g,i,k⟩) c I.bare
def Inv.call{g':Array GenState}{t':Nat}{d':Drawn}{ch:As}(I:Inv X za σ H s)(u:Un (iF X.stack) ch H H' s.heap h')(g:HOk X.prog X.w H' h')(l:AllBare g')
  (d: ∀b∈ch,(b∈X.ex∨X.s₀.heap.objs.size<=b)/\b≠X.env.locals/\(∀x c,X.env.cells.lookup x=some c->c≠b)/\ ∀p∈X.pn++za,p.1≠b):
  Inv X za σ H' {s with heap:=h',gens:=g',drawn:=d',toks:=t'}:=by
 obtain⟨m,⟨o,w,y,k,r⟩,_⟩:=id I.loc;obtain⟨sl,h⟩:=u.any k I.free λz=>(d _ z).2.1 rfl;exact I.step (ch:=ch) d (λb o h q a e n=>u.keep b o e n (λz=>(dQ.mp (I.stkSub b z)).elim h q) a) (λb o _ _ a e n=>u.any e n a) (λb o a e n=>u.free b o e n a) (λb o a e=>u.there b o e a) u.tups u.frzs u.tbls (λA t=>by
  obtain⟨B,i,j,f,v⟩:=t;rw[k]at f;cases f;exact⟨_,i,j,h,v⟩) g l
def Inv.turned{t':Nat}{it:Ad}(I:Inv X za σ H s)(k: ∀b o,b≠it->s.heap.get? b=some o->h'.get? b=some o)(g:H it=none)(f:it≠X.env.locals)
  (h:it∈X.ex∨X.s₀.heap.objs.size<=it) (i: ∀x c,X.env.cells.lookup x=some c->c≠it) (j: ∀p∈X.pn++za,p.1≠it):Inv X za σ H {s with heap:=h',toks:=t'}:=by
 have d: ∀b u,H b=some u->b≠it:=λb u e z=>by rw[z,g]at e;cases e
 refine I.step (g':=s.gens) (d':=s.drawn) (ch:=[it]) (λb l=>?_) (λb o _ _ a e _=>k b o (λz=>a (by simp[z])) e) (λb o _ _ a e _=>⟨o.slots,k b o (λz=>a (by simp[z])) e⟩) (λ_ _ _ _ n=>n)
  (λb o a e=>⟨o,k b o (λz=>a (by simp[z])) e⟩) (λ_ _ e=>e) (λ_ _ _ e=>e) (λb B e=>⟨#[],by rw[e];simp⟩) (λm t=>?_) (λb u e=>?_) I.bare
 .have e:b=it:=by simpa using l
  subst e;exact⟨h,f,i,j⟩
 .obtain⟨o,w,y,A,r⟩:=t;exact⟨o,w,y,k _ o (eJ f) A,r⟩
 .refine(I.hok b u e).stay (λc v a q=>k c v ?_ q) (λ_ q=>q) λ_ _ q=>q
  rcases a with z|z
  .rw[z];exact d b u e
  .exact d c _ z
def Inv.tok(I:Inv X za σ H s)(t:Nat):Inv X za σ H {s with toks:=t}:=I.un (h':=s.heap) (t':=t) Un.refl I.hok
def Inv.kept{t':Nat}(I:Inv X za σ H s)(k: ∀b u,s.heap.get? b=some u->h'.get? b=some u):Inv X za σ H {s with heap:=h',toks:=t'}:=I.un (Un.kept k) (I.hok.kept k)
def Inv.laid{a:Ad}{o:HO}{t':Nat}(I:Inv X za σ H s)(k: ∀b u,s.heap.get? b=some u->h'.get? b=some u)(c:s.heap.objs.size<=a)(new:ObjOk X.prog X.w (cw H a o) h' a o):
  Inv X za σ (cw H a o) {s with heap:=h',toks:=t'}:=I.un (Un.laid k c (I.hok.fresh c)) (I.hok.laid k c new)
def Inv.write{x e:Ad}{o:HO}{t':Nat}(I:Inv X za σ H s)(c:uO (H x))(d:e=x∨H e=some (.own x))(k: ∀b u,b≠e->s.heap.get? b=some u->h'.get? b=some u)(a: ∃u,h'.get? e=some u)
  (new:ObjOk X.prog X.w (cw H x o) h' x o):Inv X za σ (cw H x o) {s with heap:=h',toks:=t'}:=I.un (Un.write c d k a) (I.hok.write c d k a new)
def Inv.weak{a:List (Option V)}(I:Inv X za σ H s)(c:a.length=σ.length)(w: ∀(i:Nat) v,a[i]? =some (some v)->σ[i]? =some (some v)):Inv X za a H s:=
 ⟨I.ok,I.os,I.bare,I.base,let⟨m,d,b⟩:=I.loc;⟨m,d,λi x v e f g=>b i x v e (w i v f) g⟩,I.cell,I.free,I.freeC,I.pin,I.hok,c.trans I.len⟩
def Inv.pins_of{a:AO}(I:Inv X za σ H s)(h: ∀p∈a,s.heap.get? p.1=some p.2/\H p.1=none/\p.1≠X.env.locals/\p.1∉X.fs/\ ∀v,p.2.data≠ .cell v):Inv X a σ H s:=
 ⟨I.ok,I.os,I.bare,I.base,I.loc,I.cell,I.free,I.freeC,λp b=>(dw.mp b).elim (λz=>I.pin p (jA _ z)) (h p),I.hok,I.len⟩
def C0{N:Ss}(c:N.Nodup){i j:Nat}{x:Str}(a:N[i]? =some x)(b:N[j]? =some x):i=j:=by
 obtain⟨f,d⟩:=cK.mp a;obtain⟨g,e⟩:=cK.mp b;exact(List.getElem_inj c).mp (d.trans e.symm)
def A7{M:Model}{A:Ar}{E:VP}{i:Nat}{x:Str}{v:V}{u:Vl}{Q:Unit->Sh->Prop}(I:Inv X za σ H s)(hN:X.N.Nodup)(L:X.N[i]? =some x)(t:sO X.env.scope x)(r:RelV v u)
  (h: ∀s',Inv X za (σ.set i (some v)) H s'->(∃a,Heap.SameBut a s.heap s'.heap/\(a=X.env.locals∨X.env.cells.lookup x=some a))->Q () s') (hf:X.fn x=true∨X.env.scope.names.lookup x=some .local:=by first|exact .inl rfl|exact .inr rfl|assumption):wpAny M A (storeName X.env x u) Q E s:=by
 obtain⟨m,hn,hl⟩:=id I.loc;have N:(X.env.scope.kind== .class || (X.env.scope.kind== .module&&X.env.locals != X.env.globals))=false:=by rw[I.ok.kind];rfl
 have C:i<σ.length:=by rw[I.len];exact(cK.mp L).1
 have cne:=I.cne;have g: ∀{a:Ad} {h':Heap},(∃o,s.heap.get? a=some o/\H a=none)->Heap.SameBut a s.heap h'->HOk X.prog X.w H h':=λ{a h'} ha f b ob e=>by
  obtain⟨_,_,w⟩:=ha;refine(I.hok b ob e).stay (λc w' hc q=>(f.2 c ?_).trans q) (λ_ q=>q) λ_ _ q=>q;rintro rfl
  rcases hc with rfl|hc
  .rw[w]at e;cases e
  .rw[w]at hc;cases hc
 rcases t with hk|hk
 .refine wpAny_storeName_local hk hn (λh' aa f=>?_) N;obtain⟨oL,_,_,ab,_⟩:=id hn;refine h _ ⟨I.ok,I.os,I.bare,⟨λb o e n D t=>?_,λb o e n D t=>?_,I.base.free,λb o e t=>?_,I.base.tups,I.base.frzs,I.base.tbls⟩,⟨_,aa,λj y v' l B e3=>?_⟩,λy c e=>?_,I.free,I.freeC,λp hp=>?_,g ⟨oL,ab,I.free⟩ f,by simpa using I.len⟩ ⟨_,f,.inl rfl⟩
  .exact(f.2 b (dS (ft (dh e) I.ok.above))).trans (I.base.keep b o e n D t)
  .obtain⟨sl,l⟩:=I.base.slot b o e n D t;exact⟨sl,(f.2 b (dS (ft (dh e) I.ok.above))).trans l⟩
  .obtain⟨o',l⟩:=I.base.there b o e t;exact⟨o',(f.2 b (dS (ft (dh e) I.ok.above))).trans l⟩
  .by_cases G:j=i
   .subst G;rw[L]at l;cases l;rw[List.getElem?_set_self C]at B;cases B;exact⟨u,r,.inl ⟨hk,by simp⟩⟩
   .rw[List.getElem?_set_ne (eJ G)]at B;obtain⟨u',r',q⟩:=hl j y v' l B e3;refine⟨u',r',?_⟩
    rcases q with⟨k,e⟩|⟨k,c,e,z⟩
    .refine .inl ⟨k,?_⟩;have:y≠x:=λe=>G (C0 hN l (e▸L));simp[this,e]
    .exact .inr ⟨k,c,e,z.sameBut f (cne y c e)⟩
  .obtain⟨w',z⟩:=I.cell y c e;exact⟨w',z.sameBut f (cne y c e)⟩
  .obtain⟨e,n,ne,nf,d⟩:=I.pin p hp;exact⟨(f.2 p.1 ne).trans e,n,ne,nf,d⟩
 .have J:X.fn x=true:=by
   rcases hf with z|z
   .exact z
   .rw[z]at hk;cases hk
  obtain⟨c,hc⟩:=I.ok.has x (.inl hk);obtain⟨w',z⟩:=I.cell x c hc;refine wpAny_storeName_cell I.ok.kind hk hc z (λh' O f=>?_);obtain⟨oc,T,U⟩:=id z;refine h {s with heap:=h'} ⟨I.ok,I.os,I.bare,⟨λb o e n D t=>?_,λb o e n D t=>?_,I.base.free,λb o e t=>?_,I.base.tups,I.base.frzs,I.base.tbls⟩,⟨m,hn.sameBut f (eJ (cne x c hc)),λj y v' l B e3=>?_⟩,λy c' e=>?_,I.free,I.freeC,λp hp=>?_,g ⟨oc,T,I.freeC x c hc⟩ f,by simpa using I.len⟩ ⟨c,f,.inr hc⟩
  .exact(f.2 b (dS (ft (dh e) (I.ok.cab x c J hc)))).trans (I.base.keep b o e n D t)
  .obtain⟨sl,l⟩:=I.base.slot b o e n D t;exact⟨sl,(f.2 b (dS (ft (dh e) (I.ok.cab x c J hc)))).trans l⟩
  .obtain⟨o',l⟩:=I.base.there b o e t;exact⟨o',(f.2 b (dS (ft (dh e) (I.ok.cab x c J hc)))).trans l⟩
  .by_cases G:j=i
   .subst G;rw[L]at l;cases l;rw[List.getElem?_set_self C]at B;cases B;exact⟨u,r,.inr ⟨.inl hk,c,hc,O⟩⟩
   .rw[List.getElem?_set_ne (eJ G)]at B;obtain⟨u',r',q⟩:=hl j y v' l B e3;refine⟨u',r',?_⟩
    rcases q with q|⟨k,c',e,z'⟩
    .exact .inl q
    .refine .inr ⟨k,c',e,z'.sameBut f ?_⟩;rintro rfl;exact G (C0 hN l (I.ok.inj _ _ _ e hc▸L))
  .by_cases Y:c'=c
   .subst Y;exact⟨_,O⟩
   .obtain⟨w2,z2⟩:=I.cell y c' e;exact⟨w2,z2.sameBut f Y⟩
  .obtain⟨e,n,ne,nf,d⟩:=I.pin p hp;refine⟨(f.2 p.1 ?_).trans e,n,ne,nf,d⟩;intro q;rw[q,T]at e;have q':oc=p.2:=fB e;exact d w' (by rw[<-q'];exact U)
def Bi{M:Model}{A:Ar}{E:VP}{i:Nat}{x:Str}{v:V}{u:Vl}{Q:Unit->Sh->Prop}(I:Inv X za σ H s)(b:X.N.Nodup)(c:X.N[i]? =some x)(d:sO X.env.scope x)(r:RelV v u)
  (h: ∀a,Inv X za (σ.set i (some v)) H a->Q () a) (e:X.fn x=true∨X.env.scope.names.lookup x=some .local:=by first|exact .inl rfl|exact .inr rfl|assumption):wpAny M A (storeName X.env x u) Q E s:=
 A7 I b c d r (λa f _=>h a f) e
def Inv.call'{a:Sh}{ch:As}(I:Inv X za σ H s)(g:a.os=s.os)(u:Un (iF X.stack) ch H H' s.heap a.heap)(d:HOk X.prog X.w H' a.heap)(h:AllBare a.gens)
  (f: ∀b∈ch,(b∈X.ex∨X.s₀.heap.objs.size<=b)/\b≠X.env.locals/\(∀x c,X.env.cells.lookup x=some c->c≠b)/\ ∀p∈X.pn++za,p.1≠b):Inv X za σ H' a:=by
 obtain⟨h',g',d',t',i⟩:=a;have e:i=s.os:=g;subst e;exact I.call (g':=g') (t':=t') (d':=d') u d h f
end
abbrev XK:=Vl->Option Ad->Hp->Prop
abbrev St:=List (Option V)
abbrev VK:=V->Hp->Prop
abbrev TE:=St->Hp->VK->Prop
abbrev TT:=St->Hp->(Bool->Hp->Prop)->Prop
abbrev TA:=St->Hp->(List V->Hp->Prop)->Prop
structure Ends where
 nx:St->Hp->Prop
 rt:VK
 bk:St->Hp->Prop:=λ_ _=>False
 ct:St->Hp->Prop:=λ_ _=>False
abbrev TS:=Ends->St->Hp->Prop
def EP(X:Cx)(b:AO)(c:St)(Q:VK)(u:Vl)(d:Sh):Prop:= ∃v a,Inv X b c a d/\RelV v u/\Q v a
def TP(X:Cx)(c:AO)(d:St)(Q:Bool->Hp->Prop)(b:Bool)(e:Sh):Prop:= ∃a,Inv X c d a e/\Q b a
def AP(X:Cx)(c:AO)(d:St)(Q:List V->Hp->Prop)(e:Vs)(f:Sh):Prop:= ∃a b,Inv X c d b f/\Vals a e/\Q a b
def SP(X:Cx)(c:AO)(D:Ends)(f:Flow)(d:Sh):Prop:=
 match f with
 | .next=> ∃a b,Inv X c a b d/\D.nx a b
 | .brk=> ∃a b,Inv X c a b d/\D.bk a b
 | .cont=> ∃a b,Inv X c a b d/\D.ct a b
 | .ret u=> ∃v a b,Inv X c a b d/\RelV v u/\D.rt v b
def PE(X:Cx)(e:Expr)(t:TE):Prop:=
 ∀(b:AO) (s:Sh) (a:St) (H:Hp) (Q:VK),Inv X b a H s->t a H Q->wpAny (model X.prog X.w) X.A (eval e X.env) (EP X b a Q) X.xe s
def PT(X:Cx)(e:Expr)(t:TT):Prop:=
 ∀(b:AO) (s:Sh) (a:St) (H:Hp) (Q:Bool->Hp->Prop),Inv X b a H s->t a H Q->wpAny (model X.prog X.w) X.A (isTrue e X.env (eval e X.env)) (TP X b a Q) X.xe s
def PW(X:Cx)(e:Expr)(t:TT):Prop:=
 ∀(a:Sem Vl) (c:AO) (s:Sh) (b:St) (H:Hp) (Q:Bool->Hp->Prop),Inv X c b H s->t b H Q->wpAny (model X.prog X.w) X.A (isTrue e X.env a) (TP X c b Q) X.xe s
def PW.pt{X:Cx}{e:Expr}{t:TT}(h:PW X e t):PT X e t:=h _
def PA(X:Cx)(c:List Expr)(t:TA):Prop:=
 ∀(pos:Pos) (b:AO) (s:Sh) (a:St) (H:Hp) (Q:List V->Hp->Prop),Inv X b a H s->t a H Q->wpAny (model X.prog X.w) X.A (spliced (backTo pos (starEach c X.env))) (AP X b a Q) X.xe s
def PS(X:Cx)(st:Stmt)(t:TS):Prop:=
 ∀(a:AO) (s:Sh) (b:St) (H:Hp) (D:Ends),Inv X a b H s->t D b H->wpAny (model X.prog X.w) X.A (exec st X.env) (SP X a D) X.xe s
def PSs(X:Cx)(st:List Stmt)(t:TS):Prop:=
 ∀(a:AO) (s:Sh) (b:St) (H:Hp) (D:Ends),Inv X a b H s->t D b H->wpAny (model X.prog X.w) X.A (execs st X.env) (SP X a D) X.xe s
def cP{b:Type}{t:Sem b}{Q c:b->Sh->Prop}{M:Model}{A:Ar}{E:VP}{s:Sh}(h:wpAny M A t Q E s)(d: ∀a s,Q a s->c a s):wpAny M A t c E s:=gN h d λ_ _ x=>x
section
variable{X:Cx}
def fI(i:Nat):TE:=λa H Q=> ∃v,a[i]? =some (some v)/\Q v H
def tC(v:V):TE:=λ_ H Q=>Q v H
def MG{i:Nat}{x:Str}{pos:Pos}(g:X.N[i]? =some x)(j:xi X.env.scope x)(b:(x==("__debug__":Str))=false:=by decide)(d:(x==("__classdict__":Str))=false:=by decide):PE X (.Name x pos) (fI i):=by
 intro k s n H Q I h;obtain⟨v,e,h⟩:=h;obtain⟨m,o,p⟩:=I.loc;obtain⟨u,r,l⟩:=p i x v g e j;have fin:EP X k n Q u s:=⟨v,H,I,r,h⟩
 rcases l with⟨hk,q⟩|⟨hk,c,f,a⟩
 .exact wpAny_Name (wpAny_loadName_local I.ok.kind hk o q fin) b
 .rcases hk with hk|hk
  .exact wpAny_Name (wpAny_loadName_cell I.ok.kind hk f a fin) b
  .exact wpAny_Name (wpAny_loadName_free I.ok.kind hk f a fin d) b
def cV{i j pos}:PE X (.Constant (.int i) j pos) (tC (.int i)):=λ_ _ _ H _ I h=>wpAny_Constant_int ⟨.int i,H,I.tok _,⟨_,rfl⟩,h⟩
def yf{b j pos}:PE X (.Constant (.bool b) j pos) (tC (.bl b)):=λ_ _ _ H _ I h=>Constant_bool ⟨.bl b,H,I,rfl,h⟩
def qr{j pos}:PE X (.Constant .none j pos) (tC .non):=λ_ _ _ H _ I h=>Constant_none ⟨.non,H,I,rfl,h⟩
def B0{x j pos}:PE X (.Constant (.str x) j pos) (tC (.str x)):=λ_ _ _ H _ I h=>Calls.Constant_str ⟨.str x,H,I.tok _,⟨_,rfl⟩,h⟩
def Gl(X:Cx)(x:Str):Prop:=X.env.kindOf x=some .globalImplicit
def vo{E:VP}{a:AO}{s:Sh}{b:St}{H:Hp}{x:Str}{u:Vl}{pos:Pos}{Q:VP}(I:Inv X a b H s)(c:Gl X x)(d:X.mg x=some u)(h:Q u s)
  (e:(x==("__debug__":Str))=false:=by decide):wpAny (model X.prog X.w) X.A (eval (.Name x pos) X.env) Q E s:=
 Fc I.ok.kind c (Calls.loadGlobal_global (by rw[I.ok.glob];exact I.mod.glob.keeps I.bk) d h) e
def oP{E:VP}{a:AO}{s:Sh}{b:St}{H:Hp}{x:Str}{u:Vl}{pos:Pos}{Q:VP}(I:Inv X a b H s)(c:Gl X x)(d:X.mg x=none)(e:bootBuiltins x=some u)(h:Q u s)
  (f:x≠"__name__":=by decide) (g:(x==("__debug__":Str))=false:=by decide):wpAny (model X.prog X.w) X.A (eval (.Name x pos) X.env) Q E s:=by
 obtain⟨k,i,j⟩:=I.mod.blt;exact Fc I.ok.kind c (Calls.loadGlobal_builtin (by rw[I.ok.glob];exact I.mod.glob.keeps I.bk) d (by rw[I.ok.blt];exact i.keeps I.bk) ((j x f).trans e) h) g
def G'{x:Str}{v:V}{u:Vl}{pos:Pos}(a:Gl X x)(b:X.mg x=none)(c:bootBuiltins x=some u)(r:RelV v u)(d:x≠"__name__":=by decide)(e:(x==("__debug__":Str))=false:=by decide):PE X (.Name x pos) (tC v):=
 λ_ _ _ H _ I h=>oP I a b c ⟨v,H,I,r,h⟩ d e
variable{a b:Expr}{ta tb:TE}{pos:Pos}
def PC(X:Cx)(g:CmpOp)(a b:Expr)(t:TE):Prop:=
 ∀(f:AO) (s:Sh) (e:St) (H:Hp) (Q:VK),Inv X f e H s->t e H Q->
  wpAny (model X.prog X.w) X.A (eval a X.env) (λv c=>wpAny (model X.prog X.w) X.A (eval b X.env) (λu d=>wpAny (model X.prog X.w) X.A (compareOp g v u) (EP X f e Q) X.xe d) X.xe c) X.xe s
def E'(b:Expr){c:CmpOp}(h:c≠ .In)(d:c≠ .NotIn):behindInMarks c b=false:=by
 have e:(c==CmpOp.In)=false:=by cases c<;>first|rfl|exact wC rfl h
 have f:(c==CmpOp.NotIn)=false:=by cases c<;>first|rfl|exact wC rfl d
 cases b<;>simp[behindInMarks,e,f]
def tB(t:TE):TT:=λd H Q=>t d H λx e=> ∃c,x= .bl c/\Q c e
def MF{c:CmpOp}{t:TE}(h:PC X c a b t)(d:behindInMarks c b=false:=by first|exact E' _ (by decide) (by decide)|rfl):PE X (.Compare a [c] [b] pos) t:=λe s f H Q I hw=>wpAny_Compare1 (h e s f H Q I hw) d
def lP{e:CmpOp}{t:TE}(h:PC X e a b t)(f:behindInMarks e b=false:=by first|exact E' _ (by decide) (by decide)|rfl):PT X (.Compare a [e] [b] pos) (tB t):=by
 intro g s i H Q I hw;refine wpAny_isTrue_Compare1 (cP (h g s i H _ I hw) λv o f=>cP f λu p j=>cP j λc r ⟨x,k,l,m,n⟩=>?_) f;obtain⟨d,rfl,q⟩:=n;cases m;exact n7 ⟨k,l,q⟩
def pF{e:Expr}{t:TE}(h:PE X e t)(f: ∀c,isTrue e X.env c=(do let v <-c;standAt e.pos;holding [v] (truthy v)):=by intro _;rfl):PT X e (tB t):=by
 intro g s i H Q I hw;refine isTrue_plain (cP (h g s i H _ I hw) λv n ⟨x,j,k,l,m⟩=>?_) (f _);obtain⟨d,rfl,q⟩:=m;cases l;exact n7 ⟨j,k,q⟩
variable{tA tB':TT}{rest:List Expr}
def zj(t u:TT):TT:=λd H Q=>t d H λc e=>if c=true then u d e Q else Q false e
def Kr(t u:TT):TT:=λd H Q=>t d H λc e=>if c=true then Q true e else u d e Q
def Ak(t:TT):TT:=λd H Q=>t d H λc e=>Q (!c) e
def pV(d:PT X a tA):PW X (.BoolOp .And [a] pos) tA:=by
 intro i f s g H Q I h;refine isTrue_and (cP (d f s g H Q I h) λc j e=>?_);cases c with
 |true=>exact isTrue_and_nil e
 |false=>exact e
def Ig(d:PT X a tA):PW X (.BoolOp .Or [a] pos) tA:=by
 intro i f s g H Q I h;refine isTrue_or (cP (d f s g H Q I h) λc j e=>?_);cases c with
 |false=>exact isTrue_or_nil e
 |true=>exact e
def pi(j:PT X a tA)(k:PW X (.BoolOp .And (b::rest) pos) tB'):PW X (.BoolOp .And (a::b::rest) pos) (zj tA tB'):=by
 intro l d s e H Q I h;refine isTrue_and (cP (j d s e H _ I h) λc m ⟨f,g,i⟩=>?_);cases c with
 |true=>exact k l d m e f Q g i
 |false=>exact⟨f,g,i⟩
def uR(j:PT X a tA)(k:PW X (.BoolOp .Or (b::rest) pos) tB'):PW X (.BoolOp .Or (a::b::rest) pos) (Kr tA tB'):=by
 intro l d s e H Q I h;refine isTrue_or (cP (j d s e H _ I h) λc m ⟨f,g,i⟩=>?_);cases c with
 |true=>exact⟨f,g,i⟩
 |false=>exact k l d m e f Q g i
def vF(d:PT X a tA):PT X (.UnaryOp .Not a pos) (Ak tA):=by
 intro e s f H Q I h;exact isTrue_not (d e s f H (λc g=>Q (!c) g) I h)
def vb(ta tb:TE):TE:=λd H Q=>ta d H λx e=> ∃c,x= .bl c/\if c=true then tb d e Q else Q (.bl false) e
def uY(ta:TE):TE:=λd H Q=>ta d H λx e=> ∃c,x= .bl c/\Q (.bl (!c)) e
def wL{c}{t:TE}(h:PE X a t):PE X (.BoolOp c [a] pos) t:=λd s e H Q I hw=>BoolOp_one (h d s e H Q I hw)
def xS(j:PE X a ta)(k:PE X (.BoolOp .And (b::rest) pos) tb):PE X (.BoolOp .And (a::b::rest) pos) (vb ta tb):=by
 intro e s f H Q I h;refine BoolOp_and (cP (j e s f H _ I h) λv l ⟨x,g,i,m,d⟩=>?_);obtain⟨c,rfl,d⟩:=d;cases m;refine n7 ?_;cases c with
 |true=>exact k e l f g Q i d
 |false=>exact⟨.bl false,g,i,rfl,d⟩
def Jt(e:PE X a ta):PE X (.UnaryOp .Not a pos) (uY ta):=by
 intro f s g H Q I h;refine UnaryOp_ (cP (e f s g H _ I h) λv l ⟨x,i,j,k,d⟩=>?_);obtain⟨c,rfl,d⟩:=d;cases k;exact not_of (n7 ⟨.bl (!c),i,j,rfl,d⟩)
end
def SqL(K:W.Frag)(H:Hp)(a:Ad)(xs:List V):Prop:=
 Rd H a (.lst xs)∨
  ∃(o:Obj) (b:AV) (n:Nat),K.lookup a=some o/\o.cls= .type "list"/\o.dict=none/\o.data= .seq b n/\b.size<=sizeLine/\Vals xs b.toList
def SqT(K:W.Frag)(H:Hp)(a:Ad)(xs:List V):Prop:=
 Rd H a (.tup xs)∨
  ∃(o:Obj) (b:AV) (n:Nat),K.lookup a=some o/\o.cls= .type "tuple"/\o.data= .seq b n/\b.size<=sizeLine/\Vals xs b.toList
def Bz:Vl->Option V
 | .none=>some .non
 | .bool b=>some (.bl b)
 | .int i _=>some (.int i)
 | .str x _=>some (.str x)
 | .bytes b _=>some (.byt b)
 | .float b _=>some (.flt b)
 | .ref a=>some (.ref a)
 | .type n=>some (.ty n)
 |_=>none
def RelV.abs{x:V}{u:Vl}(r:RelV x u):Bz u=some x:=by
 cases x with
 |non=>cases r;rfl
 |bl _=>cases r;rfl
 |int _=>obtain⟨t,rfl⟩:=r;rfl
 |str _=>obtain⟨t,rfl⟩:=r;rfl
 |byt _=>obtain⟨t,rfl⟩:=r;rfl
 |flt _=>obtain⟨t,rfl⟩:=r;rfl
 |ref _=>cases r;rfl
 |ty _=>cases r;rfl
def RelV.inj{x y:V}{u:Vl}(r:RelV x u)(q:RelV y u):x=y:=fB (r.abs.symm.trans q.abs)
theorem Vals.inj: ∀{a b:List V} {c:Vs},Vals a c->Vals b c->a=b
 |_,_,_,.nil,.nil=>rfl
 |_,_,_,.cons r t,.cons d t'=>by rw[r.inj d,Vals.inj t t']
section
variable{X:Cx}{za:AO}{σ:St}{H:Hp}{s:Sh}{a:Ad}{xs ys:List V}
def SqL.of{K:W.Frag}(h:H a=some (.lst xs)):SqL K H a xs:= .inl (.inl h)
def SqT.of{K:W.Frag}(h:H a=some (.tup xs)):SqT K H a xs:= .inl (.inl h)
def Inv.list(I:Inv X za σ H s)(h:SqL X.K H a xs): ∃its:Vs,Vals xs its/\PlainL s.heap a its.toArray/\xs.length<=sizeLine:=by
 rcases h with h|⟨o,its,n,b,c,d,f,g,r⟩
 .obtain⟨z,its,n,r,e⟩:=h.ok I.hok;exact⟨its,r,⟨_,n,e,rfl,rfl,rfl⟩,z⟩
 .refine⟨its.toList,r,⟨o,n,I.kIn a o b,c,d,by simpa using f⟩,?_⟩;have e:=r.length;simp only[Array.length_toList]at e;lia
def Inv.tuple(I:Inv X za σ H s)(h:SqT X.K H a xs): ∃its:Vs,Vals xs its/\IsTup s.heap a its.toArray/\xs.length<=sizeLine:=by
 rcases h with h|⟨o,its,n,b,c,d,f,r⟩
 .obtain⟨z,its,r,p⟩:=h.ok I.hok;exact⟨its,r,p.is,z⟩
 .refine⟨its.toList,r,⟨o,I.kIn a o b,c,n,by simpa using d⟩,?_⟩;have e:=r.length;simp only[Array.length_toList]at e;lia
def Inv.list_inj(I:Inv X za σ H s)(h:SqL X.K H a xs)(h':SqL X.K H a ys):xs=ys:=by
 obtain⟨c,r,⟨o,n,e,_,_,d⟩,_⟩:=I.list h;obtain⟨b,g,⟨j,k,f,_,_,d'⟩,_⟩:=I.list h';rw[e]at f;cases f;rw[d]at d';injection d' with i _
 have:c=b:=by simpa using congrArg Array.toList i
 subst this;exact r.inj g
def Inv.tuple_inj(I:Inv X za σ H s)(h:SqT X.K H a xs)(h':SqT X.K H a ys):xs=ys:=by
 obtain⟨c,r,⟨o,e,_,n,d⟩,_⟩:=I.tuple h;obtain⟨b,g,⟨j,f,_,k,d'⟩,_⟩:=I.tuple h';rw[e]at f;cases f;rw[d]at d';injection d' with i _
 have:c=b:=by simpa using congrArg Array.toList i
 subst this;exact r.inj g
end
abbrev Cx.wish(X:Cx)(E:VP):Cx:={X with xe:=E}
abbrev Cx.nox(X:Cx):Cx:=X.wish λ_ _=>False
def Cx.Ok.wish{X:Cx}(ok:X.Ok)(E:VP):(X.wish E).Ok:=
 ⟨ok.mod,ok.kind,ok.glob,ok.blt,ok.above,ok.inj,ok.has,ok.cab,ok.hd,ok.frames,ok.stk,ok.exf,ok.bs,ok.bsz,ok.noex,ok.exfs,ok.funs,ok.frf⟩
def Cx.Ok.unwish{X:Cx}{E:VP}(ok:(X.wish E).Ok):X.Ok:=
 ⟨ok.mod,ok.kind,ok.glob,ok.blt,ok.above,ok.inj,ok.has,ok.cab,ok.hd,ok.frames,ok.stk,ok.exf,ok.bs,ok.bsz,ok.noex,ok.exfs,ok.funs,ok.frf⟩
section
variable{X:Cx}{za:AO}{σ:St}{H:Hp}{s:Sh}{E:VP}
def Inv.wish(I:Inv X za σ H s)(E:VP):Inv (X.wish E) za σ H s:=⟨I.ok.wish E,I.os,I.bare,I.base,I.loc,I.cell,I.free,I.freeC,I.pin,I.hok,I.len⟩
def Inv.unwish(I:Inv (X.wish E) za σ H s):Inv X za σ H s:=⟨I.ok.unwish,I.os,I.bare,I.base,I.loc,I.cell,I.free,I.freeC,I.pin,I.hok,I.len⟩
def SP.unwish{D:Ends}{f:Flow}{c:Sh}(h:SP (X.wish E) za D f c):SP X za D f c:=by
 cases f with
 |next=>obtain⟨a,b,I,q⟩:=h;exact⟨a,b,I.unwish,q⟩
 |brk=>obtain⟨a,b,I,q⟩:=h;exact⟨a,b,I.unwish,q⟩
 |cont=>obtain⟨a,b,I,q⟩:=h;exact⟨a,b,I.unwish,q⟩
 |ret u=>obtain⟨v,a,b,I,r,q⟩:=h;exact⟨v,a,b,I.unwish,r,q⟩
def PSs.nox{st:List Stmt}{t:TS}(h:PSs X.nox st t):PSs X st t:=λza s σ H D I hw=>
 gN (h za s σ H D (I.wish _) hw) (λ_ _ q=>q.unwish) λ_ _ z=>wE z
end
section
variable{X:Cx}{st:Stmt}{rest:List Stmt}{t u:TS}{e:Expr}{te:TE}{pos:Pos}
def EN:TS:=λD a H=>D.nx a H
def l8(t u:TS):TS:=λD a H=>t {D with nx:=u D} a H
def gJ:PSs X [] EN:=λ_ _ a H _ I h=>xg ⟨a,H,I,h⟩
def cN(c:PS X st t)(d:PSs X rest u):PSs X (st::rest) (l8 t u):=by
 intro b s g H D I h;refine wpAny_execs_cons (cP (c b s g H {D with nx:=u D} I h) λf i q=>?_);cases f with
 |next=>
  obtain⟨a,j,k,q⟩:=q;exact d b i a j D k q
 |ret v=>exact q
 |brk=>exact q
 |cont=>exact q
def cS(a:PS X st t):PSs X [st] t:=by
 intro b s c H D I h;refine wpAny_execs_cons (cP (a b s c H D I h) λf d q=>?_);cases f with
 |next=>exact xg q
 |ret v=>exact q
 |brk=>exact q
 |cont=>exact q
def Inv.quiet{a:AO}{b:St}{H:Hp}{s:Sh}(I:Inv X a b H s):interactive X.env=false:=by simp[interactive,I.ok.kind]
def wP(te:TE):TS:=λD a H=>te a H λ_ b=>D.nx a b
def hO(b:PE X e te)(c:swapsWith e none pos.line X.env=pure false:=by rfl):PS X (.Expr e pos) (wP te):=by
 intro d s a H D I h;exact wpAny_Expr_any (cP (b d s a H _ I h) λv j ⟨x,f,g,k,i⟩=>⟨a,f,g,i⟩) I.quiet c
def sH(te:TE):TS:=λD a H=>te a H D.rt
def dH(b:PE X e te):PS X (.Return (some e) pos) (sH te):=by
 intro c s a H D I h;exact wpAny_Return_some (cP (b c s a H _ I h) λv j ⟨x,d,f,g,i⟩=>⟨x,a,d,f,g,i⟩)
def sS(c:TT)(t u:TS):TS:=λD a H=>c a H λb d=>if b=true then t D a d else u D a d
def ge{c:Expr}{a b:List Stmt}{i:TT}(n:PT X c i)(o:PSs X a t)(p:PSs X b u):PS X (.If c a b pos) (sS i t u):=by
 intro f s g H D I h;refine wpAny_If (cP (n f s g H _ I h) λd j ⟨k,l,m⟩=>?_);cases d with
 |true=>exact o f j g k D l m
 |false=>exact p f j g k D l m
def Gs:TS:=λ_ _ _=>False
def Jq:PS X st Gs:=λ_ _ _ _ _ _ h=>h.elim
end
abbrev TG:=V->St->Hp->(St->Hp->Prop)->Prop
abbrev mS:=List V->St->Hp->(St->Hp->Prop)->Prop
def PG(X:Cx)(a:Expr)(t:TG):Prop:=
 ∀(c:AO) (s:Sh) (d:St) (H:Hp) (v:V) (u:Vl) (Q:St->Hp->Prop),Inv X c d H s->RelV v u->t v d H Q->
  wpAny (model X.prog X.w) X.A (assign a X.env u) (λ_ f=> ∃b e,Inv X c b e f/\Q b e) X.xe s
def tG(X:Cx)(g:List Expr)(t:mS):Prop:=
 ∀(b:AO) (s:Sh) (c:St) (H:Hp) (d:List V) (e:Vs) (Q:St->Hp->Prop),Inv X b c H s->Vals d e->t d c H Q->
  wpAny (model X.prog X.w) X.A (assignInOrder ((assignEach g X.env).map (·.2)) e) (λ_ h=> ∃a f,Inv X b a f h/\Q a f) X.xe s
abbrev pD:=V->V->V->Hp->(Hp->Prop)->Prop
def tZ(X:Cx)(t:pD):Prop:=
 ∀(a:AO) (s:Sh) (b:St) (H:Hp) (o i v:V) (c d u:Vl) (Q:Hp->Prop),Inv X a b H s->RelV o c->RelV i d->RelV v u->t o i v H Q->
  wpAny (model X.prog X.w) X.A (setItem c d u) (λ_ f=> ∃e,Inv X a b e f/\Q e) X.xe s
abbrev wH:=V->V->Hp->VK->Prop
def DH(X:Cx)(c:Operator)(t:wH):Prop:=
 ∀(a:AO) (s:Sh) (b:St) (H:Hp) (x y:V) (v u:Vl) (Q:VK),Inv X a b H s->RelV x v->RelV y u->t x y H Q->
  wpAny (model X.prog X.w) X.A (inplaceOp c v u) (EP X a b Q) X.xe s
section
variable{X:Cx}{pos:Pos}
def gE(i:Nat):TG:=λv a H Q=>Q (a.set i (some v)) H
def eQ{i:Nat}{x:Str}(a:X.N.Nodup)(b:X.N[i]? =some x)(c:sO X.env.scope x)(d:X.fn x=true∨X.env.scope.names.lookup x=some .local:=by first|exact .inl rfl|exact .inr rfl|assumption):PG X (.Name x pos) (gE i):=by
 intro f s g H v u Q I r h;exact yW (Bi I a b c r (λj e=>⟨_,H,e,h⟩) d)
def pG:mS:=λa b H Q=>a=[]/\Q b H
def sD(t:TG)(u:mS):mS:=λb c H Q=> ∃v r,b=v::r/\t v c H λa d=>u r a d Q
def md:tG X [] pG:=by
 intro b s a H c d Q I r h;obtain⟨e,h⟩:=h;subst e;cases r;exact assignInOrder_nil ⟨a,H,I,h⟩
def gG{e:Expr}{a:List Expr}{t:TG}{u:mS}(d:PG X e t)(f:tG X a u)
  (g:(assignEach (e::a) X.env).map (·.2)=assign e X.env::(assignEach a X.env).map (·.2):=by rfl):tG X (e::a) (sD t u):=by
 intro c s i H p q Q I r h;obtain⟨v,w,j,h⟩:=h;subst j;cases r with
 |cons r k=>
  rw[g];refine assignInOrder_cons (cP (d c s i H _ _ _ I r h) λ_ l ⟨b,m,n,o⟩=>?_);exact f c l b m _ _ Q n k o
def pI(K:W.Frag)(n:Nat)(t:mS):TG:=λv c H Q=> ∃a b,v= .ref a/\SqT K H a b/\b.length=n/\t b c H Q
def mH{c:List Expr}{k:Nat}{t:mS}{n:Nat}(j:X.calm=true)(h:tG X c t)
  (l:(assignEach c X.env).length=n:=by rfl) (d:(assignEach c X.env).findIdx? (·.1)=none:=by rfl):PG X (.Tuple c k pos) (pI X.K n t):=by
 intro f s g H v u Q I r hw;obtain⟨a,m,p,q,w,hw⟩:=hw;subst p;cases r;obtain⟨x,i,ht,B⟩:=I.tuple q;refine assign_Tuple_tuple (I.ok.hd j) ht (by simp[l,<-w,i.length]) d λy z=>?_;have A:Inv X f g H {s with heap:=y}:=I.kept (t':=s.toks) λb o e=>z b o (dS (dh e)) e;exact h f _ g H m _ Q A (by simpa using i) hw
def BA(to b:TE)(t:pD):TG:=λv a H Q=>to a H λo c=>b a c λi d=>t o i v d λe=>Q a e
def wV{o i:Expr}{to e:TE}{t:pD}(f:PE X o to)(g:PE X i e)(j:tZ X t)
  (k: ∀v,assign (.Subscript o i pos) X.env v=(do
   let a <-holding [v] (eval o X.env)
   let b <-holding [v,a] (eval i X.env)
   standAt pos
   holding [v,a,b] (setItem a b v)
   release [v,a,b] []):=by intro _;rfl):PG X (.Subscript o i pos) (BA to e t):=by
 intro d s c H v u Q I r h;rw[k];refine cy (gw (cP (f d s c H _ I h) λa l ⟨x,m,n,p,q⟩=>?_));refine cy (gw (cP (g d l c m _ n q) λb w ⟨y,z,A,B,C⟩=>?_));refine cy (pZ (cy (gw (cP (j d w c z x y v a b u _ A p B r C) λ_ J ⟨D,E,G⟩=>?_))));exact wpAny_release ⟨c,D,E,G⟩
def lR(b:TE)(g:TG):TS:=λD a H=>b a H λx c=>g x a c D.nx
def uS{a e:Expr}{b:TE}{g:TG}(f:PE X e b)(i:PG X a g)(j:swapsWithSole [a] e pos.line X.env=pure false:=by rfl)(hw:swappedStores [a] e X.env=pure none:=by rfl)
  (k:(assignEach [a] X.env).map (·.2)=[assign a X.env]:=by rfl):PS X (.Assign [a] e pos) (lR b g):=by
 intro c s d H D I h;refine wpAny_Assign_stores (cP (f c s d H _ I h) λv l ⟨x,m,n,o,p⟩=>?_) j hw;rw[k];exact cP (i c l d m x v _ n o p) λ_ r q=>q
def dm{i:Nat}{x:Str}{e:Expr}{b:TE}{a:Pos}(c:X.N.Nodup)(d:X.N[i]? =some x)(f:sO X.env.scope x)(g:PE X e b)(j:swapsWith e (some (.Name x a)) pos.line X.env=pure false:=by rfl)(k:X.fn x=true∨X.env.scope.names.lookup x=some .local:=by first|exact .inl rfl|exact .inr rfl|assumption):
  PS X (.Assign [.Name x a] e pos) (lR b (gE i)):=by
 intro l s m H D I h;refine wpAny_Assign_Name (cP (g l s m H _ I h) λv t ⟨y,n,o,p,q⟩=>?_) j;exact Bi o c d f p (λu r=>⟨_,n,r,q⟩) k
def A9(i:Nat)(b:TE)(c:wH):TS:=λD a H=> ∃x,a[i]? =some (some x)/\b a H λy d=>c x y d λz e=>D.nx (a.set i (some z)) e
def Ck{i:Nat}{x:Str}{e:Expr}{p:TE}{g:Operator}{q:wH}{b:Pos}(B:X.N.Nodup)(t:X.N[i]? =some x)(j:sO X.env.scope x)(C:PE X e p)(E:DH X g q)(G:X.fn x=true∨X.env.scope.names.lookup x=some .local:=by first|exact .inl rfl|exact .inr rfl|assumption):
  PS X (.AugAssign (.Name x b) g e pos) (A9 i p q):=by
 intro n s A H D I h;obtain⟨v,J,h⟩:=h;obtain⟨m,L,M⟩:=I.loc;have o:xi X.env.scope x:=by rcases j with k|k;exact .inl k;exact .inr (.inl k)
 obtain⟨u,r,l⟩:=M i x v t J o;refine wpAny_AugAssign_Name ?_;have go:wpAny (model X.prog X.w) X.A (eval e X.env) (λw d=>wpAny (model X.prog X.w) X.A (inplaceOp g u w) (λr f=>wpAny (model X.prog X.w) X.A (storeName X.env x r) (λ_=>SP X n D .next) X.xe f) X.xe d) X.xe s:=by
  refine cP (C n s A H _ I h) λw N ⟨y,O,Q,T,U⟩=>?_;refine cP (E n N A O v y u w _ Q r T U) λz s2 ⟨zv,Y,I2,r2,q2⟩=>?_;exact Bi I2 B t j r2 (λs3 I3=>⟨_,Y,I3,q2⟩) G
 rcases l with⟨hk,hm⟩|⟨hk,c,hc,a⟩
 .exact wpAny_loadName_local I.ok.kind hk L hm go
 .rcases hk with hk|hk
  .exact wpAny_loadName_cell I.ok.kind hk hc a go
  .rcases j with k|k
   .have:X.env.scope.names.lookup x=some .free:=hk;rw[k]at this;cases this
   .have:X.env.scope.names.lookup x=some .free:=hk;rw[k]at this;cases this
def G6(f:Int->Int->Int):wH:=λx y H Q=> ∃i j,x= .int i/\y= .int j/\Q (.int (f i j)) H
def Es:DH X .Add (G6 λi j=>i+j):=by
 intro e s f H x y v u Q I a b h;obtain⟨i,j,c,d,q⟩:=h;subst c;subst d;obtain⟨t,rfl⟩:=a;obtain⟨g,rfl⟩:=b;exact iadd_int ⟨.int _,H,I.tok _,⟨_,rfl⟩,q⟩
end
section
variable{X:Cx}{pos:Pos}
def Fq(c:TT)(h:TS):TS:=λD a H=> ∃W:Nat->St->Hp->Prop,(∃m,W m a H)/\ ∀m a H,W m a H->
 c a H λb e=>if b=true then ∃N:St->Hp->Prop,(∀d f,N d f-> ∃g,g<m/\W g d f)/\h {D with nx:=N,ct:=N,bk:=D.nx} a e else D.nx a e
def Ew{c:Expr}{e:List Stmt}{t:TT}{u:TS}(w:PassesOwn (model X.prog X.w) X.A X.env X.xe)(C:PT X c t)(E:PSs X e u):PS X (.While c e [] pos) (Fq t u):=by
 intro l s G H D I h;obtain⟨W,⟨J,L⟩,turn⟩:=h;refine wpAny_While (codeAny_whileLoop (λn M=> ∃g x,Inv X l g x M/\W n g x) ?_ J ⟨G,H,I,L⟩);rintro n O ⟨d,y,Q,T⟩;refine oE w (cP (C l O d y _ Q (turn n d y T)) λb U ⟨z,A,j⟩=>?_);cases b with
 | true=>
  obtain⟨N,B,j⟩:=j;rw[wB rfl];refine oE w (cP (E l U d z _ A j) λf Y k=>?_);cases f with
  |next=>
   obtain⟨a,i,m,o⟩:=k;obtain⟨p,q,r⟩:=B a i o;exact⟨p,q,a,i,m,r⟩
  |cont=>
   obtain⟨a,i,m,o⟩:=k;obtain⟨p,q,r⟩:=B a i o;exact⟨p,q,a,i,m,r⟩
  |brk=>exact k
  |ret v=>exact k
 |false=>
  rw[wA gy];exact xg ⟨d,z,A,j⟩
end
structure It where
 go:Nat->Hp->Prop
 yld:Nat->Hp->V->Hp->Prop
 stop:Nat->Hp->Prop
def FpOk(X:Cx)(a:AO)(H:Hp)(b:Ad):Prop:=
 H b=none/\b≠X.env.locals/\b∉X.fs/\(b∈X.ex∨X.s₀.heap.objs.size<=b)/\(∀x c,X.env.cells.lookup x=some c->c≠b)/\ ∀p∈X.pn++a,p.1≠b
def Inv.fpOk{X:Cx}{d:AO}{f:St}{H H':Hp}{s:Sh}{b:Ad}(I:Inv X d f H s)(a:s.heap.objs.size<=b)(g:H' b=none):FpOk X d H' b:=by
 refine⟨g,ka (ft I.lt a),I.nofs a,.inr (dE I.sz a),λx c e z=>?_,λp h z=>?_⟩
 .obtain⟨v,q⟩:=I.cell x c e;exact wC (ft q.lt (by rw[z];exact a)) (jb _)
 .exact wC (ft (dh (I.pin p h).1) (by rw[z];exact a)) (jb _)
structure Turn(P:Pg)(w:World)(K:W.Frag)(tg:Expr)(J:It)(fp:As)(it:Ad)(tn:Nat->Heap->Prop):Prop where
 mem:it∈fp
 obj: ∀i h,tn i h-> ∀b∈fp,∃o,h.get? b=some o/\ ∀v,o.data≠ .cell v
 keep: ∀i h h',tn i h->(∀b∈fp,∀o,h.get? b=some o->h'.get? b=some o)->tn i h'
 item: ∀(X:Cx),X.prog=P->X.w=w->X.K=K->X.calm=true-> ∀(i:Nat) (za:AO) (s:Sh) (σ:St) (H:Hp) (E:VP),Inv X za σ H s->(∀b∈fp,FpOk X za H b)->tn i s.heap->J.go i H->
  wpAny (model P w) X.A (pyNext (.ref it)) (λr s1=> ∃u,r=some u/\
   wpAny (model P w) X.A (letOwnedTupleGo tg (.ref it) u) (λ_ s2=> ∃x H',Inv X za σ H' s2/\RelV x u/\J.yld i H x H'/\tn (i+1) s2.heap/\ ∀b∈fp,H' b=none) E s1) E s
 done: ∀(X:Cx),X.prog=P->X.w=w->X.K=K->X.calm=true-> ∀(i:Nat) (za:AO) (s:Sh) (σ:St) (H:Hp) (E:VP),Inv X za σ H s->(∀b∈fp,FpOk X za H b)->tn i s.heap->J.stop i H->
  wpAny (model P w) X.A (pyNext (.ref it)) (λr s1=>r=none/\Inv X za σ H s1) E s
 self: ∀(A:Ar) (i:Nat) (s:Sh) (Q:VP) (E:VP),tn i s.heap->Q (.ref it) s->wpAny (model P w) A (pyIter (.ref it)) Q E s
abbrev TI:=St->Hp->(It->Hp->Prop)->Prop
def zR(X:Cx)(d:AO)(i:St)(j:Expr)(R:It->Hp->Prop)(a:Vl)(e:Sh):Prop:=
 ∃(f:Ad) (g:As) (h:Nat->Heap->Prop) (J:It) (c:Hp),a= .ref f/\Inv X d i c e/\Turn X.prog X.w X.K j J g f h/\h 0 e.heap/\(∀b∈g,FpOk X d c b)/\R J c
def PI(X:Cx)(d a:Expr)(e:TI):Prop:=
 ∀(c:AO) (s:Sh) (b:St) (H:Hp) (R:It->Hp->Prop),Inv X c b H s->e b H R->
  wpAny (model X.prog X.w) X.A (eval a X.env) (λv f=>wpAny (model X.prog X.w) X.A (pyIter v) (zR X c b d R) X.xe f) X.xe s
def wT{M:Model}{A:Ar}{E:VP}{s:Sh}{b:Expr}{c:Ad}{u:Vl}{o:Obj}{n:String}{d:AV}{Q:Unit->Sh->Prop}(e:s.heap.get? c=some o)(f:o.cls= .type n)(g:o.data= .fields d)
    (i:["enumerate","zip","dict_itemiterator","dict_reverseitemiterator","odict_iterator","itertools.zip_longest","itertools.pairwise"].contains n=false) (a:Q () s):wpAny M A (letOwnedTupleGo b (.ref c) u) Q E s:=by
  unfold letOwnedTupleGo;cases b<;>first
    |exact cG a
    |(cases u<;>first
        |exact cG a
        | (refine cy (wpAny_load e ?_)
           rw[f,g];show wpAny M A (if(["enumerate","zip","dict_itemiterator","dict_reverseitemiterator","odict_iterator","itertools.zip_longest","itertools.pairwise"].contains n&&d[0]? ==some (rawInt _))=true then _ else _) Q E s
           rw[wA (by intro h;rw[i,vZ]at h;cases h)];exact cG a))
def re(K:W.Frag)(a:Ad):It:=
 ⟨λi H=> ∃b x,SqL K H a b/\b[i]? =some x,λi H x c=>c=H/\ ∀b,SqL K H a b->b[i]? =some x,λi H=> ∃b,SqL K H a b/\b.length<=i⟩
def tr(K:W.Frag)(a:Ad):It:=
 ⟨λi H=> ∃b x,SqT K H a b/\b[i]? =some x,λi H x c=>c=H/\ ∀b,SqT K H a b->b[i]? =some x,λi H=> ∃b,SqT K H a b/\b.length<=i⟩
def oF(lo:Int)(n:Nat):It:=⟨λi _=>i<n,λi H x a=>a=H/\x= .int (lo+i),λi _=>n<=i⟩
def IX{P:Pg}{w:World}{K:W.Frag}{Q:Expr}(a f:Ad):Turn P w K Q (re K a) [f] f (λi h=>h.IsListIter f a i) where
 mem:=by simp
 obj:=λi h st b g=>by
  have e:b=f:=by simpa using g
  subst e;obtain⟨o,e,c,d⟩:=st;exact⟨o,e,λv z=>by rw[d]at z;cases z⟩
 keep:=λi h l st k=>st.at λo e=>k f (by simp) o e
 item:=by
  intro X q hw r M i N s O H E I m st t;subst q hw r;obtain⟨T,x,n,y⟩:=t;obtain⟨A,B,p,U⟩:=I.list n;obtain⟨u,Y,ru⟩:=B.get y;obtain⟨C,D,f2,G,J,L⟩:=m f (by simp);refine xh st p.isList (x:=u) (by simpa using Y) λl j sb=>?_;have I1:Inv X N O H {s with heap:=l}:=I.turned (t':=s.toks) (λb o g e=>(sb.2 b g).trans e) C D G J L;obtain⟨o,e,c,d⟩:=id j;exact⟨u,rfl,wT (s:={s with heap:=l}) e c d (by decide) ⟨x,H,I1,ru,⟨rfl,λys hy=>by rw[I.list_inj hy n];exact y⟩,j,λb g=>(m b g).1⟩⟩
 done:=by
  intro X q hw r M i N s O H E I m st t;subst q hw r;obtain⟨T,n,y⟩:=t;obtain⟨A,B,p,U⟩:=I.list n;obtain⟨C,D,f2,G,J,L⟩:=m f (by simp);have hl:=B.length;exact zX (I.ok.hd M) st p.isList (by simp;lia) λl eb=>⟨rfl,I.turned (t':=s.toks) (λb o g e=>eb b o g e) C D G J L⟩
 self:=λ_ _ _ _ _ st h=>wpAny_pyIter_listiter st h
def HG{P:Pg}{w:World}{K:W.Frag}{Q:Expr}(a f:Ad):Turn P w K Q (tr K a) [f] f (λi h=>h.IsTupleIter f a i) where
 mem:=by simp
 obj:=λi h st b g=>by
  have e:b=f:=by simpa using g
  subst e;obtain⟨o,e,c,d⟩:=st;exact⟨o,e,λv z=>by rw[d]at z;cases z⟩
 keep:=λi h m st k=>st.at λo e=>k f (by simp) o e
 item:=by
  intro X r hw t M i N s O H E I n st y;subst r hw t;obtain⟨T,x,q,A⟩:=y;obtain⟨j,B,p,U⟩:=I.tuple q;obtain⟨u,Y,ru⟩:=B.get A;obtain⟨C,D,f2,G,J,L⟩:=n f (by simp);refine wpAny_pyNext_tuple_item st (show s.heap.IsTuple a j.toArray from p) (x:=u) (by simpa using Y) λm l sb=>?_;have I1:Inv X N O H {s with heap:=m}:=I.turned (t':=s.toks) (λb o g e=>(sb.2 b g).trans e) C D G J L;obtain⟨o,e,c,d⟩:=id l;exact⟨u,rfl,wT (s:={s with heap:=m}) e c d (by decide) ⟨x,H,I1,ru,⟨rfl,λys hy=>by rw[I.tuple_inj hy q];exact A⟩,l,λb g=>(n b g).1⟩⟩
 done:=by
  intro X r hw t M i N s O H E I n st y;subst r hw t;obtain⟨T,q,A⟩:=y;obtain⟨j,B,p,U⟩:=I.tuple q;obtain⟨C,D,f2,G,J,L⟩:=n f (by simp);have hl:=B.length;exact wpAny_pyNext_tuple_end (I.ok.hd M) st (show s.heap.IsTuple a j.toArray from p) (by simp;lia) λm eb=>⟨rfl,I.turned (t':=s.toks) (λb o g e=>eb b o g e) C D G J L⟩
 self:=λ_ _ _ _ _ st h=>wpAny_pyIter_tupleiter st h
def LY{P:Pg}{w:World}{K:W.Frag}{D:Expr}(a:Ad)(lo:Int)(n:Nat):Turn P w K D (oF lo n) [a] a (λi h=>IsRangeIter h a (lo+(i:Nat) * 1) ((n:Int)-(i:Nat)) 1) where
 mem:=by simp
 obj:=λi h st b c=>by
  have e:b=a:=by simpa using c
  subst e;exact⟨_,st,λv z=>by
   have G:Data.fields _=Data.cell v:=z;cases G⟩
 keep:=λi h f st k=>k a (by simp) _ st
 item:=by
  intro X j hw l m i A s B H E I g st p;subst j hw l;obtain⟨q,r,J,u,x,y⟩:=g a (by simp);have W:=Walks.range (prog:=X.prog) (w:=X.w) (I.ok.hd m) a lo 1 n;refine W.item i s _ _ p st λv f C L d M=>?_;obtain⟨t,rfl⟩:=L;have N:Inv X A B H {s with heap:=f,toks:=C}:=I.turned (λb o c e=>M b o (by simpa using c) e) q r u x y;refine⟨_,rfl,wT (s:={s with heap:=f,toks:=C}) (n:="range_iterator") d rfl rfl (by decide) ⟨.int (lo+i),H,N,⟨t,?_⟩,⟨rfl,rfl⟩,d,λb c=>(g b c).1⟩⟩;rw[Int.mul_one]
 done:=by
  intro X j hw l m i A s B H E I g st p;subst j hw l;obtain⟨q,r,J,u,x,y⟩:=g a (by simp);exact wpAny_pyNext_range_end (I.ok.hd m) st (by have:n<=i:=p;lia) λf O=>⟨rfl,I.turned (t':=s.toks) (λb o c e=>O b o c e) q r u x y⟩
 self:=λ_ _ _ _ _ st h=>wpAny_pyIter_rangeiter st h
section
variable{X:Cx}{tg:Expr}
def FU(K:W.Frag)(tl:TE):TI:=λc H R=>tl c H λx b=> ∃a,x= .ref a/\(∃d,SqL K b a d)/\R (re K a) b
def uJ(K:W.Frag)(tl:TE):TI:=λc H R=>tl c H λx b=> ∃a,x= .ref a/\(∃d,SqT K b a d)/\R (tr K a) b
def gL{l:Expr}{tl:TE}(f:PE X l tl):PI X tg l (FU X.K tl):=by
 intro g s i H R I h;refine cP (f g s i H _ I h) λv c ⟨x,j,d,k,m⟩=>?_;obtain⟨a,e,⟨u,n⟩,q⟩:=m;subst e;cases k;obtain⟨r,w,p,y⟩:=d.list n;refine sL p.isList ?_;refine⟨c.heap.objs.size,[c.heap.objs.size],_,_,j,rfl,d.kept (t':=c.toks) λb o e=>dI _ e,IX a _,⟨_,eO _ rfl,rfl,rfl⟩,λb t=>?_,q⟩;have e:b=c.heap.objs.size:=by simpa using t
 subst e;exact d.fpOk (cM _) (d.hok.fresh (cM _))
def pK{l:Expr}{tl:TE}(g:PE X l tl):PI X tg l (uJ X.K tl):=by
 intro i s j H R I h;refine cP (g i s j H _ I h) λv c ⟨x,k,d,m,n⟩=>?_;obtain⟨a,e,⟨u,r⟩,q⟩:=n;subst e;cases m;obtain⟨f,w,p,y⟩:=d.tuple r;refine wpAny_pyIter_tuple (show c.heap.IsTuple a f.toArray from p) ?_;refine⟨c.heap.objs.size,[c.heap.objs.size],_,_,k,rfl,d.kept (t':=c.toks) λb o e=>dI _ e,HG a _,⟨_,eO _ rfl,rfl,rfl⟩,λb t=>?_,q⟩;have e:b=c.heap.objs.size:=by simpa using t
 subst e;exact d.fpOk (cM _) (d.hok.fresh (cM _))
def Ii{c:AO}{d:St}{H:Hp}{s:Sh}{R:It->Hp->Prop}{E:VP}{lo a:Int}{t u v:Tok}{f:Nat}(I:Inv X c d H s)(h: -(2 ^ 62)<=lo)(i:lo<2 ^ 62)(j: -(2 ^ 62)<=a)(k:a<2 ^ 62)
  (q:R (oF lo (a-lo).toNat) H):wpAny (model X.prog X.w) X.A (pyIter (.ref s.heap.objs.size)) (zR X c d tg R) E {s with heap:=s.heap.push {cls:= .type "range",data:= .fields #[.int lo t,.int a u,.int 1 v]},toks:=f}:=by
 refine wpAny_pyIter_range (IsRange.new ..) (small_one h i j k) ?_;have g:Inv X c d H {s with heap:=s.heap.push {cls:= .type "range",data:= .fields #[.int lo t,.int a u,.int 1 v]},toks:=f}:=I.kept λb o e=>dI _ e;refine⟨(s.heap.push {cls:= .type "range",data:= .fields #[.int lo t,.int a u,.int 1 v]}).objs.size,[(s.heap.push {cls:= .type "range",data:= .fields #[.int lo t,.int a u,.int 1 v]}).objs.size],_,_,H,rfl,
  g.kept (t':=f) λb o e=>dI _ e,LY _ lo (a-lo).toNat,?_,λb l=>?_,q⟩
 .have m:lo+((0:Nat):Int) * 1=lo:=by simp
  have n:(((a-lo).toNat:Nat):Int)-((0:Nat):Int)=Builtin.Range.rangeSize lo a 1:=by rw[rangeSize_one];split<;>lia
  show IsRangeIter _ _ (lo+((0:Nat):Int) * 1) ((((a-lo).toNat:Nat):Int)-((0:Nat):Int)) 1;rw[m,n];exact eO _ rfl
 .have e:b=(s.heap.push {cls:= .type "range",data:= .fields #[.int lo t,.int a u,.int 1 v]}).objs.size:=by simpa using l
  subst e;exact g.fpOk (cM _) (g.hok.fresh (cM _))
def F5(a:TA):TI:=λb H R=>a b H λc d=> ∃j:Int,c=[.int j]/\ -(2 ^ 62)<=j/\j<2 ^ 62/\R (oF 0 j.toNat) d
def mK{a:Expr}{c:TA}{p pos:Pos}(d:Gl X "range")(f:X.mg "range"=none)(g:PA X [a] c)(i:starEach [a] X.env=[(false,eval a X.env)]:=by rfl):PI X tg (.Call (.Name "range" p) [a] [] pos) (F5 c):=by
 intro k s l H R I h;refine Call_ (oP I d f boot_range (wF (cP (g pos k s l H _ I h) λv w ⟨x,y,m,n,b⟩=>?_) i rfl));obtain⟨j,e,b,o,q⟩:=b;subst e;cases n with
 |cons r u=>
  cases u;obtain⟨t,rfl⟩:=r;exact call_range_1 (Ii m (by lia) (by lia) b o (by simpa using q))
def oK(f:TI)(g:TG)(h:TS):TS:=λD a H=>f a H λJ j=> ∃W:Nat->Nat->St->Hp->Prop,(∃m,W 0 m a j)/\ ∀i m a H,W i m a H->
 (J.stop i H/\D.nx a H)∨(J.go i H/\ ∃N:St->Hp->Prop,(∀b c,N b c-> ∃e,e<m/\W (i+1) e b c)/\ ∀x c,J.yld i H x c->g x a c λd k=>h {D with nx:=N,ct:=N,bk:=D.nx} d k)
def qd(a:As)(h:Heap):AO:=a.filterMap λb=>(h.get? b).map λo=>(b,o)
def ry{a:As}{h:Heap}{b:Ad}{o:Obj}(c:b∈a)(e:h.get? b=some o):(b,o)∈qd a h:=List.mem_filterMap.mpr ⟨b,c,by rw[e];rfl⟩
def LG{a:As}{h:Heap}{p:Ad×Obj}(c:p∈qd a h):p.1∈a/\h.get? p.1=some p.2:=by
 obtain⟨b,d,e⟩:=List.mem_filterMap.mp c;cases q:h.get? b with
 |none=>rw[q]at e;cases e
 |some o=>
  rw[q]at e;have f:(b,o)=p:=fB e;subst f;exact⟨d,q⟩
def Inv.pinned{a:AO}{f:St}{H:Hp}{s:Sh}{c:As}(I:Inv X a f H s)(i: ∀b∈c,FpOk X a H b)(j: ∀b∈c,∃o,s.heap.get? b=some o/\ ∀v,o.data≠ .cell v):Inv X (a++qd c s.heap) f H s:=
 I.pins_of λp k=>(dw.mp k).elim (λz=>I.pin p (eK _ z)) λz=>by
  obtain⟨g,e⟩:=LG z;obtain⟨l,m,n,_⟩:=i p.1 g;obtain⟨o,h,d⟩:=j p.1 g;rw[e]at h;cases h;exact⟨e,l,m,n,d⟩
def Inv.unpinned{a c:AO}{b:St}{H:Hp}{s:Sh}(I:Inv X (a++c) b H s):Inv X a b H s:=I.pins_of λp d=>I.pin p (eK _ (jA _ d))
def gK{c:Expr}{y:List Stmt}{wi:TI}{g:TG}{tb:TS}{pos:Pos}(C:PassesOwn (model X.prog X.w) X.A X.env X.xe)(hc:X.calm=true)(hi:PI X tg c wi)(hg:PG X tg g)(j:PSs X y tb)
  (hs: ∀x,foldedSetIterable c X.env x=pure x:=by intro _;rfl):PS X (.For tg c y [] pos) (oK wi g tb):=by
 intro A s σ H D I h;refine wpAny_For (cP (hi A s σ H _ I h) λv s1 h1=>cP h1 λae s2 h2=>?_) hs;obtain⟨it,E,tn,J,H2,e,I2,T,Q,f2,W,⟨m0,w0⟩,turn⟩:=h2;subst e;have k: ∀{w:Hp},(∀b∈E,w b=none)-> ∀b∈E,FpOk X A w b:=λhn b j=>⟨hn b j,(f2 b j).2⟩;refine codeAny_forLoop_any (λn s'=> ∃i l w,Inv X A l w s'/\tn i s'.heap/\(∀b∈E,w b=none)/\W i n l w) ?_ m0 ⟨0,σ,H2,I2,Q,λb j=>(f2 b j).1,w0⟩;rintro n s3 ⟨i,p,O,I3,G,L,w3⟩
 rcases turn i n p O w3 with⟨stop,qn⟩|⟨go,N,hN,step⟩
 .refine oE C (cP (T.done X rfl rfl rfl hc i A s3 p O X.xe I3 (k L) G stop) λr s4 ⟨U,I4⟩=>?_);subst U;exact xg ⟨p,O,I4,qn⟩
 .refine oE C (cP (T.item X rfl rfl rfl hc i A s3 p O X.xe I3 (k L) G go) λr s4 ⟨u,U,h4⟩=>?_);subst U;refine oE C (cP h4 λ_ s5 ⟨x,H5,I5,r5,y5,B,Y⟩=>?_);have aa:=I5.pinned (k Y) (T.obj _ _ B);refine oE C (cP (hg _ s5 p H5 x u _ aa r5 (step x H5 y5)) λ_ s6 ⟨ab,H6,I6,q6⟩=>?_);refine oE C (cP (j _ s6 ab H6 _ I6 q6) λf s7 z=>?_);have again: ∀{a:St} {q:Hp},Inv X (A++qd E s5.heap) a q s7->N a q-> ∃m,m<n/\ ∃i l w,Inv X A l w s7/\tn i s7.heap/\(∀b∈E,w b=none)/\W i m l w:=λ{a q} t M=>by
   obtain⟨m',hm,w7⟩:=hN a q M;refine⟨m',hm,i+1,a,q,t.unpinned,T.keep _ _ _ B λb j o e=>(t.pin (b,o) (eK _ (eK _ (ry j e)))).1,λb j=>?_,w7⟩;obtain⟨o,e,d⟩:=T.obj _ _ B b j;exact(t.pin (b,o) (eK _ (eK _ (ry j e)))).2.1
  cases f with
  |next=>obtain⟨a,q,t,M⟩:=z;exact again t M
  |cont=>obtain⟨a,q,t,M⟩:=z;exact again t M
  |brk=>obtain⟨a,q,t,z⟩:=z;exact⟨a,q,t.unpinned,z⟩
  |ret v=>obtain⟨x7,a,q,t,r7,z⟩:=z;exact⟨x7,a,q,t.unpinned,r7,z⟩
end
def mv{K:W.Frag}{a:Ad}{xs:List V}{g:TG}{k:TS}{D:Ends}{b:St}{H:Hp}(Pv:Nat->St->Hp->Prop)(n:Pv 0 b H)(o: ∀i b H,i<=xs.length->Pv i b H->SqL K H a xs)
  (r: ∀i x b H,xs[i]? =some x->Pv i b H->g x b H λc j=>k {D with nx:=Pv (i+1),ct:=Pv (i+1),bk:=D.nx} c j) (s: ∀b H,Pv xs.length b H->D.nx b H):
  ∃W:Nat->Nat->St->Hp->Prop,(∃m,W 0 m b H)/\ ∀i m b H,W i m b H->
   ((re K a).stop i H/\D.nx b H)∨((re K a).go i H/\ ∃N:St->Hp->Prop,(∀d f,N d f-> ∃l,l<m/\W (i+1) l d f)/\ ∀x f,(re K a).yld i H x f->g x b f λc j=>k {D with nx:=N,ct:=N,bk:=D.nx} c j):=by
 refine⟨λi m b H=>m=xs.length-i/\i<=xs.length/\Pv i b H,⟨xs.length,by simp,Nat.zero_le _,n⟩,?_⟩;rintro i m b H ⟨rfl,t,p⟩;have q:=o i b H t p;by_cases h:i<xs.length
 .refine .inr ⟨⟨xs,xs[i],q,by simp[h]⟩,Pv (i+1),λd f u=>⟨xs.length-(i+1),Nat.sub_succ_lt_self _ _ h,rfl,h,u⟩,λx f y=>?_⟩;obtain⟨e,y⟩:=y;subst e;exact r i x b _ (y xs q) p
 .have e:i=xs.length:=by lia
  subst e;exact .inl ⟨⟨xs,q,cM _⟩,s b H p⟩
def vC{lo:Int}{n:Nat}{g:TG}{j:TS}{D:Ends}{a:St}{H:Hp}(Pv:Nat->St->Hp->Prop)(l:Pv 0 a H)
  (o: ∀i a H,i<n->Pv i a H->g (.int (lo+i)) a H λc h=>j {D with nx:=Pv (i+1),ct:=Pv (i+1),bk:=D.nx} c h) (q: ∀a H,Pv n a H->D.nx a H):
  ∃W:Nat->Nat->St->Hp->Prop,(∃m,W 0 m a H)/\ ∀i m a H,W i m a H->
   ((oF lo n).stop i H/\D.nx a H)∨((oF lo n).go i H/\ ∃N:St->Hp->Prop,(∀d f,N d f-> ∃k,k<m/\W (i+1) k d f)/\ ∀x f,(oF lo n).yld i H x f->g x a f λc h=>j {D with nx:=N,ct:=N,bk:=D.nx} c h):=by
 refine⟨λi m a H=>m=n-i/\i<=n/\Pv i a H,⟨n,by simp,Nat.zero_le _,l⟩,?_⟩;rintro i m a H ⟨rfl,s,p⟩;by_cases b:i<n
 .refine .inr ⟨b,Pv (i+1),λd f r=>⟨n-(i+1),Nat.sub_succ_lt_self _ _ b,rfl,b,r⟩,λx f y=>?_⟩;obtain⟨e,y⟩:=y;subst e y;exact o i a _ b p
 .have e:i=n:=by lia
  subst e;exact .inl ⟨cM _,q a H p⟩
abbrev R2:=V->V->Hp->VK->Prop
def OpR(X:Cx)(f:Vl->Vl->Sem Vl)(r:R2):Prop:=
 ∀(a:AO) (s:Sh) (b:St) (H:Hp) (x y:V) (v u:Vl) (Q:VK),Inv X a b H s->RelV x v->RelV y u->r x y H Q->
  wpAny (model X.prog X.w) X.A (f v u) (EP X a b Q) X.xe s
def AH(X:Cx)(f:Vl->Sem Vl)(r:V->Hp->VK->Prop):Prop:=
 ∀(a:AO) (s:Sh) (b:St) (H:Hp) (x:V) (v:Vl) (Q:VK),Inv X a b H s->RelV x v->r x H Q->
  wpAny (model X.prog X.w) X.A (f v) (EP X a b Q) X.xe s
def iC(X:Cx)(f:Vl)(r:List V->Hp->VK->Prop):Prop:=
 ∀(a:AO) (s:Sh) (b:St) (H:Hp) (c:List V) (d:Vs) (Q:VK),Inv X a b H s->Vals c d->r c H Q->
  wpAny (model X.prog X.w) X.A (call f d) (EP X a b Q) X.xe s
def Bf(X:Cx)(r:V->Hp->(Bool->Hp->Prop)->Prop):Prop:=
 ∀(a:AO) (s:Sh) (b:St) (H:Hp) (x:V) (v:Vl) (Q:Bool->Hp->Prop),Inv X a b H s->RelV x v->r x H Q->
  wpAny (model X.prog X.w) X.A (truthy v) (TP X a b Q) X.xe s
def sG(r:R2)(b c:TE):TE:=λa H Q=>b a H λx d=>c a d λy e=>r x y e Q
def Hr(r:V->Hp->VK->Prop)(a:TE):TE:=λb H Q=>a b H λx c=>r x c Q
def rI(C:Int->Int->Prop)(g:Int->Int->V):R2:=λx y H Q=> ∃i j,x= .int i/\y= .int j/\C i j/\Q (g i j) H
def t9(g:Int->Int->V):R2:=λx y H Q=> ∃i j,x= .int i/\y= .int j/\Q (g i j) H
def rU(g:Int->V):V->Hp->VK->Prop:=λx H Q=> ∃i,x= .int i/\Q (g i) H
section
variable{X:Cx}{a b c:Expr}{ta tb tc:TE}{pos:Pos}
def pN(m:PE X a ta)(n:PE X b tb){j:AO}{s:Sh}{d:St}{H:Hp}{R:V->V->Hp->Prop}(I:Inv X j d H s)
  (h:ta d H λx l=>tb d l λy e=>R x y e) {Q:VP} {f:Vl->Vl->Sem Vl}
  (o: ∀v u k x y e,Inv X j d e k->RelV x v->RelV y u->R x y e->wpAny (model X.prog X.w) X.A (f v u) Q X.xe k):
  wpAny (model X.prog X.w) X.A (eval a X.env) (λv g=>wpAny (model X.prog X.w) X.A (eval b X.env) (λu i=>wpAny (model X.prog X.w) X.A (f v u) Q X.xe i) X.xe g) X.xe s:=by
 refine cP (m j s d H _ I h) λv p ⟨x,l,q,r,t⟩=>?_;refine cP (n j p d l _ q t) λu k ⟨y,e,w,z,A⟩=>?_;exact o v u k x y e w r z A
def gC{d:Operator}{r:R2}(e:OpR X (binaryOp d) r)(f:PE X a ta)(g:PE X b tb):PE X (.BinOp a d b pos) (sG r ta tb):=by
 intro i s j H Q I h;exact wpAny_BinOp (pN f g I h λv u k x y l m n o q=>e i k j l x y v u Q m n o q)
def u6{d:UnaryOp}{r:V->Hp->VK->Prop}(g:AH X (unaryOp d) r)(i:PE X a ta):PE X (.UnaryOp d a pos) (Hr r ta):=by
 intro e s f H Q I h;exact UnaryOp_ (cP (i e s f H _ I h) λv j ⟨x,k,l,m,n⟩=>g e j f k x v Q l m n)
def FZ{f:Vl->Vl->Sem Vl}{C:Int->Int->Prop}{g:Int->Int->Int}
  (rule: ∀(i j:Int) (t u:Tok) (s:Sh) (Q:VP) (E:VP),C i j->Q (.int (g i j) s.toks) {s with toks:=s.toks+1}->wpAny (model X.prog X.w) X.A (f (.int i t) (.int j u)) Q E s):
  OpR X f (rI C λi j=> .int (g i j)):=by
 intro m s n H x y v u Q I d e h;obtain⟨i,j,rfl,rfl,k,q⟩:=h;obtain⟨t,rfl⟩:=d;obtain⟨l,rfl⟩:=e;exact rule i j t l s _ _ k ⟨.int (g i j),H,I.tok _,⟨_,rfl⟩,q⟩
def yM{f:Vl->Vl->Sem Vl}{g:Int->Int->Int}
  (rule: ∀(i j:Int) (t u:Tok) (s:Sh) (Q:VP) (E:VP),Q (.int (g i j) s.toks) {s with toks:=s.toks+1}->wpAny (model X.prog X.w) X.A (f (.int i t) (.int j u)) Q E s):
  OpR X f (t9 λi j=> .int (g i j)):=by
 intro l s m H x y v u Q I d e h;obtain⟨i,j,rfl,rfl,q⟩:=h;obtain⟨t,rfl⟩:=d;obtain⟨k,rfl⟩:=e;exact rule i j t k s _ _ ⟨.int (g i j),H,I.tok _,⟨_,rfl⟩,q⟩
def u4{f:Vl->Vl->Sem Vl}{g:Int->Int->Bool}
  (rule: ∀(i j:Int) (t u:Tok) (s:Sh) (Q:VP) (E:VP),Q (.bool (g i j)) s->wpAny (model X.prog X.w) X.A (f (.int i t) (.int j u)) Q E s):
  OpR X f (t9 λi j=> .bl (g i j)):=by
 intro l s m H x y v u Q I d e h;obtain⟨i,j,rfl,rfl,q⟩:=h;obtain⟨t,rfl⟩:=d;obtain⟨k,rfl⟩:=e;exact rule i j t k s _ _ ⟨.bl (g i j),H,I,rfl,q⟩
def Be(i j:Int):Prop:=0<j/\j<1073741824
def yg:OpR X (binaryOp .Add) (t9 λi j=> .int (i+j)):=yM λ_ _ _ _ _ _ _ q=>add_int q
def yI:OpR X (binaryOp .FloorDiv) (rI Be λi j=> .int (i/j)):=FZ λi j _ _ _ _ _ d q=>by
 have e:(0:Int)<j:=d.1;have f:j<1073741824:=d.2;exact floordiv_int (by lia) (by rw[Int.fdiv_eq_ediv_of_nonneg i (by lia)];exact q) (.inl (PyProof.noPylong_small (by lia)))
def kS:OpR X (binaryOp .Mod) (rI (λ_ j=>0<j) λi j=> .int (i%j)):=FZ λi j _ _ _ _ _ d q=>by
 have e:(0:Int)<j:=d;exact mod_int' (by lia) (by rw[Int.fmod_eq_emod_of_nonneg i (by lia)];exact q)
def Mp{f:Vl->Sem Vl}{g:Int->Int}
  (rule: ∀(i:Int) (t:Tok) (s:Sh) (Q:VP) (E:VP),Q (.int (g i) s.toks) {s with toks:=s.toks+1}->wpAny (model X.prog X.w) X.A (f (.int i t)) Q E s):
  AH X f (rU λi=> .int (g i)):=by
 intro e s j H x v Q I d h;obtain⟨i,rfl,q⟩:=h;obtain⟨t,rfl⟩:=d;exact rule i t s _ _ ⟨.int (g i),H,I.tok _,⟨_,rfl⟩,q⟩
def Gg:AH X (unaryOp .USub) (rU λi=> .int (-i)):=Mp λ_ _ _ _ _ q=>neg_int q
end
def zh:V->V->Bool
 | .non,.non=>true| .non,.int _=>true| .int _,.non=>true| .non,.bl _=>true| .bl _,.non=>true| .non,.str _=>true| .str _,.non=>true
 | .int _,.int _=>true| .bl _,.bl _=>true| .str _,.str _=>true| .byt _,.byt _=>true
 | .int _,.str _=>true| .str _,.int _=>true| .bl _,.str _=>true| .str _,.bl _=>true
 |_,_=>false
def Hw:R2:=λx y H Q=>zh x y=true/\Q (.bl (decide (x=y))) H
def MP{i j:Int}:decide (V.int i=V.int j)=(i==j):=by
 rw[iZ];simp
def Jg{i j:Bool}:decide (V.bl i=V.bl j)=(i==j):=by
 rw[iZ];simp
def LF{i j:Str}:decide (V.str i=V.str j)=(i==j):=by
 rw[iZ];simp
def GV{i j:Array UInt8}:decide (V.byt i=V.byt j)=(i.toList==j.toList):=by
 rw[iZ];cases i;cases j;simp
section
variable{X:Cx}{a b c:Expr}{ta tb tc:TE}{pos:Pos}
def il{d:AO}{f:St}{H:Hp}{s:Sh}{Q:VK}{k g:Bool}(I:Inv X d f H s)(q:Q (.bl k) H)(e:k=g):EP X d f Q (.bool g) s:=by
 subst e;exact⟨.bl k,H,I,rfl,q⟩
def Fb:OpR X (compareOp .Eq) Hw:=by
 intro k s l H x y v u Q I g d h;obtain⟨f,q⟩:=h;cases x with
 |non=>
  cases g;cases y with
  |non=>cases d;exact PySem.EqNone.eq_none_none (il I q (by simp))
  |bl j=>cases d;exact PySem.EqNone.eq_none_bool (il I q (by simp))
  |int j=>obtain⟨e,rfl⟩:=d;exact PySem.EqNone.eq_none_int (il I q (by simp))
  |str j=>obtain⟨e,rfl⟩:=d;exact PySem.EqNone.eq_none_str (il I q (by simp))
  |_=>exact wC (show false=true from f) gy
 |bl i=>
  cases g;cases y with
  |non=>cases d;exact PySem.EqNone.eq_bool_none (il I q (by simp))
  |bl j=>cases d;exact eq_bool (il I q Jg)
  |str j=>obtain⟨e,rfl⟩:=d;exact PySem.EqMixed.eq_bool_str (il I q (by simp))
  |_=>exact wC (show false=true from f) gy
 |int i=>
  obtain⟨t,rfl⟩:=g;cases y with
  |non=>cases d;exact PySem.EqNone.eq_int_none (il I q (by simp))
  |int j=>obtain⟨e,rfl⟩:=d;exact eq_int (il I q MP)
  |str j=>obtain⟨e,rfl⟩:=d;exact PySem.EqMixed.eq_int_str (il I q (by simp))
  |_=>exact wC (show false=true from f) gy
 |str i=>
  obtain⟨t,rfl⟩:=g;cases y with
  |non=>cases d;exact PySem.EqNone.eq_str_none (il I q (by simp))
  |bl j=>cases d;exact PySem.EqMixed.eq_str_bool (il I q (by simp))
  |int j=>obtain⟨e,rfl⟩:=d;exact PySem.EqMixed.eq_str_int (il I q (by simp))
  |str j=>obtain⟨e,rfl⟩:=d;exact eq_str (il I q LF)
  |_=>exact wC (show false=true from f) gy
 |byt i=>
  obtain⟨t,rfl⟩:=g;cases y with
  |byt j=>obtain⟨e,rfl⟩:=d;exact PySem.W.eq_bytes (il I q GV)
  |_=>exact wC (show false=true from f) gy
 |_=>cases y<;>exact wC (show false=true from f) gy
def vN:OpR X (compareOp .Lt) (t9 λi j=> .bl (decide (i<j))):=u4 λ_ _ _ _ _ _ _ q=>lt_int q
def qi:OpR X (compareOp .Gt) (t9 λi j=> .bl (decide (j<i))):=u4 λ_ _ _ _ _ _ _ q=>gt_int q
def HF:OpR X (compareOp .Is) (λx y H Q=>y= .non/\Q (.bl (decide (x= .non))) H):=by
 intro f s g H x y v u Q I d e h;obtain⟨rfl,q⟩:=h;cases e;refine is_none_gen (il I q ?_);cases x<;>first
  |(cases d;rfl)
  |(obtain⟨t,rfl⟩:=d;rfl)
def Ff:OpR X (compareOp .IsNot) (λx y H Q=>y= .non/\Q (.bl (!decide (x= .non))) H):=by
 intro f s g H x y v u Q I d e h;obtain⟨rfl,q⟩:=h;cases e;refine isnot_none_gen (il I q ?_);cases x<;>first
  |(cases d;rfl)
  |(obtain⟨t,rfl⟩:=d;rfl)
def fT(b:Expr){d:CmpOp}(h:d≠ .In:=by decide)(e:d≠ .NotIn:=by decide):behindInMarks d b=false:=by
 have f:(d==CmpOp.In)=false:=by cases d<;>first|rfl|exact wC rfl h
 have g:(d==CmpOp.NotIn)=false:=by cases d<;>first|rfl|exact wC rfl e
 cases b<;>simp[behindInMarks,f,g]
def ut{d:CmpOp}{r:R2}(e:OpR X (compareOp d) r)(f:PE X a ta)(g:PE X b tb)(i:behindInMarks d b=false):PE X (.Compare a [d] [b] pos) (sG r ta tb):=by
 intro j s k H Q I h;exact wpAny_Compare1 (pN f g I h λv u l x y m n o p q=>e j l k m x y v u Q n o p q) i
def u8(t:TE):TT:=λd H Q=>t d H λx e=> ∃k,x= .bl k/\Q k e
def gq{d:CmpOp}{r:R2}(i:OpR X (compareOp d) r)(j:PE X a ta)(l:PE X b tb)(m:behindInMarks d b=false):PT X (.Compare a [d] [b] pos) (u8 (sG r ta tb)):=by
 intro f s g H Q I h;refine wpAny_isTrue_Compare1 (cP (j f s g H _ I h) λv n ⟨x,o,p,q,t⟩=>cP (l f n g o _ p t) λu w ⟨y,A,B,C,D⟩=>
  cP (i f w g A x y v u _ B q C D) λc M ⟨z,E,G,J,k,e,L⟩=>?_) m
 subst e;cases J;exact n7 ⟨E,G,L⟩
def pO(K:W.Frag)(x:V)(H:Hp)(k:Bool):Prop:=
 match x with
 | .non=>k=false
 | .bl b=>k=b
 | .int i=>k=(i != 0)
 | .str y=>y.length<=sizeLine/\k=((y.length:Int) != 0)
 | .byt y=>y.size<=sizeLine/\k=((y.size:Int) != 0)
 | .ref p=>(∃d,SqL K H p d/\k= !d.isEmpty)∨(∃d,SqT K H p d/\k= !d.isEmpty)∨ ∃e,H p=some (.dK e)/\k= !e.isEmpty
 |_=>False
def LC{e:Type}{d:List (e×V)}{f:List (e×Vl)}(r:KV d f):(!f.isEmpty)= !d.isEmpty:=by
 cases r<;>rfl
def Ef{e:List V}{d:Vs}(r:Vals e d):(!d.toArray.isEmpty)= !e.isEmpty:=by
 cases r<;>simp
def uW:(sizeLine:Nat)<2 ^ 63:=by rw[dC];decide
def MH:Bf X (λx H Q=> ∃k,pO X.K x H k/\Q k H):=by
 intro C s D H x v Q I l h;obtain⟨k,e,q⟩:=h;have E:=uW;have G:sizeLine=16777216:=dC;cases x with
 |non=>
  cases l;have d:k=false:=e;subst d;exact truthy_none ⟨H,I,q⟩
 |bl b=>
  cases l;have d:k=b:=e;subst d;exact n7 ⟨H,I,q⟩
 |int i=>
  obtain⟨t,rfl⟩:=l;have d:k=(i != 0):=e;subst d;exact PySem.P.truthy_int ⟨H,I,q⟩
 |str y=>
  obtain⟨t,rfl⟩:=l;obtain⟨A,d⟩:y.length<=sizeLine/\k=((y.length:Int) != 0):=e;subst d;exact PySem.P.truthy_str (by lia) ⟨H,I.tok _,q⟩
 |byt y=>
  obtain⟨t,rfl⟩:=l;obtain⟨A,d⟩:y.size<=sizeLine/\k=((y.size:Int) != 0):=e;subst d;exact PySem.W.truthy_bytes (by lia) ⟨H,I.tok _,q⟩
 | ref p=>
  cases l;have d:(∃j,SqL X.K H p j/\k= !j.isEmpty)∨(∃j,SqT X.K H p j/\k= !j.isEmpty)∨ ∃f,H p=some (.dK f)/\k= !f.isEmpty:=e
  rcases d with⟨j,n,d⟩|⟨j,n,d⟩|⟨f,n,d⟩
  .subst d;obtain⟨u,r,w,z⟩:=I.list n;have g:=r.length;exact wpAny_truthy_list w.isList (by simp only[List.size_toArray];lia) ⟨H,I.tok _,by rw[Ef r];exact q⟩
  .subst d;obtain⟨u,r,w,z⟩:=I.tuple n;have g:=r.length;exact truthy_tuple w (by simp only[List.size_toArray];lia) ⟨H,I.tok _,by rw[Ef r];exact q⟩
  .subst d;obtain⟨z,B,o,r,m⟩:f.length<=sizeLine/\(p==sysModules)=false/\ ∃o,KV f o/\s.heap.DictOf (je X.prog X.w) p o:=I.hok p _ n;have g:f.length=o.length:=nq r;exact wpAny_truthy_dict B m (by lia) ⟨H,I.tok _,by rw[LC r];exact q⟩
 |_=>exact(show False from e).elim
def Ct(i:PE X a ta)(j: ∀d,isTrue a X.env d=(do let v <-d;standAt a.pos;holding [v] (truthy v))):
  PT X a (λe H Q=>ta e H λx f=> ∃k,pO X.K x f k/\Q k f):=by
 intro g s e H Q I h;exact isTrue_plain (cP (i g s e H _ I h) λv l ⟨x,m,n,o,p⟩=>MH g l e m x v Q n o p) (j _)
def ig{x:V}{d:Vs}(r:Vals [x] d): ∃u,d=[u]/\RelV x u:=by
 cases r with
 |cons e f=>cases f;exact⟨_,rfl,e⟩
def uZ{x y:V}{d:Vs}(r:Vals [x,y] d): ∃u e,d=[u,e]/\RelV x u/\RelV y e:=by
 cases r with
 |cons f g=>
  cases g with
  |cons h i=>cases i;exact⟨_,_,rfl,f,h⟩
end
structure ObjM(h:Heap)(x dx C:Ad)(mA:SV):Prop where
 obj:h.get? x=some (PySem.W.instObj C dx)
 ns:h.Ns1 dx mA
 ne:dx≠x
def Hq{h:Heap}{c:Ad}{d:SV}(n:h.Ns1 c d): ∃f,h.get? c=some f/\ ∀name,PySem.W.lookIn name f=some (d name):=by
 obtain⟨o,g,r,i,j,k,_,l⟩:=n;refine⟨o,i,λname=>?_⟩;have e:=l name;unfold nsFind findBy at e;rw[<-Array.find?_toList]at e;unfold PySem.W.lookIn;rw[j];dsimp only;split
 .rename_i y q
  rw[q]at e;exact dL some e
 .rename_i q
  rw[q]at e;have a:g.toList.any (·.refKey)=false:=by
   rw[vz];intro y m;obtain⟨z,t,b⟩:=k y (zw.mp m);simp[DictEntry.refKey,b]
  have p: ¬g.toList.any (·.refKey)=true:=by rw[a];exact gy
  rw[wA p];exact dL some e
def ObjM.look{h:Heap}{x b C:Ad}{c:SV}(I:ObjM h x b C c): ∃a,PySem.W.InstAt h x (PySem.W.instObj C b) C (some a)/\ ∀name,PySem.W.lookIn name a=some (c name):=
 let⟨a,d,e⟩:=Hq I.ns
 ⟨a,⟨I.obj,rfl,rfl,d⟩,e⟩
section
variable{prog:Pg}{w:World}{A:Ar}{E:VP}{s:Sh}{K:W.Frag}{x dx C f:Ad}{mA:SV}{name:Str}{v:Vl}
def Hn{a:Bool}{Q:VP}(X:K.In s.heap)(I:ObjM s.heap x dx C mA)(c:PySem.W.plainGet K C name=true)(d:PySem.W.hasDictIn K C=true)
  (e:PySem.W.findIn K (.ref C) name=some none) (g:mA name=some v) (b:PySem.W.handedIn v=true) (h:Q v {s with toks:=s.toks+1}):
  wpAny (model prog w) A (getAttr (.ref x) name a) Q E s:=by
 obtain⟨j,J,i⟩:=I.look;exact PySem.W.get_value X J (Ap c).1 (PySem.W.findObj_own d e rfl (by rw[i,g])) b h
def LU{b:Sem Bool}{Q:Vl×Vs->Sh->Prop}(X:K.In s.heap)(I:ObjM s.heap x dx C mA)(a:PySem.W.plainGet K C name=true)
  (c:PySem.W.findIn K (.ref C) name=some (some (.ref f))) (ht:PySem.W.isFn K (.ref f)=true) (d:mA name=none) (h:Q (.ref f,[.ref x]) s):
  wpAny (model prog w) A (getMethod (.ref x) name b) Q E s:=by
 obtain⟨e,J,g⟩:=I.look;exact PySem.W.method_fn X J (Ap a).1 (Ap a).2 c (lZ.mp ht) (by show(PySem.W.lookIn name e).map (·.isSome)=some false;rw[g,d];rfl) h
def Lr{l:Ss}{Q:Unit->Sh->Prop}(X:K.In s.heap)(I:ObjM s.heap x dx C mA)
  (m:PySem.W.findIn K (.ref C) "__setattr__"=some (some (.builtin "object.__setattr__"))) (n:PySem.W.plainOver K C=true) (ht:PySem.W.takerIn K C name=some none) (o:PySem.W.hasDictIn K C=true)
  (hw:PySem.Within mA l) (p:l.length<=sizeLine)
  (h: ∀e,ObjM e x dx C (λy=>if y=name then some v else mA y)->Heap.SameBut dx s.heap e->Q () {s with heap:=e,toks:=s.toks+2}):
  wpAny (model prog w) A (setAttr (.ref x) name v) Q E s:=by
 obtain⟨B,J,D⟩:=I.look;refine PySem.W.set_plain X J m (PySem.W.osa_open (s:={s with toks:=s.toks+1}) (r:=none) X J n ht λb=>?_);obtain⟨G,q,g⟩:=PySem.W.any_some o;have t:s.heap.get? x=some ⟨.ref C,some dx,.plain,#[]⟩:=I.obj;refine cy (cG (cy (cy (wpAny_loadPart t (cy (PySem.W.Looks.here (s:={s with toks:=s.toks+1}) (PySem.W.looks_clsIn X q) ?_))))));rw[g];refine cG (a:=some dx) (cy (cG (cy ?_)));refine wpAny_nsSet1 (s:={s with toks:=s.toks+1}) I.ns λe c d=>?_;obtain⟨H,u,z,i,j,k⟩:=c.count (PySem.Within.cons name v hw);refine cy (wpAny_lookBehind i (by rw[j];exact pastItsLine_dict (dE k (by rw[jz];lia))) ?_);exact cG (h _ ⟨(d.2 _ (eJ I.ne)).trans I.obj,c,I.ne⟩ d)
def JV{R:Result->Sh->Prop}{a:Vs}{b:List (Str×Vl)}(X:K.In s.heap)(c:PySem.W.makesIn K C=true)
    (e:PySem.W.findIn K (.ref C) "__init__"=some (some (.ref f))) (i:PySem.W.typeIn K (.ref f)=some (.type "function"))
    (h:codeAny (model prog w) (A.under (.builtin "type.__call__" ⟨.ref C::a,b⟩)) (.call (.ref f) ⟨.ref (s.heap.objs.size+1)::a,b⟩) (PySem.W.InitBack (s.heap.objs.size+1) R)
      {s with heap:=(s.heap.push PySem.W.emptyDict).push (PySem.W.instObj C s.heap.objs.size)}):
    codeAny (model prog w) A (.call (.ref C) ⟨a,b⟩) R s:=by
  obtain⟨j,g,d,t,os⟩:=s;exact PySem.W.make_core (PySem.W.makes_of X c) (PySem.W.looks_findIn X e) (λself=>PySem.W.bind_fn X self i) (.inl rfl) h
end
def dM(f:Str)(v:V):List (Str×V)->List (Str×V)
 | []=>[(f,v)]
 |(g,x)::r=>if g=f then(g,v)::r else(g,x)::dM f v r
theorem FW(f g:Str)(v:V): ∀fs:List (Str×V),(dM f v fs).lookup g=if g=f then some v else fs.lookup g
 | []=>by
  show List.lookup g [(f,v)]=_;by_cases h:g=f
  .have a:(g==f)=true:=lZ.mpr h;simp only[List.lookup,a,wB h]
  .have a:(g==f)=false:=mO.mpr h;simp only[List.lookup,a,wA h]
 | (k,x)::r=>by
  have c:=FW f g v r;rw[show dM f v ((k,x)::r)=(if k=f then(k,v)::r else(k,x)::dM f v r)from rfl];by_cases b:k=f
  .rw[wB b];by_cases h:g=k
   .have a:(g==k)=true:=lZ.mpr h;simp only[List.lookup,a,wB (h.trans b)]
   .have a:(g==k)=false:=mO.mpr h;simp only[List.lookup,a,wA (λe:g=f=>h (e.trans b.symm))]
  .rw[wA b];by_cases h:g=k
   .have a:(g==k)=true:=lZ.mpr h;simp only[List.lookup,a,wA (λe:g=f=>b (h.symm.trans e))]
   .have a:(g==k)=false:=mO.mpr h;simp only[List.lookup,a];exact c
theorem AU(f:Str)(v:V): ∀fs:List (Str×V),f∈(dM f v fs).map (·.1)/\ ∀g,g∈fs.map (·.1)->g∈(dM f v fs).map (·.1)
 | []=>⟨by simp[dM],λg h=>by simp at h⟩
 | (k,x)::r=>by
  obtain⟨b,c⟩:=AU f v r;rw[show dM f v ((k,x)::r)=(if k=f then(k,v)::r else(k,x)::dM f v r)from rfl];by_cases a:k=f
  .rw[wB a];subst a;exact⟨by simp,λg h=>by simpa using h⟩
  .rw[wA a];refine⟨?_,λg h=>?_⟩
   .rw[gv];exact fc _ b
   .rw[gv]at h⊢
    rcases dQ.mp h with e|e
    .exact dQ.mpr (.inl e)
    .exact fc _ (c g e)
theorem C8(f:Str)(v:V): ∀fs:List (Str×V),(dM f v fs).length<=fs.length+1
 | []=>by simp[dM]
 |(k,x)::r=>by
  have b:=C8 f v r;rw[show dM f v ((k,x)::r)=(if k=f then(k,v)::r else(k,x)::dM f v r)from rfl];by_cases a:k=f
  .rw[wB a,jz,jz];lia
  .rw[wA a,jz,jz];lia
def RelO.some_of{v:V}{o:Option Vl}(r:RelO (some v) o): ∃u,o=some u/\RelV v u:=by
 cases o with
 |none=>exact(show False from r).elim
 |some u=>exact⟨u,rfl,r⟩
def RelO.none_of{o:Option Vl}(r:RelO none o):o=none:=by
 cases o with
 |none=>rfl
 |some u=>exact(show False from r).elim
def J0{v:V}{u:Vl}(r:RelV v u):PySem.W.handedIn u=true:=by
 cases v with
 |non=>cases(show u=Value.none from r);rfl
 |bl b=>cases(show u=Value.bool b from r);rfl
 |int i=>obtain⟨t,e⟩:=(show ∃t,u=Value.int i t from r);cases e;rfl
 |str x=>obtain⟨t,e⟩:=(show ∃t,u=Value.str x t from r);cases e;rfl
 |byt b=>obtain⟨t,e⟩:=(show ∃t,u=Value.bytes b t from r);cases e;rfl
 |flt b=>obtain⟨t,e⟩:=(show ∃t,u=Value.float b t from r);cases e;rfl
 |ref a=>cases(show u=Value.ref a from r);rfl
 |ty n=>cases(show u=Value.type n from r);rfl
section
variable{P:Pg}{w:World}{H H':Hp}{h h':Heap}{a C dx:Ad}{fs fs':List (Str×V)}
def vy(c:HOk P w H h)(e:H a=some (.ins C dx fs)): ∃b,ObjM h a dx C b/\(∀f,RelO (fs.lookup f) (b f))/\PySem.Within b (fs.map (·.1))/\fs.length<=1000/\H dx=some (.own a):=by
 obtain⟨d,z,g,i,b,n,r,q⟩:=(show ObjOk P w H h a (.ins C dx fs)from c a _ e);exact⟨b,⟨i,n,g⟩,r,q,z,d⟩
end
structure Cls(K:W.Frag)(C:Ad):Prop where
 pg:PySem.W.plainGet K C Str.empty=true
 hd:PySem.W.hasDictIn K C=true
 po:PySem.W.plainOver K C=true
 sa:PySem.W.findIn K (.ref C) "__setattr__"=some (some (.builtin "object.__setattr__"))
def Cls.get{K:W.Frag}{C:Ad}(c:Cls K C)(f:Str):PySem.W.plainGet K C f=true:=c.pg
def NoAttr(K:W.Frag)(C:Ad)(f:Str):Prop:=PySem.W.findIn K (.ref C) f=some none
def NoAttr.taker{K:W.Frag}{C:Ad}{f:Str}(n:NoAttr K C f):PySem.W.takerIn K C f=some none:=by
 unfold PySem.W.takerIn;rw[show PySem.W.findIn K (.ref C) f=some none from n];rfl
structure Meth(K:W.Frag)(C:Ad)(m:Str)(f:Ad):Prop where
 at_:PySem.W.findIn K (.ref C) m=some (some (.ref f))
 fn:PySem.W.isFn K (.ref f)=true
 kp:PySem.W.keepIn K (.ref f)=true
section
variable{X:Cx}{za:AO}{σ:St}{H:Hp}{s:Sh}{a C dx:Ad}{fs:List (Str×V)}{f:Str}{v:V}{A:Ar}{E:VP}
def Kg{b:Bool}{Q:VP}(I:Inv X za σ H s)(e:H a=some (.ins C dx fs))(c:Cls X.K C)(n:NoAttr X.K C f)(l:fs.lookup f=some v)
  (h: ∀u d,Inv X za σ H d->RelV v u->Q u d):wpAny (model X.prog X.w) A (getAttr (.ref a) f b) Q E s:=by
 obtain⟨i,O,r,_,_,_⟩:=vy I.hok e;obtain⟨u,j,g⟩:=RelO.some_of (v:=v) (o:=i f) (by rw[<-l];exact r f);exact Hn I.kIn O (c.get f) c.hd n j (J0 g) (h u _ (I.tok _) g)
def BW{m:Str}{g:Ad}{b:Sem Bool}{Q:Vl×Vs->Sh->Prop}(I:Inv X za σ H s)(e:H a=some (.ins C dx fs))(c:Cls X.K C)(k:Meth X.K C m g)(l:fs.lookup m=none)
  (h:Q (.ref g,[.ref a]) s):wpAny (model X.prog X.w) A (getMethod (.ref a) m b) Q E s:=by
 obtain⟨d,O,r,_,_,_⟩:=vy I.hok e;have i:d m=none:=RelO.none_of (by rw[<-l];exact r m);exact LU I.kIn O (c.get m) k.at_ k.fn i h
def II{y:V}{u:Vl}{Q:Unit->Sh->Prop}(I:Inv X za σ H s)(e:H a=some (.ins C dx fs))(c:Cls X.K C)(n:NoAttr X.K C f)(L:fs.length<1000)(m:RelV y u)
  (h: ∀i,Inv X za σ (cw H a (.ins C dx (dM f y fs))) i->Q () i):wpAny (model X.prog X.w) A (setAttr (.ref a) f u) Q E s:=by
 obtain⟨j,O,r,k,_,l⟩:=vy I.hok e;have p:(fs.map (·.1)).length<=sizeLine:=by rw[cz,dC];lia
 refine Lr I.kIn O c.sa c.po n.taker c.hd k p λt d w=>h _ ?_;have B: ∃o,t.get? dx=some o:=let⟨o,_,_,D,_⟩:=d.ns;⟨o,D⟩
 refine I.write (x:=a) (e:=dx) (by rw[e];exact True.intro) (.inr l) (λb q G z=>(w.2 b G).trans z) B ?_;refine⟨by rw[cF O.ne];exact l,?_,O.ne,d.obj,_,d.ns,λg=>?_,λg J=>?_⟩
 .have:=C8 f y fs;lia
 .show RelO ((dM f y fs).lookup g) (if g=f then some u else j g);rw[FW];by_cases q:g=f
  .rw[wB q,wB q];exact m
  .rw[wA q,wA q];exact r g
 .by_cases q:g=f
  .rw[q];exact(AU f y fs).1
  .refine(AU f y fs).2 g (k g λz=>J ?_);show(if g=f then some u else j g)=none;rw[wA q];exact z
def Inv.made(I:Inv X za σ H s):Inv X za σ (cw (cw H s.heap.objs.size (.own (s.heap.objs.size+1))) (s.heap.objs.size+1) (.ins C s.heap.objs.size []))
    {s with heap:=(s.heap.push PySem.W.emptyDict).push (PySem.W.instObj C s.heap.objs.size)}:=by
  have c:(s.heap.push PySem.W.emptyDict).get? s.heap.objs.size=some PySem.W.emptyDict:=eO s.heap rfl;have g:((s.heap.push PySem.W.emptyDict).push (PySem.W.instObj C s.heap.objs.size)).get? (s.heap.objs.size+1)=some (PySem.W.instObj C s.heap.objs.size):=by
    have:=eO (s.heap.push PySem.W.emptyDict) (o:=PySem.W.instObj C s.heap.objs.size) rfl;rwa[n']at this
  have h:(s.heap.push PySem.W.emptyDict).Ns s.heap.objs.size (λ_=>none):=⟨PySem.W.emptyDict,#[],_,c,rfl,(λe i=>wC i (by simp)),λ_=>rfl⟩;have j:=I.laid (a:=s.heap.objs.size) (o:= .own (s.heap.objs.size+1)) (h':=s.heap.push PySem.W.emptyDict) (t':=s.toks) (λb u q=>dI _ q) (cM _) ⟨_,c⟩;refine j.laid (a:=s.heap.objs.size+1) (o:= .ins C s.heap.objs.size []) (t':=s.toks) (λb u q=>dI _ q) (nH (n' _ _)) ?_;have d:s.heap.objs.size≠s.heap.objs.size+1:=dS (om _);refine⟨by rw[cF d,cC],hJ _,d,g,λ_=>none,(Heap.Ns1.of_empty h).at λo q=>dI _ q,λ_=>True.intro,λy k=>wC rfl k⟩
def GZ{b:Pg}{w:World}{c:Env}{e:Expr}{f:Str}{pos:Pos}{s:Sh}{Q:VP}(g:attributeBase e f c (eval e c)=eval e c)
  (h:wpAny (model b w) A (eval e c) (λo d=>wpAny (model b w) A (getAttr o f true) Q E d) E s):wpAny (model b w) A (eval (.Attribute e f pos) c) Q E s:=
 Attribute_any_ h (by rw[arm_eval_Attribute,g])
end
def zt(K:W.Frag)(c:TE)(f:Str):TE:=λd H Q=>c d H λx b=> ∃a C e fs v,x= .ref a/\b a=some (.ins C e fs)/\Cls K C/\NoAttr K C f/\fs.lookup f=some v/\Q v b
def Av(K:W.Frag)(e g:TE)(f:Str):TS:=λD b H=>g b H λy h=>e b h λx c=> ∃a C d fs,x= .ref a/\c a=some (.ins C d fs)/\Cls K C/\NoAttr K C f/\fs.length<1000/\
 D.nx b (cw c a (.ins C d (dM f y fs)))
section
variable{X:Cx}{o e value:Expr}{f:Str}{pos pos' tpos:Pos}{ta tv:TE}
def gX(b:PE X e ta)(d:attributeBase e f X.env (eval e X.env)=eval e X.env):PE X (.Attribute e f pos) (zt X.K ta f):=by
 intro g s i H Q I h;refine GZ d (cP (b g s i H _ I h) λu y ⟨x,j,k,m,a,C,z,fs,v,p,r,c,n,l,q⟩=>?_);subst p;obtain rfl:u=Value.ref a:=m;exact Kg k r c n l λA B t w=>⟨v,j,t,w,q⟩
def oY(g:PE X o ta)(i:PE X value tv)(j:swapsWith value (some (.Attribute o f pos')) pos.line X.env=pure false):PS X (.Assign [.Attribute o f pos'] value pos) (Av X.K ta tv f):=by
 intro d s b H D I h;refine plainObj_wpAny_Assign_Attribute (cP (i d s b H _ I h) λu k ⟨y,m,p,r,q⟩=>cP (g d k b m _ p q) λt G ⟨x,J,v,w,a,C,L,fs,z,A,c,n,l,B⟩=>?_) j;subst z;obtain rfl:t=Value.ref a:=w;exact II v A c n l r λM E=>⟨b,_,E,B⟩
end
section
variable{X:Cx}{za:AO}{σ:St}{H:Hp}{s:Sh}{A:Ar}{E:VP}{Q:VP}{c:Vl}{b:Bool}
inductive TyOf (K:W.Frag) (H:Hp):V->Vl->Prop where
 |non:TyOf K H .non (.type "NoneType")
 |bl (x:Bool):TyOf K H (.bl x) (.type "bool")
 |int (i:Int):TyOf K H (.int i) (.type "int")
 |str (x:Str):TyOf K H (.str x) (.type "str")
 |flt (x:UInt64):TyOf K H (.flt x) (.type "float")
 |lst {a:Ad} {xs:List V} (e:H a=some (.lst xs)):TyOf K H (.ref a) (.type "list")
 |frz {a:Ad} {o:Obj} {xs:List V} (e:H a=some (.frz o (.lst xs))):TyOf K H (.ref a) (.type "list")
 |tup {a:Ad} {xs:List V} (e:H a=some (.tup xs)):TyOf K H (.ref a) (.type "tuple")
 |dK {a:Ad} {kvs:List (dr×V)} (e:H a=some (.dK kvs)):TyOf K H (.ref a) (.type "dict")
 |dT {a:Ad} {kvs:List (List dr×V)} (e:H a=some (.dT kvs)):TyOf K H (.ref a) (.type "dict")
 | ins {a C dx:Ad} {fs:List (Str×V)} (e:H a=some (.ins C dx fs)) (cl:Cls K C) (ha:PySem.W.findIn K (.ref C) "__class__"=some (some (.builtin "object.__class__")))
   (hn:PySem.W.specialIn K (.builtin "object.__class__") "__get__"=some (some (.builtin "getset_descriptor.__get__"))) (htk:PySem.W.takesIn K (.builtin "object.__class__")=some true)
   (hm:PySem.W.mroIn K C (.type "object")=some true):TyOf K H (.ref a) (.ref C)
def GG{x:V}{u t:Vl}(I:Inv X za σ H s)(d:RelV x u)(ty:TyOf X.K H x t)(e:PySem.W.kitOne X.K t c=some b)(h: ∀v,Q (.bool b) {s with toks:=v}):
  wpAny (model X.prog X.w) A (call (.builtin "isinstance") [u,c]) Q E s:=by
 cases ty with
 |non=>cases(show u=Value.none from d);exact lH PySem.W.kitx_none I.kIn True.intro e (λz=>nomatch z) h
 |bl y=>cases(show u=Value.bool y from d);exact lH PySem.W.kitx_bool I.kIn True.intro e (λz=>nomatch z) h
 |int i=>obtain⟨t,q⟩:=(show ∃t,u=Value.int i t from d);cases q;exact lH PySem.W.kitx_int I.kIn True.intro e (λz=>nomatch z) h
 |str y=>obtain⟨t,q⟩:=(show ∃t,u=Value.str y t from d);cases q;exact lH PySem.W.kitx_str I.kIn True.intro e (λz=>nomatch z) h
 |flt y=>obtain⟨t,q⟩:=(show ∃t,u=Value.float y t from d);cases q;exact lH PySem.W.kitx_float I.kIn True.intro e (λz=>nomatch z) h
 | @lst a k f=>
  cases(show u=Value.ref a from d);obtain⟨_,_,n,_,g⟩:=(show ObjOk X.prog X.w H s.heap a (.lst k)from I.hok a _ f);exact lH PySem.W.kitx_list I.kIn ⟨_,g,rfl⟩ e (λz=>nomatch z) h
 | @frz a w k f=>
  cases(show u=Value.ref a from d);obtain⟨_,_,_,n,_,g⟩:=(show ObjOk X.prog X.w H s.heap a (.frz w (.lst k))from I.hok a _ f);exact lH PySem.W.kitx_list I.kIn ⟨_,g,rfl⟩ e (λz=>nomatch z) h
 | @tup a k f=>
  cases(show u=Value.ref a from d);obtain⟨_,_,_,p⟩:=(show ObjOk X.prog X.w H s.heap a (.tup k)from I.hok a _ f);obtain⟨o,g,l,_⟩:=p;exact lH PySem.W.kitx_tuple I.kIn ⟨o,g,l⟩ e (λz=>nomatch z) h
 | @dK a j f=>
  cases(show u=Value.ref a from d);obtain⟨_,_,N,_,p⟩:=(show ObjOk X.prog X.w H s.heap a (.dK j)from I.hok a _ f);obtain⟨o,B,D,g,l,_⟩:=p;exact lH PySem.W.kitx_dict I.kIn ⟨o,g,l.1⟩ e (λz=>nomatch z) h
 | @dT a j f=>
  cases(show u=Value.ref a from d);obtain⟨_,_,k,_,o,B,D,g,l,_⟩:=(show ObjOk X.prog X.w H s.heap a (.dT j)from I.hok a _ f);exact lH PySem.W.kitx_dict I.kIn ⟨o,g,l.1⟩ e (λz=>nomatch z) h
 | @ins a C T fs f r G L m M=>
  cases(show u=Value.ref a from d);obtain⟨U,O,_⟩:=vy I.hok f;obtain⟨Y,J,_⟩:=O.look;exact lH (PySem.W.kitx_own (r.get _) r.hd G L m M) I.kIn J e (λz=>nomatch z) h
end
structure Room(k:Nat)(A:Ar):Prop where
 hd:A.handled=none
 dp:A.depth+3 * k+5<recursionLimit
 un:A.units+16 * k+200<cLine
def Room.mono{j k:Nat}{A:Ar}(r:Room k A)(h:j<=k):Room j A:=⟨r.hd,by have:=r.dp;lia,by have:=r.un;lia⟩
def Room.m{A:Ar}{k j:Nat}(h:Room k A)(d:j≤k:=by decide):Room j A:=h.mono d
def Room.deeper{k:Nat}{A:Ar}(r:Room (k+1) A)(a:Env):Room k (A.deeper a):=
 ⟨r.hd,by have:=r.dp;show A.depth+1+3 * k+5<_;lia,by have:=r.un;show A.units+3+16 * k+200<_;lia⟩
def Room.in1{k:Nat}{A:Ar}(r:Room (k+1) A):Room k A.in1:=
 ⟨r.hd,by have:=r.dp;show A.depth+3 * k+5<_;lia,by have:=r.un;show A.units+1+16 * k+200<_;lia⟩
def Ml{A:Ar}{C:Ad}{a:Vs}{b:List (Str×Vl)}:(A.under (.builtin "type.__call__" ⟨.ref C::a,b⟩)).depth=A.depth+1:=by
 first|rfl|simp[Around.under,Code.weight,Code.isCreation,Code.isGuard,Code.isCaller,Code.frames,Code.isFrame,guardIds]
def IB{A:Ar}{C:Ad}{a:Vs}{b:List (Str×Vl)}:(A.under (.builtin "type.__call__" ⟨.ref C::a,b⟩)).units=A.units+1:=by
 first|rfl|simp[Around.under,Code.cUnits,Code.frames,Code.isFrame]
def Room.make{k:Nat}{A:Ar}(r:Room (k+1) A)(C:Ad)(a:Vs)(b:List (Str×Vl)):Room k (A.under (.builtin "type.__call__" ⟨.ref C::a,b⟩)):=
 ⟨r.hd,by have:=r.dp;rw[Ml];lia,by have:=r.un;rw[IB];lia⟩
def Room.depth{k:Nat}{A:Ar}(r:Room k A):A.depth<recursionLimit:=by have:=r.dp;lia
def Room.units{k:Nat}{A:Ar}(r:Room k A):A.units+64<cLine:=by have:=r.un;lia
def jd:TA:=λ_ H Q=>Q [] H
def jo(b:TE)(c:TA):TA:=λa H Q=>b a H λx d=>c a d λe f=>Q (x::e) f
section
variable{X:Cx}{e:Expr}{es:List Expr}{te:TE}{t:TA}{pos:Pos}
def cI:PA X [] jd:=λ_ _ _ _ H Q I h=>Calls.spliced_nil ⟨[],H,I,.nil,h⟩
def cJ(c:PE X e te)(d:PA X es t)(f:starEach (e::es) X.env=(false,eval e X.env)::starEach es X.env:=by rfl):PA X (e::es) (jo te t):=by
 intro pos a s b H Q I h;rw[f];show wpAny _ _ (spliced ((false,eval e X.env)::backTo pos (starEach es X.env))) _ _ s;refine Calls.spliced_cons (cP (c a s b H _ I h) λu g ⟨x,i,j,k,l⟩=>?_);exact cP (d pos a g b i _ j l) λr v ⟨m,n,o,p,q⟩=>⟨x::m,n,o,.cons k p,q⟩
def Bn(t:TA):TE:=λc H Q=>t c H λa b=>a.length<=sizeLine/\ ∀p,b p=none->Q (.ref p) (cw b p (.tup a))
def uI(t:TA):TE:=λc H Q=>t c H λa b=>a.length<=sizeLine/\ ∀p,b p=none->Q (.ref p) (cw b p (.lst a))
def iT{f}(h:PA X es t):PE X (.Tuple es f pos) (Bn t):=by
 intro g s i H Q I j;refine wpAny_Tuple_spliced (cP (h pos g s i H _ I j) λk a ⟨l,c,d,r,z,q⟩=>⟨by rw[<-r.length];exact z,?_⟩);have m:c a.heap.objs.size=none:=d.hok.fresh (cM _);refine⟨.ref a.heap.objs.size,cw c a.heap.objs.size (.tup l),d.laid (t':=a.toks) (λb u e=>dI _ e) (cM _) ?_,rfl,q _ m⟩;exact⟨z,k,r,⟨_,eO _ rfl,rfl,_,rfl,rfl⟩⟩
def fM(h:PA X es t):PE X (.List es pos) (uI t):=by
 intro f s g H Q I i;refine wpAny_List_spliced (cP (h pos f s g H _ I i) λj a ⟨k,c,d,r,z,q⟩=>⟨by rw[<-r.length];exact z,?_⟩);have l:c a.heap.objs.size=none:=d.hok.fresh (cM _);refine⟨.ref a.heap.objs.size,cw c a.heap.objs.size (.lst k),d.laid (t':=a.toks) (λb u e=>dI _ e) (cM _) ?_,rfl,q _ l⟩;exact⟨z,j,0,r,eO _ rfl⟩
end
abbrev Sp:=List V->Hp->VK->XK->Prop
abbrev ov:=List Env->Hp->Sh->XK->Vl->Sh->Prop
structure Env0(P:Pg)(w:World)(K:W.Frag)(mg:SV)(base:Heap)(A:Ar)(outer:List Env)(s:Sh)(H:Hp):Prop where
 frames:A.frames=some outer
 mod:Mod K mg base
 bs: ∀b o,base.get? b=some o->s.heap.get? b=some o/\H b=none
 bsz:base.objs.size<=s.heap.objs.size
 funs:s.heap.FunFrames base outer
 frf: ∀b∈iF outer,H b=none
 hok:HOk P w H s.heap
 bare:AllBare s.gens
def CE(a:List Env)(P:Pg)(w:World)(H:Hp)(s:Sh)(Q:VK)(u:Vl)(b:Sh):Prop:=
 ∃v c,b.os=s.os/\AllBare b.gens/\Un (iF a) [] H c s.heap b.heap/\HOk P w c b.heap/\RelV v u/\Q v c
def CR(c:ov)(a:List Env)(P:Pg)(w:World)(H:Hp)(s:Sh)(Q:VK)(E:XK)(r:Result)(b:Sh):Prop:=
 match r with
 | .ok (.ret u)=>CE a P w H s Q u b
 | .ok _=>False
 | .error e=>c a H s E e b
structure FnOk(P:Pg)(w:World)(K:W.Frag)(mg:SV)(base:Heap)(CX:ov)(k:Nat)(f:Ad)(fd:Fd)(ps:Ss)(sp:Sp):Prop where
 len: ∀vs H Q E,sp vs H Q E->vs.length=ps.length
 run: ∀(A:Ar) (outer:List Env) (s:Sh) (H:Hp) (args:Args) (us:Vs) (vs:List V) (Q:VK) (E:XK),Room k A->Env0 P w K mg base A outer s H->BindsTo s fd args (ps.zip us)->Vals vs us->sp vs H Q E->
  codeAny (model P w) A (.call (.ref f) args) (CR CX outer P w H s Q E) s
def Env0.make{P:Pg}{w:World}{K:W.Frag}{mg:SV}{b:Heap}{A:Ar}{a:List Env}{s:Sh}{H:Hp}(e:Env0 P w K mg b A a s H)(C:Ad)(c:Vs)(d:List (Str×Vl)):
  Env0 P w K mg b (A.under (.builtin "type.__call__" ⟨.ref C::c,d⟩)) a s H:=⟨by first|exact e.frames|(simpa[Around.under,Code.envs,Code.isFrame,pushEnvs]using e.frames),e.mod,e.bs,e.bsz,e.funs,e.frf,e.hok,e.bare⟩
def Env0.in1{P:Pg}{w:World}{K:W.Frag}{mg:SV}{b:Heap}{A:Ar}{a:List Env}{s:Sh}{H:Hp}(e:Env0 P w K mg b A a s H):
  Env0 P w K mg b A.in1 a s H:=⟨e.frames,e.mod,e.bs,e.bsz,e.funs,e.frf,e.hok,e.bare⟩
section
variable{X:Cx}{za:AO}{σ:St}{H:Hp}{s s':Sh}
def Inv.env0(I:Inv X za σ H s):Env0 X.prog X.w X.K X.mg X.base X.A X.stack s H:=
 ⟨I.ok.frames,I.ok.mod,I.bs,dE I.ok.bsz I.sz,I.stack,I.stkFree,I.hok,I.bare⟩
def Inv.after{Q:VK}{u:Vl}(I:Inv X za σ H s)(h:CE X.stack X.prog X.w H s Q u s'):EP X za σ Q u s':=by
 obtain⟨v,H',os,a,un,c,r,q⟩:=h;obtain⟨f,g,d,t,e⟩:=s';obtain rfl:e=s.os:=os;exact⟨v,H',I.call (h':=f) (g':=g) (d':=d) (t':=t) (ch:=[]) un c a (λb z=>wC z (by simp)),r,q⟩
end
def vX(b:Sp)(a:List V)(E:XK)(t:TA):TE:=λc H Q=>t c H λd e=>b (d++a) e Q E
def wQ(C:Ad)(m:Str)(e:Sp)(b:List V)(E:XK)(f:TE)(t:TA):TE:=λc H Q=>f c H λx d=> ∃a g fs,x= .ref a/\d a=some (.ins C g fs)/\fs.lookup m=none/\
 t c d λh i=>e (x::(h++b)) i Q E
def De(C:Ad)(d:Sp)(b:List V)(E:XK)(t:TA):TE:=λe H Q=>t e H λf c=> ∀x a,c x=none->c a=none->a≠x->
 d (.ref x::(f++b)) (cw (cw c a (.own x)) x (.ins C a [])) (λv g=>v= .non/\Q (.ref x) g) E
def Binds(K:W.Frag)(d:Fd)(b:Ss)(c:Vs):Prop:=
 ∀(s:Sh) (a:Vs),K.In s.heap->(a++c).length=b.length->BindsTo s d ⟨a,[]⟩ (b.zip (a++c))
def Binds.all{K:W.Frag}{c:Fd}{b:Ss}(h: ∀a:Vs,a.length=b.length->bindArgs c ⟨a,[]⟩=pure (b.zip a)):Binds K c b []:=λs a _ d=>by
 rw[gV]at d⊢;exact .of_eq (h a d)
def pS(b:ov)(X:Cx)(E:XK):Prop:= ∀(c:AO) (d:St) (H:Hp) (s:Sh) (e:Vl) (a:Sh),Inv X c d H s->b X.stack H s E e a->X.xe e a
section
variable{X:Cx}{CX:ov}{k:Nat}{f C:Ad}{fd:Fd}{ps:Ss}{sp:Sp}{dvs:List V}{ds:Vs}{E:XK}{x m:Str}{p pos apos:Pos}{e o:Expr}{es:List Expr}{ta:TE}{t:TA}
def wm{b:AO}{c:St}{H:Hp}{s:Sh}{Q:VK}{us:Vs}{vs:List V}(F:FnOk X.prog X.w X.K X.mg X.base CX k f fd ps sp)(g:Room k X.A)(i:Binds X.K fd ps ds)(j:Vals dvs ds)(l:pS CX X E)
  (I:Inv X b c H s) (r:Vals vs us) (h:sp (vs++dvs) H Q E):wpAny (model X.prog X.w) X.A (call (.ref f) us) (EP X b c Q) X.xe s:=by
 have d:Vals (vs++dvs) (us++ds):=r.append j;have n:(us++ds).length=ps.length:=by rw[<-d.length];exact F.len _ _ _ _ h
 refine uc (nI (F.run X.A X.stack s H ⟨us,[]⟩ (us++ds) (vs++dvs) Q E g I.env0 (i s us I.kIn n) d h) λr q a=>?_);cases r with
 |error e=>exact l b c H s e q I a
 |ok v=>
  cases v with
  |ret u=>exact I.after a
  |next=>exact wE a
  |brk=>exact wE a
  |cont=>exact wE a
def Hd(F:FnOk X.prog X.w X.K X.mg X.base CX k f fd ps sp)(d:Room k X.A)(g:Gl X x)(i:X.mg x=some (.ref f))(j:PySem.W.keepIn X.K (.ref f)=true)(l:Binds X.K fd ps ds)(n:Vals dvs ds)(u:pS CX X E)
  (v:PA X (e::es) t) (a:(x==("__debug__":Str))=false:=by decide) (w:starEach (e::es) X.env=(false,eval e X.env)::starEach es X.env:=by rfl) (b:(backTo pos (starEach es X.env)).any (·.1)=false:=by rfl):
  PE X (.Call (.Name x p) (e::es) [] pos) (vX sp dvs E t):=by
 intro y s z H Q I h;refine oD (vo I g i ?_ a);refine xE (h₀:=X.base) I.ok.mod.kin j (cP (v pos y s z H _ I h) λA B ⟨D,G,c,r,q⟩=>⟨c.kIn,?_⟩) w b;exact wm F d l n u c r q
def G5{g:Sem Bool}(z:PE X o ta)(c:Cls X.K C)(i:Meth X.K C m f)(F:FnOk X.prog X.w X.K X.mg X.base CX k f fd ps sp)(A:Room k X.A)(B:Binds X.K fd ps ds)(D:Vals dvs ds)(G:pS CX X E)(J:PA X (e::es) t)
  (b:starEach (e::es) X.env=(false,eval e X.env)::starEach es X.env:=by rfl) (d:(backTo pos (starEach es X.env)).any (·.1)=false:=by rfl)
  (ht:eval (.Call (.Attribute o m apos) (e::es) [] pos) X.env=(do
   let j <-eval o X.env
   standAt apos.atName
   let(f,first) <-holding [j] (getMethod j m g)
   callWith pos f first (backTo pos (starEach (e::es) X.env)) (backToKw pos (keywordEach [] X.env))):=by rfl):
  PE X (.Call (.Attribute o m apos) (e::es) [] pos) (wQ C m sp dvs E ta t):=by
 intro n s v H Q I h;refine PySem.W.methodCall_KW (pl:=g) (cP (z n s v H _ I h) λu L ⟨x,M,w,N,a,dx,fs,O,T,l,q⟩=>?_) ht;subst O;obtain rfl:u=Value.ref a:=N;refine BW w T c i l ?_;refine xE (first:=[.ref a]) (h₀:=X.base) I.ok.mod.kin i.kp (cP (J pos n L v M _ w q) λU s2 ⟨Y,H2,y,r,q2⟩=>⟨y.kIn,?_⟩) b d;exact wm (us:= .ref a::U) (vs:= .ref a::Y) F A B D G y (.cons rfl r) q2
def Mf{pl:Sem Bool}(i:PE X o ta)(c:Cls X.K C)(d:Meth X.K C m f)(F:FnOk X.prog X.w X.K X.mg X.base CX k f fd ps sp)(j:Room k X.A)(n:Binds X.K fd ps ds)(r:Vals dvs ds)(v:pS CX X E)
  (ht:eval (.Call (.Attribute o m apos) [] [] pos) X.env=(do
   let g <-eval o X.env
   standAt apos.atName
   let(f,first) <-holding [g] (getMethod g m pl)
   callWith pos f first (backTo pos (starEach [] X.env)) (backToKw pos (keywordEach [] X.env))):=by rfl):
  PE X (.Call (.Attribute o m apos) [] [] pos) (wQ C m sp dvs E ta jd):=by
 intro w s y H Q I h;refine PySem.W.methodCall_KW (pl:=pl) (cP (i w s y H _ I h) λu D ⟨x,G,b,z,a,J,fs,A,B,l,q⟩=>?_) ht;subst A;obtain rfl:u=Value.ref a:=z;refine BW b B c d l ?_;exact PySem.W.callWith_K0 (first:=[.ref a]) b.kIn d.kp (wm (us:=[.ref a]) (vs:=[.ref a]) F j n r v b (.cons rfl .nil) q)
structure Mk(K:W.Frag)(C f:Ad):Prop where
 makes:PySem.W.makesIn K C=true
 init:PySem.W.findIn K (.ref C) "__init__"=some (some (.ref f))
 fn:PySem.W.isFn K (.ref f)=true
 kp:PySem.W.keepIn K (.ref C)=true
def LO{g:AO}{i:St}{H:Hp}{s:Sh}{Q:VK}{b:Vs}{j:List V}(M:Mk X.K C f)(F:FnOk X.prog X.w X.K X.mg X.base CX k f fd ps sp)(q:Room (k+1) X.A)(w:Binds X.K fd ps ds)(y:Vals dvs ds)
  (z:pS CX X E) (I:Inv X g i H s) (r:Vals j b)
  (h: ∀x c,H x=none->H c=none->c≠x->sp (.ref x::(j++dvs)) (cw (cw H c (.own x)) x (.ins C c [])) (λv A=>v= .non/\Q (.ref x) A) E):
  wpAny (model X.prog X.w) X.A (call (.ref C) b) (EP X g i Q) X.xe s:=by
 have l:=h (s.heap.objs.size+1) s.heap.objs.size (I.hok.fresh (l6 _)) (I.hok.fresh (cM _)) (dS (om _));have d:=Inv.made (C:=C) I;have n:Vals (V.ref (s.heap.objs.size+1)::(j++dvs)) (Value.ref (s.heap.objs.size+1)::(b++ds)):= .cons rfl (r.append y);have B:(Value.ref (s.heap.objs.size+1)::b++ds).length=ps.length:=by
  have e:=n.length;rw[F.len _ _ _ _ l]at e;exact e.symm
 refine uc (JV (f:=f) I.kIn M.makes M.init (lZ.mp M.fn) (nI (F.run _ X.stack _ _ ⟨Value.ref (s.heap.objs.size+1)::b,[]⟩ (Value.ref (s.heap.objs.size+1)::(b++ds)) _ _ E (q.make C b [])
  (d.env0.make C b []) (w _ (Value.ref (s.heap.objs.size+1)::b) d.kIn B) n l) λr D a=>?_))
 cases r with
 |error e=>exact z g i _ _ e D d a
 | ok G=>
  cases G with
  |ret u=>
   obtain⟨v,J,L,N,O,T⟩:=d.after a;subst O;exact⟨N,⟨V.ref (s.heap.objs.size+1),J,L,rfl,T⟩⟩
  |next=>exact wE a
  |brk=>exact wE a
  |cont=>exact wE a
def Mn(M:Mk X.K C f)(F:FnOk X.prog X.w X.K X.mg X.base CX k f fd ps sp)(d:Room (k+1) X.A)(g:Gl X x)(i:X.mg x=some (.ref C))(j:Binds X.K fd ps ds)(l:Vals dvs ds)(n:pS CX X E)
  (u:PA X (e::es) t) (a:(x==("__debug__":Str))=false:=by decide) (v:starEach (e::es) X.env=(false,eval e X.env)::starEach es X.env:=by rfl) (b:(backTo pos (starEach es X.env)).any (·.1)=false:=by rfl):
  PE X (.Call (.Name x p) (e::es) [] pos) (De C sp dvs E t):=by
 intro w s y H Q I h;refine oD (vo I g i ?_ a);refine xE (h₀:=X.base) I.ok.mod.kin M.kp (cP (u pos w s y H _ I h) λz A ⟨B,D,c,r,q⟩=>⟨c.kIn,?_⟩) v b;exact LO M F d j l n c r q
end
structure FnScope(N P:Ss)(sc:Scope):Prop where
 kind:sc.kind= .function:=by rfl
 co:sc.isCoroutine=false:=by rfl
 gen:sc.isGenerator=false:=by rfl
 nd:N.Nodup:=by decide+kernel
 pre:N.take P.length=P:=by rfl
 par: ∀x∈P,sc.names.lookup x=some .local∨sc.names.lookup x=some .cell:=by decide+kernel
 nofree: ∀y∈sc.names,y.2≠ .free:=by decide+kernel
theorem DQ{kindOf:Str->Option NameKind}{x:Str}: ∀{binds:List (Str×Vl)} {m:SV},(∀v,(x,v)∉binds)->bindL kindOf binds m x=m x
 | [],_,_=>rfl
 | (n,v)::r,m,h=>by
  unfold bindL;rw[DQ λw hw=>h w (fc _ hw)];split
  .have:x≠n:=by rintro rfl;exact h v dP
   simp[this]
  .rfl
theorem Du{kindOf:Str->Option NameKind}{x:Str}: ∀{binds:List (Str×Vl)} {m:SV},(∀v,(x,v)∉binds)->bindC kindOf binds m x=m x
 | [],_,_=>rfl
 | (n,v)::r,m,h=>by
  unfold bindC;rw[Du λw hw=>h w (fc _ hw)];split
  .rfl
  .have:x≠n:=by rintro rfl;exact h v dP
   simp[this]
theorem Fu{kindOf:Str->Option NameKind}{x:Str}{v:Vl}: ∀{P:Ss} {a:Vs} {i:Nat} {m:SV},P.Nodup->P[i]? =some x->a[i]? =some v->kindOf x=some .local->
  bindL kindOf (P.zip a) m x=some v
 | [],_,_,_,_,h,_,_=>by simp at h
 |_::_,[],_,_,_,_,h,_=>by simp at h
 |p::P,w::a,0,m,nd,b,c,d=>by
  simp at b c;subst b;subst c;show bindL kindOf ((p,w)::P.zip a) m p=_;unfold bindL;rw[DQ λv e=>(jc.mp nd).1 (w9 e).1,wB d];simp
 |p::P,w::a,i+1,m,nd,b,c,d=>by
  show bindL kindOf ((p,w)::P.zip a) m x=_;unfold bindL;exact Fu (i:=i) (jc.mp nd).2 (by simpa using b) (by simpa using c) d
theorem Do{kindOf:Str->Option NameKind}{x:Str}{v:Vl}: ∀{P:Ss} {a:Vs} {i:Nat} {m:SV},P.Nodup->P[i]? =some x->a[i]? =some v->kindOf x≠some .local->
  bindC kindOf (P.zip a) m x=some v
 | [],_,_,_,_,h,_,_=>by simp at h
 |_::_,[],_,_,_,_,h,_=>by simp at h
 |p::P,w::a,0,m,nd,b,c,d=>by
  simp at b c;subst b;subst c;show bindC kindOf ((p,w)::P.zip a) m p=_;unfold bindC;rw[Du λv e=>(jc.mp nd).1 (w9 e).1,wA d];simp
 |p::P,w::a,i+1,m,nd,b,c,d=>by
  show bindC kindOf ((p,w)::P.zip a) m x=_;unfold bindC;exact Do (i:=i) (jc.mp nd).2 (by simpa using b) (by simpa using c) d
def start(N:Ss)(a:List V):St:=a.map some++List.replicate (N.length-a.length) none
def oU(g:ov)(P:Pg)(w:World)(K:W.Frag)(mg:SV)(base:Heap)(N:Ss)(b:Str)(a:Scope)(f:Ad)(d:Vl)(A:Ar)(outer:List Env)(s:Sh)(H:Hp)(E:XK):Cx where
 prog:=P
 w:=w
 K:=K
 mg:=mg
 base:=base
 A:=A.deeper (envOfC b a s.heap.objs.size f d)
 N:=N
 s₀:=s
 H₀:=H
 env:=envOfC b a s.heap.objs.size f d
 outer:=outer
 stack:=envOfC b a s.heap.objs.size f d::outer
 ex:=[]
 calm:=true
 fn:=λ_=>true
 pn:=[]
 xe:=λe h=>wpAny (model P w) (A.deeper (envOfC b a s.heap.objs.size f d)) (leaving (envOfC b a s.heap.objs.size f d) e) (λ_ c=>g outer H s E e c) (λi c=>g outer H s E i c) h
def Ey{a:Scope}{n:Nat}{x:Str}(h:a.names.lookup x=some .cell): ∃c,(cellsFrom n a.names []).lookup x=some c:=by
 have q:=PySem.W.cellsFrom_some a.names n [] (.inl h);exact Option.isSome_iff_exists.mp q
def MO{O:ov}{P:Pg}{w:World}{K:W.Frag}{mg:SV}{m:Heap}{N t:Ss}{j:Str}{d:Scope}{f:Ad}{I:Vl}{A:Ar}{g:List Env}{s Q:Sh}{H:Hp}{E:XK}{M:Vs}{B:List V}
  (S:FnScope N t d) (Y:A.handled=none) (o:Env0 P w K mg m A g s H) (hl:B.length=t.length) (r:Vals B M)
  (x:InCallC s s.heap.objs.size (bindL (envOfC j d s.heap.objs.size f I).kindOf (t.zip M) λ_=>none) (cellsFrom (s.heap.objs.size+1) d.names []) (bindC (envOfC j d s.heap.objs.size f I).kindOf (t.zip M) λ_=>none) Q):
  Inv (oU O P w K mg m N j d f I A g s H E) [] (start N B) H Q:=by
 have aa:t.length<=N.length:=by have:=dL List.length S.pre;rw[fK]at this;lia
 obtain⟨J,tk,rfl,T⟩:=x.done;have C: ∀b:Ad,b∉(oU O P w K mg m N j d f I A g s H E).ex:=λb z=>wC (show b∈([]:As)from z) (by simp);refine⟨⟨o.mod,S.kind,rfl,rfl,cM _,λy z c J l=>?_,λy hy=>?_,λy c _ h=>?_,λ_=>Y,Around.frames_deeper o.frames,.inr ⟨rfl,rfl⟩,λb z=>wC z (C b),o.bs,o.bsz,λb _ _=>C b,λb z=>wC z (C b),o.funs,o.frf⟩,
  rfl,o.bare,Un.kept T,⟨_,x.toInCall.ns,λi y v J l h3=>?_⟩,λy c h=>⟨_,x.cell y c h⟩,o.hok.fresh (cM _),λy c h=>?_,λp D=>wC (show p∈([]:AO)from D) (by simp),o.hok.kept T,?_⟩
 .exact name_of_addr x.apart (lC J) (lC l)
 .have hy:d.names.lookup y=some .cell∨d.names.lookup y=some .free:=hy
  rcases hy with hy|hy
  .exact Ey hy
  .exact wC rfl (S.nofree _ (lC hy))
 .exact fR (x.above y c (lC h))
 .have L:i<B.length:=by
   unfold start at l;by_cases L:i<B.length
   .exact L
   .rw[eU (by simpa using L)]at l;rw[List.getElem?_replicate]at l;split at l<;>cases l
  have ha:B[i]? =some v:=by
   unfold start at l;rw[e8 (by simpa using L),List.getElem?_map]at l;cases e:B[i]? with
   |none=>rw[e]at l;cases l
   |some a=>rw[e]at l;cases l;rfl
  obtain⟨u,U,rv⟩:=r.get ha;have D:t[i]? =some y:=by
   rw[<-S.pre,ui (by lia)];exact J
  have G:t.Nodup:=by rw[<-S.pre];exact S.nd.sublist (qh _ _)
  refine⟨u,rv,?_⟩
  rcases S.par y (cW D)with k|k
  .exact .inl ⟨k,Fu G D U k⟩
  .obtain⟨c,e⟩:=Ey (n:=s.heap.objs.size+1) k;refine .inr ⟨.inl k,c,e,?_⟩;have q:=x.cell y c e;rw[Do G D U (by show d.names.lookup y≠_;rw[k];decide)]at q;exact q
 .exact o.hok.fresh (fR (x.above y c (lC h)))
 .unfold start;show _=N.length;rw[dF,cz,yE];lia
def CO{M:ov}{P:Pg}{w:World}{K:W.Frag}{mg:SV}{h:Heap}{k:Nat}{f:Ad}{name d:Str}{i:Arguments}{j:List Stmt}{a:Scope}{dV kV D pm g ct oc:Vl}{an od:Option Ad}
  {T:Array (Option Vl)} {N O:Ss} {U:Sp} (lk:K.lookup f=some ⟨oc,od,.func (PySem.W.fnOf name d i j a dV kV D pm an g ct),T⟩) (Y:PySem.W.codeIn K g d=true) (S:FnScope N O a)
  (len: ∀l H Q E,U l H Q E->l.length=O.length)
  (z: ∀(A:Ar) (c:List Env) (s:Sh) (H:Hp) (l:List V) (Q:VK) (E:XK),Room k (A.deeper (envOfC d a s.heap.objs.size f g))->U l H Q E->
   ∃t,PSs (oU M P w K mg h N d a f g A c s H E) j t/\t {nx:=λ_ p=>Q .non p,rt:=Q} (start N l) H):
  FnOk P w K mg h M (k+1) f (PySem.W.fnOf name d i j a dV kV D pm an g ct) O U:=by
 refine⟨len,λA c s H args us l Q E hr G hb r L=>?_⟩;have hl:=len _ _ _ _ L;have KX:K.In s.heap:=G.mod.kin.keeps λb o e=>(G.bs b o e).1;have aa:s.heap.NoLimit:=G.mod.nolimit.keeps λb o e=>(G.bs b o e).1;have B: ∀y∈O.zip us,a.names.lookup y.1=some .local∨(a.names.lookup y.1=some .cell/\((cellsFrom (s.heap.objs.size+1) a.names []).lookup y.1).isSome=true):=λ⟨n,v⟩ hy=>by
  rcases S.par n (w9 hy).1 with q|q
  .exact .inl q
  .exact .inr ⟨q,PySem.W.cellsFrom_some _ _ _ (.inl q)⟩
 refine codeAny_call_function hr.depth (KX _ _ lk) rfl S.co S.gen rfl (PySem.W.codeRec_of KX Y) (hb _ _ _ _ ?_);refine wpAny_newFunctionEnv_cells S.kind B λab he s1 x=>?_;subst he;refine⟨aa.keeps x.toInCall.keep,codeAny_func ?_⟩;obtain⟨t,ht,hq⟩:=z A c s H l Q E (hr.deeper _) L;have I:Inv (oU M P w K mg h N d a f g A c s H E) [] (start N l) H s1:=MO S hr.hd G hl r x;refine gN (ht [] s1 (start N l) H _ I hq) (λfl s' C=>?_) λe s' C=>C;have fin: ∀{m:St} {p:Hp} {v:V} {u:Vl},Inv (oU M P w K mg h N d a f g A c s H E) [] m p s'->RelV v u->Q v p->CE c P w H s Q u s':=
  λ{m p v u} J rv q=>⟨v,p,J.os,J.bare,J.base,J.hok,rv,q⟩
 cases fl with
 |ret u=>
  obtain⟨v,m,p,J,rv,q⟩:=C;exact fin J rv q
 |next=>
  obtain⟨m,p,J,q⟩:=C;exact fin (v:=V.non) (u:=Value.none) J rfl q
 |brk=>
  obtain⟨_,_,_,q⟩:=C;exact wE q
 |cont=>
  obtain⟨_,_,_,q⟩:=C;exact wE q
section
variable{X:Cx}{x:Str}{p pos:Pos}{e:Expr}{es:List Expr}{t:TA}{id T:String}{r:List V->Hp->VK->Prop}
def DO(r:List V->Hp->VK->Prop)(t:TA):TE:=λa H Q=>t a H λb c=>r b c Q
def eZ(f:iC X (.builtin id) r)(g:Gl X x)(i:X.mg x=none)(j:bootBuiltins x=some (.builtin id))(k:PA X (e::es) t)(l:x≠"__name__":=by decide)(a:(x==("__debug__":Str))=false:=by decide)
  (m:starEach (e::es) X.env=(false,eval e X.env)::starEach es X.env:=by rfl) (b:(backTo pos (starEach es X.env)).any (·.1)=false:=by rfl):PE X (.Call (.Name x p) (e::es) [] pos) (DO r t):=by
 intro c s d H Q I h;refine oD (oP I g i j ?_ l a);exact PyProof.Rows.callWith_builtin1 (cP (k pos c s d H _ I h) λn o ⟨q,u,v,w,y⟩=>f c o d u q n Q v w y) m b
def gY(f:iC X (.type T) r)(g:Gl X x)(i:X.mg x=none)(j:bootBuiltins x=some (.type T))(k:PA X (e::es) t)(l:x≠"__name__":=by decide)(a:(x==("__debug__":Str))=false:=by decide)
  (m:starEach (e::es) X.env=(false,eval e X.env)::starEach es X.env:=by rfl) (b:(backTo pos (starEach es X.env)).any (·.1)=false:=by rfl):PE X (.Call (.Name x p) (e::es) [] pos) (DO r t):=by
 intro c s d H Q I h;refine oD (oP I g i j ?_ l a);exact wF (cP (k pos c s d H _ I h) λn o ⟨q,u,v,w,y⟩=>f c o d u q n Q v w y) m b
end
end L2
namespace HT
open PySem PyProof.Rows
def fu(A:Ar)(s:Sh)(a:Int)(t:Tok)(c:Int)(u:Tok): ∃e,SeqAt.EqAt A s (.int a t) (.int c u) e/\(e=true↔a=c):=
 ⟨(a==c),SeqAt.EqAt.int_int a t c u,by simp⟩
section
variable{prog:Pg}{w:World}{A:Ar}{E:VP}{s:Sh}
def sIx(n d:Nat):Option Int->Nat
 |none=>d
 |some v=>if v<0 then(v+(n:Int)).toNat else min v.toNat n
end
end HT
namespace L2
open PySem PySem.Spec PyProof.Rows
abbrev TO:=St->Hp->(Option Int->Hp->Prop)->Prop
def PO(X:Cx)(e:Option Expr)(t:TO):Prop:=
 ∀(b:AO) (s:Sh) (a:St) (H:Hp) (Q:Option Int->Hp->Prop),Inv X b a H s->t a H Q->
  wpAny (model X.prog X.w) X.A (evalPart e X.env) (λu d=> ∃o c,Inv X b a c d/\IsPart u o/\Q o c) X.xe s
def uo(t:TE):TO:=λa H Q=>t a H λx b=> ∃i,x= .int i/\Q (some i) b
def Hg{a:Zs}: ∀{b:Vs},Vals (a.map V.int) b->IntsAre b a:=by
 induction a with
 |nil=>intro b r;rw[wh]at r;cases r;exact .nil
 | cons n a c=>
  intro b r;rw[gv]at r;cases r with
  |cons d f=>
   obtain⟨t,e⟩:=d;subst e;exact .cons n t (c f)
section
variable{X:Cx}{e:Expr}{te:TE}{lo hi:Option Expr}{tl th:TO}{pos p2:Pos}
def FF(h:PE X e te):PO X (some e) (uo te):=by
 intro a s b H Q I hw;rw[evalPart_some];refine cP (h a s b H _ I hw) λu j ⟨x,c,d,f,g⟩=>?_;obtain⟨i,rfl,q⟩:=g;obtain⟨t,rfl⟩:=f;exact⟨some i,c,d,.int i t,q⟩
def Dd(X:Cx)(r:V->Option Int->Option Int->Hp->VK->Prop):Prop:=
 ∀(a:AO) (s:Sh) (b:St) (H:Hp) (x:V) (v c d:Vl) (lo hi:Option Int) (sl:Ad) (Q:VK),Inv X a b H s->RelV x v->s.heap.IsSliceOf sl c d .none->IsPart c lo->IsPart d hi->r x lo hi H Q->
  ∃T id,typeLookup (.type T) "__getitem__"=pure (some (.builtin id))/\s.TypeIs v T/\wpAny (model X.prog X.w) X.A (getItem v (.ref sl)) (EP X a b Q) X.xe s
def Hf(r:V->Option Int->Option Int->Hp->VK->Prop)(te:TE)(tl th:TO):TE:=λa H Q=>te a H λx b=>tl a b λl c=>th a c λu d=>r x l u d Q
def Kq{r:V->Option Int->Option Int->Hp->VK->Prop}(g:Dd X r)(i:PE X e te)(j:PO X lo tl)(k:PO X hi th):PE X (.Subscript e (.Slice lo hi none p2) pos) (Hf r te tl th):=by
 intro a s c H Q I h;refine Subscript_ (cP (i a s c H _ I h) λv m ⟨x,n,o,p,t⟩=>?_);refine wpAny_Slice (cP (j a m c n _ o t) λd w ⟨l,y,z,A,B⟩=>cP (k a w c y _ z B) λvu s3 ⟨u,f,C,D,E⟩=>?_);rw[evalPart_none];refine cG ?_;have G:Inv X a c f {s3 with heap:=s3.heap.push {cls:= .type "slice",data:= .fields #[d,vu,.none]}}:=C.kept (t':=s3.toks) λb L q=>dI _ q;obtain⟨T,id,hT,ht,J⟩:=g a {s3 with heap:=s3.heap.push {cls:= .type "slice",data:= .fields #[d,vu,.none]}} c f x v d vu l u s3.heap.objs.size Q G p (Heap.IsSliceOf.new ..) A D E;show wpAny (model X.prog X.w) X.A (subscriptTail e (.Slice lo hi none p2) v (.ref s3.heap.objs.size)) (EP X a c Q) X.xe {s3 with heap:=s3.heap.push {cls:= .type "slice",data:= .fields #[d,vu,.none]}};exact tail_any (ops:=[.ref s3.heap.objs.size,v]) ht hT J (by with_unfolding_all rfl)
def qe(a:List V)(lo hi:Option Int):List V:=(a.drop (HT.sIx a.length 0 lo)).take (HT.sIx a.length a.length hi-HT.sIx a.length 0 lo)
def Fh(a:List V)(lo hi:Option Int):(qe a lo hi).length<=a.length:=by
 unfold qe;rw[fK,oB];lia
end
def mE(n:Nat)(i:Int):Option Nat:=if 0<=i then(if i<n then some i.toNat else none)else if -(n:Int)<=i then some (i+n).toNat else none
def iX{a:Type}(b:List a)(i:Int):Option a:=(mE b.length i).bind λj=>b[j]?
def Ee{n:Nat}{i:Int}{j:Nat}(h:mE n i=some j):seqIndex? i n=some j/\j<n/\ -(n:Int)<=i/\i<n:=by
 unfold mE at h;by_cases b:0<=i
 .rw[wB b]at h;by_cases a:i<n
  .rw[wB a]at h;have e:i.toNat=j:=fB h;exact⟨by rw[xc b a,e],by lia,by lia,a⟩
  .rw[wA a]at h;cases h
 .rw[wA b]at h;by_cases a: -(n:Int)<=i
  .rw[wB a]at h;have e:(i+n).toNat=j:=fB h;exact⟨by rw[seqIndex_neg (by lia) a,e],by lia,a,by lia⟩
  .rw[wA a]at h;cases h
def DG{b:Type}{a:List b}{i:Int}{v:b}(h:iX a i=some v): ∃j,seqIndex? i a.length=some j/\a[j]? =some v/\j<a.length/\ -(a.length:Int)<=i/\i<a.length:=by
 unfold iX at h;cases e:mE a.length i with
 |none=>rw[e]at h;cases h
 |some j=>
  rw[e]at h;obtain⟨c,d,f,g⟩:=Ee e;exact⟨j,c,h,d,f,g⟩
def gF{b:Type}{a:List b}{j:Nat}{v:b}(h:a[j]? =some v):iX a (j:Int)=some v:=by
 have c:j<a.length:=(cK.mp h).1;have e:mE a.length (j:Int)=some j:=by
  unfold mE;rw[wB (by lia),wB (by lia)];simp
 unfold iX;rw[e];exact h
def GI(b:Expr):Prop:= ∀o i,subscripted b false o i=operate [o,i] (getItem o i)
def IxR(X:Cx)(r:R2):Prop:=
 ∀(b a:Expr) (c:AO) (s:Sh) (d:St) (H:Hp) (x y:V) (v u:Vl) (Q:VK),Inv X c d H s->RelV x v->RelV y u->r x y H Q->
  subscripted a false v u=operate [v,u] (getItem v u)->wpAny (model X.prog X.w) X.A (subscriptTail b a v u) (EP X c d Q) X.xe s
def pc(X:Cx)(id:String)(r:V->List V->Hp->VK->Prop):Prop:=
 ∀(a:AO) (s:Sh) (b:St) (H:Hp) (x:V) (c:List V) (v:Vl) (d:Vs) (Q:VK),Inv X a b H s->RelV x v->Vals c d->r x c H Q->
  wpAny (model X.prog X.w) X.A (call (.builtin id) (v::d)) (EP X a b Q) X.xe s
section
variable{X:Cx}{a b:Expr}{ta tb:TE}{pos:Pos}
def cX{r:R2}(c:IxR X r)(d:PE X a ta)(e:PE X b tb)(f:GI b):PE X (.Subscript a b pos) (sG r ta tb):=by
 intro g s i H Q I h;exact Subscript_ (pN d e I h λv u j x y k l m n q=>c a b g j i k x y v u Q l m n q (f _ _))
def mY(K:W.Frag):R2:=λx y H Q=> ∃p c i v,x= .ref p/\y= .int i/\SqL K H p c/\iX c i=some v/\Q v H
def ux(K:W.Frag):R2:=λx y H Q=> ∃p c i v,x= .ref p/\y= .int i/\SqT K H p c/\iX c i=some v/\Q v H
def fS:IxR X (mY X.K):=by
 intro d e m s n H x y v u Q I C D h o;obtain⟨p,T,i,z,rfl,rfl,E,G,q⟩:=h;cases C;obtain⟨t,rfl⟩:=D;obtain⟨f,r,g,U⟩:=I.list E;obtain⟨j,c,J,Y,L,M⟩:=DG G;obtain⟨w,A,k⟩:=r.get J;have N:=r.length;have hn:=uW;have fin:EP X m n Q w s:=⟨z,H,I,k,q⟩;by_cases B:0<=i
 .have l:i.toNat=j:=by
   rw[xc B M]at c;exact fB c
  exact item_listR g.isList B (by lia) (by rw[l];simpa using A) fin o
 .have l:(i+(f.toArray.size:Int)).toNat=j:=by
   rw[seqIndex_neg (by lia) L]at c;rw[eM,<-N];exact fB c
  exact subscriptTail_builtinR (x:=w) g.isList.typeIs slot_list_getitem.lookup
   (wpAny_getItem_list_neg (Q:=λr O=>r=w/\EP X m n Q r O) g.isList (by lia) (by rw[eM]<;>lia) (by lia) (by rw[l];simpa using A) ⟨rfl,fin⟩) o
def dz:IxR X (ux X.K):=by
 intro c d f s g H x y v u Q I l m h n;obtain⟨p,L,i,z,rfl,rfl,o,A,q⟩:=h;cases l;obtain⟨t,rfl⟩:=m;obtain⟨B,r,k,M⟩:=I.tuple o;obtain⟨j,C,D,N,O,T⟩:=DG A;obtain⟨w,E,e⟩:=r.get D;have G:=r.length;have U:=uW;have fin:EP X f g Q w s:=⟨z,H,I,e,q⟩;exact subscriptTail_builtinR (x:=w) k.typeIs slot_tuple_getitem.lookup
  (getItem_tuple (j:=j) (Q:=λr J=>r=w/\EP X f g Q r J) k (by lia) (by lia) (by rw[eM,<-G];exact C) (by simpa using E) ⟨rfl,fin⟩) n
def Ld(c:Vs)(n j:Nat)(u:Vl):Obj.mapSeq (·.setIfInBounds j u) {cls:= .type "list",data:= .seq c.toArray n}={cls:= .type "list",data:= .seq (c.set j u).toArray n}:=by
 simp[Obj.mapSeq]
def Inv.lst{d:AO}{f:St}{H:Hp}{s:Sh}{p:Ad}{c:List V}(I:Inv X d f H s)(h:H p=some (.lst c)):
  ∃(its:Vs) (n:Nat),Vals c its/\s.heap.get? p=some {cls:= .type "list",data:= .seq its.toArray n}/\c.length<=sizeLine:=by
 obtain⟨z,its,n,r,e⟩:=I.hok p _ h;exact⟨its,n,r,e,z⟩
def Inv.lstUpd{j:AO}{k:St}{H:Hp}{s:Sh}{p:Ad}{m g:List V}{d c:Vs}{n i:Nat}{f:Obj->Obj}(I:Inv X j k H s)(h:H p=some (.lst m))
  (o:s.heap.get? p=some {cls:= .type "list",data:= .seq d.toArray n}) (l:f {cls:= .type "list",data:= .seq d.toArray n}={cls:= .type "list",data:= .seq c.toArray i}) (r:Vals g c) (v:g.length<=sizeLine) (t:Nat):
  Inv X j k (cw H p (.lst g)) {s with heap:=s.heap.update p f,toks:=t}:=by
 have e:(s.heap.update p f).get? p=some {cls:= .type "list",data:= .seq c.toArray i}:=by
  rw[rk f o (by rw[l]<;>rfl),l]
 refine I.write (x:=p) (e:=p) (by rw[h];trivial) (.inl rfl) (λb u w q=>(jg _ _ (eJ w)).trans q) ⟨_,e⟩ ?_;exact⟨v,c,i,r,e⟩
def ub:V->V->V->Hp->(Hp->Prop)->Prop:=λo i v H Q=> ∃p c k j,o= .ref p/\i= .int k/\H p=some (.lst c)/\mE c.length k=some j/\Q (cw H p (.lst (c.set j v)))
def xV:tZ X ub:=by
 intro z s A H o i v L M u Q I B C D h;obtain⟨p,E,k,j,rfl,rfl,l,G,q⟩:=h;cases B;obtain⟨t,rfl⟩:=C;obtain⟨c,n,r,e,J⟩:=I.lst l;obtain⟨d,N,m,w⟩:=Ee G;have f:=r.length;have O:=uW;have x:Inv X z A (cw H p (.lst (E.set j v))) {s with heap:=s.heap.update p (Obj.mapSeq (·.setIfInBounds j u))}:=
  I.lstUpd l e (Ld c n j u) (r.set D j) (by rw[oS];exact J) s.toks
 by_cases y:0<=k
 .have g:k.toNat=j:=by
   rw[xc y w]at d;exact fB d
  exact PySem.W.ki_setAt e y (by lia) (by rw[eM,<-f];exact w) (by rw[g];exact⟨_,x,q⟩)
 .have g:(k+(c.toArray.size:Int)).toNat=j:=by
   rw[seqIndex_neg (by lia) m]at d;rw[eM,<-f];exact fB d
  exact PySem.W.ki_setBack e (by lia) (by rw[eM,<-f];exact m) (by lia) (by rw[g];exact⟨_,x,q⟩)
def J'(lo c:Option Int)(n:Nat):(sliceBounds lo c none n).1=((HT.sIx n 0 lo:Nat):Int)/\(sliceBounds lo c none n).2.1=((HT.sIx n n c:Nat):Int)/\(sliceBounds lo c none n).2.2=1:=by
 refine⟨?_,?_,rfl⟩
 .cases lo with
  |none=>simp[sliceBounds,HT.sIx]
  |some i=>
   simp only[sliceBounds,HT.sIx,Option.getD_none,show(1:Int)>0 by decide,if_true];by_cases h:i<0
   .simp only[h,if_true]<;>lia
   .simp only[h,if_false]<;>lia
 .cases c with
  |none=>simp[sliceBounds,HT.sIx]
  |some i=>
   simp only[sliceBounds,HT.sIx,Option.getD_none,show(1:Int)>0 by decide,if_true];by_cases h:i<0
   .simp only[h,if_true]<;>lia
   .simp only[h,if_false]<;>lia
def GH(c:Vs)(lo d:Option Int):slicePick c.toArray lo d none=((c.drop (HT.sIx c.length 0 lo)).take (HT.sIx c.length c.length d-HT.sIx c.length 0 lo)).toArray:=by
 obtain⟨e,f,g⟩:=J' lo d c.toArray.size;unfold slicePick;rw[e,f,g];simp only[sliceRange_one,pick_run,List.size_toArray]<;>rfl
def Bt(K:W.Frag):V->Option Int->Option Int->Hp->VK->Prop:=λx lo d H Q=> ∃a c,x= .ref a/\SqL K H a c/\ ∀p,H p=none->Q (.ref p) (cw H p (.lst (qe c lo d)))
def GA:Dd X (Bt X.K):=by
 intro n s p H x v t u lo e sl Q I f g i j h;obtain⟨a,c,rfl,k,q⟩:=h;cases f;obtain⟨l,r,ht,m⟩:=I.list k;have d:=r.length;refine⟨"list",_,slot_list_getitem.lookup,ht.isList.typeIs,?_⟩;refine wpAny_getItem_list_slice ht.isList g i j .none (by simp) ?_ (by rw[List.size_toArray]<;>lia);rw[GH,<-d];refine⟨.ref s.heap.objs.size,_,I.laid (t':=s.toks) (o:= .lst (qe c lo e)) (λb w q=>dI _ q) (cM _) ?_,rfl,q _ (I.hok.fresh (cM _))⟩;exact⟨dE (Fh c lo e) m,_,0,(r.drop (HT.sIx c.length 0 lo)).take (HT.sIx c.length c.length e-HT.sIx c.length 0 lo),eO _ rfl⟩
def ir:V->Bool
 | .non=>true
 | .bl _=>true
 | .int _=>true
 | .str _=>true
 |_=>false
def ky:V->V->Bool
 | .non,.non=>true
 | .bl a,.bl b=>a==b
 | .bl a,.int b=>(if a then 1 else 0)==b
 | .int a,.bl b=>a==(if b then 1 else 0)
 | .int a,.int b=>a==b
 | .str a,.str b=>a==b
 |_,_=>false
def vM{A:Ar}{s:Sh}{y x:V}{u v:Vl}(e:RelV y u)(c:RelV x v)(g:ir y=true)(f:ir x=true):SeqAt.EqAt A s u v (ky y x):=by
 cases y with
 |non=>
  cases e;cases x with
  |non=>cases c;exact SeqAt.EqAt.same _
  |bl b=>cases c;exact SeqAt.EqAt.none_bool b
  |int b=>obtain⟨t,rfl⟩:=c;exact SeqAt.EqAt.none_int b t
  |str b=>obtain⟨t,rfl⟩:=c;exact SeqAt.EqAt.none_str b t
  |_=>exact wC (show false=true from f) gy
 |bl a=>
  cases e;cases x with
  |non=>cases c;exact SeqAt.EqAt.bool_none a
  |bl b=>cases c;exact SeqAt.EqAt.bool_bool a b
  |int b=>obtain⟨t,rfl⟩:=c;exact SeqAt.EqAt.bool_int a b t
  |str b=>obtain⟨t,rfl⟩:=c;exact SeqAt.EqAt.bool_str a b t
  |_=>exact wC (show false=true from f) gy
 |int a=>
  obtain⟨d,rfl⟩:=e;cases x with
  |non=>cases c;exact SeqAt.EqAt.int_none a d
  |bl b=>cases c;exact SeqAt.EqAt.int_bool a d b
  |int b=>obtain⟨t,rfl⟩:=c;exact SeqAt.EqAt.int_int a d b t
  |str b=>obtain⟨t,rfl⟩:=c;exact SeqAt.EqAt.int_str a d b t
  |_=>exact wC (show false=true from f) gy
 |str a=>
  obtain⟨d,rfl⟩:=e;cases x with
  |non=>cases c;exact SeqAt.EqAt.str_none a d
  |bl b=>cases c;exact SeqAt.EqAt.str_bool a d b
  |int b=>obtain⟨t,rfl⟩:=c;exact SeqAt.EqAt.str_int a d b t
  |str b=>obtain⟨t,rfl⟩:=c;exact SeqAt.EqAt.str_str a d b t
  |_=>exact wC (show false=true from f) gy
 |_=>exact wC (show false=true from g) gy
def iQ(x:V)(u:Vl):Bool:=match u with
 | .none=>ky .non x
 | .bool b=>ky (.bl b) x
 | .int i _=>ky (.int i) x
 | .str z _=>ky (.str z) x
 |_=>false
def C7{x y:V}{u:Vl}(r:RelV y u)(f:ir y=true):iQ x u=ky y x:=by
 cases y with
 |non=>cases r;rfl
 |bl b=>cases r;rfl
 |int i=>obtain⟨t,rfl⟩:=r;rfl
 |str z=>obtain⟨t,rfl⟩:=r;rfl
 |_=>exact wC (show false=true from f) gy
theorem ul{x:V}: ∀{c:List V} {d:Vs},Vals c d->c.all ir=true->d.any (iQ x)=c.any λy=>ky y x
 |_,_,.nil,_=>rfl
 |y::c,u::d,.cons r t,f=>by
  rw[List.all_cons,jv]at f;rw[qx,qx,C7 r f.1,ul t f.2]
theorem tq{A:Ar}{s:Sh}{x:V}{v:Vl}(e:RelV x v)(g:ir x=true): ∀{c:List V} {d:Vs},Vals c d->c.all ir=true-> ∀u∈d,SeqAt.EqAt A s u v (iQ x u)
 |_,_,.nil,_=>λu hu=>by cases hu
 |y::c,u::d,.cons r t,f=>λh hu=>by
  rw[List.all_cons,jv]at f
  rcases dQ.mp hu with rfl|hu
  .rw[C7 r f.1];exact vM r e f.1 g
  .exact tq e g t f.2 h hu
def xq(x:V)(c:List V):Bool:=c.any λy=>ky y x
def vq(K:W.Frag)(d:Bool):R2:=λx y H Q=> ∃p c,y= .ref p/\(SqL K H p c∨SqT K H p c)/\ir x=true/\c.all ir=true/\Q (.bl (if d then !xq x c else xq x c)) H
def Gz:OpR X (compareOp .In) (vq X.K false):=by
 intro j s k H x y v u Q I e g h;obtain⟨p,l,rfl,hq,f,fs,q⟩:=h;cases g
 rcases hq with hq|hq
 .obtain⟨c,r,d,i⟩:=I.list hq;refine SeqAt.in_listAt (iQ x) d.isList (λw hw=>tq e f r fs w (by simpa using hw)) ⟨.bl _,H,I,rfl,?_⟩;rw[show c.toArray.any (iQ x)=c.any (iQ x) by simp,ul r fs];exact q
 .obtain⟨c,r,d,i⟩:=I.tuple hq;refine SeqAt.in_tupleAt (iQ x) d (λw hw=>tq e f r fs w (by simpa using hw)) ⟨.bl _,H,I,rfl,?_⟩;rw[show c.toArray.any (iQ x)=c.any (iQ x) by simp,ul r fs];exact q
def HW:OpR X (compareOp .NotIn) (vq X.K true):=by
 intro j s k H x y v u Q I e g h;obtain⟨p,l,rfl,hq,f,fs,q⟩:=h;cases g
 rcases hq with hq|hq
 .obtain⟨c,r,d,i⟩:=I.list hq;refine SeqAt.notIn_listAt (iQ x) d.isList (λw hw=>tq e f r fs w (by simpa using hw)) ⟨.bl _,H,I,rfl,?_⟩;rw[show c.toArray.any (iQ x)=c.any (iQ x) by simp,ul r fs];exact q
 .obtain⟨c,r,d,i⟩:=I.tuple hq;refine SeqAt.notIn_tupleAt (iQ x) d (λw hw=>tq e f r fs w (by simpa using hw)) ⟨.bl _,H,I,rfl,?_⟩;rw[show c.toArray.any (iQ x)=c.any (iQ x) by simp,ul r fs];exact q
def fZ:iC X (.builtin "len") (λi H Q=> ∃p d,i=[.ref p]/\(SqL X.K H p d∨SqT X.K H p d)/\Q (.int d.length) H):=by
 intro l s m H i n Q I r h;obtain⟨p,d,rfl,hq,q⟩:=h;obtain⟨u,rfl,j⟩:=ig r;cases j;have o:=uW
 rcases hq with hq|hq
 .obtain⟨e,f,g,k⟩:=I.list hq;have c:=f.length;exact Calls.call_len_list g.isList (by simp only[List.size_toArray]<;>lia) ⟨.int d.length,H,I.tok _,⟨s.toks+1,by rw[List.size_toArray,c]⟩,q⟩
 .obtain⟨e,f,g,k⟩:=I.tuple hq;have c:=f.length;exact len_tuple g (by simp only[List.size_toArray]<;>lia) ⟨.int d.length,H,I.tok _,⟨s.toks+1,by rw[List.size_toArray,c]⟩,q⟩
def LP:iC X (.type "list") (λy H Q=> ∃p f,y=[.ref p]/\(SqL X.K H p f∨SqT X.K H p f)/\ ∀l,H l=none->Q (.ref l) (cw H l (.lst f))):=by
 intro A s B H y D Q I r h;obtain⟨p,f,rfl,hq,q⟩:=h;obtain⟨u,rfl,C⟩:=ig r;cases C;have fin: ∀(c:Vs),Vals f c->f.length<=sizeLine-> ∀(d:Heap) (g:Nat),(∀b z,s.heap.get? b=some z->d.get? b=some z)->
   d.get? s.heap.objs.size=some {cls:= .type "list",dict:=none,data:= .seq c.toArray g,slots:= #[]}->EP X A B Q (.ref s.heap.objs.size) {s with heap:=d}:=λc i j d g k e=>
  ⟨.ref s.heap.objs.size,_,I.laid (t':=s.toks) k (cM _) (show ObjOk X.prog X.w _ d _ (.lst f)from⟨j,c,g,i,e⟩),rfl,q _ (I.hok.fresh (cM _))⟩
 rcases hq with hq|hq
 .obtain⟨c,i,t,j⟩:=I.list hq;have m:=i.length;obtain⟨o,v,w,n,x⟩:=t.isList;exact call_list_seq p (.inl rfl) v w x (λd g k e=>fin c i j d g k e) (by simp only[List.size_toArray]<;>lia)
 .obtain⟨c,i,t,j⟩:=I.tuple hq;have m:=i.length;obtain⟨o,v,w,n,x⟩:=t;exact call_list_seq p (.inr rfl) v w x (λd g k e=>fin c i j d g k e) (by simp only[List.size_toArray]<;>lia)
def mo:iC X (.type "tuple") (λk H Q=> ∃p d,k=[.ref p]/\((SqL X.K H p d/\ ∀l,H l=none->Q (.ref l) (cw H l (.tup d)))∨(SqT X.K H p d/\Q (.ref p) H))):=by
 intro m s n H k A Q I r h;obtain⟨p,d,rfl,h⟩:=h;obtain⟨u,rfl,x⟩:=ig r;cases x
 rcases h with⟨g,q⟩|⟨g,q⟩
 .obtain⟨c,i,j,t⟩:=I.list g;have v:=i.length;refine call_tuple_list j.isList (λf y=>?_) (by simp only[List.size_toArray]<;>lia);have w:Inv X m n H {s with heap:=f}:=I.kept (t':=s.toks) y;have z:Inv X m n (cw H f.objs.size (.tup d)) {s with heap:=f.push {cls:= .type "tuple",data:= .seq c.toArray}}:=
   w.laid (t':=s.toks) (λb o e=>dI _ e) (cM _) (show ObjOk X.prog X.w _ _ _ (.tup d)from⟨t,c,i,TupD.new _ _⟩)
  exact⟨.ref f.objs.size,_,z,rfl,q _ (w.hok.fresh (cM _))⟩
 .obtain⟨c,i,j,t⟩:=I.tuple g;exact call_tuple_same j ⟨.ref p,H,I,rfl,q⟩
def A8(K:W.Frag)(T:String)(x:V)(H:Hp):Prop:=match x with
 | .str _=>T="str"
 | .int _=>T="int"
 | .ref p=>(T="list"/\ ∃d,SqL K H p d)∨(T="tuple"/\ ∃o,K.lookup p=some o/\o.cls= .type "tuple"/\o.dict=none)∨
   (T="dict"/\((∃c,H p=some (.dK c))∨ ∃c,H p=some (.dT c)))∨(T="set"/\ ∃S n,H p=some (.set S n))
 |_=>False
def Ek{m:AO}{q:St}{H:Hp}{s:Sh}{T:String}{x:V}{v:Vl}(I:Inv X m q H s)(r:RelV x v)(ty:A8 X.K T x H):
  s.TypeIs v T/\ ∀a,v= .ref a-> ∃k,s.heap.get? a=some k/\k.dict=none:=by
 cases x with
 |str z=>
  obtain⟨t,rfl⟩:=r;cases(show T="str" from ty);exact⟨typeIs_str s z t,λ_ e=>nomatch e⟩
 |int i=>
  obtain⟨t,rfl⟩:=r;cases(show T="int" from ty);exact⟨typeIs_int s i t,λ_ e=>nomatch e⟩
 | ref p=>
  cases r
  rcases ty with⟨rfl,A,u⟩|⟨rfl,o,d,w,g⟩|⟨rfl,d⟩|⟨rfl,S,n,d⟩
  .obtain⟨y,_,l,_⟩:=I.list u;refine⟨l.isList.typeIs,λa e=>?_⟩;cases e;obtain⟨o,n,e,c,g,_⟩:=l;exact⟨o,e,g⟩
  .refine⟨⟨o,I.kIn p o d,w⟩,λa e=>?_⟩;cases e;exact⟨o,I.kIn _ o d,g⟩
  .have z: ∃o,s.heap.get? p=some o/\o.ExactDict:=by
    rcases d with⟨h,d⟩|⟨h,d⟩
    .obtain⟨_,_,_,_,o,_,_,e,f,_⟩:=I.hok p _ d;exact⟨o,e,f⟩
    .obtain⟨_,_,_,_,o,_,_,e,f,_⟩:=I.hok p _ d;exact⟨o,e,f⟩
   obtain⟨o,e,f⟩:=z;refine⟨⟨o,e,f.1⟩,λa j=>?_⟩;cases j;exact⟨o,e,f.2.1⟩
  .obtain⟨o,_,_,_,e,f,_⟩:=I.hok p _ d;refine⟨⟨o,e,f.1⟩,λa j=>?_⟩;cases j;exact⟨o,e,f.2.1⟩
 |_=>exact wE ty
def yK(K:W.Frag)(T:String)(r:V->List V->Hp->VK->Prop)(to:TE):TE:=λd H Q=>to d H λx c=>A8 K T x c/\r x [] c Q
def wN(K:W.Frag)(T:String)(r:V->List V->Hp->VK->Prop)(to:TE)(t:TA):TE:=λc H Q=>to c H λx d=>A8 K T x d/\t c d λe f=>r x e f Q
variable{o e:Expr}{es:List Expr}{to:TE}{t:TA}{name:Str}{apos cpos:Pos}{T id:String}{r:V->List V->Hp->VK->Prop}
def GD(m:PlainAttrs T)(f:Slot T name id)(g:typeOf (.builtin id)=pure (.type "method_descriptor"))(n:pc X id r)(p:PE X o to)
  (c:attributeBase o name X.env (eval o X.env)=eval o X.env:=by rfl) (d:(apos.endLine==cpos.line)=true:=by rfl):PE X (.Call (.Attribute o name apos) [] [] cpos) (yK X.K T r to):=by
 intro i s j H Q I h;refine wpAny_Call_method0_late c d (cP (p i s j H _ I h) λv q ⟨x,u,k,l,ty,w⟩=>?_);obtain⟨y,z⟩:=Ek k l ty;exact⟨T,id,m,f,g,y,z,yr rfl (PySem.evalArgs_none (n i q j u x [] v [] Q k l .nil w))⟩
def gb(q:PlainAttrs T)(g:Slot T name id)(j:typeOf (.builtin id)=pure (.type "method_descriptor"))(u:pc X id r)(w:PE X o to)(y:PA X (e::es) t)
  (d:attributeBase o name X.env (eval o X.env)=eval o X.env:=by rfl)
  (i:((backTo cpos (starEach (e::es) X.env)).all (λx=> !x.1)&&(backToKw cpos (keywordEach [] X.env)).all (λx=>x.1.isSome)
   &&decide ((e::es).length+([]:List Keyword).length+(if([]:List Keyword).isEmpty then 0 else 1)<30))=true:=by rfl)
  (f:(apos.endLine==cpos.line)=true:=by rfl) (z:starEach (e::es) X.env=(false,eval e X.env)::starEach es X.env:=by rfl) (c:(backTo cpos (starEach es X.env)).any (·.1)=false:=by rfl):
  PE X (.Call (.Attribute o name apos) (e::es) [] cpos) (wN X.K T r to t):=by
 intro k s l H Q I h;refine wpAny_Call_method_late d i f rfl (cP (w k s l H _ I h) λv A ⟨x,B,m,n,ty,C⟩=>?_);obtain⟨D,E⟩:=Ek m n ty;refine⟨T,id,q,g,j,D,E,?_⟩;have p:=y cpos k A l B _ m C;rw[z]at p⊢;refine yr (by show(false || (backTo cpos (starEach es X.env)).any (·.1))=false;rw[c]<;>rfl) (Calls.evalArgs_plain ?_);exact cP p λG J ⟨L,M,N,O,U⟩=>u k J l M x L v G Q N n O U
end
def ES(X:Cx)(id:String)(r:V->List V->Hp->VK->Prop):Prop:=
 ∀(a:AO) (s:Sh) (b:St) (H:Hp) (x:V) (c:List V) (v:Vl) (d:Vs) (Q:VK),Inv X a b H s->RelV x v->Vals c d->r x c H Q->
  wpAny (model X.prog X.w) X.A (call (.builtin id) (v::d)) (EP X a b Q) X.xe s
theorem Vals.one: ∀{x:V} {a:Vs},Vals [x] a-> ∃u,a=[u]/\RelV x u
 |_,_,.cons r .nil=>⟨_,rfl,r⟩
theorem Vals.eraseIdx: ∀{a:List V} {b:Vs} (i:Nat),Vals a b->Vals (a.eraseIdx i) (b.eraseIdx i)
 |_,_,_,.nil=> .nil
 |_,_,0,.cons _ t=>t
 |_,_,i+1,.cons r t=> .cons r (Vals.eraseIdx i t)
theorem Vals.rep{a:List V}{b:Vs}(h:Vals a b): ∀k:Nat,Vals (List.replicate k a).flatten (List.replicate k b).flatten
 |0=> .nil
 |k+1=>by
  rw[uz,uz,vl,vl];exact Vals.append h (Vals.rep h k)
theorem E1{a:Type}: ∀(l:List a) (i:Nat),(l.eraseIdx i).length<=l.length
 | [],_=>cM _
 |_::_,0=>l6 _
 |_::r,i+1=>Nat.succ_le_succ (E1 r i)
theorem FC(a:Vs): ∀(k:Nat) (b:Vs),
  List.foldl (λc d=>c++d) b.toArray (List.replicate k a.toArray)=(b++(List.replicate k a).flatten).toArray
 |0,b=>by simp
 | k+1,b=>by
  have e:b.toArray++a.toArray=(b++a).toArray:=by simp
  have f:(b++a)++(List.replicate k a).flatten=b++(List.replicate (k+1) a).flatten:=by
   rw[uz,vl,fh]
  rw[<-f,<-FC a k (b++a),<-e,uz,zU]
section
variable{X:Cx}{za:AO}{σ:St}{H:Hp}{s:Sh}{l b:Ad}{xs ys zs:List V}
def Inv.lset{a its':Vs}{n:Nat}{f:AV->Array Vl}{t':Nat}(I:Inv X za σ H s)(c:H l=some (.lst xs))
  (e:s.heap.get? l=some {cls:= .type "list",data:= .seq a.toArray n}) (d:f a.toArray=its'.toArray) (g:Vals ys its') (h:ys.length<=sizeLine):
  Inv X za σ (cw H l (.lst ys)) {s with heap:=s.heap.update l (Obj.mapSeq f),toks:=t'}:=by
 have q:=PySem.IsL.update e f;rw[d]at q;refine I.write (x:=l) (e:=l) (by rw[c];exact trivial) (.inl rfl) (λk u i j=>(jg s.heap (Obj.mapSeq f) (eJ i)).trans j) ⟨_,q⟩ ?_;exact⟨h,its',_,g,q⟩
def Inv.lnew{a:Vs}{t':Nat}(I:Inv X za σ H s)(c:Vals ys a)(d:ys.length<=sizeLine):
  Inv X za σ (cw H s.heap.objs.size (.lst ys)) {s with heap:=s.heap.push {cls:= .type "list",data:= .seq a.toArray},toks:=t'}:=
 I.laid (λ_ _ q=>dI _ q) (cM _) ⟨d,a,0,c,eO _ rfl⟩
def Inv.fresh(I:Inv X za σ H s):H s.heap.objs.size=none:=I.hok.fresh (cM _)
def Inv.lstM(I:Inv X za σ H s)(c:H l=some (.lst xs)):xs.length<=sizeLine/\ ∃(a:Vs) (n:Nat),Vals xs a/\xs.length=a.length/\s.heap.get? l=some {cls:= .type "list",data:= .seq a.toArray n}:=by
 obtain⟨z,a,n,r,e⟩:=I.hok l _ c;exact⟨z,a,n,r,r.length,e⟩
def ME{n:Nat}(h:n<=sizeLine):Builtin.List.listTooLong n=false:=by
 unfold Builtin.List.listTooLong;exact fg (by lia)
end
section
variable{X:Cx}
def E7:V->List V->Hp->VK->Prop:=λx b H Q=> ∃l a y,x= .ref l/\b=[y]/\H l=some (.lst a)/\a.length<sizeLine/\Q .non (cw H l (.lst (a++[y])))
def iM:ES X "list.append" E7:=by
 intro g s i H x j v k Q I c d h;obtain⟨l,m,y,rfl,rfl,b,o,q⟩:=h;cases c;obtain⟨u,rfl,f⟩:=d.one;obtain⟨z,a,n,r,p,e⟩:=I.lstM b;refine oV F.slot_list_append ⟨_,e,rfl⟩ F.entry_list_append (F.args_list_append_2 _ _) (PySem.list_append l a.toArray n u (by rw[eM];lia)) ⟨e,?_⟩;refine⟨.non,_,I.lset (its':=a++[u]) b e (by simp) (r.append (.cons f .nil)) ?_,rfl,q⟩;rw[dF,ue];lia
def L8:V->List V->Hp->VK->Prop:=λx b H Q=> ∃l a i k y,x= .ref l/\b=[.int i]/\H l=some (.lst a)/\ -(2 ^ 63)<=i/\i<2 ^ 63/\seqIndex? i a.length=some k/\a[k]? =some y/\Q y (cw H l (.lst (a.eraseIdx k)))
def CH:ES X "list.pop" L8:=by
 intro C s D H x E v G Q I d f h;obtain⟨l,g,i,k,y,rfl,rfl,c,j,m,o,p,q⟩:=h;cases d;obtain⟨u,rfl,A⟩:=f.one;obtain⟨t,rfl⟩:=A;obtain⟨z,a,n,r,B,e⟩:=I.lstM c;obtain⟨w,hw,b⟩:=r.get p;refine oV F.slot_list_pop ⟨_,e,rfl⟩ F.entry_list_pop (F.args_list_pop_2 _ _)
  (MeetsSeq.list_pop_at l a.toArray n i t k w (fitsIndex_both j m) (by rw[eM,<-B];exact o) (by rw[<-iU];exact hw) (by rw[eM];lia)) ⟨e,?_⟩
 refine⟨y,_,I.lset (its':=a.eraseIdx k) c e ?_ (r.eraseIdx k) ?_,b,q⟩
 .show a.toArray.eraseIdxIfInBounds k=(a.eraseIdx k).toArray;rw[List.eraseIdxIfInBounds_toArray]
 .have:=E1 g k;lia
def zO:R2:=λx y H Q=> ∃l k a,x= .ref l/\y= .int k/\H l=some (.lst a)/\ -(2 ^ 63)<=k/\k<2 ^ 63/\a.length * k.toNat<=sizeLine/\
 ∀p,H p=none->Q (.ref p) (cw H p (.lst (List.replicate k.toNat a).flatten))
def JW{b:Type}(a:List b)(k:Nat):(List.replicate k a).flatten.length=k * a.length:=by
 induction k with
 |zero=>simp
 |succ k c=>rw[uz,vl,dF,c,Nat.succ_mul,xo]
def JC:OpR X (binaryOp .Mult) zO:=by
 intro L s M H x y v u Q I w A h;obtain⟨l,k,N,rfl,rfl,B,C,D,p,q⟩:=h;cases w;obtain⟨t,rfl⟩:=A;obtain⟨z,b,n,r,E,e⟩:=I.lstM B;have d:b.toArray.size * k.toNat<=sizeLine:=by rw[eM,<-E];exact p
 have f: ¬b.toArray.size * k.toNat>(2 ^ 63-1) /8:=by
  have:(sizeLine:Nat)<=(2 ^ 63-1) /8:=by decide
  lia
 have g: ¬(!Builtin.List.listFitsIndex k)=true:=by
  rw[fitsIndex_both C D];exact gy
 have c: ¬Builtin.List.listTooLong (b.toArray.size * k.toNat)=true:=by
  rw[ME d];exact gy
 have i:List.foldl (λj o=>j++o) #[] (List.replicate (if b.toArray.isEmpty=true then 0 else k.toNat) b.toArray)=(List.replicate k.toNat b).flatten.toArray:=by
  have G: ∀m:Nat,List.foldl (λj o=>j++o) #[] (List.replicate m b.toArray)=(List.replicate m b).flatten.toArray:=λm=>by
   have:=FC b m [];rw[A']at this;exact this
  rw[G];cases b with
  |nil=>simp
  |cons a O=>rw[wA (by simp)]
 refine wpAny_binaryOp_repeat_ref (T:="list") (U:="int") (by decide) ⟨_,e,rfl⟩ (λJ=>typeIs_int J k t) noFill_list_mul F.fills_int_mul F.slot_int_rmul repeat_list F.slot_int_index.lookup
  (oV F.slot_int_rmul (typeIs_int s k t) F.entry_int_rmul (F.args_int_rmul_2 _ _) (int___rmul___int_list k t l b.toArray n)
   ⟨e,rfl,⟨_,e,rfl⟩,oV F.slot_list_mul ⟨_,e,rfl⟩ F.entry_list_mul (F.args_list_mul_2 _ _) (AutoListH.list___mul___list_int_3 l b.toArray n k t g f c) ⟨e,?_⟩⟩)
 rw[i];exact⟨.ref _,_,I.lnew (t':=s.toks) (r.rep k.toNat) (by rw[JW,Nat.mul_comm];exact p),rfl,q _ I.fresh⟩
end
end L2
namespace Att
open PySem PySem.W PySem.Calls PyProof.Rows
def HE{P:Params}{h:Heap}: ∀(c:Zs) (d:Vs),WellAll P h d (c.map WData.int)->IntsAre d c:=by
 intro c
 induction c with
 |nil=>
  intro d w;rw[wh]at w;cases w;exact .nil
 | cons n c e=>
  intro d w;rw[gv]at w;cases w with
  |cons a b=>
   cases a;exact .cons _ _ (e _ b)
def F'{l:OpenLaw}{n:Nat}(s:l.most=some n){P:Params}{h:Heap}{args:List WData}{c:Vs}
  (e:l.row.toRowW.claim.pre args=true) (k:WellAll P h c args):
  ∃a o b,c=[Value.ref a]/\args=[WData.list (b.map WData.int)]/\h.get? a=some {cls:= .type "list",data:= .seq o.toArray}/\IntsAre o b/\b.length<=n:=by
 have m:WShape.hasAll [] args [.list .int]=true:=(pre_splitW e).1;have p:l.pre.holds [] {args:=args}=true:=(pre_splitW e).2;obtain⟨d,r,rfl,t,u⟩:=hasAllW_cons m;obtain rfl:=hasAllW_nil u;obtain⟨A,rfl,v⟩:=hasW_list t;obtain⟨b,rfl⟩:=items_int v;have f:b.length<=n:=by
  unfold OpenLaw.pre at p;have i:(WTm.not (.lt (.lit (.int (n:Int))) (.len (.arg 0)))).holds [] {args:=[.list (b.map .int)]}=true:=by
   have i:=(holds_andW p).1;rw[s]at i;exact i
  have j:=condW_of i (w_not (w_lt w_lit (w_len_list (w_arg rfl))));rw[cz]at j;refine xC λq=>?_;have w:(n:Int)<((b.length:Nat):Int):=by lia
  first
   |(rw[dX w]at j;exact wC j (by decide))
   |(simp at j;lia)
 cases k with
 |cons x y=>
  cases y;cases x with
  |list z g=>exact⟨_,_,b,rfl,rfl,z,HE b _ g,f⟩
def Lf(l:OpenLaw)(args:List WData):l.row.toRowW.claim.post args (.bool true) args=true:=
 postW_of (r:=l.row.toRowW) (X:=(true==true))
  (show WShape.has [] (.bool true) .bool=true by first|rfl|decide|simp[WShape.has,WShape.arms,WShape.armsAll])
  (show(WTm.eq .res (.lit (.bool true))).value [] {args:=args,res:=some (.bool true),after:=args}=some (.bool (true==true))from w_eq_bool (w_res rfl) w_lit) rfl
def attach_call{l:OpenLaw}{n:Nat}{q:Pg}{c:Ss}{z:SV->Heap->Prop}{A:World->Heap->Prop}{d:DefRec}
  (E:l.most=some n) (u:d.params.defaults=[])
  (call: ∀(w:World) (e b:Sh) (mg v:SV) (fa:Ad) (o:Obj) (pm p g:Vl) (a:Ad) (i:Vs) (s:Zs),
   Ground q c [] z w e mg v b.heap->A w b.heap->
   b.heap.get? fa=some o->o.data= .func (docDef d.name d.params d.body d.scope pm p g)->b.heap.CodeRec p d.name->mg d.name=some (.ref fa)->
   b.heap.get? a=some {cls:= .type "list",data:= .seq i.toArray}->IntsAre i s->s.length<=n->b.gens= #[]->
   codeAny (model l.prog w) callerA (.call (.ref fa) ⟨[.ref a],[]⟩) (λr t=>r= .ok (.ret (.bool true))/\OldK b.heap t.heap/\t.os=b.os/\AllBare t.gens) b):
  WalkO q c z A l.row.toRowW d [] (λf i=>PySem.call f i):=by
 intro w e b mg v G Y fa o pm p g H kV I J x B hmg L args C as j D M y N;obtain rfl:H= .none:=Dflts.none B u;obtain rfl:kV= .none:=Dflts.noKw B;obtain⟨a,i,s,rfl,rfl,k,h,m⟩:=F' E j y;refine enter_call (nI (call w e b mg v fa o pm p g a i s G Y I (fd_plain J) x hmg k h m L) λr t O=>?_);obtain⟨rfl,Q,T,U⟩:=O;exact⟨.inl ⟨.bool true,.bool true,[],rfl,λ_=>rfl,.bool true,Lf l _,λ_=>⟨List.Pairwise.nil,λ_ hm=>(nomatch hm)⟩⟩,Q,T,U⟩
end Att
namespace L2
open PySem PySem.Spec PyProof.Rows
theorem FL: ∀{a:Vs} {b:Zs},IntsAre a b->Vals (b.map V.int) a
 |_,_,.nil=> .nil
 |_,_,.cons n t h=> .cons ⟨t,rfl⟩ (FL h)
abbrev MR{K:W.Frag}{h:Heap}(_:K.In h):W.Frag:=K
end L2
namespace L2
open PySem PySem.Spec PyProof.Rows
def jq(s:Stmt):Arguments:=match s with
 | .FunctionDef _ a _ _ _ _ _ _ _ _=>a
 |_=>{posonlyargs:=[],args:=[],vararg:=none,kwonlyargs:=[],kw_defaults:=[],kwarg:=none,defaults:=[]}
def ik(s:Stmt):List Stmt:=match s with
 | .FunctionDef _ _ b _ _ _ _ _ _ _=>b
 |_=>[]
def cU(s:Stmt):Scope:=match s with
 | .FunctionDef _ _ _ _ _ _ a _ _ _=>a
 |_=>{kind:= .function,names:=[],isGenerator:=false,isCoroutine:=false}
abbrev cZ:ov:=λ_ _ _ _ _ _=>False
abbrev E0:XK:=λ_ _ _=>False
def ua{X:Cx}:pS cZ X E0:=λ_ _ _ _ _ _ _ h=>h.elim
structure Fun(K:W.Frag)(x qual:Str)(st:Stmt)(f:Ad)(fd:Fd):Prop where
 ex: ∃(oc:Vl) (od:Option Ad) (kV doc pm:Vl) (an:Option Ad) (cdv ct:Vl) (osl:Array (Option Vl)),
  fd=PySem.W.fnOf x qual (jq st) (ik st) (cU st) .none kV doc pm an cdv ct/\K.lookup f=some ⟨oc,od,.func fd,osl⟩/\PySem.W.codeIn K cdv qual=true
 kp:PySem.W.keepIn K (.ref f)=true
section
variable{P:Pg}{w:World}{K:W.Frag}{mg:SV}{base:Heap}
def Fun.ok{x b:Str}{st:Stmt}{f:Ad}{l:Fd}{N e:Ss}{k:Nat}{g:Sp}(F:Fun K x b st f l)(S:FnScope N e (cU st))(len: ∀vs H Q E,g vs H Q E->vs.length=e.length)
  (d: ∀(c:Vl) (A:Ar) (a:List Env) (s:Sh) (H:Hp) (vs:List V) (Q:VK) (E:XK),Room k (A.deeper (envOfC b (cU st) s.heap.objs.size f c))->g vs H Q E->
   ∃t,PSs (oU cZ P w K mg base N b (cU st) f c A a s H E).nox (ik st) t/\t {nx:=λ_ H'=>Q .non H',rt:=Q} (start N vs) H):FnOk P w K mg base cZ (k+1) f l e g:=by
 obtain⟨p,r,kV,m,pm,u,c,v,n,rfl,lk,i⟩:=F.ex;refine CO lk i S len λA a s H vs Q E o j=>?_;obtain⟨t,h,q⟩:=d c A a s H vs Q E o j;exact⟨t,h.nox,q⟩
def Fun.binds{x a:Str}{st:Stmt}{f:Ad}{i:Fd}{ps:Ss}(F:Fun K x a st f i)
  (h: ∀(kV b pm:Vl) (d:Option Ad) (c e:Vl) (g:Vs),g.length=ps.length->bindArgs (PySem.W.fnOf x a (jq st) (ik st) (cU st) .none kV b pm d c e) ⟨g,[]⟩=pure (ps.zip g)):Binds K i ps []:=by
 obtain⟨l,m,kV,b,pm,d,c,e,j,rfl,lk,k⟩:=F.ex;exact .all (h kV b pm d c e)
def a4x{x a:Str}{st:Stmt}{f:Ad}{i:Vl}{j g:Option Ad}{e:Array (Option Vl)}{kV d pm b h:Vl}(l:K.lookup f=some ⟨i,j,.func (PySem.W.fnOf x a (jq st) (ik st) (cU st) .none kV d pm g b h),e⟩)
  (c:PySem.W.codeIn K b a=true) (k:PySem.W.keepIn K (.ref f)=true):Fun K x a st f (PySem.W.fnOf x a (jq st) (ik st) (cU st) .none kV d pm g b h):=⟨⟨i,j,kV,d,pm,g,b,h,e,rfl,l,c⟩,k⟩
end
def hR{A:Ar}{k:Nat}(a:Room k A):A.units+1<cLine:=sZ (uK (by decide:1<=64) _) a.units
def KW{n:Nat}(h:n<=1000):n<sizeLine:=sZ h (by decide)
section
variable{X:Cx}
def pv(i:Nat){x:Str}{pos:Pos}(b:X.N[i]? =some x:=by rfl)(c:xi X.env.scope x:=by first|exact Or.inl rfl|exact Or.inr (Or.inl rfl)|exact Or.inr (Or.inr rfl))(d:(x==("__debug__":Str))=false:=by decide)
  (a:(x==("__classdict__":Str))=false:=by decide):PE X (.Name x pos) (fI i):=MG b c d a
end
def fj{A B:Prop}(h:B):if false=true then A else B:=by
 rw[wA gy];exact h
def fm{A B:Prop}(h:A):if true=true then A else B:=by
 rw[wB rfl];exact h
def ju{c A B:Prop}[Decidable c](a:c->A)(b: ¬c->B):if c then A else B:=by
 by_cases h:c
 .rw[wB h];exact a h
 .rw[wA h];exact b h
def Same(H a:Hp):Prop:= ∀b o,H b=some o->a b=some o
def Same.refl(H:Hp):Same H H:=λ_ _ h=>h
def Same.trans{H d e:Hp}(a:Same H d)(b:Same d e):Same H e:=λc o h=>b c o (a c o h)
def Same.free{H a:Hp}(e:Same H a){l:Ad}(h:a l=Option.none):H l=Option.none:=by
 cases q:H l with
 |none=>rfl
 |some o=>
  rw[e l o q]at h;cases h
def Same.seq{K:W.Frag}{H b:Hp}{a:Ad}{xs:List V}(e:Same H b)(h:SqL K H a xs):SqL K b a xs:=by
 rcases h with(h|⟨o,h⟩)|h
 .exact .inl (.inl (e _ _ h))
 .exact .inl (.inr ⟨o,e _ _ h⟩)
 .exact .inr h
section
variable{κ:Type}[DecidableEq κ]
def gM(a:List (κ×V))(k:κ):Option V:=(a.find? λb=>decide (b.1=k)).map (·.2)
def io(a:List (κ×V))(k:κ)(v:V):List (κ×V):=
 if(a.any λb=>decide (b.1=k))=true then a.map (λb=>if b.1=k then(b.1,v)else b)else a++[(k,v)]
def vp{p:κ×V}{r:List (κ×V)}{k:κ}(e:p.1=k):gM (p::r) k=some p.2:=by simp[gM,List.find?_cons,e]
def t7{p:κ×V}{r:List (κ×V)}{k:κ}(e: ¬p.1=k):gM (p::r) k=gM r k:=by simp[gM,List.find?_cons,e]
theorem yT(k:κ): ∀a:List (κ×V),(a.any λb=>decide (b.1=k))=(gM a k).isSome
 | []=>rfl
 |p::r=>by
  rw[qx];by_cases e:p.1=k
  .simp only[vp e,decide_eq_true e,Bool.true_or,Option.isSome_some]
  .rw[t7 e,fg e,Bool.false_or];exact yT k r
def Dc(a:List (κ×V))(k:κ)(v:V):(io a k v).length<=a.length+1:=by
 unfold io;split
 .rw[cz];lia
 .rw[dF,jz,List.length_nil];lia
def zn{a:List (κ×V)}{k:κ}(v:V)(h:gM a k=none):io a k v=a++[(k,v)]:=by
 unfold io;rw[yT,h];exact wA (by decide)
def RelO.isSome_eq{o:Option V}{u:Option Vl}(r:RelO o u):o.isSome=u.isSome:=by
 cases o with
 |none=>cases u with
  |none=>rfl
  |some _=>exact(show False from r).elim
 |some _=>cases u with
  |none=>exact(show False from r).elim
  |some _=>rfl
def KV.val{a:List (κ×V)}{f:List (κ×Vl)}(r:KV a f)(k:κ):RelO (gM a k) (valueAt f k):=by
 unfold KV at r
 induction r with
 |nil=>exact True.intro
 | @cons p q l c h t i=>
  obtain⟨g,j⟩:=h;by_cases e:p.1=k
  .have d:q.1=k:=g.symm.trans e;have b:valueAt (q::c) k=some q.2:=by simp[valueAt,List.find?_cons,d]
   rw[vp e,b];exact j
  .have d: ¬q.1=k:=λz=>e (g.trans z);have b:valueAt (q::c) k=valueAt c k:=by simp[valueAt,List.find?_cons,d]
   rw[t7 e,b];exact i
def KV.any{a:List (κ×V)}{c:List (κ×Vl)}(r:KV a c)(k:κ):(a.any λb=>decide (b.1=k))=c.any λb=>decide (b.1=k):=by
 unfold KV at r
 induction r with
 |nil=>rfl
 |cons h t d=>rw[qx,qx,d,h.1]
def KV.repl{b:List (κ×V)}{d:List (κ×Vl)}(r:KV b d)(k:κ){y:V}{u:Vl}(f:RelV y u):
  KV (b.map λa=>if a.1=k then(a.1,y)else a) (d.map λa=>if a.1=k then(a.1,u)else a):=by
 unfold KV at r⊢
 induction r with
 |nil=>exact .nil
 | @cons p q j l h t g=>
  rw[gv,gv];refine .cons ?_ g;obtain⟨c,i⟩:=h;by_cases e:p.1=k
  .rw[wB e,wB (c.symm.trans e)];exact⟨c,f⟩
  .rw[wA e,wA (λz=>e (c.trans z))];exact⟨c,i⟩
def KV.put{a:List (κ×V)}{b:List (κ×Vl)}(r:KV a b)(k:κ){y:V}{u:Vl}(c:RelV y u):KV (io a k y) (stored b k u):=by
 unfold io stored;rw[r.any k];by_cases e:(b.any λd=>decide (d.1=k))=true
 .rw[wB e,wB e];exact r.repl k c
 .rw[wA e,wA e];exact Paired.snoc r ⟨rfl,c⟩
def KV.length{a:List (κ×V)}{vs:List (κ×Vl)}(r:KV a vs):a.length=vs.length:=nq r
end
def s9{P:Pg}{w:World}{k:dr}{u:Vl}(r:RelV (kV k) u):(je P w).is k u=true:=by
 cases k with
 |inl i=>obtain⟨t,e⟩:=(show ∃t,u=Value.int i t from r);subst e;exact Hi P w i t
 |inr x=>obtain⟨t,e⟩:=(show ∃t,u=Value.str x t from r);subst e;exact MJ P w x t
theorem EL{P:Pg}{w:World}: ∀{a:List dr} {b:Vs},Vals (a.map kV) b->ItemsAre (je P w) a b
 | [],_,r=>by rw[wh]at r;cases r;exact .nil
 |k::a,_,r=>by
  rw[gv]at r;cases r with
  |cons h t=>exact .cons (s9 h) (EL t)
abbrev KT(H:Hp):List (List dr×V)->List (List dr×Ad×Vl)->Prop:=Paired λp q=>p.1=q.1/\H q.2.1=some (.tup (p.1.map kV))/\RelV p.2 q.2.2
def KT.val{H:Hp}{a:List (List dr×V)}{f:List (List dr×Ad×Vl)}(r:KT H a f)(k:List dr):RelO (gM a k) ((atKey f k).map (·.2)):=by
 induction r with
 |nil=>exact True.intro
 | @cons p q l c h t i=>
  obtain⟨g,_,j⟩:=h;by_cases e:p.1=k
  .have d:q.1=k:=g.symm.trans e;have b:atKey (q::c) k=some q.2:=by simp[atKey,List.find?_cons,d]
   rw[vp e,b];exact j
  .have d: ¬q.1=k:=λz=>e (g.trans z);have b:atKey (q::c) k=atKey c k:=by simp[atKey,List.find?_cons,d]
   rw[t7 e,b];exact i
def KT.repl{H:Hp}{a:List (List dr×V)}{d:List (List dr×Ad×Vl)}(r:KT H a d)(k:List dr){y:V}{u:Vl}(g:RelV y u):
  KT H (a.map λc=>if c.1=k then(c.1,y)else c) (d.map (putAt k u)):=by
 induction r with
 |nil=>exact .nil
 | @cons p q l m h t i=>
  rw[gv,gv];refine .cons ?_ i;obtain⟨b,f,j⟩:=h;unfold putAt;by_cases e:p.1=k
  .rw[wB e,wB (b.symm.trans e)];exact⟨b,f,g⟩
  .rw[wA e,wA (λz=>e (b.trans z))];exact⟨b,f,j⟩
def KT.put{H:Hp}{a:List (List dr×V)}{c:List (List dr×Ad×Vl)}(r:KT H a c)(k:List dr){b:Ad}{y:V}{u:Vl}(f:H b=some (.tup (k.map kV)))(d:RelV y u):
  KT H (io a k y) (storedH c k b u):=by
 have e:(a.any λg=>decide (g.1=k))=(atKey c k).isSome:=by
  rw[yT,(r.val k).isSome_eq,BE]
 unfold io storedH;rw[e];by_cases q:(atKey c k).isSome=true
 .rw[wB q,wB q];exact r.repl k d
 .rw[wA q,wA q];exact Paired.snoc r ⟨rfl,f,d⟩
def KT.keeps{H c:Hp}{a:List (List dr×V)}{d:List (List dr×Ad×Vl)}(r:KT H a d)(ht: ∀b ys,H b=some (.tup ys)->c b=some (.tup ys)):KT c a d:=
 Paired.mapP r λ_ _ z=>⟨z.1,ht _ _ z.2.1,z.2.2⟩
section
variable{P:Pg}{w:World}{H:Hp}{h:Heap}{a:Ad}
def Ch{u:HO}(ok:HOk P w H h)(e:Rd H a u):ObjOk P w H h a u:=e.ok ok
def t6{b:List (dr×V)}(ok:HOk P w H h)(e:Rd H a (.dK b)):b.length<=sizeLine/\(a==sysModules)=false/\ ∃c,KV b c/\h.DictOf (je P w) a c:=
 show ObjOk P w H h a (.dK b)from Ch ok e
def tY{b:List (dr×V)}(ok:HOk P w H h)(e:H a=some (.dK b)):b.length<=sizeLine/\(a==sysModules)=false/\ ∃c,KV b c/\h.DictOf (je P w) a c:=t6 ok (.inl e)
def sr{b:List dr}(ok:HOk P w H h)(e:H a=some (.tup (b.map kV))):(tupleKind (je P w)).is h b a:=by
 obtain⟨_,c,r,o,d,f,n,g,_⟩:=(show ObjOk P w H h a (.tup (b.map kV))from ok a _ e);exact⟨o,c.toArray,n,d,f,g,by simpa using EL r⟩
def sR{b:List (List dr×V)}(ok:HOk P w H h)(e:Rd H a (.dT b)):b.length<=sizeLine/\(a==sysModules)=false/\
  ∃c,KT H b c/\h.DictOfH (tupleKind (je P w)) a c:=by
 obtain⟨z,y,c,r,o,f,g,i,j,k,n,s⟩:=(show ObjOk P w H h a (.dT b)from Ch ok e);refine⟨z,y,c,r,o,f,g,i,j,k,n,λx hx=>?_,s⟩;have all: ∀{l:List (List dr×V)} {m:List (List dr×Ad×Vl)},KT H l m-> ∀x∈m,(tupleKind (je P w)).is h x.1 x.2.1:=by
  intro l m q
  induction q with
  |nil=>intro x hx;exact nomatch hx
  | @cons p q v A d t u=>
   intro x hx
   rcases dQ.mp hx with e|hx
   .subst e;exact sr ok (by rw[<-d.1];exact d.2.1)
   .exact u x hx
 exact all r x hx
def A1{b:List (List dr×V)}(ok:HOk P w H h)(e:H a=some (.dT b)):b.length<=sizeLine/\(a==sysModules)=false/\
  ∃c,KT H b c/\h.DictOfH (tupleKind (je P w)) a c:=sR ok (.inl e)
end
def DGet(H:Hp)(a:Ad)(y:V)(r:Option V):Prop:=
 (∃c k,Rd H a (.dK c)/\y=kV k/\r=gM c k)∨ ∃c k b,Rd H a (.dT c)/\y= .ref b/\H b=some (.tup (k.map kV))/\r=gM c k
def DPut(H:Hp)(a:Ad)(y v:V)(d:Hp):Prop:=
 (∃c k,H a=some (.dK c)/\y=kV k/\c.length<sizeLine/\d=cw H a (.dK (io c k v)))∨
 ∃c k b,H a=some (.dT c)/\y= .ref b/\H b=some (.tup (k.map kV))/\c.length<sizeLine/\d=cw H a (.dT (io c k v))
def DGet.t{H:Hp}{a b:Ad}{c:List (List dr×V)}{k:List dr}(e:H a=some (.dT c))(d:H b=some (.tup (k.map kV))):DGet H a (.ref b) (gM c k):= .inr ⟨c,k,b,.inl e,rfl,d,rfl⟩
def DPut.t{H:Hp}{a b:Ad}{c:List (List dr×V)}{k:List dr}{v:V}(e:H a=some (.dT c))(d:H b=some (.tup (k.map kV)))(f:c.length<sizeLine):
  DPut H a (.ref b) v (cw H a (.dT (io c k v))):= .inr ⟨c,k,b,e,rfl,d,f,rfl⟩
section
variable{X:Cx}{za:AO}{σ:St}{H:Hp}{s:Sh}{a:Ad}{y v:V}{u r:Vl}{o:Option V}{A:Ar}{E:VP}
def Inv.big(I:Inv X za σ H s):sysModules<s.heap.objs.size:=by
 have h:mainGlobals<s.heap.objs.size:=(I.mod.glob.keeps I.bk).lt;exact sP (by decide) h
def Jl{Q:VP}(w:A.units+1<cLine)(I:Inv X za σ H s)(g:DGet H a y (some v))(q:RelV y u)(h: ∀f t,Inv X za σ H t->RelV v f->Q f t):
  wpAny (model X.prog X.w) A (getItem (.ref a) u) Q E s:=by
 rcases g with⟨i,k,e,j,l⟩|⟨i,k,b,e,j,x,l⟩
 .subst j;obtain⟨z,B,C,c,m⟩:=t6 I.hok e;obtain⟨f,hw,d⟩:=RelO.some_of (v:=v) (o:=valueAt C k) (by rw[l];exact c.val k);exact wpAny_getItem_of (s9 q) m.mapOf hw (h f _ (I.tok _) d)
 .subst j;cases(show u=Value.ref b from q);obtain⟨z,B,D,c,m⟩:=sR I.hok e;obtain⟨f,hw,d⟩:=RelO.some_of (v:=v) (o:=(atKey D k).map (·.2)) (by rw[l];exact c.val k);obtain⟨p,G,n⟩:=eC.mp hw;refine wpAny_getItem_heap (vO w) (sr I.hok x) m G ?_;rw[n];exact h f _ (I.tok _) d
def AK{Q:VP}(p:A.units+1<cLine)(I:Inv X za σ H s)(g:DGet H a y o)(m:RelV y u)(h: ∀n,Inv X za σ H n->Q (.bool o.isSome) n):
  wpAny (model X.prog X.w) A (compareOp .In u (.ref a)) Q E s:=by
 rcases g with⟨d,k,e,f,l⟩|⟨d,k,b,e,f,t,l⟩
 .subst f;obtain⟨z,i,w,c,j⟩:=t6 I.hok e;refine wpAny_in_of (s9 m) i j.mapOf ?_;rw[<-(c.val k).isSome_eq,<-l];exact h _ (I.tok _)
 .subst f;cases(show u=Value.ref b from m);obtain⟨z,i,x,c,j⟩:=sR I.hok e;refine wpAny_in_heap (vO p) (sr I.hok t) i j ?_;have q:=(c.val k).isSome_eq;rw[BE]at q;rw[<-q,<-l];exact h _ (I.tok _)
def LQ{Q:VP}(p:A.units+1<cLine)(I:Inv X za σ H s)(g:DGet H a y o)(m:RelV y u)(h: ∀n,Inv X za σ H n->Q (.bool (!o.isSome)) n):
  wpAny (model X.prog X.w) A (compareOp .NotIn u (.ref a)) Q E s:=by
 rcases g with⟨d,k,e,f,l⟩|⟨d,k,b,e,f,t,l⟩
 .subst f;obtain⟨z,i,w,c,j⟩:=t6 I.hok e;refine wpAny_notIn_of (s9 m) i j.mapOf ?_;rw[<-(c.val k).isSome_eq,<-l];exact h _ (I.tok _)
 .subst f;cases(show u=Value.ref b from m);obtain⟨z,i,x,c,j⟩:=sR I.hok e;refine wpAny_notIn_heap (vO p) (sr I.hok t) i j ?_;have q:=(c.val k).isSome_eq;rw[BE]at q;rw[<-q,<-l];exact h _ (I.tok _)
def Aw{c:Heap}{f:Nat}{d:HO}(I:Inv X za σ H s)(g:uO (H a))(h:Heap.SameBut a s.heap c)(i: ∃q,c.get? a=some q)(new:ObjOk X.prog X.w (cw H a d) c a d):
  Inv X za σ (cw H a d) {s with heap:=c,toks:=f}:=
 I.write (x:=a) (e:=a) g (.inl rfl) (λb q j z=>(h.2 b j).trans z) i new
def JD{P:Pg}{w:World}{f:Hp}{e:Heap}{b:List (dr×V)}{c:List (dr×Vl)}(z:b.length<=sizeLine)(g:(a==sysModules)=false)(d:KV b c)(h:e.DictOf (je P w) a c):
  ObjOk P w f e a (.dK b):=⟨z,g,c,d,h⟩
def J8{C:Hp}{Q:Unit->Sh->Prop}(O:A.units+1<cLine)(I:Inv X za σ H s)(g:DPut H a y v C)(D:RelV y u)(G:RelV v r)(h: ∀J,Inv X za σ C J->Q () J):
  wpAny (model X.prog X.w) A (setItem (.ref a) u r) Q E s:=by
 rcases g with⟨d,k,e,m,l,n⟩|⟨d,k,b,e,m,L,l,n⟩
 .subst m n;obtain⟨z,p,T,f,t⟩:=tY I.hok e;have w:T.length<=sizeLine:=by rw[<-f.length];exact z
  have x:(io d k v).length<=sizeLine:=by have:=Dc d k v;lia
  refine wpAny_setItem_pairs (hsz:=w) (s9 D) t λM i B=>h _ ?_;have U: ∃q,M.get? a=some q:=let⟨q,_,_,j,_⟩:=i;⟨q,j⟩
  exact Aw I (by rw[e];exact True.intro) B U (JD x p (f.put k G) i)
 .subst m n;cases(show u=Value.ref b from D);obtain⟨z,p,Y,f,t⟩:=A1 I.hok e;have w:Y.length<=sizeLine:=by rw[<-nq f];exact z
  have x:(io d k v).length<=sizeLine:=by have:=Dc d k v;lia
  refine wpAny_setItem_heap (hsz:=w) (vO O) (sr I.hok L) t λM i B=>h _ ?_;obtain⟨q,es,ep,j,h2,h3,h4,_,h5⟩:=i;refine Aw I (by rw[e];exact True.intro) B ⟨q,j⟩ ⟨x,p,_,(f.put k L G).keeps λc ys N=>?_,q,es,ep,j,h2,h3,h4,h5⟩;rw[cF (nE N e)];exact N
end
def t0(i:Expr):Prop:= ∀a b,subscripted i false a b=operate [a,b] (getItem a b)
def IF{a:Pg}{w:World}{A:Ar}{E:VP}{s:Sh}{j:Env}{c b:Expr}{pos:Pos}{T id:String}{Q:VP}
  (m:typeLookup (.type T) "__getitem__"=pure (some (.builtin id))) (n:t0 b)
  (h:wpAny (model a w) A (eval c j) (λo f=>wpAny (model a w) A (eval b j) (λi d=>d.TypeIs o T/\wpAny (model a w) A (getItem o i) Q E d) E f) E s):
  wpAny (model a w) A (eval (.Subscript c b pos) j) Q E s:=by
 refine Subscript_ (gN h (λo f k=>gN k (λi d e=>?_) λ_ _ x=>x) λ_ _ x=>x);obtain⟨hT,e⟩:=e;unfold subscriptTail;refine cy ?_;rw[getitemInPython_of_ne hT.not_modules];refine cy (BI hT m ?_);have fin:wpAny (model a w) A (subscripted b false o i) (λr g=>wpAny (model a w) A (letTemporaryGo c o r >>= λ_=>pure r) Q E g) E d:=by
  rw[n o i];exact wpAny_operating (gN e (λr g l=>cy (wpAny_letTemporaryGo (cG l))) λ_ _ x=>x)
 first
  |exact cG (cy fin)
  |exact cy (cG (cy fin))
  |exact cy fin
def Hz{X:Cx}{f:AO}{h:St}{H:Hp}{s:Sh}{a:Ad}{y:V}{o:Option V}(I:Inv X f h H s)(g:DGet H a y o):s.TypeIs (.ref a) "dict":=by
 rcases g with⟨c,k,e,_,_⟩|⟨c,k,b,e,_,_,_⟩
 .obtain⟨_,_,i,_,d⟩:=t6 I.hok e;exact d.typeIs
 .obtain⟨_,_,j,_,d⟩:=sR I.hok e;exact d.typeIs
def Eo(d ty:TE):TE:=λb H Q=>d b H λx e=>ty b e λy c=> ∃a v,x= .ref a/\DGet c a y (some v)/\Q v c
def BD(ty d:TE):TE:=λb H Q=>ty b H λy e=>d b e λx c=> ∃a o,x= .ref a/\DGet c a y o/\Q (.bl o.isSome) c
def Cr(ty d:TE):TE:=λb H Q=>ty b H λy e=>d b e λx c=> ∃a o,x= .ref a/\DGet c a y o/\Q (.bl (!o.isSome)) c
def EW(d ty e:TE):TS:=λD b H=>e b H λv f=>d b f λx g=>ty b g λy h=> ∃a c,x= .ref a/\DPut h a y v c/\D.nx b c
section
variable{X:Cx}{o i e value:Expr}{pos pos' tpos:Pos}{td ty tv:TE}
def lF(j:X.A.units+1<cLine)(k:PE X o td)(l:PE X i ty)(m:t0 i):PE X (.Subscript o i pos) (Eo td ty):=by
 intro c s d H Q I h;refine IF PySem.F.slot_dict_getitem.lookup m (cP (k c s d H _ I h) λu n ⟨x,p,q,r,t⟩=>cP (l c n d p _ q t) λD E ⟨y,w,f,z,a,v,A,g,B⟩=>?_);subst A;obtain rfl:u=Value.ref a:=r;exact⟨Hz f g,Jl j f g z λG J C b=>⟨v,w,C,b,B⟩⟩
def pH(d:X.A.units+1<cLine)(f:PE X i ty)(j:PE X o td):PC X .In i o (BD ty td):=by
 intro b s c H Q I h;refine cP (f b s c H _ I h) λB k ⟨y,l,m,n,p⟩=>cP (j b k c l _ m p) λu C ⟨x,q,r,t,a,v,w,g,z⟩=>?_;subst w;obtain rfl:u=Value.ref a:=t;exact AK d r g n λD A=>⟨.bl v.isSome,q,A,rfl,z⟩
def xf(d:X.A.units+1<cLine)(f:PE X i ty)(j:PE X o td):PC X .NotIn i o (Cr ty td):=by
 intro b s c H Q I h;refine cP (f b s c H _ I h) λB k ⟨y,l,m,n,p⟩=>cP (j b k c l _ m p) λu C ⟨x,q,r,t,a,v,w,g,z⟩=>?_;subst w;obtain rfl:u=Value.ref a:=t;exact LQ d r g n λD A=>⟨.bl (!v.isSome),q,A,rfl,z⟩
def qp(d:X.A.units+1<cLine)(f:PE X o td)(j:PE X i ty)(k:PE X value tv)(l:swapsWith value (some (.Subscript o i pos')) pos.line X.env=pure false):
  PS X (.Assign [.Subscript o i pos'] value pos) (EW td ty tv):=by
 intro c s b H D I h;refine wpAny_Assign_Subscript (cP (k c s b H _ I h) λr m ⟨v,n,p,q,t⟩=>cP (f c m b n _ p t) λu w ⟨x,z,A,B,C⟩=>cP (j c w b z _ A C) λO Q ⟨y,T,E,G,a,J,L,g,M⟩=>?_) l;subst L;obtain rfl:u=Value.ref a:=B;exact J8 d E g G q λU N=>⟨b,J,N,M⟩
end
def FX{P:Pg}{w:World}{H:Hp}(h:Heap)(a:sysModules<h.objs.size):ObjOk P w H (h.push {cls:= .type "dict",data:= .dict #[]}) h.objs.size (.dT []):=
 ⟨hJ _,mO.mpr (eJ (dS a)),[],.nil,_,#[],0,eO _ rfl,⟨rfl,rfl,rfl⟩,rfl,rfl,List.nodup_nil⟩
def Ks:TE:=λ_ H Q=> ∀p,H p=none->Q (.ref p) (cw H p (.dT []))
section
variable{X:Cx}{pos:Pos}
def tX:PE X (.Dict [] [] pos) Ks:=λb s c H Q I h=>
 wpAny_Dict_empty ⟨.ref s.heap.objs.size,_,I.laid (a:=s.heap.objs.size) (o:= .dT []) (t':=s.toks) (λ_ _ q=>dI _ q) (cM _) (FX s.heap I.big),rfl,h _ (I.hok.fresh (cM _))⟩
end
def Fw:List (TE×TE)->St->Hp->(List (V×V)->Hp->Prop)->Prop
 | [],_,H,Q=>Q [] H
 |(b,c)::r,a,H,Q=>b a H λx d=>c a d λy e=>Fw r a e λf g=>Q ((x,y)::f) g
abbrev VV:List (V×V)->List (Vl×Vl)->Prop:=Paired λp q=>RelV p.1 q.1/\RelV p.2 q.2
def Bs(X:Cx)(pos:Pos)(keys:List (Option Expr))(a:List Expr)(b:List (TE×TE)):Prop:=
 ∀(d:AO) (s:Sh) (c:St) (H:Hp) (Q:List (V×V)->Hp->Prop),Inv X d c H s->Fw b c H Q->
  wpAny (model X.prog X.w) X.A (evalPairs (pairTrees keys a X.env pos)) (λg h=> ∃e f,Inv X d c f h/\VV e g/\Q e f) X.xe s
def GY{X:Cx}{pos:Pos}:Bs X pos [] [] []:=λa s b H Q I h=>pairTrees_nil_walk ⟨[],H,I,.nil,h⟩
def JX{X:Cx}{pos:Pos}{k v:Expr}{e:List (Option Expr)}{f:List Expr}{g i:TE}{a:List (TE×TE)}(j:PE X k g)(l:PE X v i)(m:Bs X pos e f a):
  Bs X pos (some k::e) (v::f) ((g,i)::a):=λb s c H Q I h=>
 pairTrees_cons_walk (cP (j b s c H _ I h) λu n ⟨x,o,p,q,r⟩=>cP (l b n c o _ p r) λJ t ⟨y,w,z,A,B⟩=>
  cP (m b t c w _ z B) λL M ⟨C,D,E,d,G⟩=>⟨(x,y)::C,D,E,.cons ⟨q,A⟩ d,G⟩)
structure M1(X:Cx)(o:Expr)(m:Str)(apos:Pos)(e:Expr)(cpos:Pos):Prop where
 base:attributeBase o m X.env (eval o X.env)=eval o X.env
 few:((backTo cpos (starEach [e] X.env)).all (λx=> !x.1)&&(backToKw cpos (keywordEach [] X.env)).all (λx=>x.1.isSome)
  &&decide (([e]:List Expr).length+([]:List Keyword).length+(if([]:List Keyword).isEmpty then 0 else 1)<30))=true
 line:(apos.endLine==cpos.line)=true
 trees:backTo cpos (starEach [e] X.env)=[(false,eval e X.env)]
theorem ED{b a:Type}{f:b->a->Sem (ForInStep a)}{g:a->b->a}: ∀{l:List b} (c:a),(∀x∈l,∀c,f x c=pure (.yield (g c x)))->forIn l c f=pure (l.foldl g c)
 | [],_,_=>rfl
 |x::l,c,h=>by
  rw[List.forIn_cons,h x (dP ..),pure_bind];exact ED (g c x) λy d=>h y (fc _ d)
def lX(b:Env)(a:List (Str×Ad))(y:Str×NameKind):List (Str×Ad):=
 if y.2== .free then(match b.cells.lookup y.1 with|some c=>(y.1,c)::a|none=>a)else a
def gc(a:Env)(b:Scope):List (Str×Ad):=b.names.foldl (lX a) []
def DF{a:Env}{b:Scope}(h: ∀y∈b.names,y.2= .free-> ∃c,a.cells.lookup y.1=some c):closureFor b a=pure (gc a b):=by
 simp only[closureFor];rw[ED (g:=lX a) [] λx i c=>?_]
 .rfl
 .obtain⟨n,k⟩:=x;by_cases f:k= .free
  .subst f;obtain⟨d,j⟩:=h _ i rfl;have e:a.cells.lookup n=some d:=j;simp only[lX,cellOf,e,beq_self_eq_true,if_true,pure_bind]
  .have l:(k==NameKind.free)=false:=by simpa using f
   simp only[lX,l,Bool.false_eq_true,if_false]
theorem ph{a:Env}: ∀(names:List (Str×NameKind)) (b:List (Str×Ad)),(∀y c,b.lookup y=some c->a.cells.lookup y=some c)->
  ∀y c,(names.foldl (lX a) b).lookup y=some c->a.cells.lookup y=some c
 | [],_,h=>h
 | (n,k)::r,b,h=>by
  refine ph r _ λy c e=>?_;unfold lX at e;split at e
  .split at e
   .rename_i d i
    rw[iB]at e;cases f:y==n with
    |true=>
     rw[f]at e;have g:y=n:=eq_of_beq f;cases e;rw[g];exact i
    |false=>rw[f]at e;exact h y c e
   .exact h y c e
  .exact h y c e
theorem Cu{e:Env}: ∀(a:List (Str×NameKind)) (b:List (Str×Ad)) (y:Str),(∃c,b.lookup y=some c)-> ∃c,(a.foldl (lX e) b).lookup y=some c
 | [],_,_,h=>h
 | (n,k)::r,b,y,h=>by
  refine Cu r _ y ?_;unfold lX;split
  .split
   .rename_i d f
    rw[iB];cases g:y==n with
    |true=>exact⟨_,rfl⟩
    |false=>exact h
   .exact h
  .exact h
theorem yZ{d:Env}: ∀(a:List (Str×NameKind)) (b:List (Str×Ad)) (y:Str),a.lookup y=some .free->(∃c,d.cells.lookup y=some c)-> ∃c,(a.foldl (lX d) b).lookup y=some c
 | [],_,_,h,_=>by simp at h
 | (n,k)::r,b,y,h,e=>by
  rw[iB]at h;cases f:y==n with
  |true=>
   rw[f]at h;cases h;have g:y=n:=eq_of_beq f;subst g;obtain⟨c,e⟩:=e;refine Cu r _ y ?_;refine⟨c,?_⟩;unfold lX;rw[wB (by rfl)];show List.lookup y (match d.cells.lookup y with|some c=>(y,c)::b|none=>b)=_
   rw[e];simp
  |false=>
   rw[f]at h;exact yZ r _ y h e
theorem pb{a:Env}: ∀{names:List (Str×NameKind)} {y:Str} {k:NameKind},
  (names.map λ(n,k)=>if(k==NameKind.free&&a.scope.kind== .function&&a.kindOf n==some .cell)then(n,NameKind.cell)else(n,k)).lookup y=some k->
   names.lookup y=some k∨(names.lookup y=some .free/\k= .cell)
 | [],_,_,h=>by simp at h
 | (n,c)::r,y,k,h=>by
  have g:=@pb a r y k;rw[gv]at h;by_cases f:(c==NameKind.free&&a.scope.kind== .function&&a.kindOf n==some .cell)=true
  .have b:List.lookup y ((n,NameKind.cell)::(r.map λ(n,k)=>if(k==NameKind.free&&a.scope.kind== .function&&a.kindOf n==some .cell)then(n,NameKind.cell)else(n,k)))=some k:=by
    have e:(if(c==NameKind.free&&a.scope.kind== .function&&a.kindOf n==some .cell)=true then(n,NameKind.cell)else(n,c))=(n,NameKind.cell):=wB f;rw[<-e];exact h
   rw[iB]at b⊢;cases d:y==n with
   | true=>
    rw[d]at b;cases b;have i:c= .free:=by
     rw[jv,jv]at f;exact eq_of_beq f.1.1
    exact .inr ⟨by rw[i],rfl⟩
   |false=>rw[d]at b;exact g b
  .have b:List.lookup y ((n,c)::(r.map λ(n,k)=>if(k==NameKind.free&&a.scope.kind== .function&&a.kindOf n==some .cell)then(n,NameKind.cell)else(n,k)))=some k:=by
    have e:(if(c==NameKind.free&&a.scope.kind== .function&&a.kindOf n==some .cell)=true then(n,NameKind.cell)else(n,c))=(n,c):=wA f;rw[<-e];exact h
   rw[iB]at b⊢;cases d:y==n with
   |true=>rw[d]at b;exact .inl b
   |false=>rw[d]at b;exact g b
def sv(y:Str):Str:=⟨#[46]++y.cps⟩
def gm(a:Ss)(y:Str):Str:=if a.contains y=true then sv y else y
structure CompScope(X:Cx)(vs:Ss)(sc:Scope):Prop where
 kind:sc.kind= .function
 cell: ∀y∈sc.names,y.2≠ .cell
 locs: ∀y∈sc.names,y.2= .local->sc.names.lookup y.1=some .local
 own: ∀y∈X.N.map (gm vs),sc.names.lookup y≠some .local
 hid: ∀y∈vs,sc.names.lookup (sv y)=none
 nd:(vs++X.N.map (gm vs)).Nodup
 free: ∀y∈sc.names,y.2= .free->X.env.kindOf y.1=some .cell∨X.env.kindOf y.1=some .free
def ga(X:Cx)(a:Ss)(b:Scope)(C:Ad)(s:Sh)(H:Hp)(c:As):Cx where
 prog:=X.prog
 w:=X.w
 K:=X.K
 mg:=X.mg
 base:=X.base
 A:=X.A
 N:=a++X.N.map (gm a)
 s₀:=s
 H₀:=H
 env:=compEnvC b (gc X.env b) C X.env
 outer:=X.stack
 stack:=X.stack
 ex:=c
 fn:=λ_=>false
 calm:=X.calm
 pn:=X.pn
 xe:=λ_ _=>False
def gA(a:Ss)(b:St):St:=List.replicate a.length none++b
section
variable{X:Cx}{za:AO}{σ:St}{H:Hp}{s:Sh}{vs:Ss}{sc:Scope}
def L'{C:Ad}{D:As}{x:Heap}{tk:Nat}{T:SV}(S:CompScope X vs sc)(I:Inv X za σ H s)(E: ∀b∈D,FpOk X za H b)(ho: ∀b∈D,∃o,s.heap.get? b=some o)
  (k: ∀b o,s.heap.get? b=some o->x.get? b=some o) (G:x.Ns C T) (A:s.heap.objs.size<=C):Inv (ga X vs sc C s H D) za (gA vs σ) H {s with heap:=x,toks:=tk}:=by
 have a: ∀y c,(gc X.env sc).lookup y=some c->X.env.cells.lookup y=some c:=ph sc.names [] λy c e=>by simp at e
 have U: ∀y,sc.names.lookup y=some .free->X.env.kindOf y=some .cell∨X.env.kindOf y=some .free:=λy e=>S.free (y,.free) (lC e) rfl;have J: ∀y,(X.env.kindOf y=some .cell∨X.env.kindOf y=some .free)-> ∃c,X.env.cells.lookup y=some c:=λy e=>I.ok.has y e;have f: ∀{y:Str} {B:NameKind},(relabel sc X.env).names.lookup y=some B->B= .cell∨B= .free->sc.names.lookup y=some .free:=λ{y B} e hk=>by
  rcases pb (names:=sc.names) e with z|⟨z,_⟩
  .rcases hk with q|q
   .subst q;exact wC rfl (S.cell _ (lC z))
   .subst q;exact z
  .exact z
 have has: ∀y,sc.names.lookup y=some .free-> ∃c,(gc X.env sc).lookup y=some c:=λy e=>yZ sc.names [] y e (J y (U y e));have aa: ∀y c,X.env.cells.lookup y=some c->c<s.heap.objs.size:=λy c e=>let⟨_,z⟩:=I.cell y c e;z.lt
 have Y: ∀{c v},s.heap.IsCell c v->x.IsCell c v:=λ{c v} ⟨o,e,d⟩=>⟨o,k _ _ e,d⟩;refine⟨⟨I.ok.mod,S.kind,I.ok.glob,I.ok.blt,A,λy z c L M=>I.ok.inj y z c (a y c L) (a z c M),λy hy=>?_,λy c z _=>(nomatch z),I.ok.hd,I.ok.frames,.inl rfl,λb l=>⟨?_,λy c e=>?_⟩,I.bs,dE I.ok.bsz I.sz,λb o e l=>?_,λb l hs=>?_,I.stack,I.stkFree⟩,
  rfl,I.bare,Un.kept k,⟨T,G,λi y v e1 t e3=>?_⟩,λy c e=>?_,I.hok.fresh A,λy c e=>I.freeC y c (a y c e),λp hp=>?_,I.hok.kept k,?_⟩
 .have N:(relabel sc X.env).names.lookup y=some .cell∨(relabel sc X.env).names.lookup y=some .free:=hy
  rcases N with z|z
  .exact has y (f z (.inl rfl))
  .exact has y (f z (.inr rfl))
 .obtain⟨o,e⟩:=ho b l;exact dS (ft (dh e) A)
 .exact(E b l).2.2.2.2.1 y c (a y c e)
 .obtain⟨_,_,_,z,_⟩:=E b l
  rcases z with z|z
  .exact I.ok.noex b o e z
  .exact wC (ft (dh (I.ok.bs b o e).1) z) (jb _)
 .obtain⟨_,L,M,_⟩:=E b l
  rcases dQ.mp (I.stkSub b hs)with z|z
  .exact L z
  .exact M z
 .have g:(vs++X.N.map (gm vs))[i]? =some y:=e1;have h:(List.replicate vs.length none++σ)[i]? =some (some v):=t;have hi:vs.length<=i:=by
   by_cases z:i<vs.length
   .rw[e8 (by simpa using z),List.getElem?_replicate]at h;split at h<;>cases h
   .lia
  rw[eU hi]at g;rw[eU (by simpa using hi),List.length_replicate]at h;have yN:y∈X.N.map (gm vs):=cW g;have w:(relabel sc X.env).names.lookup y=some .local∨(relabel sc X.env).names.lookup y=some .cell∨(relabel sc X.env).names.lookup y=some .free:=e3;have j:sc.names.lookup y=some .free:=by
   rcases w with z|z|z
   .rcases pb (names:=sc.names) z with q|⟨_,q⟩
    .exact wC q (S.own y yN)
    .cases q
   .exact f z (.inl rfl)
   .exact f z (.inr rfl)
  have g:X.N[i-vs.length]? =some y:=by
   rw[cQ]at g;cases e:X.N[i-vs.length]? with
   |none=>rw[e]at g;cases g
   | some y0=>
    rw[e]at g;have t:gm vs y0=y:=fB g;unfold gm at t
    split at t
    .rename_i O
     rw[<-t,S.hid y0 (by simpa using O)]at j;cases j
    .rw[t]
  have ok:=U y j;obtain⟨m,_,hl⟩:=I.loc;obtain⟨u,r,lk⟩:=hl (i-vs.length) y v g h (.inr ok);refine⟨u,r,?_⟩
  rcases lk with⟨q,_⟩|⟨_,c,ec,O⟩
  .rcases ok with z|z<;>rw[z]at q<;>cases q
  .obtain⟨Q,e'⟩:=has y j;have:Q=c:=fB ((a y Q e').symm.trans ec);subst this;refine .inr ⟨?_,Q,e',Y O⟩
   rcases w with z|z|z
   .rcases pb (names:=sc.names) z with q|⟨_,q⟩
    .exact wC q (S.own y yN)
    .cases q
   .exact .inl z
   .exact .inr z
 .obtain⟨v,z⟩:=I.cell y c (a y c e);exact⟨v,Y z⟩
 .obtain⟨e,n,ne,nf,d⟩:=I.pin p hp;refine⟨k _ _ e,n,dS (ft (dh e) A),λz=>?_,d⟩
  rcases dQ.mp (I.stkSub p.1 z)with q|q
  .exact ne q
  .exact nf q
 .show(List.replicate vs.length none++σ).length=(vs++X.N.map (gm vs)).length;rw[dF,dF,yE,cz,I.len]
def Inv.adopt{D:Ad}{f:List V}{a:Vs}{n:Nat}(I:Inv X za σ H s)(g:f.length<=sizeLine)(h:Vals f a)(i:H D=none)(e:s.heap.get? D=some {cls:= .type "list",data:= .seq a.toArray n})
  (j:X.s₀.heap.objs.size<=D) (k:D≠X.env.locals) (l: ∀x c,X.env.cells.lookup x=some c->c≠D) (r: ∀p∈X.pn++za,p.1≠D):Inv X za σ (cw H D (.lst f)) s:=by
 have nd: ∀b u,H b=some u->b≠D:=λb u q z=>by rw[z,i]at q;cases q
 have q:=I.step (h':=s.heap) (H':=cw H D (.lst f)) (g':=s.gens) (t':=s.toks) (d':=s.drawn) (ch:=[D]) (λb d=>by
   have z:b=D:=by simpa using d
   subst z;exact⟨.inr j,k,l,r⟩)
  (λb o _ _ _ e _=>e) (λb o _ _ _ e _=>⟨o.slots,e⟩) (λb o d _ n=>by rw[cF (λz=>d (by simp[z]))];exact n) (λb o _ e=>⟨o,e⟩)
  (λb t q=>by rw[cF (nd b _ q)];exact q) (λb o u q=>by rw[cF (nd b _ q)];exact q) (λb w q=>⟨#[],by rw[cF (nd b _ q),q];simp⟩) (λm v=>v) (λb u q=>?_) I.bare
 .exact q
 .by_cases d:b=D
  .subst d;rw[cC]at q;cases q;exact⟨g,a,n,h,e⟩
  .rw[cF d]at q;exact(I.hok b u q).stay (λ_ _ _ z=>z) (λc z=>by rw[cF (nd c _ z)];exact z) λc t z=>by rw[cF (nd c _ z)];exact z
end
def mQ(X:Cx)(a:List Expr)(t:TT):Prop:=
 ∀(d:AO) (s:Sh) (b:St) (H:Hp) (Q:Bool->Hp->Prop),Inv X d b H s->t b H Q->
  wpAny (model X.prog X.w) X.A (forIn a true λc r=>if r=true then do let ok <-isTrue c X.env (eval c X.env);pure (ForInStep.yield ok)else pure (ForInStep.yield r)) (TP X d b Q) X.xe s
def pe:TT:=λ_ H Q=>Q true H
def jm{c:St}{H:Hp}{F G:Hp->Prop}(h:F H):pe c H (λb a=>if b=true then F a else G a):=by
 show(if true=true then F H else G H);exact fm h
def iu{X:Cx}:mQ X [] pe:=λ_ _ _ H _ I h=>cG ⟨H,I,h⟩
def oo{X:Cx}{c:Expr}{t:TT}(h:PT X c t):mQ X [c] t:=λa s b H Q I q=>wpAny_tests_one (h a s b H Q I q)
theorem E6{a:Pg}{w:World}{A:Ar}{R:Result->Sh->Prop}{s:Sh}{e k d:Expr}{f:List Expr}{p:Scope}{pos:Pos}{l g:Vl}{b:Env}(i:Nat->Sh->Prop)
  (turn: ∀n s,i n s->wpAny (model a w) A (pyNext l) (λr j=>match r with
   |none=>R (.ok .next) j
   | some v=>wpAny (model a w) A (letOwnedTupleGo k l v) (λ_ j=>wpAny (model a w) A (assign k b v) (λ_ t=>
     wpAny (model a w) A (forIn f true λc r=>if r=true then do let ok <-isTrue c b (eval c b);pure (ForInStep.yield ok)else pure (ForInStep.yield r)) (λok o=>
      if ok=true then wpAny (model a w) A (eval e b) (λy u=>wpAny (model a w) A (call (.builtin "list.append") [g,y]) (λ_ B=> ∃m,m<n/\i m B) (λ_ _=>False) u) (λ_ _=>False) o
      else ∃m,m<n/\i m o) (λ_ _=>False) t) (λ_ _=>False) j) (λ_ _=>False) j) (λ_ _=>False) s)
  (n:Nat) (h:i n s):codeAny (model a w) A (.compLoop (.ListComp e [⟨k,d,f,0⟩] p pos) 0 l g b) R s:=by
 refine codeAny_loop rfl i (λn s G=>?_) n h;show wpAny _ A ((compTurn (.ListComp e [⟨k,d,f,0⟩] p pos) 0 l g b).onRaise (λx=>do noteFrame x b;theTreesLotGoes x)) _ _ s;refine wpAny_noted (gN (E:=λ_ _=>False) ?_ (λ_ _ q=>q) λ_ _ z=>z.elim);rw[compTurn_list];refine cy (pZ (cy (cP (turn n s G) λr j C=>?_)));cases r with
 |none=>exact cG C
 |some v=>
  refine cy (cP C λ_ t H=>cy (cP H λ_ o I=>cy (cP I λok u D=>?_)));cases ok with
  |false=>exact cG ⟨rfl,D⟩
  |true=>exact cy (cy (cP D λy B J=>cy (cP J λ_ M L=>cG (cG ⟨rfl,L⟩))))
def nQ(b a:St):Prop:= ∀(i:Nat) v,b[i]? =some (some v)->a[i]? =some (some v)
theorem hI{a:St}{x:Option V}:nQ (none::a) (x::a):=λi v e=>by
 cases i with
 |zero=>cases e
 |succ i=>exact e
theorem FQ{a:St}{x y:Option V}:nQ (none::none::a) (x::y::a):=λi v e=>by
 match i,e with
 |0,e=>cases e
 |1,e=>cases e
 |_+2,e=>exact e
section
variable{X:Cx}{za:AO}{σ:St}{H:Hp}{s:Sh}{vs:Ss}{sc:Scope}{tg elt iter:Expr}{ifs:List Expr}{pos:Pos}{g:TG}{tt:TT}{te:TE}
def me(vs:Ss)(g:TG)(tt:TT)(te:TE)(σ:St)(J:It)(H:Hp)(Fin:List V->Hp->Prop):Prop:=
 ∃W:Nat->Nat->List V->Hp->Prop,(∃m,W 0 m [] H)/\ ∀i m c H,W i m c H->
  (J.stop i H/\c.length<=sizeLine/\Fin c H)∨(J.go i H/\c.length<sizeLine/\ ∃N:List V->Hp->Prop,(∀e d,N e d-> ∃f,f<m/\W (i+1) f e d)/\
   ∀v d,J.yld i H v d->g v (gA vs σ) d λa j=>nQ (gA vs σ) a/\tt a j λb h=>if b=true then te a h λy k=>N (c++[y]) k else N c h)
def Cg{J:It}{f:As}{it:Ad}{tn:Nat->Heap->Prop}{E:VP}{RR:Vl->Ad->Result->Sh->Prop}{Fin:List V->Hp->Prop}
  (S:CompScope X vs sc) (hc:X.calm=true) (hg: ∀C s H f,PG (ga X vs sc C s H f) tg g) (ht: ∀C s H f,mQ (ga X vs sc C s H f) ifs tt) (he: ∀C s H f,PE (ga X vs sc C s H f) elt te)
  (I:Inv X za σ H s) (T:Turn X.prog X.w X.K tg J f it tn) (st:tn 0 s.heap) (hf: ∀b∈f,FpOk X za H b) (hW:me vs g tt te σ J H Fin)
  (aj: ∀D C l a m m',Inv X za σ (cw a D (.lst m)) l->a D=none->FpOk X za (cw a D (.lst m)) C->l.heap.Ns C m'->Fin m a->RR (.ref D) C (.ok .next) l):
  wpAny (model X.prog X.w) X.A (newList []) (λag s3=>wpAny (model X.prog X.w) X.A (newFunctionEnv sc X.env.globals (gc X.env sc) [] X.env.qual none .none (some X.env)) (λcenv s4=>
   codeAny (model X.prog X.w) X.A (.compStart (.ListComp elt [⟨tg,iter,ifs,0⟩] sc pos) 0 (.ref it) ag {cenv with scope:=relabel sc X.env}) (RR ag cenv.locals) s4) E s3) E s:=by
 obtain⟨W,⟨m0,w0⟩,turn⟩:=hW;refine lO (wpAny_newFunctionEnv S.cell (by intro y hy;simp at hy) (λh1 w q=>?_) S.kind);dsimp only at w q⊢;generalize Y:s.heap.push {cls:= .type "list",dict:=none,data:= .seq ([]:Vs).toArray}=H2 at w q⊢;have hC:H2.objs.size=s.heap.objs.size+1:=by rw[<-Y,n']
 generalize ax:H2.objs.size=C at w q hC⊢;generalize A:s.heap.objs.size=D at hC⊢;have B:D≠C:=by lia
 have below: ∀b o,s.heap.get? b=some o->b≠D/\b≠C:=λb o e=>by
  have z:b<s.heap.objs.size:=dh e;rw[A]at z;exact⟨dS z,dS (by rw[hC];exact tN z)⟩
 have old: ∀b o,s.heap.get? b=some o->h1.get? b=some o:=λb o e=>q.extBut b o (below b o e).2 (dI _ (Y▸dI _ e));have ak:h1.get? D=some {cls:= .type "list",data:= .seq ([]:Vs).toArray}:=
  q.extBut _ _ B (dI _ (by rw[<-Y,<-A];exact eO _ rfl))
 have M: ∀b∈f,∃o,s.heap.get? b=some o:=λb j=>let⟨o,e,_⟩:=T.obj 0 _ st b j;⟨o,e⟩
 have aa: ∀b∈f,b≠D/\b≠C:=λb j=>let⟨o,e⟩:=M b j;below b o e
 have fD: ∀a,a D=none->FpOk X za a D:=λa n=>I.fpOk (by lia) n;have fC: ∀a,a C=none->FpOk X za a C:=λa n=>I.fpOk (by lia) n;have al: ∀p∈X.pn++za,p.1≠D:=λp hp=>(below _ _ (I.pin p hp).1).1;have ab: ∀y c,(gc X.env sc).lookup y=some c->c≠D:=λy c e=>by
  have e':=ph sc.names [] (λy c e=>by simp at e) y c e;obtain⟨v,z⟩:=I.cell y c e';have z':c<s.heap.objs.size:=z.lt;rw[A]at z';exact dS z'
 have am: ∀b,b∈iF X.stack-> ∃o,s.heap.get? b=some o:=λb j=>let⟨_,o,ho,_⟩:=I.stack.mem j;⟨o,ho⟩
 have an:D∉iF X.stack:=λz=>let⟨o,e⟩:=am D z;(below _ _ e).1 rfl
 have ae: ∀{pl:AO} {a:Hp},(∀p∈pl,p.1=D)->(∀b∈f,a b=none)-> ∀b∈f,FpOk (ga X vs sc C s H f) (za++pl) a b:=λ{pl a} ao hn b j=>by
  obtain⟨_,q1,q2,q3,q4,q5⟩:=hf b j;refine⟨hn b j,(aa b j).2,λz=>?_,.inl j,λy c e=>q4 y c (ph sc.names [] (λy c e=>by simp at e) y c e),λp hp=>?_⟩
  .rcases dQ.mp (I.stkSub b z)with y|y
   .exact q1 y
   .exact q2 y
  .rcases dw.mp hp with z|z
   .exact q5 p (jA _ z)
   .rcases dw.mp z with y|y
    .exact q5 p (eK _ y)
    .rw[ao p y];exact eJ (aa b j).1
 have O: ∀s3:Sh,s3={s with heap:=h1,toks:=s.toks+([]:List (Str×Vl)).length}->
   codeAny (model X.prog X.w) X.A (.compLoop (.ListComp elt [⟨tg,iter,ifs,0⟩] sc pos) 0 (.ref it) (.ref D) (compEnvC sc (gc X.env sc) C X.env)) (RR (.ref D) C) s3:=by
  rintro s3 rfl;have I0:Inv (ga X vs sc C s H f) za (gA vs σ) H {s with heap:=h1,toks:=s.toks+([]:List (Str×Vl)).length}:=L' S I hf M old w (by lia);refine E6 (λn l=> ∃i m h no a,Inv (ga X vs sc C s H f) za (gA vs σ) a l/\tn i l.heap/\(∀b∈f,a b=none)/\a D=none/\
   l.heap.get? D=some {cls:= .type "list",data:= .seq h.toArray no}/\Vals m h/\W i n m a) ?_ m0
   ⟨0,[],[],0,H,I0,T.keep 0 _ _ st λb j o e=>old b o e,λb j=>(hf b j).1,I.hok.fresh (by lia),ak,.nil,w0⟩
  rintro n l ⟨i,m,h,no,a,I1,ah,ai,G,ap,L,w1⟩;have Q:Inv (ga X vs sc C s H f) (za++[(D,{cls:= .type "list",data:= .seq h.toArray no})]) (gA vs σ) a l:=I1.pins_of λp hp=>by
   rcases dw.mp hp with z|z
   .exact I1.pin p (eK _ z)
   .have e:p=(D,{cls:= .type "list",data:= .seq h.toArray no}):=by simpa using z
    subst e;exact⟨ap,G,B,an,λv z=>by have z':Data.seq _ _=Data.cell v:=z;cases z'⟩
  have k: ∀p∈[((D,{cls:= .type "list",data:= .seq h.toArray no}):Ad×Obj)],p.1=D:=λp hp=>by
   have e:p=(D,{cls:= .type "list",data:= .seq h.toArray no}):=by simpa using hp
   rw[e]
  rcases turn i n m a w1 with⟨stop,hz,fin⟩|⟨go,hz,N,hN,step⟩
  .refine cP (T.done (ga X vs sc C s H f) rfl rfl rfl hc i _ l _ a (λ_ _=>False) Q (ae k ai) ah stop) λr s4 ⟨hr,I4⟩=>?_;subst hr;have d4:s4.heap.get? D=some {cls:= .type "list",data:= .seq h.toArray no}:=(I4.pin (D,_) (eK _ (eK _ (dP ..)))).1;have Io:Inv X za σ a s4:=I.call' (H':=a) (ch:=f) I4.os I4.base I4.hok I4.bare λb j=>by
    obtain⟨_,q1,_,q3,q4,q5⟩:=hf b j;exact⟨q3,q1,q4,q5⟩
   obtain⟨_,a1,_,a3,a4,a5⟩:=fD a G;have Ia:=Io.adopt hz L G d4 (dE I.sz (by lia)) a1 a4 a5;obtain⟨m4,aq,_⟩:=I4.loc;refine aj D C s4 a m m4 Ia G (fC _ ?_) aq fin;rw[cF (eJ B)];exact I4.free
  .refine cP (T.item (ga X vs sc C s H f) rfl rfl rfl hc i _ l _ a (λ_ _=>False) Q (ae k ai) ah go) λr s4 ⟨u,hr,h4⟩=>?_;subst hr;refine cP h4 λ_ s5 ⟨x,H5,I5,r5,y5,af,ar⟩=>?_;have as:=I5.pinned (ae k ar) (T.obj _ _ af);refine cP (hg C s H f _ s5 _ H5 x u _ as r5 (step x H5 y5)) λ_ s6 ⟨t,H6,I6,k6,q6⟩=>?_;refine cP (ht C s H f _ s6 t H6 _ I6 q6) λok s7 ⟨H7,I7,q7⟩=>?_;have U:(gA vs σ).length=t.length:=by rw[I1.len,I6.len]
   have pinned: ∀{H8:Hp} {s8:Sh},Inv (ga X vs sc C s H f) (za++[(D,{cls:= .type "list",data:= .seq h.toArray no})]++qd f s5.heap) t H8 s8->
     tn (i+1) s8.heap/\(∀b∈f,H8 b=none)/\H8 D=none/\s8.heap.get? D=some {cls:= .type "list",data:= .seq h.toArray no}:=λ{H8 s8} I8=>by
    refine⟨T.keep _ _ _ af λb j o e=>(I8.pin (b,o) (eK _ (eK _ (ry j e)))).1,λb j=>?_,?_,?_⟩
    .obtain⟨o,e,d⟩:=T.obj _ _ af b j;exact(I8.pin (b,o) (eK _ (eK _ (ry j e)))).2.1
    .exact(I8.pin (D,_) (eK _ (jA _ (eK _ (dP ..))))).2.1
    .exact(I8.pin (D,_) (eK _ (jA _ (eK _ (dP ..))))).1
   cases ok with
   |false=>
    rw[wA (by decide)]at q7⊢;obtain⟨m',hm,w7⟩:=hN _ _ q7;obtain⟨a1,a2,a3,a4⟩:=pinned I7;exact⟨m',hm,i+1,m,h,no,H7,(I7.unpinned.unpinned).weak U k6,a1,a2,a3,a4,L,w7⟩
   | true=>
    rw[wB rfl]at q7⊢;refine cP (he C s H f _ s7 t H7 _ I7 q7) λyv s8 ⟨y,H8,I8,r8,n8⟩=>?_;obtain⟨m',hm,w8⟩:=hN _ _ n8;obtain⟨a1,a2,a3,a4⟩:=pinned I8;have au:h.toArray.size<=sizeLine:=by
     have:=L.length;rw[eM];lia
    refine wpAny_list_append_plain ⟨no,a4⟩ (λh' pl sb=>?_) au;obtain⟨av,aw⟩:=pl;have I9:Inv (ga X vs sc C s H f) za t H8 {s8 with heap:=h'}:=(I8.unpinned.unpinned).turned (t':=s8.toks) (it:=D) (λb o j e=>(sb.2 b j).trans e) a3 B (.inr (nH A)) ab al;refine⟨m',hm,i+1,m++[y],h++[yv],av,H8,I9.weak U k6,T.keep _ _ _ a1 λb j o e=>(sb.2 b (aa b j).1).trans e,a2,a3,?_,L.append (.cons r8 .nil),w8⟩;rw[aw]
    simp
 exact codeAny_compStart_list (O _ rfl) (T.self _ 0 _ _ _ (T.keep 0 _ _ st λb j o e=>old b o e) (O _ rfl))
def uF(vs:Ss)(b:TI)(g:TG)(tt:TT)(te:TE):TE:=λσ H Q=>b σ H λJ c=>me vs g tt te σ J c λd a=> ∀p,a p=none->Q (.ref p) (cw a p (.lst d))
def CompScope.clos{za:AO}{σ:St}{H:Hp}{s:Sh}(S:CompScope X vs sc)(I:Inv X za σ H s):closureFor sc X.env=pure (gc X.env sc):=
 DF λy a b=>I.ok.has y.1 (S.free y a b)
def Cb{f:TI}(S:CompScope X vs sc)(i:X.calm=true)(j:PI X tg iter f)(k: ∀C s H a,PG (ga X vs sc C s H a) tg g)(ht: ∀C s H a,mQ (ga X vs sc C s H a) ifs tt)
  (l: ∀C s H a,PE (ga X vs sc C s H a) elt te) (m: ∀x,foldedSetIterable iter X.env x=pure x:=by intro _;rfl):PE X (.ListComp elt [⟨tg,iter,ifs,0⟩] sc pos) (uF vs f g tt te):=by
 intro za s σ H Q I h;rw[eval_ListComp];refine Bm (use:=none) rfl m (S.clos I) S.kind S.locs ?_;refine cP (j za s σ H _ I h) λv Y n=>cP n λp s2 q=>?_;obtain⟨it,a,tn,J,H2,e,r,T,c,t,u⟩:=q;subst e;refine Cg (RR:=λd C=>compPost (model X.prog X.w) X.A X.xe none (EP X za σ Q) d C) S i k ht l r T c t u λD C w H' ys y z A B E fin=>?_;obtain⟨G,L,c2,M,c4,N⟩:=B;refine⟨y,E,λh' O=>⟨.ref D,_,?_,rfl,fin D A⟩⟩;exact z.turned (t':=w.toks) (it:=C) (λb o U e=>(O.2 b U).trans e) G L M c4 N
def C2{x:Str}{p:Pos}(S:CompScope X [x] sc)(a:sc.names.lookup x=some .local): ∀C s H b,PG (ga X [x] sc C s H b) (.Name x p) (gE 0):=λC s H b=>
 eQ S.nd rfl (.inl (n9 a)) (.inr (n9 a))
def gI{b:TI}{x:Str}{p:Pos}(S:CompScope X [x] sc)(c:X.calm=true)(d:sc.names.lookup x=some .local)(e:PI X (.Name x p) iter b)(ht: ∀C s H a,mQ (ga X [x] sc C s H a) ifs tt)
  (f: ∀C s H a,PE (ga X [x] sc C s H a) elt te) (h: ∀x,foldedSetIterable iter X.env x=pure x:=by intro _;rfl):PE X (.ListComp elt [⟨.Name x p,iter,ifs,0⟩] sc pos) (uF [x] b (gE 0) tt te):=
 Cb S c e (C2 S d) ht f h
def Kz{r:TI}{j:Nat}{y:Str}{d c:Pos}(S:CompScope X vs sc)(w:X.calm=true)(A:X.N.Nodup)(B:X.N[j]? =some y)(t:X.env.scope.names.lookup y=some .local)(E:PI X tg iter r)(G: ∀C s H f,PG (ga X vs sc C s H f) tg g)(ht: ∀C s H f,mQ (ga X vs sc C s H f) ifs tt)
  (L: ∀C s H f,PE (ga X vs sc C s H f) elt te) (l:swapsWith (.ListComp elt [⟨tg,iter,ifs,0⟩] sc pos) (some (.Name y d)) c.line X.env=pure true:=by rfl) (M: ∀x,foldedSetIterable iter X.env x=pure x:=by intro _;rfl):
  PS X (.Assign [.Name y d] (.ListComp elt [⟨tg,iter,ifs,0⟩] sc pos) c) (lR (uF vs r g tt te) (gE j)):=by
 intro za s σ H D I h;rw[exec_Assign_Name_used _ _ _ _ l];refine cy (pZ (cy ?_));show wpAny _ X.A (do let _ <-comprehension (.ListComp elt [⟨tg,iter,ifs,0⟩] sc pos) sc X.env _ (newList []) false (eval iter X.env) (some (assign (.Name y d) X.env))) _ _ s;refine cy (gN (Bm (use:=some (assign (.Name y d) X.env)) (Q:=λ_ i=>SP X za D .next i) rfl M (S.clos I) S.kind S.locs ?_) (λ_ i N=>cG (cG N)) λ_ _ e=>e);refine cP (E za s σ H _ I h) λv s1 O=>cP O λU s2 Y=>?_;obtain⟨it,f,tn,J,H2,e,I2,T,m,f2,hW⟩:=Y;subst e;refine Cg (RR:=λn C=>compPost (model X.prog X.w) X.A X.xe (some (assign (.Name y d) X.env)) (λ_ i=>SP X za D .next i) n C) S w G ht L I2 T m f2 hW λk C i H' ys m' I' hD fC ns fin=>?_;obtain⟨c0,u,c2,c3,c4,c5⟩:=fC;show wpAny _ X.A (assign (.Name y d) X.env (.ref k)) _ _ _;refine yW (A7 (v:= .ref k) I' A B (.inl t) (show RelV (.ref k) (.ref k)from rfl) (λs3 I3 ⟨a,sb,ha⟩=>?_) (.inr t));have p:a≠C:=by
  rcases ha with z|z
  .rw[z];exact eJ u
  .exact c4 y a z
 refine⟨m',ns.sameBut sb (eJ p),λh' q=>⟨_,_,I3.turned (t':=s3.toks) (it:=C) (λb o hb e=>(q.2 b hb).trans e) c0 u c3 c4 c5,fin k hD⟩⟩
def Cy{d:TI}{j:Nat}{x y:Str}{p e a:Pos}(S:CompScope X [x] sc)(f:X.calm=true)(h:sc.names.lookup x=some .local)(i:X.N.Nodup)(k:X.N[j]? =some y)(l:X.env.scope.names.lookup y=some .local)(m:PI X (.Name x p) iter d)
  (ht: ∀C s H b,mQ (ga X [x] sc C s H b) ifs tt) (n: ∀C s H b,PE (ga X [x] sc C s H b) elt te)
  (c:swapsWith (.ListComp elt [⟨.Name x p,iter,ifs,0⟩] sc pos) (some (.Name y e)) a.line X.env=pure true:=by rfl) (o: ∀x,foldedSetIterable iter X.env x=pure x:=by intro _;rfl):
  PS X (.Assign [.Name y e] (.ListComp elt [⟨.Name x p,iter,ifs,0⟩] sc pos) a) (lR (uF [x] d (gE 0) tt te) (gE j)):=Kz S f i k l m (C2 S h) ht n c o
end
section
variable{K:W.Frag}{a:Ad}{xs:List V}{vs:Ss}{g:TG}{tt:TT}{te:TE}{σ:St}{H:Hp}{Fin:List V->Hp->Prop}
def DZ(Pv:Nat->List V->Hp->Prop)(w:xs.length<=sizeLine)(j:Pv 0 [] H)(k: ∀i c H,i<=xs.length->Pv i c H->SqT K H a xs/\c.length<=i)
  (l: ∀i v c H,xs[i]? =some v->Pv i c H->g v (gA vs σ) H λd n=>nQ (gA vs σ) d/\tt d n λb h=>if b=true then te d h λy o=>Pv (i+1) (c++[y]) o else Pv (i+1) c h)
  (r: ∀c H,Pv xs.length c H->Fin c H):me vs g tt te σ (tr K a) H Fin:=by
 refine⟨λi m c H=>m=xs.length-i/\i<=xs.length/\Pv i c H,⟨xs.length,by simp,Nat.zero_le _,j⟩,?_⟩;rintro i m c H ⟨rfl,s,p⟩;obtain⟨q,x⟩:=k i c H s p;by_cases f:i<xs.length
 .refine .inr ⟨⟨xs,xs[i],q,by simp[f]⟩,by lia,Pv (i+1),λz t u=>⟨xs.length-(i+1),Nat.sub_succ_lt_self _ _ f,rfl,f,u⟩,λv t y=>?_⟩;obtain⟨e,y⟩:=y;subst e;exact l i v c _ (y xs q) p
 .have e:i=xs.length:=by lia
  subst e;exact .inl ⟨⟨xs,q,cM _⟩,by lia,r c H p⟩
def lB(Pv:Nat->List V->Hp->Prop)(w:xs.length<=sizeLine)(j:Pv 0 [] H)(k: ∀i c H,i<=xs.length->Pv i c H->SqL K H a xs/\c.length<=i)
  (l: ∀i v c H,xs[i]? =some v->Pv i c H->g v (gA vs σ) H λd n=>nQ (gA vs σ) d/\tt d n λb h=>if b=true then te d h λy o=>Pv (i+1) (c++[y]) o else Pv (i+1) c h)
  (r: ∀c H,Pv xs.length c H->Fin c H):me vs g tt te σ (re K a) H Fin:=by
 refine⟨λi m c H=>m=xs.length-i/\i<=xs.length/\Pv i c H,⟨xs.length,by simp,Nat.zero_le _,j⟩,?_⟩;rintro i m c H ⟨rfl,s,p⟩;obtain⟨q,x⟩:=k i c H s p;by_cases f:i<xs.length
 .refine .inr ⟨⟨xs,xs[i],q,by simp[f]⟩,by lia,Pv (i+1),λz t u=>⟨xs.length-(i+1),Nat.sub_succ_lt_self _ _ f,rfl,f,u⟩,λv t y=>?_⟩;obtain⟨e,y⟩:=y;subst e;exact l i v c _ (y xs q) p
 .have e:i=xs.length:=by lia
  subst e;exact .inl ⟨⟨xs,q,cM _⟩,by lia,r c H p⟩
def t8{lo:Int}{n:Nat}(Pv:Nat->List V->Hp->Prop)(w:n<=sizeLine)(j:Pv 0 [] H)(k: ∀i c H,i<=n->Pv i c H->c.length<=i)
  (l: ∀i c H,i<n->Pv i c H->g (.int (lo+i)) (gA vs σ) H λf o=>nQ (gA vs σ) f/\tt f o λb h=>if b=true then te f h λy q=>Pv (i+1) (c++[y]) q else Pv (i+1) c h)
  (r: ∀c H,Pv n c H->Fin c H):me vs g tt te σ (oF lo n) H Fin:=by
 refine⟨λi m c H=>m=n-i/\i<=n/\Pv i c H,⟨n,by simp,Nat.zero_le _,j⟩,?_⟩;rintro i m c H ⟨rfl,s,p⟩;have x:=k i c H s p;by_cases d:i<n
 .refine .inr ⟨d,by lia,Pv (i+1),λz t u=>⟨n-(i+1),Nat.sub_succ_lt_self _ _ d,rfl,d,u⟩,λv t y=>?_⟩;obtain⟨e,y⟩:=y;subst e y;exact l i c _ d p
 .have e:i=n:=by lia
  subst e;exact .inl ⟨cM _,by lia,r c H p⟩
def uj{x:Str}{xs:List V}{f:V->V}(j:xs.length<=sizeLine)(k:SqT K H a xs)(l: ∀v (Q:VK),v∈xs->Q (f v) H->te (some v::σ) H Q)(m:Fin (xs.map f) H):
  me [x] (gE 0) pe te σ (tr K a) H Fin:=by
 refine DZ (λi c d=>d=H/\c=(xs.take i).map f) j ⟨rfl,rfl⟩ (λi c d n ⟨e,b⟩=>?_) (λi v c d h ⟨e,b⟩=>⟨hI,?_⟩) (λc d ⟨e,b⟩=>?_)
 .subst e b;exact⟨k,by simp;lia⟩
 .subst e b;refine jm (l v _ (cW h) ⟨rfl,?_⟩);rw[hG,h,eE];rfl
 .subst e b;rw[gj];exact m
def E9{x:Str}{xs:List V}{f:V->Bool}(l:xs.length<=sizeLine)(m:SqT K H a xs)(n: ∀v (Q:Bool->Hp->Prop),v∈xs->Q (f v) H->tt (some v::σ) H Q)(o: ∀v (Q:VK),v∈xs->Q v H->te (some v::σ) H Q)
  (p:Fin (xs.filter f) H):me [x] (gE 0) tt te σ (tr K a) H Fin:=by
 refine DZ (λi d h=>h=H/\d=(xs.take i).filter f) l ⟨rfl,rfl⟩ (λi d h q ⟨e,c⟩=>?_) (λi v d h k ⟨e,c⟩=>⟨hI,?_⟩) (λd h ⟨e,c⟩=>?_)
 .subst e c;exact⟨m,dE (gZ _ _) (by simp;lia)⟩
 .subst e c;refine n v _ (cW k) ?_;have b:(xs.take (i+1)).filter f=(xs.take i).filter f++(if f v then[v]else[]):=by
   rw[hG,k,oC];cases j:f v<;>simp[j]
  cases j:f v with
  |true=>
   refine fm (o v _ (cW k) ⟨rfl,?_⟩);rw[b,j];rfl
  |false=>
   refine fj ⟨rfl,?_⟩;rw[b,j];simp
 .subst e c;rw[gj];exact p
end
inductive Dt where
 |non|int (i:Int)|str (x:Str)|lst (ds:List Dt)|tup (ds:List Dt)
inductive Rep (K:W.Frag) (H:Hp):Nat->Dt->V->Prop where
 |non (n:Nat):Rep K H n .non .non
 |int (n:Nat) (i:Int):Rep K H n (.int i) (.int i)
 |str (n:Nat) (x:Str):Rep K H n (.str x) (.str x)
 |lst {n:Nat} {ds:List Dt} {a:Ad} {xs:List V} (h:SqL K H a xs) (hl:xs.length=ds.length) (hi: ∀(i:Nat) d v,ds[i]? =some d->xs[i]? =some v->Rep K H n d v):Rep K H (n+1) (.lst ds) (.ref a)
 |tup {n:Nat} {ds:List Dt} {a:Ad} {xs:List V} (h:SqT K H a xs) (hl:xs.length=ds.length) (hi: ∀(i:Nat) d v,ds[i]? =some d->xs[i]? =some v->Rep K H n d v):Rep K H (n+1) (.tup ds) (.ref a)
def vc{e:Type}{c d:List e}(f:c.length=d.length)(h: ∀(i:Nat) a b,c[i]? =some a->d[i]? =some b->a=b):c=d:=by
 refine vB f λi g j=>?_;exact h i _ _ (by simp[g]) (by simp[j])
section
variable{X:Cx}{za:AO}{σ:St}{H:Hp}{s:Sh}
def FH{a:Ad}{b c:List V}(I:Inv X za σ H s)(h:SqL X.K H a b)(d:SqT X.K H a c):False:=by
 obtain⟨_,_,p,_⟩:=I.list h;obtain⟨_,_,q,_⟩:=I.tuple d;exact SeqAt.ne_of_list_tuple p.isList (show s.heap.IsTuple a _ from q) rfl
def AE(I:Inv X za σ H s): ∀(n:Nat) {d c:Dt} {v:V},Rep X.K H n d v->Rep X.K H n c v->d=c:=by
 intro n
 induction n with
 |zero=>
  intro d c v r f;cases r<;>cases f<;>rfl
 | succ n w=>
  intro d c v r f;cases r with
  |non=>cases f;rfl
  |int=>cases f;rfl
  |str=>cases f;rfl
  | @lst _ x a g h m p=>
   cases f with
   | @lst _ q _ t j k l=>
    have e:=I.list_inj h j;subst e;refine dL Dt.lst (vc (m.symm.trans k) λi d c o u=>?_);have b:i<g.length:=by rw[m];exact(cK.mp o).1
    exact w (p i d g[i] o (cA b)) (l i c g[i] u (cA b))
   |tup j _ _=>exact(FH I h j).elim
  | @tup _ x a g h m p=>
   cases f with
   |lst j _ _=>exact(FH I j h).elim
   | @tup _ q _ t j k l=>
    have e:=I.tuple_inj h j;subst e;refine dL Dt.tup (vc (m.symm.trans k) λi d c o u=>?_);have b:i<g.length:=by rw[m];exact(cK.mp o).1
    exact w (p i d g[i] o (cA b)) (l i c g[i] u (cA b))
def E5{f c:List Dt}(n:f.length=c.length){e:Nat->Bool}{N:Nat}(o:N=f.length)(k: ∀(j:Nat) d l,f[j]? =some d->c[j]? =some l->(e j=true↔d=l)):((List.range N).all e=true↔f=c):=by
 subst o;rw[oW];constructor
 .intro h;refine vc n λi a b m p=>?_;exact(k i a b m p).mp (h i (fq.mpr (cK.mp m).1))
 .intro h i q;have g:=fq.mp q;subst h;exact(k i f[i] f[i] (by simp[g]) (by simp[g])).mpr rfl
def LW{P:Nat->Bool->Prop}(h: ∀j,∃b,P j b): ∃e:Nat->Bool,∀j,P j (e j):=⟨λj=>Classical.choose (h j),λj=>oT (h j)⟩
def Ec{A:Ar}{its its':Vs}{ds ds':List Dt}(o:its.length=ds.length)(p:its'.length=ds'.length)
  (h: ∀(j:Nat) u f d a,its[j]? =some u->its'[j]? =some f->ds[j]? =some d->ds'[j]? =some a-> ∃b,SeqAt.EqAt A s u f b/\(b=true↔d=a)):
  ∃e:Nat->Bool,(∀j (i:j<its.toArray.size) (k:j<its'.toArray.size),SeqAt.EqAt A s its.toArray[j] its'.toArray[j] (e j))/\ ∀(j:Nat) d a,ds[j]? =some d->ds'[j]? =some a->(e j=true↔d=a):=by
 obtain⟨e,l⟩:=LW (P:=λj b=>(∀u f,its[j]? =some u->its'[j]? =some f->SeqAt.EqAt A s u f b)/\ ∀d a,ds[j]? =some d->ds'[j]? =some a->(b=true↔d=a)) λj=>by
  by_cases g:j<its.length/\j<its'.length
  .obtain⟨b,m,n⟩:=h j its[j] its'[j] (ds[j]'(by lia)) (ds'[j]'(by lia)) (by simp[g.1]) (by simp[g.2]) (List.getElem?_eq_getElem _) (List.getElem?_eq_getElem _);refine⟨b,λu f q c=>?_,λd a q c=>?_⟩
   .rw[cA g.1]at q;rw[cA g.2]at c;cases q;cases c;exact m
   .rw[cA (by lia)]at q;rw[cA (by lia)]at c;cases q;cases c;exact n
  .refine⟨true,λu f q c=>wC ⟨(cK.mp q).1,(cK.mp c).1⟩ g,λd a q c=>?_⟩;have r:=(cK.mp q).1;have t:=(cK.mp c).1;exact wC ⟨by lia,by lia⟩ g
 refine⟨e,λj i k=>?_,λj=>(l j).2⟩;simp only[List.size_toArray]at i k;exact(l j).1 _ _ (by simp[i]) (by simp[k])
def Br(I:Inv X za σ H s){n:Nat}{A:Ar}(k:A.units<cLine){d l:Dt}{a o:Ad}(r:Rep X.K H (n+1) d (.ref a))(r':Rep X.K H (n+1) l (.ref o))
  (ih: ∀{d l:Dt} {v v':V} {u M:Vl},Rep X.K H n d v->Rep X.K H n l v'->RelV v u->RelV v' M-> ∃b,SeqAt.EqAt A.in1 s u M b/\(b=true↔d=l)):
  ∃b,SeqAt.RcAt A s (.ref a) (.ref o) b/\SeqAt.RcNeAt A s (.ref a) (.ref o) (!b)/\(b=true↔d=l):=by
 cases r with
 | @lst _ ds _ w h hl N=>
  obtain⟨its,x,p,_⟩:=I.list h;have l1:=x.length;cases r' with
  | @lst _ ds' _ c q t i=>
   obtain⟨its',f,g,_⟩:=I.list q;have l2:=f.length;by_cases y:ds.length=ds'.length
   .obtain⟨e,B,O⟩:=Ec (A:=A.in1) (s:=s) (its:=its) (its':=its') (ds:=ds) (ds':=ds') (by lia) (by lia) λj u M d l Q T C D=>by
     have g1:=(cK.mp C).1;have g2:=(cK.mp D).1;have E:w[j]? =some (w[j]'(by lia)):=cA _;have G:c[j]? =some (c[j]'(by lia)):=cA _;obtain⟨w1,J,U⟩:=x.get E;obtain⟨w2,L,Y⟩:=f.get G;rw[Q]at J;rw[T]at L;cases J;cases L;exact ih (N j d _ C E) (i j l _ D G) U Y
    have m:its.toArray.size=its'.toArray.size:=by simp only[List.size_toArray];lia
    refine⟨_,SeqAt.RcAt.lists p.isList g.isList m k B,SeqAt.RcNeAt.lists p.isList g.isList m k B,?_⟩;rw[E5 y (by simp only[List.size_toArray];lia) O];exact⟨λz=>by rw[z],λz=>by cases z;rfl⟩
   .have m:(its.toArray.size != its'.toArray.size)=true:=by
     rw[bne_iff_ne];simp only[List.size_toArray];lia
    refine⟨false,SeqAt.RcAt.lists_lengths p.isList g.isList m k,SeqAt.RcNeAt.lists_lengths p.isList g.isList m k,⟨λz=>(by cases z),λz=>?_⟩⟩;cases z;exact wC rfl y
  | @tup _ ds' _ c q t i=>
   obtain⟨its',f,g,_⟩:=I.tuple q;exact⟨false,SeqAt.RcAt.list_tuple p.isList (show s.heap.IsTuple o _ from g) k,SeqAt.RcNeAt.list_tuple p.isList (show s.heap.IsTuple o _ from g) k,⟨λz=>(by cases z),λz=>(by cases z)⟩⟩
 | @tup _ ds _ w h hl N=>
  obtain⟨its,x,p,_⟩:=I.tuple h;have l1:=x.length;cases r' with
  | @lst _ ds' _ c q t i=>
   obtain⟨its',f,g,_⟩:=I.list q;exact⟨false,SeqAt.RcAt.tuple_list (show s.heap.IsTuple a _ from p) g.isList k,SeqAt.RcNeAt.tuple_list (show s.heap.IsTuple a _ from p) g.isList k,⟨λz=>(by cases z),λz=>(by cases z)⟩⟩
  | @tup _ ds' _ c q t i=>
   obtain⟨its',f,g,_⟩:=I.tuple q;have l2:=f.length;obtain⟨e,B,O⟩:=Ec (A:=A.in1) (s:=s) (its:=its) (its':=its') (ds:=ds) (ds':=ds') (by lia) (by lia) λj u M d l Q T C D=>by
     have g1:=(cK.mp C).1;have g2:=(cK.mp D).1;have E:w[j]? =some (w[j]'(by lia)):=cA _;have G:c[j]? =some (c[j]'(by lia)):=cA _;obtain⟨w1,J,U⟩:=x.get E;obtain⟨w2,L,Y⟩:=f.get G;rw[Q]at J;rw[T]at L;cases J;cases L;exact ih (N j d _ C E) (i j l _ D G) U Y
   refine⟨_,SeqAt.RcAt.tuples (show s.heap.IsTuple a _ from p) (show s.heap.IsTuple o _ from g) k B,SeqAt.RcNeAt.tuples (show s.heap.IsTuple a _ from p) (show s.heap.IsTuple o _ from g) k B,?_⟩;by_cases y:ds.length=ds'.length
   .have m:(its.toArray.size==its'.toArray.size)=true:=by
     rw[lZ];simp only[List.size_toArray];lia
    rw[m,Bool.and_true,E5 y (by simp only[List.size_toArray];lia) O];exact⟨λz=>by rw[z],λz=>by cases z;rfl⟩
   .have m:(its.toArray.size==its'.toArray.size)=false:=by
     rw[mO];simp only[List.size_toArray];lia
    rw[m,Bool.and_false];refine⟨λz=>(by cases z),λz=>?_⟩;cases z;exact wC rfl y
def D6{n m:Nat}{d b:Dt}{v a:V}(r:Rep X.K H n d v)(c:Rep X.K H m b a)(f:ir v=true)(e:ir a=true):(ky v a=true↔d=b):=by
 cases r<;>first|(cases f;done)|skip
 all_goals (cases c<;>first|(cases e;done)|skip)
 all_goals first|exact⟨λ_=>rfl,λ_=>rfl⟩|exact⟨λz=>Bool.noConfusion z,λz=>by cases z⟩|exact⟨λz=>dL Dt.int (eq_of_beq z),λz=>by injection z with z;exact lZ.mpr z⟩|exact⟨λz=>dL Dt.str (eq_of_beq z),λz=>by injection z with z;exact lZ.mpr z⟩
def uD(I:Inv X za σ H s): ∀(n:Nat) {A:Ar},A.units+n<cLine-> ∀{d o:Dt} {v k:V} {u w:Vl},Rep X.K H n d v->Rep X.K H n o k->RelV v u->RelV k w-> ∃b,SeqAt.EqAt A s u w b/\(b=true↔d=o):=by
 intro n
 induction n with
 |zero=>
  intro A J d o v k u w r e q g;have f:ir v=true:=by cases r<;>rfl
  have c:ir k=true:=by cases e<;>rfl
  exact⟨_,vM q g f c,D6 r e f c⟩
 | succ n L=>
  intro A J d o v k u w r e q g;by_cases f:ir v=true
  .by_cases c:ir k=true
   .exact⟨_,vM q g f c,D6 r e f c⟩
   .refine⟨false,?_,⟨λz=>(by cases z),λz=>?_⟩⟩
    .cases e with
     |non=>exact wC rfl c
     |int=>exact wC rfl c
     |str=>exact wC rfl c
     | @lst _ y a B h C D=>
      cases g;obtain⟨j,_,p,_⟩:=I.list h;cases r with
      |non=>cases q;exact SeqAt.EqAt.none_list p.isList (by lia)
      |int _ i=>obtain⟨t,rfl⟩:=q;exact SeqAt.EqAt.int_list i t p.isList (by lia)
      |str _ x=>obtain⟨t,rfl⟩:=q;exact SeqAt.EqAt.str_list x t p.isList (by lia)
      |lst _ _ _=>cases f
      |tup _ _ _=>cases f
     | @tup _ y a B h C D=>
      cases g;obtain⟨j,_,p,_⟩:=I.tuple h;have l:s.heap.IsTuple a j.toArray:=p;cases r with
      |non=>cases q;exact SeqAt.EqAt.none_tuple l (by lia)
      |int _ i=>obtain⟨t,rfl⟩:=q;exact SeqAt.EqAt.int_tuple i t l (by lia)
      |str _ x=>obtain⟨t,rfl⟩:=q;exact SeqAt.EqAt.str_tuple x t l (by lia)
      |lst _ _ _=>cases f
      |tup _ _ _=>cases f
    .subst z;cases r<;>first|(cases f;done)|skip
     all_goals (cases e;exact wC rfl c)
  .by_cases c:ir k=true
   .refine⟨false,?_,⟨λz=>(by cases z),λz=>?_⟩⟩
    .cases r with
     |non=>exact wC rfl f
     |int=>exact wC rfl f
     |str=>exact wC rfl f
     | @lst _ y a B h C D=>
      cases q;obtain⟨j,_,p,_⟩:=I.list h;cases e with
      |non=>cases g;exact SeqAt.EqAt.list_none p.isList (by lia)
      |int _ i=>obtain⟨t,rfl⟩:=g;exact SeqAt.EqAt.list_int i t p.isList (by lia)
      |str _ x=>obtain⟨t,rfl⟩:=g;exact SeqAt.EqAt.list_str x t p.isList (by lia)
      |lst _ _ _=>cases c
      |tup _ _ _=>cases c
     | @tup _ y a B h C D=>
      cases q;obtain⟨j,_,p,_⟩:=I.tuple h;have l:s.heap.IsTuple a j.toArray:=p;cases e with
      |non=>cases g;exact SeqAt.EqAt.tuple_none l (by lia)
      |int _ i=>obtain⟨t,rfl⟩:=g;exact SeqAt.EqAt.tuple_int i t l (by lia)
      |str _ x=>obtain⟨t,rfl⟩:=g;exact SeqAt.EqAt.tuple_str x t l (by lia)
      |lst _ _ _=>cases c
      |tup _ _ _=>cases c
    .subst z;cases e<;>first|(cases c;done)|skip
     all_goals (cases r;exact wC rfl f)
   .have E: ∀{m:Nat} {d:Dt} {v:V},Rep X.K H m d v-> ¬ir v=true-> ∃a,v= .ref a:=λ{m d v} r f=>by
     cases r<;>first|exact⟨_,rfl⟩|exact wC rfl f
    obtain⟨a,rfl⟩:=E r f;obtain⟨M,rfl⟩:=E e c;cases q;cases g;by_cases G:a=M
    .subst G;exact⟨true,SeqAt.EqAt.same _,⟨λ_=>AE I (n+1) r e,λ_=>rfl⟩⟩
    .obtain⟨b,N,_,O⟩:=Br I (A:=A) (by lia) r e λr e q g=>L (A:=A.in1) (by show A.units+1+n<cLine;lia) r e q g;exact⟨b,.of_refs G N,O⟩
def ow(K:W.Frag)(c:Bool):R2:=λx y H Q=> ∃a e n d f,x= .ref a/\y= .ref e/\Rep K H (n+1) d (.ref a)/\Rep K H (n+1) f (.ref e)/\n<=30/\ ∀b,(b=true↔d=f)->Q (.bl (if c then !b else b)) H
def tz(k:X.A.units+64<cLine):OpR X (compareOp .Eq) (ow X.K false):=by
 intro za s σ H x y v u Q I e f h;obtain⟨a,l,n,d,m,rfl,rfl,r,c,o,q⟩:=h;cases e;cases f;obtain⟨b,g,_,i⟩:=Br I (A:=X.A) (by lia) r c λr c q j=>uD I n (A:=X.A.in1) (by show X.A.units+1+n<cLine;lia) r c q j;exact g _ _ _ _ ⟨.bl b,H,I,rfl,q b i⟩
def va(k:X.A.units+64<cLine):OpR X (compareOp .NotEq) (ow X.K true):=by
 intro za s σ H x y v u Q I e f h;obtain⟨a,l,n,d,m,rfl,rfl,r,c,o,q⟩:=h;cases e;cases f;obtain⟨b,_,g,i⟩:=Br I (A:=X.A) (by lia) r c λr c q j=>uD I n (A:=X.A.in1) (by show X.A.units+1+n<cLine;lia) r c q j;exact g _ _ _ _ ⟨.bl (!b),H,I,rfl,q b i⟩
end
def FG{K:W.Frag}{H:Hp}{n:Nat}{is:Zs}(i:Nat)(d:Dt)(v:V)(a:(is.map Dt.int)[i]? =some d)(b:(is.map V.int)[i]? =some v):Rep K H n d v:=by
 rw[cQ]at a b;cases e:is[i]? with
 |none=>rw[e]at a;cases a
 |some k=>
  rw[e]at a b;cases a;cases b;exact .int n k
def zY{K:W.Frag}{H:Hp}{n:Nat}{is:Zs}{a:Ad}(h:SqL K H a (is.map V.int)):Rep K H (n+1) (.lst (is.map Dt.int)) (.ref a):= .lst h (by simp) FG
def zB{K:W.Frag}{H:Hp}{n:Nat}{is:Zs}{a:Ad}(h:SqT K H a (is.map V.int)):Rep K H (n+1) (.tup (is.map Dt.int)) (.ref a):= .tup h (by simp) FG
theorem oH{e i:Type}{f:e->i}(g: ∀a b,f a=f b->a=b): ∀{c d:List e},c.map f=d.map f->c=d
 | [],[],_=>rfl
 | [],_::_,h=>by simp at h
 |_::_,[],h=>by simp at h
 |a::c,b::d,h=>by
  simp only[List.map_cons,List.cons.injEq]at h;rw[g a b h.1,oH g h.2]
def nj{c d:Zs}:Dt.lst (c.map Dt.int)=Dt.lst (d.map Dt.int)↔c=d:=
 ⟨λh=>by injection h with h;exact oH (λa b e=>by injection e) h,λh=>by rw[h]⟩
def lE{c d:Zs}:Dt.tup (c.map Dt.int)=Dt.tup (d.map Dt.int)↔c=d:=
 ⟨λh=>by injection h with h;exact oH (λa b e=>by injection e) h,λh=>by rw[h]⟩
def iD(n:Nat):List V:=(List.range n).map λ(i:Nat)=>V.int (i:Int)
section
variable{X:Cx}
def Kw:List V->Hp->VK->Prop:=λa H Q=> ∃j:Int,a=[.int j]/\ ∀p,H p=none->Q (.ref p) (cw H p (.rng 0 j))
def zx:iC X (.type "range") Kw:=by
 intro a s c H d f Q I r h;obtain⟨j,rfl,q⟩:=h;obtain⟨u,rfl,t,rfl⟩:=ig r;refine call_range_1 ⟨.ref s.heap.objs.size,_,I.laid (t':=s.toks+1+1) (λb o e=>dI _ e) (cM _) (show ObjOk X.prog X.w _ _ _ (.rng 0 j)from⟨_,_,_,eO _ rfl⟩),rfl,q _ (I.hok.fresh (cM _))⟩
def Eb{n:Nat}{f:AV}(h:ItemsOf (λi v=> ∃t,v=Value.int ((0:Int)+(i:Nat) * 1) t) f n):Vals (iD n) f.toList:=by
 obtain⟨l,m⟩:=h;have go: ∀(d:List V) (c:Vs),d.length=c.length->(∀(j:Nat) x u,d[j]? =some x->c[j]? =some u->RelV x u)->Vals d c:=by
  intro d
  induction d with
  |nil=>intro c g _;cases c with
   |nil=>exact .nil
   |cons=>simp at g
  |cons x d o=>
   intro c g h;cases c with
   |nil=>simp at g
   |cons u c=>exact .cons (h 0 x u rfl rfl) (o c (by simpa using g) λj a b e k=>h (j+1) a b (by simpa using e) (by simpa using k))
 refine go _ _ (by simp[iD,l]) λj x u e k=>?_;obtain⟨t,rfl⟩:=m j u (by simpa using k);unfold iD at e;rw[cQ]at e;have p:j<n:=by
  have:=(cK.mp k).1;simpa[l]using this
 rw[mM p]at e;cases e;refine⟨t,?_⟩
 congr 1
 lia
def BZ{j:Int}(a:0<=j)(b:j<=1000000):Builtin.Range.small 0 j 1=true:=small_one (by decide) (by decide) (by lia) (by lia)
def Cw{j:Int}(a:0<=j):Builtin.Range.rangeSize 0 j 1=(j.toNat:Nat):=by
 rw[rangeSize_one];split<;>lia
def Kk:List V->Hp->VK->Prop:=λa H Q=> ∃p j,a=[.ref p]/\H p=some (.rng 0 j)/\0<=j/\j<=1000000/\ ∀l,H l=none->Q (.ref l) (cw H l (.lst (iD j.toNat)))
def LM(g:X.calm=true):iC X (.type "list") Kk:=by
 intro w s x H y z Q I r h;obtain⟨p,j,rfl,i,c,k,q⟩:=h;obtain⟨u,rfl,l⟩:=ig r;cases l;obtain⟨A,B,C,e⟩:=I.hok p _ i;refine call_list_range (I.ok.hd g) e (BZ c k) (Cw c) (by lia) λd m a f n o b=>?_;have t:=Eb b;have v:d.get? s.heap.objs.size=some {cls:= .type "list",data:= .seq a.toList.toArray f}:=by simpa using o
 exact⟨.ref s.heap.objs.size,_,I.laid (t':=m) n (cM _) (show ObjOk X.prog X.w _ d _ (.lst (iD j.toNat))from⟨by rw[dC];simp[iD];lia,a.toList,f,t,v⟩),rfl,q _ (I.hok.fresh (Nat.le_refl _))⟩
end
section
open AutoSeq1 (wpAny_loadPart')
abbrev vV(j:Int)(a:AV):Prop:=ItemsOf (λi v=> ∃t,v=Value.int ((0:Int)+(i:Nat) * 1) t) a j.toNat
def Jv{k:Pg}{w:World}{A:Ar}{E:VP}{s:Sh}{Q:Vs->Sh->Prop}{r:Ad}{j:Int}{t u v:Tok}(C:A.handled=none)(y:IsRange s.heap r 0 j 1 t u v)(B:0<=j)(D:j<=1000000)
  (G: ∀d i c,(∀b o,s.heap.get? b=some o->d.get? b=some o)->vV j c->Q c.toList {s with heap:=d,toks:=i}):wpAny (model k w) A (collect (.ref r)) Q E s:=by
 have H:(s.heap.push {cls:= .type "list",data:= .seq ([]:Vs).toArray}).get? s.heap.objs.size=some {cls:= .type "list",data:= .seq #[] 0}:=by exact eO _ rfl
 unfold collect;refine wpAny_bind (wpAny_runValue (codeAny_builtin F.entry_proto_collect ?_));rw[Around.under_plainId F.plain_proto_collect _];show wpAny _ A.in1 (newList [] >>= λl=>again (.builtin "list.__iadd__" ⟨[l,.ref r],[]⟩)) _ _ s;refine cy (lO (cG ⟨qw F.plain_list_iadd _,oz F.entry_list_iadd ?_⟩));rw[sk F.plain_list_iadd _];show wpAny _ A.in1 (Builtin.List.listExtendWith (.ref s.heap.objs.size) (.ref r) (.ref s.heap.objs.size)) _ _ _;have m: ∀n,(∃d i c p,n={s with heap:=d,toks:=i}/\(∀b o,s.heap.get? b=some o->d.get? b=some o)/\d.get? s.heap.objs.size=some {cls:= .type "list",dict:=none,data:= .seq c p,slots:= #[]}/\vV j c)->
   wpAny (model k w) A (match Value.ref s.heap.objs.size with
    | Value.ref a=>do
     let o <-load a
     match o.data with
      |Data.seq I _=>pure I.toList
      |_=>unsupported "internal:collect"
    |_=>unsupported "internal:collect") Q E n:=by
  rintro n ⟨d,i,c,p,rfl,z,q,x⟩;show wpAny _ A (load s.heap.objs.size >>= _) _ _ _;exact cy (wpAny_load q (cG (G d i c z x)))
 refine gN (wpAny_extend_range (A:=A) (R:=λr n=>r= .ok (.ret (.ref s.heap.objs.size))/\ ∃d i c p,n={s with heap:=d,toks:=i}/\(∀b o,s.heap.get? b=some o->d.get? b=some o)/\d.get? s.heap.objs.size=some {cls:= .type "list",dict:=none,data:= .seq c p,slots:= #[]}/\vV j c)
  (s:={s with heap:=s.heap.push {cls:= .type "list",data:= .seq ([]:Vs).toArray}}) C (dI _ y) (BZ B D) (Cw B) (by lia) _ (.ref s.heap.objs.size) 0 H λd i c p z q x=>
   ⟨rfl,d,i,c,p,rfl,λb o e=>z b o (dS (dh e)) (dI _ e),q,x⟩) (λfin n h=>?_) (λe n h=>wC h.1 (by simp))
 cases fin with
 |done f=>obtain⟨e,g⟩:=h;cases e;exact m _ g
 |again p=>exact⟨h.1,nI h.2 λr J y=>by obtain⟨rfl,g⟩:=y;exact m _ g⟩
def Ih(r:Ad)(j:Int)(t u v:Tok)(q:0<=j)(x:j<=1000000):Meets (Builtin.«tuple.__new__» ⟨[.type "tuple",.ref r],[]⟩)
  (λA R s=>A.handled=none/\IsRange s.heap r 0 j 1 t u v/\ ∀(c:Heap) i a,(∀b o,s.heap.get? b=some o->c.get? b=some o)->vV j a->
   R (.ok (.ret (.ref c.objs.size))) {s with heap:=c.push {cls:= .type "tuple",data:= .seq a},toks:=i}):=
 .of_wp λn w A R s h=>by
  obtain⟨y,g,d,i,os⟩:=s;obtain⟨z,k,h⟩:=h;have p:=sub_tuple_self;have l:=init_tuple_lookup;have B:=madeHere_tuple
  have hT:Shared.TypeIs ⟨y,g,d,i,os⟩ (.ref r) "range":=⟨_,k,rfl⟩
  wp_walk using xz k,wpAny_typeOf hT,Jv (A:=A.in1) z k q x
  intro c m a C f;show wpAny _ _ (Builtin.Tuple.tupleExact a.toList.toArray >>= λv=>ret v) _ _ _;have D:a.toList.toArray.size<=sizeLine:=by
   have:=f.1;rw[dC];simp only[List.size_toArray,Array.length_toList];lia
  unfold Builtin.Tuple.tupleExact;refine wpAny_bind (wpAny_newObj_type (wpAny_pure ⟨_,rfl,?_⟩) D);have e:a.toList.toArray=a:=by simp
  rw[e];exact h c m a C f
end
section
variable{X:Cx}
def Me:List V->Hp->VK->Prop:=λa H Q=> ∃p j,a=[.ref p]/\H p=some (.rng 0 j)/\0<=j/\j<=1000000/\ ∀l,H l=none->Q (.ref l) (cw H l (.tup (iD j.toNat)))
def BS(m:X.calm=true):iC X (.type "tuple") Me:=by
 intro i s k H E G Q I r h;obtain⟨p,j,rfl,n,t,v,q⟩:=h;obtain⟨u,rfl,w⟩:=ig r;cases w;obtain⟨x,y,z,e⟩:=I.hok p _ n;refine callType_new F.called_tuple (by decide) (F.typeCall_tuple_1 _) (F.newCall_tuple_1 _) (λd=>F.args_object_init_2 d _) F.entry_tuple_new (Ih p j x y z t v) ⟨I.ok.hd m,e,λc f a A g=>⟨⟨_,eO _ rfl,rfl⟩,?_⟩⟩;have B:=Eb g;have l:Inv X i k H {s with heap:=c,toks:=f}:=I.kept A;have C:(iD j.toNat).length<=sizeLine:=by rw[dC];simp[iD];lia
 have D:Inv X i k (cw H c.objs.size (.tup (iD j.toNat))) {s with heap:=c.push {cls:= .type "tuple",data:= .seq a},toks:=f}:=
  l.laid (t':=f) (λb o e=>dI _ e) (cM _) (show ObjOk X.prog X.w _ _ _ (.tup (iD j.toNat))from⟨C,a.toList,B,by simpa using TupD.new c a⟩)
 exact⟨.ref c.objs.size,_,D,rfl,q _ (l.hok.fresh (cM _))⟩
def AD(K:W.Frag):List V->Hp->VK->Prop:=λa H Q=> ∃x n t b,a=[x,.ty n]/\TyOf K H x t/\PySem.W.kitOne K t (.type n)=some b/\Q (.bl b) H
def y8:iC X (.builtin "isinstance") (AD X.K):=by
 intro f s g H i j Q I r h;obtain⟨x,n,t,b,rfl,ty,e,q⟩:=h;obtain⟨u,k,rfl,a,c⟩:=uZ r;cases c;exact GG I a ty e λd=>⟨.bl b,H,I.tok d,rfl,q⟩
end
structure CompSc(N:Ss)(osc:Scope)(vs:Ss)(sc:Scope):Prop where
 kind:sc.kind= .function:=by rfl
 cell: ∀y∈sc.names,y.2≠ .cell:=by decide+kernel
 locs: ∀y∈sc.names,y.2= .local->sc.names.lookup y.1=some .local:=by decide+kernel
 own: ∀y∈N.map (gm vs),sc.names.lookup y≠some .local:=by decide+kernel
 hid: ∀y∈vs,sc.names.lookup (sv y)=none:=by decide+kernel
 nd:(vs++N.map (gm vs)).Nodup:=by decide+kernel
 free: ∀y∈sc.names,y.2= .free->osc.names.lookup y.1=some .cell∨osc.names.lookup y.1=some .free:=by decide+kernel
def CompSc.to{X:Cx}{N:Ss}{osc:Scope}{vs:Ss}{a:Scope}(h:CompSc N osc vs a)(b:X.N=N:=by rfl)(c:X.env.scope=osc:=by rfl):CompScope X vs a:=by
 subst b c;exact⟨h.kind,h.cell,h.locs,h.own,h.hid,h.nd,h.free⟩
def dA(P:Pg)(w:World)(K:W.Frag)(mg:SV)(a:Heap)(x:Str)(k:Nat)(b:Ss)(d:Sp):Prop:=
 ∃f c,FnOk P w K mg a cZ k f c b d/\mg x=some (.ref f)/\PySem.W.keepIn K (.ref f)=true/\Binds K c b []
def dD{X:Cx}{x:Str}{k:Nat}{g:Ss}{d:Sp}{e:Expr}{a:List Expr}{t:TA}{p pos:Pos}(c:dA X.prog X.w X.K X.mg X.base x k g d)(h:Room k X.A)(i:Gl X x)(j:PA X (e::a) t)
  (l:(x==("__debug__":Str))=false:=by decide) (n:starEach (e::a) X.env=(false,eval e X.env)::starEach a X.env:=by rfl) (o:(backTo pos (starEach a X.env)).any (·.1)=false:=by rfl):
  PE X (.Call (.Name x p) (e::a) [] pos) (vX d [] E0 t):=by
 obtain⟨f,r,F,m,q,b⟩:=c;exact Hd F h i m q b .nil ua j l n o
def z7{X:Cx}{x:Str}{n:String}{pos:Pos}(a:Gl X x)(b:X.mg x=none)(c:bootBuiltins x=some (.type n))(d:x≠"__name__":=by decide)(e:(x==("__debug__":Str))=false:=by decide):PE X (.Name x pos) (tC (.ty n)):=
 G' (v:= .ty n) a b c (show RelV (.ty n) (.type n)from rfl) d e
def IxR.k{X:Cx}{K:W.Frag}(r:W.Frag->R2)(h:IxR X (r X.K))(a:X.K=K):IxR X (r K):=a▸h
def OpR.k{X:Cx}{K:W.Frag}{f:Vl->Vl->Sem Vl}(r:W.Frag->R2)(h:OpR X f (r X.K))(a:X.K=K):OpR X f (r K):=a▸h
def cL{H:Hp}{p:Ad}(h:H p=none)(o:HO):Same H (cw H p o):=λb u q=>by rw[cF (dO q h)];exact q
def small{n:Nat}(h:n<=1000):n<=sizeLine:=fR (KW h)
abbrev nv(n:Nat):V:= .int (n:Int)
def FI(a:cu):a.map nv=(a.map λ(n:Nat)=>(n:Int)).map V.int:=by rw[hZ];rfl
def E2{c d:cu}:(c.map λ(n:Nat)=>(n:Int))=(d.map λ(n:Nat)=>(n:Int))↔c=d:=
 ⟨λh=>oH (λa b e=>uQ e) h,λh=>by rw[h]⟩
def vP{K:W.Frag}{H:Hp}{n:Nat}{is:cu}{a:Ad}(h:SqL K H a (is.map nv)):Rep K H (n+1) (.lst ((is.map λ(n:Nat)=>(n:Int)).map Dt.int)) (.ref a):=zY (by rw[<-FI];exact h)
def gu{K:W.Frag}{H:Hp}{n:Nat}{is:cu}{a:Ad}(h:SqT K H a (is.map nv)):Rep K H (n+1) (.tup ((is.map λ(n:Nat)=>(n:Int)).map Dt.int)) (.ref a):=zB (by rw[<-FI];exact h)
def i9{a b:cu}:Dt.lst ((a.map λ(n:Nat)=>(n:Int)).map Dt.int)=Dt.lst ((b.map λ(n:Nat)=>(n:Int)).map Dt.int)↔a=b:=nj.trans E2
def dy{a b:cu}:Dt.tup ((a.map λ(n:Nat)=>(n:Int)).map Dt.int)=Dt.tup ((b.map λ(n:Nat)=>(n:Int)).map Dt.int)↔a=b:=lE.trans E2
def lY{a:cu}{k:Nat}(h:k<a.length):iX (a.map nv) (k:Int)=some (nv (a.getD k 0)):=gF (by rw[cQ,cA h,dY,cA h];rfl)
def rm(H:Hp)(b:List V)(Q:VK):Prop:= ∀r a,Same H a->a r=some (.tup b)->Q (.ref r) a
def A4(t:TS):TS:=λD c H=> ∃S:St->Hp->Prop,t {D with nx:=S} c H/\ ∀a b,S a b->D.nx a b
def px{X:Cx}{st:Stmt}{t:TS}(h:PS X st t):PS X st (A4 t):=by
 intro c s d H D I q;obtain⟨S,e,g⟩:=q;refine cP (h c s d H _ I e) λf j z=>?_;cases f with
 |next=>obtain⟨a,b,i,z⟩:=z;exact⟨a,b,i,g a b z⟩
 |brk=>exact z
 |cont=>exact z
 |ret u=>exact z
def fQ{H a:Hp}{l:Ad}{o:HO}(g:Same H a)(c:H l=none):Same H (cw a l o):=λb u e=>by rw[cF (dO e c)];exact g b u e
def KN{a:Zs}{k:Nat}(h:k<a.length):iX (a.map V.int) (k:Int)=some (.int (a.getD k 0)):=gF (by rw[cQ,cA h,dY,cA h];rfl)
def xB{n k:Nat}(h:k<n):mE n (k:Int)=some k:=by
 unfold mE;rw[wB (by lia),wB (by lia),hV]
def fA(c:Int){n:Nat}(h:1<=n):V.int (c%(n:Int))=nv (c%(n:Int)).toNat/\(c%(n:Int)).toNat<n:=by
 have a:=Int.emod_nonneg c (by lia:(n:Int)≠0);have b:=Int.emod_lt_of_pos c (by lia:(0:Int)<(n:Int));refine⟨?_,by lia⟩;show V.int _=V.int (((c%(n:Int)).toNat:Nat):Int);rw[Int.toNat_of_nonneg a]
def xZ(a:cu)(j v:Nat):(a.map nv).set j (nv v)=(a.set j v).map nv:=(List.map_set).symm
def w6{a:cu}{j v n:Nat}(h: ∀y∈a,y<n)(b:v<n): ∀y∈a.set j v,y<n:=by
 intro y c
 rcases List.mem_or_eq_of_mem_set c with z|z
 .exact h y z
 .rw[z];exact b
def sT{a:cu}{j n:Nat}(h: ∀y∈a,y<n)(b:j<a.length):a.getD j 0<n:=by
 rw[dY,cA b];exact h _ (i7 b)
def Mo{K:W.Frag}:PySem.W.kitOne K (.type "int") (.type "int")=some true:=by rfl
def MM{K:W.Frag}:PySem.W.kitOne K (.type "int") (.type "bool")=some false:=by rfl
def fH{K:W.Frag}:PySem.W.kitOne K (.type "tuple") (.type "tuple")=some true:=by rfl
def IU{P:Pg}{w:World}{a:Ad}{c:Type}[DecidableEq c]{kd:HeapKind P w c}(d:(a==sysModules)=false):
  MeetsIn P w (Builtin.«dict.__len__» ⟨[.ref a],[]⟩) λ_ R s=> ∃b,s.heap.DictOfH kd a b/\R (.ok (.ret (.int b.length s.toks))) {s with toks:=s.toks+1}:=
 .of_wp λA R s ⟨b,e,q⟩=>by
  obtain⟨k,f,l,g,m,h,i,_⟩:=e;have j:f.size=b.length:=wp i;show wpAny _ _ (dictSize a >>= _) _ _ s;unfold dictSize;refine cy (cy (pB g h (cG (cy (wpAny_pendingCount_other d (wpAny_ret_mkInt ?_))))));rw[vd,j];exact q
def JT{P:Pg}{w:World}{A:Ar}{E:VP}{s:Sh}{a:Ad}{c:Type}[DecidableEq c]{e:HeapKind P w c}{b:List (c×Ad×Vl)}{Q:VP}(f:(a==sysModules)=false)
  (d:s.heap.DictOfH e a b) (few:(b.length:Int)<2 ^ 63) (q:Q (.int b.length (s.toks+1)) {s with toks:=s.toks+1+1}):wpAny (model P w) A (Builtin.«len» ⟨[.ref a],[]⟩) (λfin g=> ∃r,fin= .done (.ret r)/\Q r g) E s:=by
 have h: ¬((b.length:Nat):Int)<0:=by lia
 have i: ¬((b.length:Nat):Int)≥2 ^ 63:=by lia
 unfold Builtin.«len»;refine cy (m:=oneArg "len" _) (cG (cy (m:=callSpecial? (.ref a) (Str.ofString "__len__")) ?_));refine pE (name:=Str.ofString "__len__") d.typeIs F.slot_dict_len (call_meetsIn F.slot_dict_len d.typeIs F.entry_dict_len (F.args_dict_len_1 _) (IU (kd:=e) f) ⟨b,d,?_⟩);show wpAny _ _ _ _ _ {s with toks:=s.toks+1};refine cy (gw (cG (cy (wpAny_letGo ?_))));show wpAny _ _ (if((b.length:Nat):Int)<0 then _ else(if((b.length:Nat):Int)≥2 ^ 63 then _ else _)) _ _ _;rw[wA h,wA i];exact cy (wpAny_mkInt (cG ⟨_,rfl,q⟩))
section
variable{X:Cx}
def KO:iC X (.builtin "len") (λd H Q=> ∃a b,d=[V.ref a]/\H a=some (.dT b)/\Q (.int b.length) H):=by
 intro l s m H d n Q I r h;obtain⟨a,b,rfl,f,q⟩:=h;obtain⟨u,rfl,g⟩:=ig r;cases g;obtain⟨z,i,j,c,k⟩:=A1 I.hok f;have e:b.length=j.length:=nq c;refine AB kind_len plain_len entry_len (args_len1 _) (JT i k (by rw[<-e];rw[dC]at z;lia) ?_);exact⟨.int b.length,H,I.tok _,⟨_,by rw[e]⟩,q⟩
end
def nk(a:cu):List dr:=a.map λ(n:Nat)=>(Sum.inl (n:Int):dr)
def ip(a:cu):(nk a).map kV=a.map nv:=by
 unfold nk;rw[hZ];rfl
def vx{c d:cu}(h:nk c=nk d):c=d:=by
 unfold nk at h;exact oH (λa b e=>by injection e with e;exact uQ e) h
section
variable{X:Cx}
def E4(K:W.Frag):R2:=λx y H Q=> ∃l b a c,x= .ref l/\y= .ref b/\SqL K H l a/\SqL K H b c/\a.length+c.length<=sizeLine/\ ∀p,H p=none->Q (.ref p) (cw H p (.lst (a++c)))
def Bd:OpR X (binaryOp .Add) (E4 X.K):=by
 intro E s G H x y v u Q I p t h;obtain⟨l,b,J,L,rfl,rfl,w,z,M,q⟩:=h;cases p;cases t;obtain⟨c,r,⟨⟨N,O,T,A⟩,n,e,i,j,k⟩,_⟩:=I.list w;obtain⟨a,m,⟨⟨U,Y,k2,B⟩,C,o,d,f,g⟩,_⟩:=I.list z;simp only at i j k d f g;subst i j k d f g;have l1:=r.length;have l2:=m.length;have D:c.toArray++a.toArray=(c++a).toArray:=by simp
 refine concat_meets ⟨_,e,rfl⟩ ⟨_,o,rfl⟩ noFill_list_add seq_list_add F.slot_list_add F.entry_list_add (F.args_list_add_2 _ _) (list_addW l b c.toArray a.toArray n C none none A B (by simp only[List.size_toArray];lia)) ⟨e,o,?_⟩;rw[D];exact⟨.ref _,_,I.lnew (t':=s.toks) (r.append m) (by rw[dF];lia),rfl,q _ I.fresh⟩
end
section
variable{X:Cx}
def Ac(K:W.Frag):List V->Hp->VK->Prop:=λa H Q=> ∃(p:Ad) (bs:List Bool),a=[.ref p]/\SqL K H p (bs.map V.bl)/\Q (.bl (bs.all id)) H
def J3(n:X.calm=true):iC X (.builtin "all") (Ac X.K):=by
 intro G s J H L M Q I r h;obtain⟨p,bs,rfl,t,q⟩:=h;obtain⟨u,rfl,w⟩:=ig r;cases w;obtain⟨a,g,j,_⟩:=I.list t;have k:=j.isList;have f:p<s.heap.objs.size:=j.lt;have c:a.length=bs.length:=by rw[<-g.length,cz]
 refine call_all_walk (sL k ⟨_,_,_,_,_,_,λi=>bs.getD i false,rfl,Walks.list (A:=X.A.in1) (I.ok.hd n) _ p (dS f) a.toArray,⟨⟨_,eO _ rfl,rfl,rfl⟩,k.push _⟩,?_,λN O y=>?_⟩)
 .intro i v T U Y B C;have d:a[i]? =some v:=by simpa using B
  have l:i<bs.length:=by rw[<-c];exact(cK.mp d).1
  obtain⟨u2,m,D⟩:=g.get (i:=i) (x:= .bl (bs.getD i false)) (by rw[cQ,cA l,dY,cA l];rfl);rw[d]at m;cases m;cases(show v=Value.bool _ from D);exact n7 C
 .have e:(List.range a.toArray.size).all (λi=>bs.getD i false)=bs.all id:=by
   rw[eM,c];have:bs=(List.range bs.length).map λi=>bs.getD i false:=by
    refine vB (by simp) λi E h2=>?_;simp[List.getD_eq_getElem?_getD,E]
   conv=>rhs;rw[this,List.all_map]
   rfl
  rw[e];exact⟨.bl (bs.all id),H,I.kept λb o z=>y b o (by simp only[List.mem_singleton];exact Nat.ne_of_lt (Heap.lt_size z)) (Heap.get?_push_of_some _ z),rfl,q⟩
end
structure PL(X:Cx)(es:List Expr)(t:TA):Prop where
 pa:PA X es t
section
variable{X:Cx}{e a b:Expr}{es:List Expr}{te ta tb:TE}{t:TA}{pos:Pos}
def c8:PL X [] jd:=⟨cI⟩
def cB(c:PE X e te)(d:PL X es t)(f:starEach (e::es) X.env=(false,eval e X.env)::starEach es X.env):PL X (e::es) (jo te t):=⟨cJ c d.pa f⟩
def de(h:PL X es t):PA X es t:=h.pa
end
def sK(op:CmpOp)(A:Ar)(s:Sh)(x y:Vl)(r:Bool):Prop:=
 ∀(P:Pg) (w:World) (E:VP) (Q:VP),Q (.bool r) s->wpAny (model P w) A (richCompare op x y) Q E s
inductive Cmp (op:CmpOp) (A:Ar) (s:Sh):List (Vl×Vl)->Option Bool->Prop where
 |nil:Cmp op A s [] none
 |eq {x y zs o}:SeqAt.EqAt A s x y true->Cmp op A s zs o->Cmp op A s ((x,y)::zs) o
 |ne {x y zs r}:SeqAt.EqAt A s x y false->sK op A s x y r->Cmp op A s ((x,y)::zs) (some r)
def SeqObj(c:String)(h:Heap)(a:Ad)(b:Vs):Prop:= ∃n d sl,h.get? a=some ⟨.type c,d,.seq b.toArray n,sl⟩
section
variable{P:Pg}{w:World}{A:Ar}{E:VP}{s:Sh}{op:CmpOp}
def LD{g:Type}{f:Vl×Vl->g->Sem (ForInStep g)}{a:g}{Q:g->Sh->Prop}{i:List (Vl×Vl)}{o:Option Bool}(h:Cmp op A s i o)
  (j: ∀x y Q,SeqAt.EqAt A s x y true->Q (.yield a) s->wpAny (model P w) A (f (x,y) a) Q E s)
  (no: ∀x y r,SeqAt.EqAt A s x y false->sK op A s x y r->o=some r->wpAny (model P w) A (f (x,y) a) (λt d=>match t with| .yield _=>False| .done b=>Q b d) E s)
  (fin:o=none->Q a s):wpAny (model P w) A (forIn i a f) Q E s:=by
 refine AJ f (λrest b d=>b=a/\d=s/\Cmp op A s rest o) Q (λz rest b d q=>?_) (λb d q=>?_) i a ⟨rfl,rfl,h⟩
 .obtain⟨rfl,rfl,c⟩:=q;cases c with
  |eq e c=>exact j _ _ _ e ⟨rfl,rfl,c⟩
  |ne e c=>
   refine gN (no _ _ _ e c rfl) (λt k z=>?_) λ_ _ z=>z;cases t with
   |yield _=>exact z.elim
   |done _=>exact z
 .obtain⟨rfl,rfl,c⟩:=q;cases c;exact fin rfl
end
section
open AutoSeq1
open MeetsSeq MeetsSeq2 MeetsSeq3 SeqRoads2 SeqAt
variable{l b:Ad}{xs ys:Vs}
def JU:Meets (Builtin.«tuple.__lt__» ⟨[.ref l,.ref b],[]⟩) (λA R s=>SeqObj "tuple" s.heap l xs/\SeqObj "tuple" s.heap b ys/\ ∃o,Cmp .Lt A.in1 s (xs.zip ys) o/\R (.ok (.ret (.bool (o.getD (decide (xs.length<ys.length)))))) s):=by
 refine .of_wp λP w A R ⟨h,i,j,k,os⟩ ⟨⟨n,p,sl,a⟩,⟨m,t,tl,d⟩,o,c,q⟩=>?_;have sub:=AutoSeq1.sub_tuple_tuple
 wp_walk using xz a,xz d
 refine LD c (λx y Q e z=>?_) (λx y r e f z=>?_) (λz=>?_)
 .refine cy (e P w _ _ ?_)
  wp_walk
  exact z
 .refine cy (e P w _ _ ?_);generalize g:richCompare .Lt x y=ask
  wp_walk
  subst g;refine f P w _ _ ?_
  wp_walk
  subst z;exact⟨_,rfl,q⟩
 .subst z
  wp_walk
  exact⟨_,rfl,by simpa[Builtin.Tuple.tupleCompareSizes]using q⟩
end
def fO:cu->List Nat->Option Bool
 |a::c,b::d=>if a=b then fO c d else some (decide (a<b))
 |_,_=>none
def eA(a b:cu):Bool:=(fO a b).getD (decide (a.length<b.length))
def m9(b:cu):eA b b=false:=by
 have no:fO b b=none:=by
  induction b with
  |nil=>rfl
  |cons a b c=>rw[fO,wB rfl,c]
 unfold eA;rw[no];simp
section
variable{A:Ar}{s:Sh}{l b:Ad}{xs ys:Vs}{o:Option Bool}
def JB{i j:Int}{t u:Tok}:sK .Lt A s (.int i t) (.int j u) (decide (i<j)):=λP w E Q q=>show wpAny _ _ (compareOp .Lt _ _) _ _ _ from PyProof.Rows.lt_int q
def fu{i j:Int}{t u:Tok}:SeqAt.EqAt A s (.int i t) (.int j u) (decide (i=j)):=by
 have z:=vM (A:=A) (s:=s) (y:= .int i) (x:= .int j) (u:= .int i t) (v:= .int j u) ⟨t,rfl⟩ ⟨u,rfl⟩ rfl rfl;have e:ky (.int i) (.int j)=decide (i=j):=by
  show(i==j)=_;by_cases h:i=j<;>simp[h]
 rwa[e]at z
theorem Cm{op:CmpOp}{F:Bool->Bool}(d: ∀(i j:Nat) (t u:Tok),i≠j->sK op A s (.int (i:Int) t) (.int (j:Int) u) (F (decide (i<j)))):
  ∀{c a:cu} {xs ys:Vs},Vals (c.map nv) xs->Vals (a.map nv) ys->Cmp op A s (xs.zip ys) ((fO c a).map F)
 | [],a,_,_,.nil,_=>by rw[List.zip_nil_left,show fO [] a=none by cases a<;>rfl];exact .nil
 |n::c,[],_,_,.cons _ _,.nil=>by rw[List.zip_nil_right];exact .nil
 | n::c,m::a,_,_,.cons ⟨t,f⟩ g,.cons ⟨u,h⟩ k=>by
  subst f h;have z:=fu (A:=A) (s:=s) (i:=(n:Int)) (j:=(m:Int)) (t:=t) (u:=u);by_cases e:n=m
  .rw[dX (by lia)]at z;rw[fO,wB e];exact .eq z (Cm d g k)
  .rw[fg (by lia)]at z;rw[fO,wA e];exact .ne z (d n m t u e)
def Ht{a c:cu}(d:Vals (a.map nv) xs)(f:Vals (c.map nv) ys):Cmp .Lt A s (xs.zip ys) (fO a c):=by
 have z:=Cm (A:=A) (s:=s) (op:= .Lt) (F:=λb=>b) (λi j t u _=>by
  have e:decide ((i:Int)<(j:Int))=decide (i<j):=by simp
  exact e▸JB) d f
 rwa[Option.map_id']at z
def GR(h:s.heap.IsTuple l xs.toArray):SeqObj "tuple" s.heap l xs:=by
 obtain⟨⟨c,a,g,sl⟩,e,d,n,f⟩:=h;cases d;cases f;exact⟨n,a,sl,e⟩
def SeqObj.ty{c:String}(h:SeqObj c s.heap l xs):s.TypeIs (.ref l) c:=let⟨_,_,_,e⟩:=h;⟨_,e,rfl⟩
def Je(a:SeqObj "tuple" s.heap l xs)(d:SeqObj "tuple" s.heap b ys)(e:A.units<cLine)(c:Cmp .Lt A.in1 s (xs.zip ys) o):sK .Lt A s (.ref l) (.ref b) (o.getD (decide (xs.length<ys.length))):=λP w E Q q=>
 richCompare_meets_room (op:= .Lt) a.ty d.ty F.slot_tuple_lt F.entry_tuple_lt (F.args_tuple_lt_2 _ _) JU ⟨a,d,o,c,(λz=>nomatch z),q⟩ e
end
section
variable{X:Cx}
def pA(i:Int)(a:cu)(j:Int)(b:cu):Bool:=if i=j then eA a b else decide (i<j)
end
def cO(m:Nat):cu:=(List.range 5).filter λi=>m.testBit i
def fP(led:Bool)(a:cu):SetTable:={mask:=if a.length=5 then 31 else 7,place:=a.toArray,dummies:= #[],finger:=0,led,moves:=if a.length=5 then 1 else 0,plain:=true}
def kg(a:cu)(k:Nat):Nat:=(a.filter (· <k)).length
def jj(a:Bool)(m k:Nat):SetTable:={fP a (cO m)with place:=(cO (m |||2 ^ k)).toArray}
def sU: ∀(a:Bool) (m:Fin 32),(fP a (cO m)).fits (cO m).length=true:=by decide+kernel
def J9: ∀(a:Bool) (m:Fin 32) (k:Fin 5),(m:Nat).testBit k=false->(fP a (cO m)).freeSlot ((k:Nat):Int)=some ((k:Nat),false):=by decide+kernel
def Mw: ∀(a:Bool) (m:Fin 32) (k:Fin 5),(m:Nat).testBit k=false->(fP a (cO m)).put k=(jj a m k,kg (cO m) k)/\(jj a m k).fits ((cO m).length+1)=true:=by decide+kernel
def Jy: ∀(m:Fin 32) (k:Fin 5),(m:Nat).testBit k=false->cO (m |||2 ^ (k:Nat))=(cO m).take (kg (cO m) k)++(k:Nat)::(cO m).drop (kg (cO m) k):=by decide+kernel
def Mm: ∀(m:Fin 32) (k:Fin 5),(k:Nat)∈cO m->(m |||2 ^ (k:Nat):Nat)=m:=by decide+kernel
def Jz: ∀(m:Fin 32) (k:Fin 5),(k:Nat)∉cO m->(m:Nat).testBit k=false:=by decide+kernel
def EC: ∀(m:Fin 32) (k:Fin 5),(m |||2 ^ (k:Nat):Nat)<32:=by decide+kernel
def u0: ∀m:Fin 32,(cO m).length<=5:=by decide+kernel
def Lc: ∀(a:Bool) (m:Fin 32) (k:Fin 5),(m:Nat).testBit k=false->(cO m).length≠4->jj a m k=fP a (cO (m |||2 ^ (k:Nat)))/\(jj a m k).tooFull=false:=by decide+kernel
def LJ: ∀(a:Bool) (m:Fin 32) (k:Fin 5),(m:Nat).testBit k=false->(cO m).length=4->(jj a m k).tooFull=true/\
  (jj a m k).relaid #[0,1,2,3,4] (SetTable.grown 5)=some (fP a (cO (m |||2 ^ (k:Nat))),#[0,1,2,3,4])/\cO (m |||2 ^ (k:Nat))=[0,1,2,3,4]/\(fP a (cO (m |||2 ^ (k:Nat)))).fits 5=true:=by decide+kernel
def zz: ∀k:Fin 5,hashInt ((k:Nat):Int)=((k:Nat):Int):=by decide+kernel
def Ents:cu->List (Int×Vl)->Prop:=Paired λn e=>e.1=(n:Int)/\ ∃t,e.2= .int (n:Int) t
def kq(a:List (Int×Vl))(b:Nat)(t:SetTable):Obj:={cls:= .type "set",data:= .set a.toArray b t}
def IsSet5(h:Heap)(a:Ad)(b:Bool)(m:Nat):Prop:=m<32/\ ∃c d,h.get? a=some (kq c d (fP b (cO m)))/\Ents (cO m) c
theorem Ents.take: ∀{a:cu} {b:List (Int×Vl)} (p:Nat),Ents a b->Ents (a.take p) (b.take p)
 |_,_,0,_=> .nil
 |_,_,_+1,.nil=> .nil
 |_,_,p+1,.cons r t=> .cons r (Ents.take p t)
theorem Ents.drop: ∀{a:cu} {b:List (Int×Vl)} (p:Nat),Ents a b->Ents (a.drop p) (b.drop p)
 |_,_,0,r=>r
 |_,_,_+1,.nil=> .nil
 |_,_,p+1,.cons _ t=>Ents.drop p t
theorem Ents.app: ∀{a b:cu} {c fs:List (Int×Vl)},Ents a c->Ents b fs->Ents (a++b) (c++fs)
 |_,_,_,_,.nil,r=>r
 |_,_,_,_,.cons q t,r=> .cons q (Ents.app t r)
def Ents.len{a:cu}{b:List (Int×Vl)}(h:Ents a b):b.length=a.length:=(nq h).symm
theorem Ents.keys: ∀{a:cu} {b:List (Int×Vl)},Ents a b->b.map (·.1)=a.map λ(n:Nat)=>(n:Int)
 |_,_,.nil=>rfl
 |_,_,.cons q t=>by rw[gv,gv,q.1,Ents.keys t]
theorem Ents.mem: ∀{a:cu} {b:List (Int×Vl)} {e:Int×Vl},Ents a b->e∈b-> ∃n∈a,e.1=(n:Int)/\ ∃t,e.2= .int (n:Int) t
 | _,_,_,.cons q t,h=>by
  rcases dQ.mp h with z|z
  .subst z;exact⟨_,dP,q⟩
  .obtain⟨n,c,d⟩:=Ents.mem t z;exact⟨n,fc _ c,d⟩
theorem Ents.has: ∀{a:cu} {b:List (Int×Vl)} {n:Nat},Ents a b->n∈a-> ∃e∈b,∃t,e.2= .int (n:Int) t
 | _,_,_,.cons q t,h=>by
  rcases dQ.mp h with z|z
  .subst z;exact⟨_,dP,q.2⟩
  .obtain⟨e,c,d⟩:=Ents.has t z;exact⟨e,fc _ c,d⟩
def Ents.elems{P:Pg}{w:World}{m:Fin 32}{b:List (Int×Vl)}(h:Ents (cO m) b):ElemsOf (intKind P w) b:=λe d=>by
 obtain⟨n,f,g,t,c⟩:=h.mem d;have a:n<5:=fq.mp (dJ.mp f).1;exact⟨⟨(n:Int),by rw[c];exact uC _ _ _ _,by rw[g];exact(zz ⟨n,a⟩).symm⟩,by rw[c];rfl⟩
def HP{b:Type}(a:List b)(p:Nat)(x:b):(SetTable.insertAt a.toArray p x)=(a.take p++x::a.drop p).toArray:=by
 unfold SetTable.insertAt;apply Array.ext';simp;exact wn (by simp)
section
variable{P:Pg}{w:World}{A:Ar}{E:VP}{s:Sh}{a:Ad}{led:Bool}{m k:Nat}{t:Tok}
def Df{h:Heap}{c fs:List (Int×Vl)}{b:Nat}{t u:SetTable}(e:h.get? a=some (kq c b t)):(h.update a (Obj.putSet fs.toArray u)).get? a=some (kq fs (b+1) u):=rk _ e rfl
def uh{b:Type}{fs:List b}{n:Nat}(h:fs.length=n+1): ∃a r,fs=a::r/\r.length=n:=by
 cases fs with
 |nil=>cases h
 |cons a r=>exact⟨a,r,rfl,Nat.succ.inj h⟩
def uT{b:Type}{fs:List b}(h:fs.length=5):(#[0,1,2,3,4]:Array Nat).filterMap (fs.toArray[·]?)=fs.toArray:=by
 obtain⟨_,_,rfl,c⟩:=uh h;obtain⟨_,_,rfl,d⟩:=uh c;obtain⟨_,_,rfl,e⟩:=uh d;obtain⟨_,_,rfl,f⟩:=uh e;obtain⟨_,_,rfl,g⟩:=uh f;cases nX.mp g;rfl
def JA{Q:Sh->Prop}(i:k<5)(hS:IsSet5 s.heap a led m)(q: ∀D,IsSet5 D a led (m |||2 ^ k)->Heap.SameBut a s.heap D->Q {s with heap:=D}):
  wpAny (model P w) A (setAddHashed a (.int (k:Int) t) (k:Int)) (λ_ s'=>Q s') E s:=by
 obtain⟨d,b,G,e,p⟩:=hS;have H:=p.len;have I:=sU led ⟨m,d⟩;have Y:ElemsOf (intKind P w) b.toArray.toList:=Ents.elems (m:=⟨m,d⟩) p;have m5:(cO m).length<=5:=u0 ⟨m,d⟩;have o:(fP led (cO m)).fits b.toArray.size=true:=by rw[eM,H];exact I
 have sc:byScan (.int (k:Int) t) b.toArray=true:=by
  unfold byScan;have e3:b.toArray.all (·.2.scannable)=true:=by
   rw[Array.all_eq_true_iff_forall_mem];exact λx J=>(Y x (by simpa using J)).2
  rw[e3];have e4:decide (b.toArray.size<scanBound)=true:=dX (by rw[eM,H];unfold scanBound;lia);rw[e4];rfl
 have hh:(intKind P w).hash (k:Int)=(k:Int):=zz ⟨k,i⟩;unfold setAddHashed setAddHashedIn;refine gw (cy (oJ e rfl o ?_));dsimp only;rw[sc,wB rfl];unfold setAddByScan;refine cy (cy (mW (cy ?_)));have scan: ∀{R:ScanMet->Sh->Prop},R (match b.toArray.toList.findIdx? (λe=>(intKind P w).is (k:Int) e.2)with|some j=> .found (0+j)|none=> .absent) s->wpAny (model P w) A (setScan a (.int (k:Int) t) (k:Int) true b.toArray) R E s:=λz=>by
  have y:=wpAny_setScan_of (prog:=P) (w:=w) (A:=A) (E:=E) (knd:=intKind P w) (k:=(k:Int)) (x:= .int (k:Int) t) (adding:=true) (uC _ _ _ _) e rfl o Y z;rw[hh]at y;exact y
 refine scan ?_;rw[v6];by_cases l:k∈cO m
 .obtain⟨x,J,tx,ex⟩:=p.has l;cases L:b.findIdx? λe=>(intKind P w).is (k:Int) e.2 with
  |none=>
   have z:=List.findIdx?_eq_none_iff.mp L x J;rw[ex,uC]at z;cases z
  |some j=>
   refine cG (cG ?_);have z:=q s.heap (by rw[Mm ⟨m,d⟩ ⟨k,i⟩ l];exact⟨d,b,G,e,p⟩) (Heap.SameBut.refl a s.heap);cases s;exact z
 .have v:=Jz ⟨m,d⟩ ⟨k,i⟩ l;cases L:b.findIdx? λe=>(intKind P w).is (k:Int) e.2 with
  |some j=>
   obtain⟨hj,B,_⟩:=List.findIdx?_eq_some_iff_getElem.mp L;obtain⟨n,hn,_,tn,M⟩:=p.mem (i7 hj);rw[M]at B;have z:(k:Int)=(n:Int):=(intKind P w).inj _ _ _ B (uC _ _ _ tn);have z':k=n:=by lia
   exact wC (z'▸hn) l
  | none=>
   obtain⟨pu,pf⟩:=Mw led ⟨m,d⟩ ⟨k,i⟩ v;have sa:=Jy ⟨m,d⟩ ⟨k,i⟩ v;have c:=EC ⟨m,d⟩ ⟨k,i⟩;dsimp only at pu pf sa c;have f:Ents (cO (m |||2 ^ k)) (b.take (kg (cO m) k)++((k:Int),Value.int (k:Int) t)::b.drop (kg (cO m) k)):=by
    rw[sa];exact(p.take _).app (.cons ⟨rfl,t,rfl⟩ (p.drop _))
   have mR:layNew (fP led (cO m)) b.toArray (k:Int) (.int (k:Int) t)=((b.take (kg (cO m) k)++((k:Int),Value.int (k:Int) t)::b.drop (kg (cO m) k)).toArray,jj led m k,false,false):=by
    unfold layNew;rw[J9 led ⟨m,d⟩ ⟨k,i⟩ v];dsimp only;rw[pu];dsimp only;rw[HP];have sz:(b.take (kg (cO m) k)++((k:Int),Value.int (k:Int) t)::b.drop (kg (cO m) k)).toArray.size=(cO m).length+1:=by
     rw[eM,dF,jz,fK,oB,H];lia
    rw[sz];unfold SetTable.orStandIn;rw[pf];rfl
   generalize b.take (kg (cO m) k)++((k:Int),Value.int (k:Int) t)::b.drop (kg (cO m) k)=fs at f mR;have lf:=f.len;have f5:fs.length<=5:=by rw[lf];exact u0 ⟨_,c⟩
   dsimp only;rw[mR];dsimp only;refine cy (show wpAny _ _ (pure ()) _ _ _ from cG ?_);refine cy (show wpAny _ _ (pure true) _ _ _ from cG ?_);refine cy (wpAny_storeSet_of e rfl ?_ (by rw[eM,dC];lia));have N:=Df (h:=s.heap) (fs:=fs) (u:=jj led m k) e;have g:Heap.SameBut a s.heap (s.heap.update a (Obj.putSet fs.toArray (jj led m k))):=Heap.SameBut.update ..;by_cases h4:(cO m).length=4
   .obtain⟨C,rl,O,ff⟩:=LJ led ⟨m,d⟩ ⟨k,i⟩ v h4;dsimp only at C rl O ff;have T:fs.length=5:=by rw[lf,O];rfl
    have ks:fs.toArray.map (·.1)= #[0,1,2,3,4]:=by
     rw[List.map_toArray,f.keys,O];rfl
    have pick:(#[0,1,2,3,4]:Array Nat).filterMap (fs.toArray[·]?)=fs.toArray:=uT T;have U:relayAll (jj led m k) fs.toArray (SetTable.grown fs.toArray.size)=(fs.toArray,fP led (cO (m |||2 ^ k)),false):=by
     unfold relayAll;rw[ks,eM,T,rl];dsimp only;rw[pick,eM,T,ff,Bool.and_true,wB (by decide+kernel)]
    show wpAny _ _ (if(!false&&(jj led m k).tooFull)=true then _ else _) _ _ _;rw[C,wB (by decide)];simp only[if_true];rw[U];dsimp only;refine cy (show wpAny _ _ (pure ()) _ _ _ from cG ?_);refine cy (wpAny_storeSet_of N rfl ?_ (by rw[eM,dC];lia));have M:=Df (fs:=fs) (u:=fP led (cO (m |||2 ^ k))) N;have r:=Heap.SameBut.trans g (Heap.SameBut.update (s.heap.update a (Obj.putSet fs.toArray (jj led m k))) a (Obj.putSet fs.toArray (fP led (cO (m |||2 ^ k)))));exact cG (cG (q _ ⟨c,fs,G+1+1,M,f⟩ r))
   .obtain⟨te,C⟩:=Lc led ⟨m,d⟩ ⟨k,i⟩ v h4;dsimp only at te C;show wpAny _ _ (if(!false&&(jj led m k).tooFull)=true then _ else _) _ _ _
    rw[C,wA (by decide)];refine cG (cG (q _ ⟨c,fs,G+1,?_,f⟩ g));rw[<-te];exact N
end
def ko(m:Nat)(a:cu):Nat:=a.foldl (λm n=>m |||2 ^ n) m
section
variable{P:Pg}{w:World}{A:Ar}{E:VP}{S it l:Ad}{led:Bool}{ns:cu}{vs:Vs}
theorem DI{R:Result->Sh->Prop}(L:A.handled=none)(g:S≠it)(M:S≠l)(N:it≠l)(p:Vals (ns.map nv) vs)(O: ∀n∈ns,n<5):
  ∀(rest:cu) (i m:Nat) (s:Sh),ns.drop i=rest->s.heap.IsListIter it l i->s.heap.IsList l vs.toArray->IsSet5 s.heap S led m->
   (∀a r,IsSet5 a S led (ko m rest)->(∀b o,b≠S->b≠it->s.heap.get? b=some o->a.get? b=some o)->R (.ok (.ret .none)) {s with heap:=a,toks:=r})->
   codeAny (model P w) A (.builtin "set.update.loop" ⟨[.ref S,.ref it],[]⟩) R s
 | [],i,m,s,h,v,j,y,q=>by
  have Q:vs.length<=i:=by
   have T:vs.length=ns.length:=by simpa using p.length.symm
   have z:=List.drop_eq_nil_iff.mp h;lia
  refine oz F.entry_set_update_loop ?_;rw[sk yX _];show wpAny _ A.in1 (pyNext (.ref it) >>= _) _ _ s;refine cy (zX (by simpa using L) v j (by simp;lia) λa keep=>?_);refine cG (q a s.toks ?_ λb o _ z e=>keep b o z e);obtain⟨B,C,D,e,G⟩:=y;exact⟨B,C,D,keep _ _ g e,G⟩
 | n::rest,i,m,s,h,v,j,y,q=>by
  have f:ns[i]? =some n:=by rw[<-List.head?_drop,h];rfl
  have next:ns.drop (i+1)=rest:=by rw[<-List.tail_drop,h];rfl
  have U:=O n (cW f);obtain⟨u,hu,t,rfl⟩:=p.get (i:=i) (x:=nv n) (by rw[cQ,f];rfl);refine oz F.entry_set_update_loop ?_;rw[sk yX _];show wpAny _ A.in1 (pyNext (.ref it) >>= _) _ _ s;refine cy (xh v j (x:= .int (n:Int) t) (by simpa using hu) λT n6 c=>?_);show wpAny _ A.in1 (holding [Value.int (n:Int) t] (setAdd S (.int (n:Int) t)) >>= _) _ _ _;refine cy (gw ?_);unfold setAdd;refine gw (cy ((intKind P w).pyHash (k:=(n:Int)) (uC _ _ _ _) ?_));rw[show(intKind P w).hash (n:Int)=(n:Int)from zz ⟨n,U⟩];have H:IsSet5 T S led m:=by
   obtain⟨B,C,D,e,G⟩:=y;exact⟨B,C,D,c.extBut _ _ g e,G⟩
  refine JA U H λz I d=>?_;refine cG ⟨qw yX _,DI L g M N p O rest (i+1) (m |||2 ^ n) _ next (n6.extBut d.extBut g.symm) ((j.extBut c.extBut N.symm).extBut d.extBut M.symm) I λa r J keep=>?_⟩;exact q a r J λb o Y b2 e=>keep b o Y b2 (d.extBut _ _ Y (c.extBut _ _ b2 e))
def KJ{s:Sh}{x:Vl}{Q:VP}(q:Q (.ref s.heap.objs.size) {s with heap:=s.heap.push (kq [] 0 (fP (!w.params.followText "set-order") []))}):
  codeAny (model P w) A (.call (.builtin "set.__new__") ⟨[.type "set",x],[]⟩) (wants Q E) s:=by
 refine codeAny_of_tree ?_;show wpAny _ A.in1 (checkBuiltinCall "set.__new__" ⟨[.type "set",x],[]⟩ >>= λ_=>again (.builtin "set.__new__" ⟨[.type "set",x],[]⟩)) _ _ s;refine cy (xJ (F.newCall_set_1 x) (cG ⟨qw F.plain_set_new _,oz F.entry_set_new ?_⟩));rw[sk F.plain_set_new _];have sub:=sub_set_self;unfold Builtin.«set.__new__» Builtin.Frozenset.newClass
 wp_walk
 refine uq (cG ?_);dsimp only;simp only[newObj];refine cy (wR (cG (cG ?_)));exact q
abbrev sC(led:Bool):Obj:={cls:= .type "set",dict:=none,data:= .set #[] 0 (.fresh 0 0 led)}
set_option maxHeartbeats 4000000 in
def IM{h:Heap}{f:Array GenState}{i:Drawn}{k:Nat}{os:OsState}{R:PySem.Fin->Sh->Prop}(u:A.handled=none)(j:h.IsList l vs.toArray)(v:Vals (ns.map nv) vs)(x: ∀n∈ns,n<5)
  (q: ∀a d,IsSet5 a h.objs.size led (ko 0 ns)->(∀b o,h.get? b=some o->a.get? b=some o)->R (.done (.ret .none)) ⟨a,f,i,d,os⟩):
  wpAny (model P w) A (Builtin.«set.__init__» ⟨[.ref h.objs.size,.ref l],[]⟩) R E ⟨h.push (sC led),f,i,k,os⟩:=by
 obtain⟨⟨G,dl,y,sl⟩,m,p,z,r⟩:=id j;simp only at p r;subst p r;have H:(h.push (sC led)).get? l=some ⟨.type "list",dl,.seq vs.toArray z,sl⟩:=dI _ m;have B:(h.push (sC led)).get? h.objs.size=some {cls:= .type "set",dict:=none,data:= .set #[] 0 (.fresh 0 0 led)}:=eO _ rfl;have I:=F.sub_list_set;have J:=F.sub_list_frozenset;have L:(Value.type "list"==Value.type "dict")=false:=by decide
 unfold Builtin.«set.__init__» noKeywords Builtin.Frozenset.updateFrom;generalize g:pyIter=s
 wp_walk
 subst g;have c:(h.push (sC led)).IsList l vs.toArray:=j.push _;refine sL c (cy (wpAny_runValue ?_));have lt:l<h.objs.size:=dh m;have sz:(h.push (sC led)).objs.size=h.objs.size+1:=n' ..;refine DI (vs:=vs) (led:=led) (by simpa using u) (by rw[sz];exact Nat.ne_of_lt (Nat.lt_succ_self _)) (Nat.ne_of_gt lt) (by rw[sz];exact Nat.ne_of_gt (Nat.lt_succ_of_lt lt)) v x ns 0 0 _ rfl ⟨_,Heap.get?_push_size _ rfl,rfl,rfl⟩ (c.push _) ⟨by decide,[],0,Heap.get?_push_of_some _ B,.nil⟩ λa d C D=>?_;refine cG (cG (q a d C λb o e=>?_));have t:=dh e;exact D b o (dS t) (by rw[sz];exact dS (tN t)) (dI _ (dI _ e))
def Kn{s:Sh}{Q:VP}(y:A.handled=none)(t:s.heap.IsList l vs.toArray)(B:Vals (ns.map nv) vs)(C: ∀n∈ns,n<5)
  (q: ∀a d,IsSet5 a s.heap.objs.size (!w.params.followText "set-order") (ko 0 ns)->(∀b o,s.heap.get? b=some o->a.get? b=some o)->Q (.ref s.heap.objs.size) {s with heap:=a,toks:=d}):
  wpAny (model P w) A (call (.type "set") [.ref l]) Q E s:=by
 have lt:l<s.heap.objs.size:=let⟨_,e,_⟩:=t;dh e
 obtain⟨c,tl,D⟩:=n0.mro;have made:=n0.made;have sub:=n0.sub;have g:=n0.notType;have G:=n0.canCreate;have args:=F.typeCall_set_1 (.ref l);have look:=n0.init.lookup;have H:=n0.init.bind (.ref s.heap.objs.size);generalize h:kq [] 0 (fP (!w.params.followText "set-order") [])=i;have I:(s.heap.push i).get? s.heap.objs.size=some i:=eO _ (by rw[<-h];rfl);have ty:Shared.TypeIs {s with heap:=s.heap.push i} (.ref s.heap.objs.size) "set":=⟨_,I,by rw[<-h];rfl⟩;refine uc (codeAny_of_tree (show wpAny _ _ (callAny (.type "set") _) _ _ _ from cG ⟨Code.quiet_builtin _ (by decide+kernel),oz F.entry_type_call ?_⟩));rw[Around.under_plain (weight_type_call_type "set" [.ref l] []) rfl]
 repeat (any_goals (first|assumption|wp_step))
 refine nI (KJ (w:=w) (E:=E) (Q:=λv u=>v= .ref s.heap.objs.size/\u={s with heap:=s.heap.push i}) (by rw[h];exact⟨rfl,rfl⟩)) λr u z=>?_;cases r with
 |error _=>exact z
 | ok f=>
  cases f<;>first|exact z.elim|skip
  obtain⟨j,k⟩:=z;subst j k
  repeat (any_goals (first|assumption|wp_step))
  refine nI (codeAny_call_builtin (R:=wants (λv x=>v= .none/\ ∃a d,x={s with heap:=a,toks:=d}/\IsSet5 a s.heap.objs.size (!w.params.followText "set-order") (ko 0 ns)/\ ∀b o,s.heap.get? b=some o->a.get? b=some o) E)
   n0.init.plain F.entry_set_init (check_set_init_1 ty ?_)) λr x z=>?_
  .subst h;exact IM (A:=A.in1.in1) (by simpa using y) t B C λa d m p=>⟨rfl,a,d,rfl,m,p⟩
  .cases r with
   |error _=>exact z
   |ok f=>
    cases f<;>first|exact z.elim|skip
    obtain⟨j,a,d,k,m,p⟩:=z;subst j k
    repeat (any_goals (first|assumption|wp_step))
    exact q a d m p
end
def eY:Slot "set_iterator" "__next__" "set_iterator.__next__":=Slot.of (owner:="set_iterator") (n:="__next__") (by rw[typeLookup_type,builtinLookup_eq_fast];kernel_rfl) (by decide+kernel) (by decide+kernel) (by decide+kernel) (by first|exact .inl (by decide+kernel)|exact .inr (by decide+kernel)) (by rw[isSubtype_type];kernel_rfl)
def C5:Slot "set_iterator" "__iter__" "set_iterator.__iter__":=Slot.of (owner:="set_iterator") (n:="__iter__") (by rw[typeLookup_type,builtinLookup_eq_fast];kernel_rfl) (by decide+kernel) (by decide+kernel) (by decide+kernel) (by first|exact .inl (by decide+kernel)|exact .inr (by decide+kernel)) (by rw[isSubtype_type];kernel_rfl)
def D0:entryFor table "set_iterator.__next__"=some Builtin.«set_iterator.__next__»:=entryFor_of_tree (by kernel_rfl)
def Jh:entryFor table "set_iterator.__iter__"=some Builtin.«dict_keyiterator.__iter__»:=entryFor_alias (id':="dict_keyiterator.__iter__") (by kernel_rfl) (by first|rfl|decide+kernel|(unfold String.splitOn;simp+decide [String.splitOnAux])) (by decide+kernel) (by kernel_rfl)
def HX:entryFor table "set.__iter__"=some Builtin.«frozenset.__iter__»:=entryFor_alias (id':="frozenset.__iter__") (by kernel_rfl) (by first|rfl|decide+kernel|(unfold String.splitOn;simp+decide [String.splitOnAux])) (by decide+kernel) (by kernel_rfl)
def FR(a:Vl):argsOk "set_iterator.__next__" ⟨[a],[]⟩:=by unfold argsOk;kernel_rfl
def Mx(a:Vl):argsOk "set_iterator.__iter__" ⟨[a],[]⟩:=by unfold argsOk;kernel_rfl
theorem FN{c:Type}(f:Nat->Nat): ∀(fuel k:Nat) (left:List c) (b:Array c),left.length=fuel->(pickOrder.go f fuel k left b).toList.Perm (b.toList++left)
 |0,k,left,b,h=>by
  rw[List.eq_nil_of_length_eq_zero h];simp[pickOrder.go]
 | fuel+1,k,left,b,h=>by
  have lt:f k%left.length<left.length:=Nat.mod_lt _ (by lia);unfold pickOrder.go;rw[cA lt];dsimp only;refine(FN f fuel (k+1) (left.eraseIdx (f k%left.length)) (b.push left[f k%left.length]) (by rw[List.length_eraseIdx_of_lt lt];lia)).trans ?_;rw[sA,fh];refine tm _ ?_;rw[List.eraseIdx_eq_take_drop_succ];have e:left=left.take (f k%left.length)++left[f k%left.length]::left.drop (f k%left.length+1):=by
   rw[<-ve lt,lT]
  have z:=(List.perm_middle (a:=left[f k%left.length]) (l₁:=left.take (f k%left.length)) (l₂:=left.drop (f k%left.length+1))).symm;rw[<-e]at z;exact z
def j4(w:World)(a:Ad)(c:Nat)(b:List (Int×Vl)):List (Int×Vl):=if w.params.followText "set-order" then(pickOrder (w.params.setOrder a c) b.toArray).toList else b
def zS(w:World)(a:Ad)(c:Nat)(b:List (Int×Vl)):(j4 w a c b).Perm b:=by
 unfold j4;cases w.params.followText "set-order" with
 |true=>
  have z:=FN (w.params.setOrder a c) b.toArray.size 0 b.toArray.toList #[] (by simp);simpa[pickOrder]using z
 |false=>exact List.Perm.refl _
def j3(a:Bool)(b:cu):Nat->Nat
 |0=>0
 |i+1=>if a then 0 else b.getD i 0+1
def Jj: ∀(m:Fin 32) (i:Fin 6),(i:Nat)<=(cO m).length->SetTable.below (cO m).toArray (j3 false (cO m) i)=i:=by decide+kernel
def oG(b i n c:Nat)(a:Ad):Obj:={cls:= .type "set_iterator",data:= .fields #[rawInt b,rawInt i,.ref a,rawInt n,rawInt c]}
section
variable{P:Pg}{w:World}{A:Ar}{E:VP}{s:Sh}{a it:Ad}{m ep i:Nat}{es:List (Int×Vl)}
def CY{Q:Option (Vl×Nat)->Sh->Prop}(d:m<32)(f:s.heap.get? a=some (kq es ep (fP (!w.params.followText "set-order") (cO m))))(g:Ents (cO m) es)(h:i<=(cO m).length)
  (q:Q (((j4 w a ep es)[i]?).map λe=>(e.2,j3 (w.params.followText "set-order") (cO m) (i+1))) s):wpAny (model P w) A (setNext a (j3 (w.params.followText "set-order") (cO m) i) i ep) Q E s:=by
 have k:=g.len;have b:(fP (!w.params.followText "set-order") (cO m)).fits es.toArray.size=true:=by rw[eM,k];exact sU _ ⟨m,d⟩
 have o:(cO m).length<=5:=u0 ⟨m,d⟩;unfold setNext setsByText;refine cy (oJ f rfl b ?_);refine cy (cy (uq (cG ?_)));show wpAny _ _ (if w.params.followText "set-order"=true then _ else _) _ _ _;unfold j4 at q;generalize l:w.params.followText "set-order"=n at q f b⊢;cases n with
 |true=>
  rw[wB rfl];rw[wB rfl]at q;rw[wA (by simp)];unfold setWalk setsByText;refine cy (cy (oJ f rfl b (cy (cy (uq (cG ?_))))));show wpAny _ _ (if w.params.followText "set-order"=true then _ else _) _ _ _;rw[l,wB rfl];refine cy (uq (cG (cG ?_)));rw[iU]at q;cases i<;>exact q
 | false=>
  rw[wA (by decide)];rw[wA (by decide)]at q;rw[wA (by show ¬((!true&&_)=true);simp)];refine cy ?_;show wpAny _ _ (if(!true&& !es.toArray.isEmpty)=true then _ else _) _ _ _;rw[wA (by simp)];refine cG (cG ?_);show Q (match es.toArray[SetTable.below (cO m).toArray (j3 false (cO m) i)]?,(cO m).toArray[SetTable.below (cO m).toArray (j3 false (cO m) i)]? with|some (_,x),some j=>some (x,j+1)|_,_=>none) s;rw[Jj ⟨m,d⟩ ⟨i,by lia⟩ h]
  rcases Nat.lt_or_ge i (cO m).length with z|z
  .have c:i<es.length:=by lia
   rw[cA c]at q;simp only[List.getElem?_toArray,List.getElem?_eq_getElem c,List.getElem?_eq_getElem z];have e:j3 false (cO m) (i+1)=(cO m)[i]+1:=by
    show(if false=true then 0 else(cO m).getD i 0+1)=_;rw[wA (by decide),dY,cA z];rfl
   rw[e]at q;exact q
  .have c:es.length<=i:=by lia
   rw[ie c]at q;simp only[List.getElem?_toArray,List.getElem?_eq_none c];exact q
end
section
variable{P:Pg}{w:World}{A:Ar}{E:VP}{a it:Ad}{m ep:Nat}{es:List (Int×Vl)}
def Lj{s:Sh}{i:Nat}{e:Int×Vl}{Q:Option Vl->Sh->Prop}(n:a≠it)(h:m<32)(j:Ents (cO m) es)(b:s.heap.get? it=some (oG (j3 (w.params.followText "set-order") (cO m) i) i (cO m).length ep a))(k:s.heap.get? a=some (kq es ep (fP (!w.params.followText "set-order") (cO m))))
  (o:i<(cO m).length) (p:(j4 w a ep es)[i]? =some e)
  (q: ∀c,c.get? it=some (oG (j3 (w.params.followText "set-order") (cO m) (i+1)) (i+1) (cO m).length ep a)->Heap.SameBut it s.heap c->Q (some e.2) {s with heap:=c}):wpAny (model P w) A (pyNext (.ref it)) Q E s:=by
 have ty:s.TypeIs (.ref it) "set_iterator":=⟨_,b,rfl⟩;have l:=j.len;have d:(fP (!w.params.followText "set-order") (cO m)).fits es.toArray.size=true:=by rw[eM,l];exact sU _ ⟨m,h⟩
 unfold pyNext;refine cy (nS (pE (name:=Str.ofString "__next__") ty eY (i6 eY ty D0 ?_ (FR _))));unfold oG at b;unfold Builtin.«set_iterator.__next__»;refine cy (m:=slotArgs _ _ _) (cG ?_);refine cy (qm b rfl ?_);show wpAny _ _ (setEntries a >>= _) _ _ _;unfold setEntries;refine cy (cy (oJ k rfl d (cG ?_)));have r:((((es.toArray.size:Nat):Int) != (((cO m).length:Nat):Int)))=false:=by rw[eM,l];simp
 show wpAny _ _ (if((((es.toArray.size:Nat):Int) != (((cO m).length:Nat):Int)))=true then _ else _) _ _ _;rw[r,wA (by decide)];show wpAny _ _ (setNext a ((j3 (w.params.followText "set-order") (cO m) i:Nat):Int).toNat ((i:Nat):Int).toNat ((ep:Nat):Int).toNat >>= _) _ _ _;simp only[Int.toNat_natCast];refine cy (CY h k j (fR o) ?_);rw[p];show wpAny _ _ (setField (.ref it) 0 (rawInt _) >>= _) _ _ _;refine cy (mh b (by simp) λx t f=>?_);refine cy (mh t (by simp) λu v g=>?_);exact cG ⟨_,rfl,cG (q u v (f.trans g))⟩
def Lk{s:Sh}{Q:Option Vl->Sh->Prop}(l:A.handled=none)(n:a≠it)(g:m<32)(h:Ents (cO m) es)(c:s.heap.get? it=some (oG (j3 (w.params.followText "set-order") (cO m) (cO m).length) (cO m).length (cO m).length ep a))(i:s.heap.get? a=some (kq es ep (fP (!w.params.followText "set-order") (cO m))))
  (q: ∀j,Heap.ExtBut it s.heap j->Q none {s with heap:=j}):wpAny (model P w) A (pyNext (.ref it)) Q E s:=by
 have ty:s.TypeIs (.ref it) "set_iterator":=⟨_,c,rfl⟩;have k:=h.len;have d:(fP (!w.params.followText "set-order") (cO m)).fits es.toArray.size=true:=by rw[eM,k];exact sU _ ⟨m,g⟩
 have p:(j4 w a ep es)[(cO m).length]? =none:=ie (by rw[(zS w a ep es).length_eq];lia);unfold pyNext;refine cy (nS (pE (name:=Str.ofString "__next__") ty eY (i6 eY ty D0 ?_ (FR _))));unfold oG at c;unfold Builtin.«set_iterator.__next__»;refine cy (m:=slotArgs _ _ _) (cG ?_);refine cy (qm c rfl ?_);show wpAny _ _ (setEntries a >>= _) _ _ _;unfold setEntries;refine cy (cy (oJ i rfl d (cG ?_)));have r:((((es.toArray.size:Nat):Int) != (((cO m).length:Nat):Int)))=false:=by rw[eM,k];simp
 show wpAny _ _ (if((((es.toArray.size:Nat):Int) != (((cO m).length:Nat):Int)))=true then _ else _) _ _ _;rw[r,wA (by decide)];show wpAny _ _ (setNext a ((j3 (w.params.followText "set-order") (cO m) (cO m).length:Nat):Int).toNat (((cO m).length:Nat):Int).toNat ((ep:Nat):Int).toNat >>= _) _ _ _;simp only[Int.toNat_natCast];refine cy (CY g i h (cM _) ?_);rw[p];show wpAny _ _ (setField (.ref it) 2 .none >>= _) _ _ _;refine cy (mh c (by simp) λu v f=>?_);refine cy (m:=newExc _ _) ?_;simp only[newExc,newTuple];refine cy (lO ?_ (by size_fits));refine cy (m:=firstArgMember _ _) (xJ (a:=Value.none) (by first|rfl|(unfold firstArgMember;rfl)) (wpAny_newObj_type ?_ (by size_fits)));refine zK (by simpa using l) (wpAny_bind (wpAny_isInstance (T:="StopIteration") (b:=true) ⟨_,Heap.get?_push_size _ rfl,rfl⟩ isSubtype_stop (wpAny_pure ?_)));exact q _ λb o t e=>dI _ (dI _ (f.extBut b o t e))
def Mc(p:A.handled=none)(c:a≠it)(j:m<32)(f:Ents (cO m) es):Walks P w A it [it,a] [it] (cO m).length (λi v=> ∃e,(j4 w a ep es)[i]? =some e/\v=e.2)
  (λi h=>h.get? it=some (oG (j3 (w.params.followText "set-order") (cO m) i) i (cO m).length ep a)/\h.get? a=some (kq es ep (fP (!w.params.followText "set-order") (cO m)))) where
 sub:=λb r=>dQ.mpr (.inl (dj.mp r))
 frame:=λi h d st k=>⟨k it (dP ..) _ st.1,k a (fc _ (dj.mpr rfl)) _ st.2⟩
 item:=λi s Q E t st q=>by
  have y:(j4 w a ep es).length=(cO m).length:=by rw[(zS w a ep es).length_eq,f.len]
  obtain⟨e,l⟩: ∃e,(j4 w a ep es)[i]? =some e:=⟨_,cA (by lia)⟩;refine Lj c j f st.1 st.2 t l λd u n=>q e.2 d s.toks ⟨e,l,rfl⟩ ⟨u,n.extBut _ _ c st.2⟩ λb o g e=>n.extBut _ _ (λz=>g (dj.mpr z)) e
 done:=λs Q E st q=>Lk p c j f st.1 st.2 λd x=>q d s.toks λb o g e=>x b o (λz=>g (dj.mpr z)) e
 self:=λi s Q E st q=>by
  have ty:s.TypeIs (.ref it) "set_iterator":=⟨_,st.1,rfl⟩;refine qb ty C5 (i6 C5 ty Jh ?_ (Mx _));exact show wpAny _ _ (ret (.ref it)) _ _ s from cG ⟨_,rfl,"set_iterator",_,ty,eY.lookup,q⟩
def tD{s:Sh}{Q:VP}(e:m<32)(f:Ents (cO m) es)(c:s.heap.get? a=some (kq es ep (fP (!w.params.followText "set-order") (cO m))))
  (q:Q (.ref s.heap.objs.size) {s with heap:=s.heap.push (oG 0 0 (cO m).length ep a)}):wpAny (model P w) A (pyIter (.ref a)) Q E s:=by
 have ty:s.TypeIs (.ref a) "set":=⟨_,c,rfl⟩;have d:=f.len;have b:(fP (!w.params.followText "set-order") (cO m)).fits es.toArray.size=true:=by rw[eM,d];exact sU _ ⟨m,e⟩
 refine qb ty F.slot_set_iter (i6 F.slot_set_iter ty HX ?_ (F.args_set_iter_1 _));unfold Builtin.«frozenset.__iter__»;refine cy (m:=Builtin.Frozenset.slot0 _ _) (cG ?_);unfold Builtin.Frozenset.sizeOf setEntries;refine cy (cy (cy (oJ c rfl b (cG (cG ?_)))));unfold setDrawn setsByText;refine cy (cy (oJ c rfl b (cy (cy (uq (cG (cG ?_)))))));have nd:(!w.params.followText "set-order"&&(!true&&decide (es.toArray.size>1)))=false:=by simp
 show wpAny _ _ (if(!w.params.followText "set-order"&&(!true&&decide (es.toArray.size>1)))=true then _ else _) _ _ _;rw[nd,wA (by decide)];refine cy (cG (cy (wpAny_setEpoch_of c rfl b ?_)));refine cy (m:=newFields _ _) ?_;unfold newFields;refine lO ?_ (by size_fits);rw[<-d]at q;exact cG ⟨_,rfl,"set_iterator",_,⟨_,eO _ rfl,rfl⟩,eY.lookup,q⟩
def uk{s:Sh}{Q:Bool->Sh->Prop}(ty:s.TypeIs (.ref a) "set")(q:Q false s):wpAny (model P w) A (Builtin.List.listLengthHint (.ref a)) Q E s:=by
 unfold Builtin.List.listLengthHint;refine cy (BI ty F.slot_set_len.lookup ?_);generalize g:("set.__len__":String)=name
 wp_delta
 rw[show splitId name=some ("set","__len__") by subst g;decide+kernel];subst g;refine cy (wpAny_isInstance (T:="set") (b:=true) ty (by rw[isSubtype_type];kernel_rfl) (zm (λz=>wC z (by decide)) λ_=>?_));exact zm (λ_=>cy (wpAny_typeOf ty (cG q))) λz=>wC (by decide+kernel) z
def z5(b:m<32)(c:Ents (cO m) es):PySem.W.KdlSrc P w "set" a a (cO m).length (λi v=> ∃e,(j4 w a ep es)[i]? =some e/\v=e.2) (λh=>h.get? a=some (kq es ep (fP (!w.params.followText "set-order") (cO m)))) where
 type:=λ_ e=>⟨_,e,rfl⟩
 there:=λ_ e=>⟨dh e,dh e⟩
 keep:=λ_ _ e k=>k a (.inl rfl) _ e
 notList:=by decide
 notTuple:=by decide
 hint:=λ_ _ _ _ e q=>uk ⟨_,e,rfl⟩ q
 iter:=λ_ _ d e=>⟨_,_,λ_ _ q=>tD b c e q,Mc d (dS (dh e)) b c,eO _ rfl,dI _ e⟩
end
def fb(a:cu):cu:=(List.range 5).filter λi=>a.contains i
theorem CI(i:Nat): ∀(ns:cu) (m:Nat),(ko m ns).testBit i=(m.testBit i || ns.contains i)
 | [],m=>by simp[ko]
 |n::ns,m=>by
  show(ko (m |||2 ^ n) ns).testBit i=_;rw[CI i ns,Nat.testBit_or,Nat.testBit_two_pow,List.contains_cons,Bool.or_assoc]
  congr 2
  by_cases h:n=i
  .simp[h]
  .simp[h,Ne.symm h]
def yR(a:cu):cO (ko 0 a)=fb a:=by
 unfold cO fb
 congr 1
 funext i
 rw[CI];simp
def K7(m:Nat):(cO m).Pairwise (· <= ·):=by
 unfold cO;exact List.Pairwise.filter _ (by decide)
theorem DE: ∀{a:Vs} {is:Zs},IntsAre a is->Vals (is.map V.int) a
 |_,_,.nil=> .nil
 |_,_,.cons n t h=> .cons ⟨t,rfl⟩ (DE h)
theorem CK: ∀{a:List (Int×Vl)},(∀e∈a,∃t,e.2= .int e.1 t)->IntsAre (a.map (·.2)) (a.map (·.1))
 | [],_=> .nil
 |e::a,h=>by
  obtain⟨t,b⟩:=h e (dP ..);rw[gv,gv,b];exact .cons _ _ (CK λx c=>h x (fc _ c))
section
variable{P:Pg}{w:World}{A:Ar}{E:VP}{a:Ad}{m:Nat}
def HL{s:Sh}{Q:VP}(M:A.handled=none)(N:IsSet5 s.heap a (!w.params.followText "set-order") m)
  (q: ∀(j r:Heap) u d n,Vals ((cO m).map nv) d->(∀b o,s.heap.get? b=some o->j.get? b=some o)->(∀b o,j.get? b=some o->r.get? b=some o)->r.get? j.objs.size=some {cls:= .type "list",data:= .seq d.toArray n}->Q (.ref j.objs.size) {s with heap:=r,toks:=u}):
  wpAny (model P w) A (call (.builtin "sorted") [.ref a]) Q E s:=by
 obtain⟨I,v,B,O,p⟩:=N;have m5:(cO m).length<=5:=u0 ⟨m,I⟩;have J:=p.len;have c:=zS w a B v;refine AB kind_sorted plain_sorted entry_sorted (args_sorted1 _) ?_;unfold Builtin.«sorted»;refine cy (m:=checkCount "sorted" 1 1 _) (cG ?_);refine cy (PySem.W.kdu_collect (A:=A.in1) (z5 I p) (by simpa using M) O (by rw[sizeLine_eq];lia) λj u f keep l=>?_);have g:f.toList=(j4 w a B v).map (·.2):=by
  refine vc (by rw[d9,l.1,cz,c.length_eq];exact J.symm) λi x y T L=>?_;obtain⟨e,C,D⟩:=l.2 i x (by rw[<-iU];exact T);rw[cQ,C]at L;cases L;exact D
 have G:IntsAre f.toList ((j4 w a B v).map (·.1)):=by
  rw[g];refine CK λe U=>?_;obtain⟨n,_,C,t,D⟩:=p.mem (c.mem_iff.mp U);exact⟨t,by rw[C,D]⟩
 have Y:f.toList.length=(cO m).length:=by rw[g,cz,c.length_eq,J]
 refine cy (tj ?_ (by rw[Y,dC];lia));have H:(j.push (seqObj "list" f.toList.toArray 0)).get? j.objs.size=some (seqObj "list" f.toList.toArray 0):=eO _ rfl;refine cy (gw (i6 slot_list_sort ⟨_,H,rfl⟩ yY (list_sort_tree H G (by lia) λd js o1 o2 o3=>⟨_,rfl,?_⟩) (args_list_sort _)));have k:js=(cO m).map λ(n:Nat)=>(n:Int):=by
  refine List.Perm.eq_of_pairwise (le:=(· <= ·)) (λx y _ _=>Int.le_antisymm) o3 ?_ (o2.trans ?_)
  .exact si.mpr ((K7 m).imp λh=>by lia)
  .rw[<-p.keys];exact c.map _
 obtain⟨n,eN⟩:=sortedHeap_at (out:=d) H;refine cG ⟨_,rfl,q j _ u d.toList n ?_ keep (λb o e=>?_) (by simpa using eN)⟩
 .have z:=DE o1;rw[k,hZ]at z;exact z
 .have lt:=dh e;rw[sortedHeap_old (dS lt) (ft lt (by rw[n'];exact l6 _))];exact dI _ e
end
section
variable{X:Cx}
def oM(w:World)(a:Ad)(m:Nat):HO:= .ext λh=>IsSet5 h a (!w.params.followText "set-order") m
def IsSet5.ok{w:World}{h:Heap}{a:Ad}{m:Nat}{P:Pg}{d:World}{H:Hp}(x:IsSet5 h a (!w.params.followText "set-order") m):ObjOk P d H h a (oM w a m):=by
 obtain⟨j,l,n,e,o⟩:=id x;exact⟨x,⟨_,e⟩,λp q ⟨f,b,c,g,i⟩ k=>⟨f,b,c,k _ g,i⟩⟩
def Inv.track{d:AO}{f:St}{H:Hp}{s:Sh}{D:Ad}{o:HO}(I:Inv X d f H s)(g:H D=none)(ok:ObjOk X.prog X.w (cw H D o) s.heap D o)
  (h:X.s₀.heap.objs.size<=D) (i:D≠X.env.locals) (j: ∀x c,X.env.cells.lookup x=some c->c≠D) (k: ∀p∈X.pn++d,p.1≠D):Inv X d f (cw H D o) s:=by
 have nd: ∀b u,H b=some u->b≠D:=λb u q z=>by rw[z,g]at q;cases q
 have q:=I.step (h':=s.heap) (H':=cw H D o) (g':=s.gens) (t':=s.toks) (d':=s.drawn) (ch:=[D]) (λb a=>by
   have z:b=D:=by simpa using a
   subst z;exact⟨.inr h,i,j,k⟩)
  (λb o _ _ _ e _=>e) (λb o _ _ _ e _=>⟨o.slots,e⟩) (λb o a _ n=>by rw[cF (λz=>a (by simp[z]))];exact n) (λb o _ e=>⟨o,e⟩)
  (λb l q=>by rw[cF (nd b _ q)];exact q) (λb o u q=>by rw[cF (nd b _ q)];exact q) (λb t q=>⟨#[],by rw[cF (nd b _ q),q];simp⟩) (λm r=>r) (λb u q=>?_) I.bare
 .exact q
 .by_cases a:b=D
  .subst a;rw[cC]at q;cases q;exact ok
  .rw[cF a]at q;exact(I.hok b u q).stay (λ_ _ _ z=>z) (λc z=>by rw[cF (nd c _ z)];exact z) λc l z=>by rw[cF (nd c _ z)];exact z
def Inv.trackNew{a:AO}{c:St}{H:Hp}{s s1:Sh}{o:HO}(I:Inv X a c H s)(d:Inv X a c H s1)(ok:ObjOk X.prog X.w (cw H s.heap.objs.size o) s1.heap s.heap.objs.size o):Inv X a c (cw H s.heap.objs.size o) s1:=by
 obtain⟨e,f,i,j,g,h⟩:=I.fpOk (b:=s.heap.objs.size) (H':=H) (cM _) (I.hok.fresh (cM _));exact d.track e ok I.sz f g h
def uX(K:W.Frag)(w:World):List V->Hp->VK->Prop:=λc H Q=> ∃p b,c=[.ref p]/\SqL K H p (b.map nv)/\(∀n∈b,n<5)/\ ∀a,H a=none->Q (.ref a) (cw H a (oM w a (ko 0 b)))
def Cj(a:X.calm=true):iC X (.type "set") (uX X.K X.w):=by
 intro b s c H n o Q I r h;obtain⟨p,t,rfl,d,e,q⟩:=h;obtain⟨u,rfl,f⟩:=ig r;cases f;obtain⟨g,i,j,_⟩:=I.list d;refine Kn (I.ok.hd a) j.isList i e λk l z keep=>?_;have m:Inv X b c H {s with heap:=k,toks:=l}:=I.kept keep;exact⟨.ref s.heap.objs.size,_,Inv.trackNew I m z.ok,rfl,q _ I.fresh⟩
def Ki(w:World):List V->Hp->VK->Prop:=λb H Q=> ∃a m,b=[.ref a]/\H a=some (oM w a m)/\ ∀l,H l=none->Q (.ref l) (cw H l (.lst ((cO m).map nv)))
def DL(k:X.calm=true):iC X (.builtin "sorted") (Ki X.w):=by
 intro f s g H x y Q I r h;obtain⟨a,m,rfl,l,q⟩:=h;obtain⟨u,rfl,o⟩:=ig r;cases o;obtain⟨z,_,_⟩:=I.hok a _ l;refine HL (I.ok.hd k) z λb i j c n p t v e=>?_;have d:Inv X f g H {s with heap:=b,toks:=j}:=I.kept t;have w:Inv X f g H {s with heap:=i,toks:=j}:=d.kept v;have A:(cO m).length<=5:=u0 ⟨m,z.1⟩;have ok:ObjOk X.prog X.w (cw H b.objs.size (.lst ((cO m).map nv))) i b.objs.size (.lst ((cO m).map nv)):=⟨by rw[cz,dC];lia,c,n,p,e⟩;exact⟨.ref b.objs.size,_,Inv.trackNew d w ok,rfl,q _ d.fresh⟩
end
section
variable{X:Cx}
def AZ(K:W.Frag):List V->Hp->VK->Prop:=λa H Q=> ∃(p:Ad) (bs:List Bool),a=[.ref p]/\SqL K H p (bs.map V.bl)/\Q (.bl (bs.any id)) H
def E8(n:X.calm=true):iC X (.builtin "any") (AZ X.K):=by
 intro G s J H L M Q I r h;obtain⟨p,bs,rfl,t,q⟩:=h;obtain⟨u,rfl,w⟩:=ig r;cases w;obtain⟨a,g,j,_⟩:=I.list t;have k:=j.isList;have f:p<s.heap.objs.size:=j.lt;have c:a.length=bs.length:=by rw[<-g.length,cz]
 refine call_any_walk (sL k ⟨_,_,_,_,_,_,λi=>bs.getD i false,rfl,Walks.list (A:=X.A.in1) (I.ok.hd n) _ p (dS f) a.toArray,⟨⟨_,eO _ rfl,rfl,rfl⟩,k.push _⟩,?_,λN O y=>?_⟩)
 .intro i v T U Y B C;have d:a[i]? =some v:=by simpa using B
  have l:i<bs.length:=by rw[<-c];exact(cK.mp d).1
  obtain⟨u2,m,D⟩:=g.get (i:=i) (x:= .bl (bs.getD i false)) (by rw[cQ,cA l,dY,cA l];rfl);rw[d]at m;cases m;cases(show v=Value.bool _ from D);exact n7 C
 .have e:(List.range a.toArray.size).any (λi=>bs.getD i false)=bs.any id:=by
   rw[eM,c];have:bs=(List.range bs.length).map λi=>bs.getD i false:=by
    refine vB (by simp) λi E h2=>?_;simp[List.getD_eq_getElem?_getD,E]
   conv=>rhs;rw[this,wK]
   rfl
  rw[e];exact⟨.bl (bs.any id),H,I.kept λb o z=>y b o (by simp only[List.mem_singleton];exact Nat.ne_of_lt (Heap.lt_size z)) (Heap.get?_push_of_some _ z),rfl,q⟩
end
def drop(H:Hp)(c:Ad):Hp:=λb=>if b=c then none else H b
def lJ{H:Hp}{c:Ad}:drop H c c=none:=by unfold drop;rw[wB rfl]
def dZ{H:Hp}{b c:Ad}(h:b≠c):drop H c b=H b:=by unfold drop;rw[wA h]
def pW{H:Hp}{b c:Ad}(h:H b=none):drop H c b=none:=by
 by_cases e:b=c
 .rw[e];exact lJ
 .rw[dZ e];exact h
def gf(c m:Ad)(o:Obj):HO:= .ext λh=>h.get? c=some o/\o.data= .cell (some (.ref m))
def i0(c:Ad)(q:Str):HO:= .ext λh=>h.CodeRec (.ref c) q
def hE(f:Ad)(a:Fd):HO:= .ext λh=>h.get? f=some {cls:= .type "function",data:= .func a}
def HOk.drop{P:Pg}{w:World}{H:Hp}{h:Heap}{c:Ad}{g:Heap->Prop}(x:HOk P w H h)(a:H c=some (.ext g)):HOk P w (drop H c) h:=λb o e=>by
 by_cases f:b=c
 .rw[f,lJ]at e;cases e
 .rw[dZ f]at e;refine(x b o e).stay (λ_ _ _ z=>z) (λd z=>?_) λd i z=>?_
  .rw[dZ (λq=>by rw[q,a]at z;cases z)];exact z
  .rw[dZ (λq=>by rw[q,a]at z;cases z)];exact z
def HOk.back{P:Pg}{w:World}{H:Hp}{h:Heap}{c:Ad}{o:HO}(x:HOk P w H h)(a:H c=none)(ok:ObjOk P w (cw H c o) h c o):HOk P w (cw H c o) h:=λb u e=>by
 by_cases f:b=c
 .subst f;rw[cC]at e;cases e;exact ok
 .rw[cF f]at e;exact(x b u e).stay (λ_ _ _ z=>z) (λd z=>by rw[cF (dO z a)];exact z) λd g z=>by rw[cF (dO z a)];exact z
def FV{P:Pg}{w:World}{H:Hp}{h:Heap}{c m:Ad}{o:Obj}(x:h.get? c=some o)(d:o.data= .cell (some (.ref m))):ObjOk P w H h c (gf c m o):=⟨⟨x,d⟩,⟨o,x⟩,λa b e k=>⟨k _ e.1,e.2⟩⟩
def EG{P:Pg}{w:World}{H:Hp}{h:Heap}{f:Ad}{a:Fd}(x:h.get? f=some {cls:= .type "function",data:= .func a}):ObjOk P w H h f (hE f a):=⟨x,⟨_,x⟩,λb c e k=>k _ e⟩
def Ir{P:Pg}{w:World}{H:Hp}{h:Heap}{c:Ad}{q:Str}(x:h.CodeRec (.ref c) q):ObjOk P w H h c (i0 c q):=by
 obtain⟨b,o,m,t,d,e,n⟩:=id x;cases d;refine⟨x,⟨o,e⟩,λp r ⟨b,f,a,g,i,j,l⟩ k=>?_⟩;cases i;exact⟨c,f,a,g,rfl,k _ j,l⟩
structure LamScope(ps:Ss)(y:Str)(sc:Scope):Prop where
 kind:sc.kind= .function
 co:sc.isCoroutine=false
 gen:sc.isGenerator=false
 nd:(ps++[y]).Nodup
 par: ∀x∈ps,sc.names.lookup x=some .local
 fre:sc.names.lookup y=some .free
 only: ∀z∈sc.names,z.2≠ .cell/\(z.2= .free->z.1=y)
abbrev gD(d:Str)(a:Arguments)(e:Expr)(b:Scope)(y:Str)(c:Ad)(pm f g:Vl):Fd:=PySem.W.kla_fn "<lambda>" d a e b [(y,c)] pm f g
def mV(P:Pg)(w:World)(K:W.Frag)(mg:SV)(base:Heap)(N:Ss)(b:Str)(a:Scope)(f:Ad)(c:Vl)(d:List (Str×Ad))(A:Ar)(outer:List Env)(s:Sh)(H:Hp):Cx where
 prog:=P
 w:=w
 K:=K
 mg:=mg
 base:=base
 A:=A.deeper (PySem.W.envX b a s.heap.objs.size f c d)
 N:=N
 s₀:=s
 H₀:=H
 env:=PySem.W.envX b a s.heap.objs.size f c d
 outer:=outer
 stack:=PySem.W.envX b a s.heap.objs.size f c d::outer
 ex:=[]
 calm:=true
 fn:=λ_=>false
 pn:=[]
 xe:=λ_ _=>False
theorem Ft{x:Str}{u:Vl}: ∀{l:List (Str×Vl)},(l.map (·.1)).Nodup->(x,u)∈l->l.lookup x=some u
 | (a,b)::l,nd,h=>by
  rw[gv,jc]at nd;rw[iB]
  rcases dQ.mp h with e|e
  .cases e;rw[sE]
  .have c:(x==a)=false:=mO.mpr λq=>nd.1 (c7.mpr ⟨(x,u),e,q⟩);rw[c];exact Ft nd.2 e
def Hh{c:Ss}{d:Vs}{i:Nat}{x:Str}{u:Vl}(nd:c.Nodup)(e:c[i]? =some x)(f:d[i]? =some u):(c.zip d).reverse.lookup x=some u:=by
 refine Ft ?_ (lA.mpr (fy.mpr ⟨i,List.getElem?_zip_eq_some.mpr ⟨e,f⟩⟩));have sub: ∀(c:Ss) (d:Vs),((c.zip d).map (·.1)).Sublist c:=λc=>by
  induction c with
  |nil=>intro d;simp
  |cons a c g=>
   intro d;cases d with
   |nil=>simp
   |cons b d=>rw[List.zip_cons_cons,gv];exact(g d).cons₂ a
 rw[List.map_reverse];show List.Pairwise (· ≠ ·) _;rw[List.pairwise_reverse];exact(nd.sublist (sub c d)).imp eJ
def HI{P:Pg}{w:World}{K:W.Frag}{mg:SV}{l:Heap}{n:Ss}{y B:Str}{g:Scope}{f c m:Ad}{O:Vl}{A:Ar}{k:List Env}{s:Sh}{H:Hp}{Q:Vs}{I:List V}{E:Heap}{U:Nat}
  (S:LamScope n y g) (Y:A.handled=none) (t:Env0 P w K mg l A k s H) (T:I.length=n.length) (r:Vals I Q) (hc:H c=none) (ic:s.heap.IsCell c (some (.ref m)))
  (L:E.Ns s.heap.objs.size (λx=>(n.zip Q).reverse.lookup x)) (sb:Heap.SameBut s.heap.objs.size (s.heap.push {cls:= .type "frame",data:= .dict #[]}) E):
  Inv (mV P w K mg l (n++[y]) B g f O [(y,c)] A k s H) [] (I.map some++[some (.ref m)]) H {s with heap:=E,toks:=U}:=by
 have M: ∀b o,s.heap.get? b=some o->E.get? b=some o:=λb o e=>sb.extBut _ _ (dS (dh e)) (dI _ e);have J:E.IsCell c (some (.ref m)):=let⟨o,e,d⟩:=ic;⟨o,M _ _ e,d⟩
 have one: ∀{x:Str} {d:Ad},([(y,c)]:List (Str×Ad)).lookup x=some d->x=y/\d=c:=λ{x d} h=>by
  rw[iB]at h;cases q:x==y with
  |true=>rw[q]at h;cases h;exact⟨eq_of_beq q,rfl⟩
  |false=>rw[q]at h;cases h
 have C:([(y,c)]:List (Str×Ad)).lookup y=some c:=by rw[iB,sE]
 have G: ∀b:Ad,b∉(mV P w K mg l (n++[y]) B g f O [(y,c)] A k s H).ex:=λb z=>wC (show b∈([]:As)from z) (by simp);refine⟨⟨t.mod,S.kind,rfl,rfl,cM _,λa b d E h2=>(one E).1.trans (one h2).1.symm,λa ha=>?_,λa d h _=>wC (show false=true from h) gy,λ_=>Y,Around.frames_deeper t.frames,.inr ⟨rfl,rfl⟩,λb z=>wC z (G b),t.bs,t.bsz,λb _ _=>G b,λb z=>wC z (G b),t.funs,t.frf⟩,
  rfl,t.bare,Un.kept M,⟨_,L,λi x v q1 D q3=>?_⟩,λa d h=>?_,t.hok.fresh (cM _),λa d h=>?_,λp hp=>wC (show p∈([]:AO)from hp) (by simp),t.hok.kept M,?_⟩
 .have N:g.names.lookup a=some .cell∨g.names.lookup a=some .free:=ha
  rcases N with z|z
  .exact wC rfl (S.only _ (lC z)).1
  .have e:=(S.only _ (lC z)).2 rfl;exact⟨c,by rw[show a=y from e];exact C⟩
 .have j:(n++[y])[i]? =some x:=q1
  rcases Nat.lt_or_ge i n.length with z|z
  .rw[e8 z]at j;rw[e8 (by rw[cz];lia),cQ]at D;cases e:I[i]? with
   |none=>rw[e]at D;cases D
   |some a=>
    rw[e]at D;cases D;obtain⟨u,hu,rv⟩:=r.get e;have kx:=S.par x (cW j);refine⟨u,rv,.inl ⟨kx,?_⟩⟩;exact Hh (S.nd.sublist (List.sublist_append_left _ _)) j hu
  .rw[eU z]at j;rw[eU (by rw[cz];lia),cz]at D;have e:i-n.length=0:=by
    rcases Nat.eq_zero_or_pos (i-n.length)with y0|y0
    .exact y0
    .rw[ie (by simp;lia)]at j;cases j
   rw[e]at j;rw[T,e]at D;cases j;cases D;exact⟨.ref m,rfl,.inr ⟨.inr S.fre,c,C,J⟩⟩
 .obtain⟨rfl,rfl⟩:=one (show([(y,c)]:List (Str×Ad)).lookup a=some d from h);exact⟨_,J⟩
 .obtain⟨rfl,rfl⟩:=one (show([(y,c)]:List (Str×Ad)).lookup a=some d from h);exact hc
 .show(I.map some++[some (V.ref m)]).length=(n++[y]).length;simp[T]
def D1{P:Pg}{w:World}{K:W.Frag}{mg:SV}{j:Heap}{k:Nat}{D:Ss}{y g:Str}{l:Arguments}{p:Expr}{a:Scope}{f c m G:Ad}{oc:Obj}{pm ct:Vl}{Y:Sp}
  (S:LamScope D y a) (len: ∀B H Q E,Y B H Q E->B.length=D.length) (here: ∀B H Q E,Y B H Q E->H f=some (hE f (gD g l p a y c pm (.ref G) ct))/\H c=some (gf c m oc)/\H G=some (i0 G g))
  (L: ∀(A:Ar) (d:List Env) (s:Sh) (H:Hp) (B:List V) (Q:VK) (E:XK),Room k (A.deeper (PySem.W.envX g a s.heap.objs.size f (.ref G) [(y,c)]))->Y B H Q E->
   ∃t,PE (mV P w K mg j (D++[y]) g a f (.ref G) [(y,c)] A d s (drop H c)) p t/\t (B.map some++[some (.ref m)]) (drop H c) λv U=>U c=none->Q v (cw U c (gf c m oc))):
  FnOk P w K mg j cZ (k+1) f (gD g l p a y c pm (.ref G) ct) D Y:=by
 refine⟨len,λA d s H args us B Q E hr h M r N=>?_⟩;obtain⟨hf,O,aa⟩:=here _ _ _ _ N;have hl:=len _ _ _ _ N;obtain⟨ef,_,_⟩:=h.hok f _ hf;obtain⟨i,_,_⟩:=h.hok c _ O;obtain⟨T,_,_⟩:=h.hok G _ aa;have e1:Env0 P w K mg j A d s (drop H c):=⟨h.frames,h.mod,λb o e=>⟨(h.bs b o e).1,pW (h.bs b o e).2⟩,h.bsz,h.funs,λb M=>pW (h.frf b M),h.hok.drop O,h.bare⟩;have ab:s.heap.NoLimit:=h.mod.nolimit.keeps λb o e=>(h.bs b o e).1;refine PySem.W.kla_callFunE hr.depth ef rfl S.co S.gen rfl T (M _ _ _ _ ?_);refine wpAny_newFunctionEnv (λx hx=>(S.only x hx).1) (λx hx=>S.par _ (w9 hx).1) (λh1 ae sb=>?_) S.kind;have hk: ∀b o,s.heap.get? b=some o->h1.get? b=some o:=λb o e=>sb.extBut _ _ (dS (dh e)) (dI _ e);refine⟨ab.keeps hk,PySem.W.kla_codeExpr ?_⟩;obtain⟨t,ht,hq⟩:=L A d s H B Q E (hr.deeper _) N;have I:Inv (mV P w K mg j (D++[y]) g a f (.ref G) [(y,c)] A d s (drop H c)) [] (B.map some++[some (.ref m)]) (drop H c) {s with heap:=h1,toks:=s.toks+(D.zip us).length}:=HI S hr.hd e1 hl r lJ ⟨oc,i⟩ ae sb;refine gN (ht [] _ _ _ _ I hq) (λv s' ⟨x,U,J,rx,q⟩=>?_) λe s' z=>wE z;have Hc:U c=none:=J.freeC y c (by show([(y,c)]:List (Str×Ad)).lookup y=some c;rw[iB,sE]);have af:s'.heap.get? c=some oc:=J.base.keep c oc i.1 lJ (λz=>?_) (by simp[mV])
 .refine⟨x,cw U c (gf c m oc),J.os,J.bare,⟨λb o e n M _=>?_,λb o e n M _=>?_,λb o e n _=>?_,λb o e _=>J.base.there b o e (by simp[mV]),λb xs e=>?_,λb o u e=>?_,λb D e=>?_⟩,J.hok.back Hc (FV af i.2),rx,q Hc⟩
  .exact J.base.keep b o e (pW n) M (by simp[mV])
  .exact J.base.slot b o e (pW n) M (by simp[mV])
  .have C:b≠c:=λz=>by rw[z,O]at n;cases n
   rw[cF C];exact J.base.free b o e (pW n) (by simp[mV])
  .have C:b≠c:=λz=>by rw[z,O]at e;cases e
   rw[cF C];exact J.base.tups b xs (by show drop H c b=_;rw[dZ C];exact e)
  .have C:b≠c:=λz=>by rw[z,O]at e;cases e
   rw[cF C];exact J.base.frzs b o u (by show drop H c b=_;rw[dZ C];exact e)
  .have C:b≠c:=λz=>by rw[z,O]at e;cases e
   rw[cF C];exact J.base.tbls b D (by show drop H c b=_;rw[dZ C];exact e)
 .have:=h.frf c z;rw[O]at this;cases this
section
variable{X:Cx}
def Dx(X:Cx)(i:Nat)(t:TA):TE:=λb H Q=>fI i b H λv c=> ∃st a,v= .ref st/\c st=some (hE st a)/\t b c λg d=>d st=some (hE st a)/\ ∃k e f,FnOk X.prog X.w X.K X.mg X.base cZ k st a e f/\Room k X.A/\Binds X.K a e []/\f g d Q E0
def Cn{a:AO}{b:St}{H:Hp}{s:Sh}{st:Ad}{c:Fd}(I:Inv X a b H s)(h:H st=some (hE st c)):PySem.W.FnAt st s.heap:=by
 obtain⟨e,_,_⟩:=I.hok st _ h;exact⟨_,_,_,_,e⟩
def Hk(i:Nat){x:Str}{e:Expr}{a:List Expr}{t:TA}{p pos:Pos}(j:PE X (.Name x p) (fI i))(l:PA X (e::a) t)(m:starEach (e::a) X.env=(false,eval e X.env)::starEach a X.env:=by rfl)(b:(backTo pos (starEach a X.env)).any (·.1)=false:=by rfl):
  PE X (.Call (.Name x p) (e::a) [] pos) (Dx X i t):=by
 intro c s d H Q I h;refine oD (cP (j c s d H _ I h) λu n ⟨v,o,f,w,st,J,y,A,q⟩=>?_);subst y;cases w;refine PySem.W.callWith_F (Cn f A) (cP (l pos c n d o _ f q) λL M B=>?_) m b;obtain⟨N,O,g,r,C,k,T,U,F,D,E,G⟩:=B;refine⟨Cn g C,?_⟩;have z:=wm (dvs:=[]) (ds:=[]) F D E .nil ua g r (by rw[gV];exact G);exact z
def ER(g:Sp)(a:List V)(j:Nat)(c:Ad)(t:TA):TE:=λb H Q=>t b H λh d=> ∃m,b[j]? =some (some (.ref m))/\ ∀e,d c=none->g (h++a) (cw d c (gf c m e)) (λr f=>f c=some (gf c m e)/\Q r (drop f c)) E0
def Inv.afterC{p:AO}{t:St}{H:Hp}{s x:Sh}{c m:Ad}{i:Obj}{Q:VK}{u:Vl}(I:Inv X p t H s)(k:H c=none)(y:s.heap.get? c=some i)
  (h:CE X.stack X.prog X.w (cw H c (gf c m i)) s (λr j=>j c=some (gf c m i)/\Q r (drop j c)) u x):EP X p t Q u x:=by
 obtain⟨v,j,os,a,un,d,B,A,q⟩:=h;obtain⟨⟨f,_⟩,_,_⟩:=d c _ A;refine I.after ⟨v,drop j c,os,a,⟨λb o e n l g=>?_,λb o e n l g=>?_,λb o e n g=>?_,un.there,λb C e=>?_,λb o w e=>?_,λb D e=>?_⟩,d.drop A,B,q⟩
 .by_cases z:b=c
  .subst z;rw[y]at e;cases e;exact f
  .exact un.keep b o e (by rw[cF z];exact n) l g
 .by_cases z:b=c
  .subst z;rw[y]at e;cases e;exact⟨i.slots,f⟩
  .exact un.slot b o e (by rw[cF z];exact n) l g
 .by_cases z:b=c
  .rw[z];exact lJ
  .exact pW (un.free b o e (by rw[cF z];exact n) g)
 .have z:b≠c:=λz=>by rw[z,k]at e;cases e
  rw[dZ z];exact un.tups b C (by rw[cF z];exact e)
 .have z:b≠c:=λz=>by rw[z,k]at e;cases e
  rw[dZ z];exact un.frzs b o w (by rw[cF z];exact e)
 .have z:b≠c:=λz=>by rw[z,k]at e;cases e
  rw[dZ z];exact un.tbls b D (by rw[cF z];exact e)
def Lp{x:Str}{k j:Nat}{L:Ss}{T:Sp}{f c:Ad}{U:Fd}{g:List V}{v:Vs}{y:Str}{e:Expr}{A:List Expr}{t:TA}{p pos:Pos}(F:FnOk X.prog X.w X.K X.mg X.base cZ k f U L T)(hr:Room k X.A)(hg:Gl X x)(hm:X.mg x=some (.ref f))
  (hk:PySem.W.keepIn X.K (.ref f)=true) (n:Binds X.K U L v) (hd:Vals g v) (hN:X.N[j]? =some y) (G:X.env.cells.lookup y=some c) (B:X.env.scope.names.lookup y=some .cell) (M:X.fn y=true) (ha:PA X (e::A) t)
  (N:(x==("__debug__":Str))=false:=by decide) (he:starEach (e::A) X.env=(false,eval e X.env)::starEach A X.env:=by rfl) (O:(backTo pos (starEach A X.env)).any (·.1)=false:=by rfl):
  PE X (.Call (.Name x p) (e::A) [] pos) (ER T g j c t):=by
 intro za s σ H Q I h;refine oD (vo I hg hm ?_ N);refine xE (h₀:=X.base) I.ok.mod.kin hk (cP (ha pos za s σ H _ I h) λC J ⟨Y,H1,a,r,m,hj,q⟩=>⟨a.kIn,?_⟩) he O;have l:H1 c=none:=a.freeC y c G;obtain⟨mm,hn,look⟩:=a.loc;obtain⟨u,ru,lk⟩:=look j y (.ref m) hN hj (.inr (.inl B));cases ru;obtain⟨oc,ec,dc⟩:J.heap.IsCell c (some (.ref m)):=by
  rcases lk with⟨z,_⟩|⟨_,c',D,ic⟩
  .have z':X.env.scope.names.lookup y=some .local:=z;rw[B]at z';cases z'
  .rw[G]at D;cases D;exact ic
 have q1:=q oc l;have r2:Vals (Y++g) (C++v):=r.append hd;have hl:(C++v).length=L.length:=by rw[<-r2.length];exact F.len _ _ _ _ q1
 have e1:Env0 X.prog X.w X.K X.mg X.base X.A X.stack J (cw H1 c (gf c m oc)):=by
  have i:=a.env0;have d:=a.ok.cab y c M G;have nb: ∀b o,X.base.get? b=some o->b≠c:=λb o e z=>by
   subst z;exact wC (ft (dh e) (dE a.ok.bsz d)) (jb _)
  have nf: ∀b∈iF X.stack,b≠c:=λb n z=>by
   subst z
   rcases dQ.mp (a.stkSub b n)with w|w
   .exact a.cne y b G w
   .obtain⟨_,o,ho,_⟩:=a.ok.funs.mem w;exact wC (ft (dh ho) d) (jb _)
  exact⟨i.frames,i.mod,λb o e=>⟨(i.bs b o e).1,by rw[cF (nb b o e)];exact(i.bs b o e).2⟩,i.bsz,i.funs,λb n=>by rw[cF (nf b n)];exact i.frf b n,i.hok.back l (FV ec dc),i.bare⟩
 refine uc (nI (F.run X.A X.stack J _ ⟨C,[]⟩ (C++v) (Y++g) _ E0 hr e1 (n J C a.kIn hl) r2 q1) λr s' E=>?_);cases r with
 |error e=>exact E.elim
 |ok fl=>
  cases fl with
  |ret u=>exact a.afterC l ec E
  |next=>exact wE E
  |brk=>exact wE E
  |cont=>exact wE E
end
section
variable{X:Cx}
def mD(mg:SV)(h:Heap):Prop:= ∃a o,mg "__builtins__"=some (.ref a)/\a≠builtinsNs/\h.get? a=some o/\o.cls= .type "module"/\o.dict=some builtinsNs/\o.data= .plain
abbrev iV(pos:Pos)(a:Ad):AV:= #[rawInt pos.line,rawInt pos.col,.ref a]
def Bw(P:Ad)(a:Str)(b:Arguments)(g:Expr)(d:Scope)(y:Str)(c:Ad)(pm:Vl)(pos:Pos):TE:=λ_ H Q=>
 (H P=some (.tbl #[])/\ ∀f e h,H f=none->H e=none->f≠e->Q (.ref f) (cw (cw (cw H P (.tbl (iV pos e))) e (i0 e a)) f (hE f (gD a b g d y c pm (.ref e) h))))∨
 ∃e,H P=some (.tbl (iV pos e))/\H e=some (i0 e a)/\ ∀f h,H f=none->Q (.ref f) (cw H f (hE f (gD a b g d y c pm (.ref e) h)))
def Fs{P cd c:Ad}{qual y:Str}{a:Arguments}{g:Expr}{f:Scope}{pos:Pos}(E:X.env.code= .ref cd)(C:PySem.W.CodeHd X.base cd P)(bm:mD X.mg X.base)(G: ∀B D H s,Inv X B D H s->closureFor f X.env=pure [(y,c)])
  (aa:defaultsOf a X.env=([],[])) (hq:X.env.qual++"<lambda>"=qual):PE X (.Lambda a g f pos) (Bw P qual a g f y c ((X.mg "__name__").getD .none) pos):=by
 intro B s D H Q I h;rw[arm_eval_Lambda,aa,hq];have C':PySem.W.CodeHd s.heap cd P:=C.keeps I.bk;have hg:s.heap.Ns mainGlobals X.mg:=I.mod.glob.keeps I.bk;refine cy (m:=evalAll []) (cG (cy (m:=holding _ (evalAllOpt [])) (gw (cG ?_))));have track: ∀J,H P=some (.tbl J)->s.heap.get? P=some (PySem.W.tabObj J)/\mainGlobals≠P/\s.heap.BuiltinsAt X.mg P:=λJ e=>by
  have L:s.heap.get? P=some (PySem.W.tabObj J):=I.hok P _ e;have Y:mainGlobals≠P:=λz=>by
   obtain⟨o,es,ep,e1,_⟩:=I.mod.glob;have:=(I.bs _ _ e1).2
   rw[z,e]at this;cases this
  obtain⟨b,o,b1,b2,b3,b4,b5,b6⟩:=bm;refine⟨L,Y,b,o,b1,b2,λz=>?_,λz=>?_,I.bk _ _ b3,b4,b5,b6⟩
  .obtain⟨o',es,ep,e1,d1,_⟩:=I.mod.glob;rw[z,e1]at b3;cases b3;rw[d1]at b6;cases b6
  .have:=(I.bs _ _ b3).2;rw[z,e]at this;cases this
 rcases h with⟨e,q⟩|⟨i,e,ag,q⟩
 .obtain⟨L,Y,hb⟩:=track _ e;refine PySem.W.kla_makeFunction (G B D H s I) I.ok.glob hg E C' L (by trivial) rfl Y hb λi l j tk hx p r M ab=>?_;have t:H i=none:=I.hok.fresh p;have x:H j.objs.size=none:=I.hok.fresh (dE p (fR r));have ae:P≠i:=dO e t;have af:P≠j.objs.size:=dO e x;have N:j.objs.size≠i:=ka r;generalize eo:PySem.W.kla_obj "<lambda>" qual a g f [(y,c)] ((X.mg "__name__").getD .none) i l=ob;have old: ∀b u,H b=some u->b≠i/\b≠j.objs.size:=λb u z=>⟨dO z t,dO z x⟩;have O: ∀b o,s.heap.get? b=some o->b≠i/\b≠j.objs.size:=λb o z=>⟨dS (ft (dh z) p),dS (ft (dh z) (dE p (fR r)))⟩;have T: ∀b o,b≠P->s.heap.get? b=some o->(j.push ob).get? b=some o:=λb o n z=>dI _ (hx b o n z);have k: ∀b,b≠P->b≠i->b≠j.objs.size->cw (cw (cw H P (.tbl (iV pos i))) i (i0 i qual)) j.objs.size (hE j.objs.size (gD qual a g f y c ((X.mg "__name__").getD .none) (.ref i) l)) b=H b:=λb n1 n2 n3=>by rw[cF n3,cF n2,cF n1]
  have U:cw (cw (cw H P (.tbl (iV pos i))) i (i0 i qual)) j.objs.size (hE j.objs.size (gD qual a g f y c ((X.mg "__name__").getD .none) (.ref i) l)) P=some (.tbl (iV pos i)):=by rw[cF af,cF ae,cC]
  have tP:(j.push ob).get? P=some (PySem.W.tabObj (iV pos i)):=by
   refine dI _ ?_;rw[ab];rfl
  refine⟨.ref j.objs.size,_,?_,rfl,q j.objs.size i l x t N⟩;refine I.step (ch:=[]) (λ_ z=>nomatch z) (λb o _ _ _ z n=>T b o (λw=>by rw[w,e]at n;cases n) z) (λb o _ _ _ z n=>⟨o.slots,T b o (λw=>by rw[w,e]at n;cases n) z⟩)
   (λb o _ z n=>?_) (λb o _ z=>?_) (λb xs z=>?_) (λb o u z=>?_) (λb J z=>?_) (λm hm=>?_) (λb u z=>?_) I.bare
  .rw[k b (λw=>by rw[w,e]at n;cases n) (O b o z).1 (O b o z).2];exact n
  .by_cases w:b=P
   .rw[w];exact⟨_,tP⟩
   .exact⟨o,T b o w z⟩
  .rw[k b (λw=>by rw[w,e]at z;cases z) (old b _ z).1 (old b _ z).2];exact z
  .rw[k b (λw=>by rw[w,e]at z;cases z) (old b _ z).1 (old b _ z).2];exact z
  .by_cases w:b=P
   .subst w;rw[e]at z;cases z;exact⟨iV pos i,by rw[U];rfl⟩
   .exact⟨#[],by rw[k b w (old b _ z).1 (old b _ z).2,z];simp⟩
  .exact hm.at' λo z=>T _ o (λw=>by have:=I.free;rw[w,e]at this;cases this) z
  .by_cases w3:b=j.objs.size
   .rw[w3,cC]at z;cases z;rw[w3];exact EG (by rw[<-eo];exact eO _ rfl)
   .by_cases w2:b=i
    .rw[w2,cF N.symm,cC]at z;cases z;rw[w2];exact Ir (M.push _)
    .by_cases w1:b=P
     .rw[w1,U]at z;cases z;rw[w1];exact tP
     .rw[k b w1 w2 w3]at z;refine(I.hok b u z).stay (λd o hd y=>T d o (λw=>?_) y) (λd y=>?_) λd xs y=>?_
      .rcases hd with v|v
       .exact w1 (v.symm.trans w)
       .rw[w,e]at v;cases v
      .rw[k d (λw=>by rw[w,e]at y;cases y) (old d _ y).1 (old d _ y).2];exact y
      .rw[k d (λw=>by rw[w,e]at y;cases y) (old d _ y).1 (old d _ y).2];exact y
 .obtain⟨L,Y,hb⟩:=track _ e;have A:codeAmong pos (iV pos i).toList=some (.ref i):=by
   show(if((pos.line:Int)==(pos.line:Int)&&(pos.col:Int)==(pos.col:Int))=true then _ else _)=_;rw[wB (by simp)]
  refine PySem.W.kla_makeFunctionHit (G B D H s I) I.ok.glob hg E C' L (by trivial) A hb λl j tk keep sz=>?_;have I1:Inv X B D H {s with heap:=j,toks:=tk}:=I.kept keep;have I2:Inv X B D H {s with heap:=j.push {cls:= .type "function",data:= .func (gD qual a g f y c ((X.mg "__name__").getD .none) (.ref i) l)},toks:=tk}:=I1.kept λb o z=>dI _ z;have ok:ObjOk X.prog X.w (cw H j.objs.size (hE j.objs.size (gD qual a g f y c ((X.mg "__name__").getD .none) (.ref i) l))) (j.push {cls:= .type "function",data:= .func (gD qual a g f y c ((X.mg "__name__").getD .none) (.ref i) l)}) j.objs.size (hE j.objs.size (gD qual a g f y c ((X.mg "__name__").getD .none) (.ref i) l)):=EG (eO _ rfl);exact⟨.ref j.objs.size,_,Inv.trackNew I1 I2 ok,rfl,q _ l I1.fresh⟩
end
def HY(K:W.Frag)(c:As)(a:Ad)(o:Obj)(d:Zs):Hp:=λb=>if b∈c then some (.tbl #[])else if b=a/\K.lookup a=none then some (.frz o (.lst (d.map V.int)))else none
def Ky{P:Pg}{w:World}{K:W.Frag}{mg mb:SV}{k:Nat}{fa a:Ad}{fd:Fd}{x:Str}{sp:Sp}{f:Sh}{A:Vs}{D:Zs}{tabs:As}
  (KX:K.In f.heap) (I:f.heap.Ns mainGlobals mg) (g:f.heap.Ns builtinsNs mb) (aa: ∀x:Str,x≠"__name__"->mb x=bootBuiltins x) (J:f.heap.NoLimit) (hg:f.gens= #[]) (ab:mD mg f.heap)
  (E:f.heap.get? a=some {cls:= .type "list",data:= .seq A.toArray}) (hi:IntsAre A D) (hl:D.length<=sizeLine) (hr:Room k callerA) (hT: ∀q∈tabs,K.lookup q=none/\ ∃c,f.heap.TableAt c q #[])
  (F: ∀l:Heap,K.In l->l.Ns mainGlobals mg->mD mg l->FnOk P w K mg l cZ k fa fd [x] sp) (G: ∀(s:Sh) (u:Vl),BindsTo s fd ⟨[u],[]⟩ [(x,u)])
  (ae: ∀H:Hp,(∀q∈tabs,H q=some (.tbl #[]))->SqL K H a (D.map V.int)->sp [.ref a] H (λv _=>v= .bl true) λ_ _ _=>False):
  codeAny (model P w) callerA (.call (.ref fa) ⟨[.ref a],[]⟩) (λr L=>r= .ok (.ret (.bool true))/\OldK f.heap L.heap/\L.os=f.os/\AllBare L.gens) f:=by
 have rv:=FL hi;have M:=hi.length;have i: ∀q∈tabs,f.heap.get? q=some (PySem.W.tabObj #[]):=λq N=>let⟨_,c,t⟩:=hT q N;t.2
 have na:a∉tabs:=λN=>by
  have:=i a N;rw[E]at this;cases this
 generalize eH:HY K tabs a {cls:= .type "list",data:= .seq A.toArray} D=H;have O: ∀q∈tabs,H q=some (.tbl #[]):=λq N=>by rw[<-eH];exact wB N
 have B: ∀b,b∉tabs->H b=if b=a/\K.lookup a=none then some (.frz {cls:= .type "list",data:= .seq A.toArray} (.lst (D.map V.int)))else none:=λb g=>by rw[<-eH];exact wA g
 have j: ∀b u,H b=some u->(b∈tabs/\u= .tbl #[])∨(b=a/\K.lookup a=none/\u= .frz {cls:= .type "list",data:= .seq A.toArray} (.lst (D.map V.int))):=λb u e=>by
  by_cases g:b∈tabs
  .rw[O b g]at e;cases e;exact .inl ⟨g,rfl⟩
  .rw[B b g]at e;by_cases h:b=a/\K.lookup a=none
   .rw[wB h]at e;cases e;exact .inr ⟨h.1,h.2,rfl⟩
   .rw[wA h]at e;cases e
 have af:HOk P w H f.heap:=λb u e=>by
  rcases j b u e with⟨g,rfl⟩|⟨rfl,_,rfl⟩
  .exact i b g
  .exact⟨E,by rw[cz];exact hl,A,_,rv,E⟩
 have hS:SqL K H a (D.map V.int):=by
  cases Q:K.lookup a with
  |some o=>
   have e:=KX a o Q;rw[E]at e;cases e;exact .inr ⟨_,A.toArray,_,Q,rfl,rfl,rfl,by rw[eM,M];exact hl,by simpa using rv⟩
  |none=>exact .inl (.inr ⟨{cls:= .type "list",data:= .seq A.toArray},by rw[B a na,wB ⟨rfl,Q⟩]⟩)
 have free: ∀{b:Ad} {o:Obj},f.heap.get? b=some o->o.cls≠ .none->(∀T n,o.data≠ .seq T n)->H b=none:=λ{b o} e hc hd=>by
  cases q:H b with
  |none=>rfl
  | some u=>
   rcases j b u q with⟨g,_⟩|⟨rfl,_,_⟩
   .rw[i b g]at e;cases e;exact wC rfl hc
   .rw[E]at e;cases e;exact wC rfl (hd _ _)
 have p: ∀{b:Ad} {m:SV},f.heap.Ns b m->(mC f.heap H).Ns b m:=λ{b m} ⟨o,es,ep,e,d,r⟩=>by
  refine⟨o,es,ep,AI e ?_,d,r⟩;cases q:H b with
  |none=>rfl
  | some u=>
   rcases j b u q with⟨g,_⟩|⟨rfl,_,_⟩
   .rw[i b g]at e;cases e;cases d
   .rw[E]at e;cases e;cases d
 have U:K.In (mC f.heap H):=λb o e=>AI (KX b o e) (by
  cases q:H b with
  |none=>rfl
  | some u=>
   rcases j b u q with⟨g,_⟩|⟨rfl,Q,_⟩
   .rw[(hT b g).1]at e;cases e
   .rw[Q]at e;cases e)
 have ag:mD mg (mC f.heap H):=by
  obtain⟨bm,o,b1,b2,b3,b4,b5,b6⟩:=ab;exact⟨bm,o,b1,b2,AI b3 (free b3 (by rw[b4];nofun) (λT n z=>by rw[b6]at z;cases z)),b4,b5,b6⟩
 have hM:Mod K mg (mC f.heap H):=⟨U,p I,⟨mb,p g,aa⟩,let⟨mc,h1,h2⟩:=J;⟨mc,p h1,h2⟩⟩;have e0:Env0 P w K mg (mC f.heap H) callerA [] f H:=⟨rfl,hM,λb o e=>Gn e,nH (ID _ _),trivial,λb g=>wC (show b∈([]:As)from g) (by simp),af,.of_eq hg⟩;refine nI ((F _ U (p I) ag).run callerA [] f H ⟨[.ref a],[]⟩ [.ref a] [.ref a] _ _ hr e0 (G f (.ref a)) (.cons rfl .nil) (ae H O hS)) λr L h=>?_;cases r with
 |error e=>exact h.elim
 | ok fl=>
  cases fl with
  |next=>exact wE h
  |brk=>exact wE h
  |cont=>exact wE h
  | ret u=>
   obtain⟨v,H',os,Y,un,C,r',q⟩:=h;have q':v= .bl true:=q;subst q'
   obtain rfl:u=Value.bool true:=r';refine⟨rfl,⟨λb o e=>?_,λb o e=>un.there b o e (by simp)⟩,os,Y⟩;cases z:H b with
   |none=>exact .inl (un.keep b o e z (by intro y;exact wC (show b∈([]:As)from y) (by simp)) (by simp))
   | some u=>
    rcases j b u z with⟨g,rfl⟩|⟨rfl,_,rfl⟩
    .obtain⟨more,z2⟩:=un.tbls b _ z;have e2:L.heap.get? b=some (PySem.W.tabObj (#[]++more)):=C b _ z2;rw[i b g]at e;cases e;obtain⟨_,c,t⟩:=hT b g;exact .inr (.inl ⟨t.isCodeTable,rfl,#[],more,rfl,e2⟩)
    .obtain⟨e2,_⟩:=C b _ (un.frzs b _ _ z);rw[E]at e;cases e;exact .inl e2
def d2p{l:PySem.W.OpenLaw}{n k:Nat}{q:Pg}{i:Ss}{L:SV->Heap->Prop}{D:World->Heap->Prop}{d:DefRec}{K:Params->W.Frag}{sp:World->Sp}{x:Str}{tabs:List (Str×Ad)}
  (M:l.most=some n) (y:n<=sizeLine) (z:d.params.defaults=[]) (N:Room k callerA) (O: ∀(w:World) (h:Heap),D w h->(K w.params).In h)
  (hT: ∀w:World,∀t∈tabs,(K w.params).lookup t.2=none/\(∃c,PySem.W.tabIn (K w.params) t.1=some (c,t.2))/\ ∃e,(recsOf q).find? (λr=>r.name==t.1)=some e)
  (F: ∀(w:World) (mg:SV) (fa:Ad) (h:Heap),(K w.params).In h->h.Ns mainGlobals mg->mg d.name=some (.ref fa)->
   ∃A:Fd,(∀(s:Sh) (u:Vl),BindsTo s A ⟨[u],[]⟩ [(x,u)])/\ ∀b:Heap,(K w.params).In b->b.Ns mainGlobals mg->mD mg b->FnOk l.prog w (K w.params) mg b cZ k fa A [x] (sp w))
  (B: ∀(w:World) (H:Hp) (a:Ad) (p:Zs),p.length<=n->(∀t∈tabs,H t.2=some (.tbl #[]))->SqL (K w.params) H a (p.map V.int)->sp w [.ref a] H (λv _=>v= .bl true) λ_ _ _=>False):
  PySem.W.WalkO q i L D l.row.toRowW d [] (λf E=>PySem.call f E):=by
 refine Att.attach_call M z λw I J mg mb fa o pm cd Q a E p G Y ho hd T hmg m j g U=>?_;have KX:=O w _ Y;obtain⟨A,hb,hF⟩:=F w mg fa _ KX G.T.g hmg;refine Ky (tabs:=tabs.map (·.2)) KX G.T.g G.T.b G.T.builtins G.T.nolimit U G.T.bmain m j (dE g y) N (λq hq=>?_) hF hb (λH hH hS=>B w H a p g (λt ht=>hH _ (List.mem_map_of_mem ht)) hS);obtain⟨t,ht,rfl⟩:=c7.mp hq;obtain⟨h1,⟨c,h2⟩,e,h3⟩:=hT w t ht;obtain⟨C,eP⟩:=PySem.W.tab_of G.T KX h3 h2;exact⟨h1,c,C.tab eP⟩
def sl(u v:cu):Prop:=u.length<v.length∨(u.length=v.length/\eA u v=true)
def iS{a b:Nat}{c d:cu}(h:a≠b):eA (a::c) (b::d)=decide (a<b):=by
 unfold eA;rw[fO,wA h];rfl
def ot{a:Nat}{c d:cu}:eA (a::c) (a::d)=eA c d:=by
 unfold eA;rw[fO,wB rfl];cases fO c d with
 |none=>simp
 |some b=>rfl
theorem CF: ∀{i e j:cu},i.length=e.length->e.length=j.length->eA i e=true->eA e j=true->eA i j=true
 | [],[],_,_,_,h,_=>by rw[m9]at h;cases h
 | [],_::_,_,h,_,_,_=>by simp at h
 |_::_,[],_,h,_,_,_=>by simp at h
 |_::_,_::_,[],_,h,_,_=>by simp at h
 | a::i,b::e,c::j,l,m,f,d=>by
  by_cases k:a=b
  .subst k;rw[ot]at f;by_cases g:a=c
   .subst g;rw[ot]at d⊢;exact CF (by simpa using l) (by simpa using m) f d
   .rw[iS g]at d⊢;exact d
  .rw[iS k]at f;have n:a<b:=gi f;by_cases g:b=c
   .subst g;rw[iS k];exact f
   .rw[iS g]at d;have o:b<c:=gi d;rw[iS (by lia)];exact dX (by lia)
theorem Fe: ∀{c d g i:cu},c.length=d.length->eA c d=true->eA (c++g) (d++i)=true
 | [],[],_,_,_,h=>by rw[m9]at h;cases h
 | [],_::_,_,_,h,_=>by simp at h
 |_::_,[],_,_,h,_=>by simp at h
 | a::c,b::d,g,i,j,e=>by
  by_cases f:a=b
  .subst f;rw[qq,qq,ot];rw[ot]at e;exact Fe (by simpa using j) e
  .rw[qq,qq,iS f];rw[iS f]at e;exact e
def HK(c:cu){a b:Nat}(h:a<b):eA (c++[a]) (c++[b])=true:=by
 induction c with
 |nil=>exact(iS (by lia)).trans (dX h)
 |cons x c d=>rw[qq,qq,ot];exact d
def uy{u v x:cu}(a:sl u v)(b:sl v x):sl u x:=by
 rcases a with a|⟨c,d⟩<;>rcases b with b|⟨e,f⟩
 .exact .inl (by lia)
 .exact .inl (by lia)
 .exact .inl (by lia)
 .exact .inr ⟨by lia,CF c e d f⟩
def xD{u:cu}(h:sl u u):False:=by
 rcases h with h|⟨_,h⟩
 .lia
 .rw[m9]at h;cases h
def EA{u v:cu}{a b:Nat}(h:sl u v):sl (u++[a]) (v++[b]):=by
 rcases h with h|⟨e,l⟩
 .exact .inl (by simp;lia)
 .exact .inr ⟨by simp[e],Fe e l⟩
def yL(u:cu){a b:Nat}(h:a<b):sl (u++[a]) (u++[b]):= .inr ⟨by simp,HK u h⟩
def mX(u v:cu):Prop:=u=v∨sl u v
def Mt{u v x:cu}(h1:mX u v)(h2:mX v x):mX u x:=by
 rcases h1 with rfl|h1
 .exact h2
 .rcases h2 with rfl|h2
  .exact .inr h1
  .exact .inr (uy h1 h2)
def Mz{u v:cu}{a:Nat}(h:mX u v):mX (u++[a]) (v++[a]):=by
 rcases h with rfl|h
 .exact .inl rfl
 .exact .inr (EA h)
section
variable(f:cu->Nat->List Nat)(L:Nat)(x0:cu)
abbrev TW:=List (cu×cu)
def di(word:cu):cu:=word.foldl f x0
def Goes(a:TW)(p:cu×cu)(l:Nat):Prop:= ∃u,(f p.1 l,u)∈a/\mX u (p.2++[l])
structure Told(ws:TW):Prop where
 head:ws[0]? =some (x0,[])
 keys:(ws.map (·.1)).Nodup
 run: ∀p∈ws,(∀l∈p.2,l<L)/\di f x0 p.2=p.1
 up:ws.Pairwise λp q=>sl p.2 q.2
 all: ∀p∈ws,∀l,l<L->Goes f ws p l
 short: ∀p∈ws,p.2.length<ws.length
structure Bfs(d:Nat)(ws wv fo:TW)(i j:Nat):Prop where
 head:ws[0]? =some (x0,[])
 keys:(ws.map (·.1)).Nodup
 run: ∀p∈ws,(∀l∈p.2,l<L)/\di f x0 p.2=p.1
 up:ws.Pairwise λp q=>sl p.2 q.2
 len: ∀p∈ws,p.2.length<=d+1
 wave: ∀p∈wv,p∈ws/\p.2.length=d
 wup:wv.Pairwise λp q=>sl p.2 q.2
 foll: ∀p∈fo,p∈ws/\p.2.length=d+1
 fup:fo.Pairwise λp q=>sl p.2 q.2
 front: ∀p∈ws,∀t,wv[i]? =some t->sl p.2 (t.2++[j])
 done: ∀p∈ws,p∈fo∨(∃a,i<=a/\wv[a]? =some p)∨ ∀l,l<L->Goes f ws p l
 part: ∀t,wv[i]? =some t-> ∀l,l<j->Goes f ws t l
 short: ∀p∈ws,p.2.length<ws.length
variable{f L x0}{d i j:Nat}{ws wv fo:TW}{t:cu×cu}
def Goes.more{p q:cu×cu}{l:Nat}(h:Goes f ws p l):Goes f (ws++[q]) p l:=by
 obtain⟨u,a,b⟩:=h;exact⟨u,jA _ a,b⟩
def Bfs.start:Bfs f L x0 0 [(x0,[])] [(x0,[])] [] 0 0 where
 head:=rfl
 keys:=by simp
 run:=λp a=>by
  rw[dj.mp a];exact⟨λ_ h=>(nomatch h),rfl⟩
 up:=pq _ _
 len:=λp a=>by rw[dj.mp a];simp
 wave:=λp a=>⟨a,by rw[dj.mp a];rfl⟩
 wup:=pq _ _
 foll:=λ_ h=>nomatch h
 fup:= .nil
 front:=λp a t _=>by
  rw[dj.mp a];exact .inl (by simp)
 done:=λp a=> .inr (.inl ⟨0,cM _,by rw[dj.mp a];rfl⟩)
 part:=λ_ _ _ h=>wC h (pU _)
 short:=λp a=>by rw[dj.mp a];simp
def Bfs.old(b:Bfs f L x0 d ws wv fo i j)(ht:wv[i]? =some t)(h:f t.1 j∈ws.map (·.1)):Bfs f L x0 d ws wv fo i (j+1):=by
 obtain⟨p,g,e⟩:=c7.mp h;refine {b with front:=λq k t' a=>?_,part:=λt' a l c=>?_}
 .exact uy (b.front q k t' a) (yL _ (om _))
 .rcases Nat.lt_succ_iff_lt_or_eq.mp c with c|rfl
  .exact b.part t' a l c
  .rw[ht]at a;cases a;exact⟨p.2,by rw[<-e];exact g,.inr (b.front p g t ht)⟩
def Bfs.new(b:Bfs f L x0 d ws wv fo i j)(ht:wv[i]? =some t)(n:j<L)(o:f t.1 j∉ws.map (·.1)):
  Bfs f L x0 d (ws++[(f t.1 j,t.2++[j])]) wv (fo++[(f t.1 j,t.2++[j])]) i (j+1):=by
 obtain⟨c,tl⟩:=b.wave t (cW ht);obtain⟨r,g⟩:=b.run t c;have k:(t.2++[j]).length=d+1:=by simp[tl]
 have pos:0<ws.length:=vk c;refine⟨?_,?_,λp hp=>?_,?_,λp hp=>?_,λp hp=>⟨jA _ (b.wave p hp).1,(b.wave p hp).2⟩,b.wup,λp hp=>?_,?_,λp hp s a=>?_,λp hp=>?_,λs a l hl=>?_,λp hp=>?_⟩
 .rw[e8 pos];exact b.head
 .rw[eE,zD];refine⟨b.keys,by simp,λx u y m z=>?_⟩;simp at m;subst m;exact o (z▸u)
 .rcases dw.mp hp with hp|hp
  .exact b.run p hp
  .rw[dj.mp hp];refine⟨λl hl=>?_,?_⟩
   .rcases dw.mp hl with hl|hl
    .exact r l hl
    .rw[dj.mp hl];exact n
   .show di f x0 (t.2++[j])=f t.1 j;unfold di at g⊢;rw[nZ,g];rfl
 .rw[hY];refine⟨b.up,pq _ _,λp hp q e=>?_⟩;rw[dj.mp e];exact b.front p hp t ht
 .rcases dw.mp hp with hp|hp
  .exact b.len p hp
  .rw[dj.mp hp];exact nH k
 .rcases dw.mp hp with hp|hp
  .exact⟨jA _ (b.foll p hp).1,(b.foll p hp).2⟩
  .exact⟨eK _ hp,by rw[dj.mp hp];exact k⟩
 .rw[hY];refine⟨b.fup,pq _ _,λp hp q e=>?_⟩;rw[dj.mp e];exact b.front p (b.foll p hp).1 t ht
 .rw[ht]at a;cases a
  rcases dw.mp hp with hp|hp
  .exact uy (b.front p hp t ht) (yL _ (om _))
  .rw[dj.mp hp];exact yL _ (om _)
 .rcases dw.mp hp with hp|hp
  .rcases b.done p hp with h|h|h
   .exact .inl (jA _ h)
   .exact .inr (.inl h)
   .exact .inr (.inr λl hl=>(h l hl).more)
  .exact .inl (eK _ hp)
 .rw[ht]at a;cases a
  rcases Nat.lt_succ_iff_lt_or_eq.mp hl with hl|rfl
  .exact(b.part t ht l hl).more
  .exact⟨t.2++[l],eK _ (dj.mpr rfl),.inl rfl⟩
 .rw[dF,ue]
  rcases dw.mp hp with hp|hp
  .exact tN (b.short p hp)
  .rw[dj.mp hp];have z:=b.short t c;show(t.2++[j]).length<_
   rw[dF,ue];lia
def Bfs.next(b:Bfs f L x0 d ws wv fo i L)(ht:wv[i]? =some t):Bfs f L x0 d ws wv fo (i+1) 0:=by
 refine {b with front:=λp g o k=>?_,done:=λp g=>?_,part:=λ_ _ l m=>wC m (pU _)}
 .have n:=b.front p g t ht;have c:sl t.2 o.2:=by
   obtain⟨q,r⟩:=cK.mp ht;obtain⟨s,u⟩:=cK.mp k;rw[<-r,<-u];exact nJ.mp b.wup i (i+1) q s (om _)
  exact uy n (EA c)
 .rcases b.done p g with h|⟨a,n,c⟩|h
  .exact .inl h
  .rcases Nat.eq_or_lt_of_le n with e|e
   .subst e;rw[ht]at c;cases c;exact .inr (.inr λl m=>b.part t ht l m)
   .exact .inr (.inl ⟨a,e,c⟩)
  .exact .inr (.inr h)
def Bfs.wave'(b:Bfs f L x0 d ws wv fo wv.length 0):Bfs f L x0 (d+1) ws fo [] 0 0:=by
 refine⟨b.head,b.keys,b.run,b.up,λp c=>tV (b.len p c),b.foll,b.fup,λ_ h=>(nomatch h),.nil,λp c t ht=>?_,λp c=>?_,λ_ _ l m=>wC m (pU _),b.short⟩
 .have k:=b.len p c;have g:=(b.foll t (cW ht)).2;exact .inl (by simp;lia)
 .rcases b.done p c with h|⟨a,k,g⟩|h
  .obtain⟨a,e⟩:=fy.mp h;exact .inr (.inl ⟨a,hJ _,e⟩)
  .rw[ie k]at g;cases g
  .exact .inr (.inr h)
def Bfs.told(b:Bfs f L x0 d ws [] [] 0 0):Told f L x0 ws:=⟨b.head,b.keys,b.run,b.up,λp c=>by
 rcases b.done p c with h|⟨a,_,h⟩|h
 .nomatch h
 .simp at h
 .exact h,b.short⟩
theorem Told.least(T:Told f L x0 ws): ∀(n:Nat) (v:cu),v.length=n->(∀l∈v,l<L)-> ∃u,(di f x0 v,u)∈ws/\mX u v
 |0,v,a,_=>by
  have e:v=[]:=nX.mp a;subst e;exact⟨[],cW T.head,.inl rfl⟩
 | n+1,v,a,c=>by
  obtain⟨b,l,rfl⟩: ∃b l,v=b++[l]:=⟨v.dropLast,v.getLast (by intro z;rw[z]at a;cases a),(Fl _).symm⟩;obtain⟨u,g,h⟩:=T.least n b (by simp at a;lia) λx k=>c x (List.mem_append_left _ k);obtain⟨m,o,p⟩:=T.all _ g l (c l (eK _ (dj.mpr rfl)));refine⟨m,?_,Mt p (Mz h)⟩;have e:di f x0 (b++[l])=f (di f x0 b) l:=by
   unfold di;rw[nZ];rfl
  rw[e];exact o
def qo{U:LN}(b:x0∈U)(c: ∀x∈U,∀l,l<L->f x l∈U): ∀word:cu,(∀l∈word,l<L)->di f x0 word∈U:=by
 have go: ∀(word:cu) (x:cu),x∈U->(∀l∈word,l<L)->word.foldl f x∈U:=by
  intro word
  induction word with
  |nil=>intro x a _;exact a
  |cons l word e=>intro x a h;exact e _ (c x a l (h l (dP ..))) λy g=>h y (fc _ g)
 exact λword h=>go word x0 b h
def nV{U:LN}{l:LN}(nd:l.Nodup)(h: ∀x∈l,x∈U):l.length<=U.length:=sf nd h
end
def Di{u v:cu}(a:sl u v)(b:sl v u):False:=xD (uy a b)
def G8{u v:cu}(h1:mX u v)(h2:mX v u):u=v:=by
 rcases h1 with h1|h1
 .exact h1
 .rcases h2 with h2|h2
  .exact h2.symm
  .exact(Di h1 h2).elim
theorem EI: ∀{a b:TW},(a.Pairwise λp q=>sl p.2 q.2)->(b.Pairwise λp q=>sl p.2 q.2)->(∀p,p∈a↔p∈b)->a=b
 | [],[],_,_,_=>rfl
 | [],q::b,_,_,h=>wC ((h q).mpr (dP ..)) (by simp)
 |p::a,[],_,_,h=>wC ((h p).mp (dP ..)) (by simp)
 | p::a,q::b,g,i,h=>by
  obtain⟨d,j⟩:=qC.mp g;obtain⟨f,k⟩:=qC.mp i;have l:p=q:=by
   rcases dQ.mp ((h p).mp (dP ..))with e|e
   .exact e
   .rcases dQ.mp ((h q).mpr (dP ..))with e'|e'
    .exact e'.symm
    .exact(Di (f p e) (d q e')).elim
  subst l;have rest:a=b:=EI j k λr=>by
   constructor
   .intro c
    rcases dQ.mp ((h r).mp (fc _ c))with e|e
    .subst e;exact(xD (d r c)).elim
    .exact e
   .intro c
    rcases dQ.mp ((h r).mpr (fc _ c))with e|e
    .subst e;exact(xD (f r c)).elim
    .exact e
  rw[rest]
def Told.sub{f:cu->Nat->List Nat}{L:Nat}{b:cu}{g h:TW}(T:Told f L b g)(k:Told f L b h){p:cu×cu}(l:p∈g):p∈h:=by
 obtain⟨o,q⟩:=T.run p l;obtain⟨u,a,r⟩:=k.least _ p.2 rfl o;rw[q]at a;obtain⟨s,t⟩:=k.run _ a;obtain⟨v,m,n⟩:=T.least _ u rfl s;have e:di f b u=p.1:=t;rw[e]at m;have same:v=p.2:=by
  obtain⟨i,c⟩:=fy.mp m;obtain⟨j,d⟩:=fy.mp l;have w:i=j:=(im (by rw[cz];exact(cK.mp c).1) T.keys).mp (by rw[cQ,cQ,c,d];rfl);subst w;rw[c]at d;have z:=fB d;rw[<-z]
 rw[same]at n;have x:u=p.2:=G8 r n;rw[x]at a;exact a
def Told.uniq{f:cu->Nat->List Nat}{L:Nat}{b:cu}{c d:TW}(T:Told f L b c)(a:Told f L b d):c=d:=EI T.up a.up λp=>⟨λh=>T.sub a h,λh=>a.sub T h⟩
section
variable{P:Pg}{w:World}{A:Ar}{E:VP}{s:Sh}{it d:Ad}{i ep:Nat}{es:Array DictEntry}
abbrev iR(k v:Vl):Obj:={cls:= .type "tuple",data:= .seq #[k,v]}
abbrev og(a:Vl)(b:Bool)(d:Ad)(i n ep:Nat)(k v:Vl):Obj:={cls:= .type "dict_itemiterator",data:= .fields #[a,.bool b,.ref d,.int i 0,.int n 0,.int ep 0,k,v]}
def Lies(h:Heap)(d:Ad)(es:Array DictEntry)(ep:Nat):Prop:= ∃o,h.get? d=some o/\o.ExactDict/\o.data= .dict es ep
def Goer(h:Heap)(it d:Ad)(i n ep:Nat):Prop:= ∃b c k v,h.get? it=some (og b c d i n ep k v)/\(b= .none∨ ∃a:Nat,b=rawInt a/\a≠it/\ ∃o,h.get? a=some o)
def Goer.keep{h f:Heap}{n:Nat}(g:Goer h it d i n ep)(k: ∀o,h.get? it=some o->f.get? it=some o)(l: ∀b o,h.get? b=some o-> ∃p,f.get? b=some p):Goer f it d i n ep:=by
 obtain⟨j,m,x,v,e,c⟩:=g;refine⟨j,m,x,v,k _ e,c.imp id ?_⟩;rintro⟨a,q,r,o,t⟩;exact⟨a,q,r,l a o t⟩
def L7{h:Vl}{f:Bool}{n:Nat}{y B k v:Vl}{Q:VP}(e:s.heap.get? it=some (og h f d i n ep y B))(c:h= .none∨ ∃a:Nat,h=rawInt a/\a≠it/\ ∃o,s.heap.get? a=some o)
  (q: ∀t,Goer t it d i n ep->t.get? s.heap.objs.size=some (iR k v)->(∀b o,b≠it->s.heap.get? b=some o->t.get? b=some o)->Q (.ref s.heap.objs.size) {s with heap:=t}):
  wpAny (model P w) A (Builtin.Dict_items.pairFromOwner (.ref it) 6 k v) Q E s:=by
 have lt:it<s.heap.objs.size:=dh e;unfold Builtin.Dict_items.pairFromOwner;refine cy (wpAny_newTuple ?_);have g:=dI (iR k v) e;have j:(s.heap.push (iR k v)).get? s.heap.objs.size=some (iR k v):=eO _ rfl;have u: ∀b o,s.heap.get? b=some o->(s.heap.push (iR k v)).get? b=some o:=λb o z=>dI _ z;have C:s.heap.objs.size≠it:=ka lt
 rcases c with rfl|⟨a,rfl,D,o,N⟩
 .have free: ∀{R:Bool->Sh->Prop} {G:Sh},G.heap.get? it=some (og .none f d i n ep y B)->R true G->wpAny (model P w) A (Builtin.Dict_items.ownedTupleIsFree (.ref it)) R E G:=λe r=>by
   unfold Builtin.Dict_items.ownedTupleIsFree;exact cy (q0 e rfl (x:= .none) rfl (cG r))
  refine cy (free g ?_);rw[wB rfl];refine cy (q0 g rfl (x:=y) rfl (cy (q0 g rfl (x:=B) rfl ?_)));refine cy (mh g (by simp) λL H l=>wpAny_bind (wpAny_setField_rec H (by simp) λh3 O T=>?_));refine cy (mh O (by simp) λh4 U Y=>wpAny_bind (wpAny_setField_rec U (by simp) λh5 e5 s5=>wpAny_bind (wpAny_letGo (wpAny_pure ?_))));have M:=((l.trans T).trans Y).trans s5;have p:=M.extBut _ _ C j;exact q h5 ⟨_,_,_,_,e5,.inr ⟨_,rfl,C,_,p⟩⟩ p λb o I z=>M.extBut _ _ I (u b o z)
 .have J:=u a o N;refine cy (m:=Builtin.Dict_items.ownedTupleIsFree _) ?_;unfold Builtin.Dict_items.ownedTupleIsFree;refine cy (q0 g rfl (x:=rawInt a) rfl ?_);have alive: ∀{R:Option Obj->Sh->Prop},R (some o) {s with heap:=s.heap.push (iR k v)}->wpAny (model P w) A (loadIfAlive ((a:Int).toNat)) R E {s with heap:=s.heap.push (iR k v)}:=λ{R} r=>by
   rw[hV];exact λ_ _ _=>show R ((s.heap.push (iR k v)).get? a) _ by rw[J];exact r
  refine show wpAny _ _ (loadIfAlive ((a:Int).toNat) >>= _) _ _ _ from cy (alive ?_)
  refine cy (m:=field _ _) (q0 g rfl (x:= .bool f) rfl ?_);cases f with
  |true=>exact cG (cG (q _ ⟨_,_,_,_,g,.inr ⟨a,rfl,D,o,J⟩⟩ j λb o _ z=>u b o z))
  |false=>
   refine cy (m:=setField _ _ _) (mh g (by simp) λL H l=>wpAny_pure (wpAny_pure ?_));exact q L ⟨_,_,_,_,H,.inr ⟨a,rfl,D,o,l.extBut _ _ D J⟩⟩ (l.extBut _ _ C j) λb o I z=>l.extBut _ _ I (u b o z)
end
section
variable{P:Pg}{w:World}{A:Ar}{E:VP}{s:Sh}{it d:Ad}{i ep:Nat}{es:Array DictEntry}
def LA{f:DictEntry}{Q:Option Vl->Sh->Prop}(G:Goer s.heap it d i es.size ep)(L:Lies s.heap d es ep)(u:es[i]? =some f)
  (q: ∀l,Goer l it d (i+1) es.size ep->l.get? s.heap.objs.size=some (iR f.key f.val)->(∀b o,b≠it->s.heap.get? b=some o->l.get? b=some o)->Q (some (.ref s.heap.objs.size)) {s with heap:=l}):
  wpAny (model P w) A (pyNext (.ref it)) Q E s:=by
 obtain⟨m,n,D,H,e,c⟩:=G;obtain⟨o,v,_,x⟩:=L;have ty:s.TypeIs (.ref it) "dict_itemiterator":=⟨_,e,rfl⟩;have lt:i<es.size:=(uP.mp u).1;unfold pyNext;refine cy (nS (pE (name:=Str.ofString "__next__") ty tR (i6 tR ty BU ?_ (Em _))));refine cy (cG (cy (cy ?_)));refine cy (xK ty (cG (cy (qm e rfl ?_))));have h:Builtin.Dict_items.ownsTuple "dict_itemiterator"=true:=by decide
 simp only[h,if_true];refine show wpAny _ _ (if(Value.ref d==Value.none)=true then _ else _) _ _ s from(wA (show ¬((Value.ref d==Value.none)=true)from gy))▸cy (cG (cy (pB v x ?_)))
 rw[wA (by simp)];refine cy (cG (cy (sq v x ?_)));rw[wA (by simp)];refine cG ?_;have p:(if((i:Nat):Int)<0 then none else es[((i:Nat):Int).toNat]?)=some f:=by
  rw[wA (by lia),hV];exact u
 show wpAny _ _ (match (if((i:Nat):Int)<0 then none else es[((i:Nat):Int).toNat]?)with|some e=>_|none=>_) _ _ s;rw[p];refine cy (cy (xK ty (cG (cy (zb ty ?_)))));refine show wpAny _ _ (setField (.ref it) 3 (rawInt ((i:Int)+1)) >>= _) _ _ s from cy (mh e (by simp) λg I r=>wpAny_bind (wpAny_holding ?_))
 have j:g.get? it=some (og m n d (i+1) es.size ep D H):=by
  have z:((i+1:Nat):Int)=(i:Int)+1:=by lia
  unfold og;rw[z];simpa[rawInt]using I
 have k:Shared.TypeIs {s with heap:=g} (.ref it) "dict_itemiterator":=⟨_,j,rfl⟩;refine cy (zb k (cy (zb k ?_)));have sz:g.objs.size=s.heap.objs.size:=r.1;refine show wpAny _ _ (Builtin.Dict_items.pairFromOwner (.ref it) 6 f.key f.val) _ _ {s with heap:=g}from L7 (s:={s with heap:=g}) j (c.imp id ?_) λy J M N=>?_
 .rintro⟨a,O,B,T,z⟩;exact⟨a,O,B,T,r.extBut _ _ B z⟩
 .have t:y.get? s.heap.objs.size=some (iR f.key f.val):=by rw[<-sz];exact M
  show wpAny _ _ (ret (.ref g.objs.size)) _ _ _;rw[sz];exact cG ⟨_,rfl,cG (q y J t λb o C z=>N b o C (r.extBut _ _ C z))⟩
def GO{Q:Option Vl->Sh->Prop}(l:A.handled=none)(G:Goer s.heap it d i es.size ep)(L:Lies s.heap d es ep)(n:es[i]? =none)
  (q: ∀h,Heap.ExtBut it s.heap h->Q none {s with heap:=h}):wpAny (model P w) A (pyNext (.ref it)) Q E s:=by
 obtain⟨p,r,v,x,e,c⟩:=G;obtain⟨o,j,_,k⟩:=L;have ty:s.TypeIs (.ref it) "dict_itemiterator":=⟨_,e,rfl⟩;unfold pyNext;refine cy (nS (pE (name:=Str.ofString "__next__") ty tR (i6 tR ty BU ?_ (Em _))));refine cy (cG (cy (cy ?_)));refine cy (xK ty (cG (cy (qm e rfl ?_))));have f:Builtin.Dict_items.ownsTuple "dict_itemiterator"=true:=by decide
 simp only[f,if_true];refine show wpAny _ _ (if(Value.ref d==Value.none)=true then _ else _) _ _ s from(wA (show ¬((Value.ref d==Value.none)=true)from gy))▸cy (cG (cy (pB j k ?_)))
 rw[wA (by simp)];refine cy (cG (cy (sq j k ?_)));rw[wA (by simp)];refine cG ?_;have g:(if((i:Nat):Int)<0 then none else es[((i:Nat):Int).toNat]?)=none:=by
  rw[wA (by lia),hV];exact n
 show wpAny _ _ (match (if((i:Nat):Int)<0 then none else es[((i:Nat):Int).toNat]?)with|some e=>_|none=>_) _ _ s;rw[g];refine cy (cy (xK ty (cG ?_)));refine show wpAny _ _ (setField (.ref it) 2 .none >>= _) _ _ s from cy (mh e (by simp) λy B t=>?_)
 refine cy (m:=newExc _ _) ?_;simp only[newExc,newTuple];refine cy (lO ?_ (by size_fits));refine cy (m:=firstArgMember _ _) (xJ (a:=Value.none) (by first|rfl|(unfold firstArgMember;rfl)) (wpAny_newObj_type ?_ (by size_fits)));refine zK (by simpa using l) (wpAny_bind (wpAny_isInstance (T:="StopIteration") (b:=true) ⟨_,Heap.get?_push_size _ rfl,rfl⟩ isSubtype_stop (wpAny_pure ?_)));exact q _ λb o u z=>dI _ (dI _ (t.extBut b o u z))
end
structure PMade(es:Array DictEntry)(lo:Ad)(h:Heap)(as:As):Prop where
 far: ∀a∈as,lo<a
 up:as.Pairwise (· < ·)
 is: ∀(j:Nat) (a:Ad),as[j]? =some a-> ∃en:DictEntry,es[j]? =some en/\h.get? a=some (iR en.key en.val)
def PMade.nil{a:Array DictEntry}{lo:Ad}{h:Heap}:PMade a lo h []:=⟨λ_ z=>(nomatch z),.nil,λ_ _ z=>by simp at z⟩
def PMade.here{c:Array DictEntry}{lo:Ad}{h:Heap}{b:As}(m:PMade c lo h b): ∀a∈b,a<h.objs.size:=λa d=>by
 obtain⟨j,e⟩:=fy.mp d;obtain⟨_,_,g⟩:=m.is j a e;exact dh g
def PMade.keep{c:Array DictEntry}{lo:Ad}{h d:Heap}{f:As}(m:PMade c lo h f)(k: ∀b o,lo<b->h.get? b=some o->d.get? b=some o):PMade c lo d f:=
 ⟨m.far,m.up,λj a e=>by
  obtain⟨i,x,g⟩:=m.is j a e;exact⟨i,x,k a _ (m.far a (cW e)) g⟩⟩
def PMade.more{i:Array DictEntry}{lo a:Ad}{h:Heap}{d:As}{f:DictEntry}(m:PMade i lo h d)(o:lo<a)(new: ∀b∈d,b<a)(x:i[d.length]? =some f)(g:h.get? a=some (iR f.key f.val)):PMade i lo h (d++[a]):=
  ⟨λb k=>by
    rcases dw.mp k with z|z
    · exact m.far b z
    · rw[dj.mp z];exact o,
   hY.mpr ⟨m.up,pq _ _,λb k c p=>by rw[dj.mp p];exact new b k⟩,
   λj b e=>by
    by_cases l:j<d.length
    · rw[e8 l]at e
      exact m.is j b e
    · rw[eU (xC l)]at e
      obtain⟨z,n⟩:=cK.mp e;have r:j-d.length=0:=by simp at z;lia
      have q:j=d.length:=by lia
      subst q;simp at n;subst n;exact⟨f,x,g⟩⟩
section
variable{P:Pg}{w:World}{A:Ar}{R:Result->Sh->Prop}{S I d:Ad}{ep:Nat}{es:Array DictEntry}{res:Vl}
abbrev tI(h:Heap)(S:Ad)(a:AV)(c:Nat):Prop:=h.get? S=some {cls:= .type "list",data:= .seq a c}
def zV(O:A.handled=none)(C:S<I)(Q:d≠S)(T:d≠I)(U:es.size<=sizeLine): ∀(r i:Nat) (s:Sh) (a:As) (c:Nat),i+r=es.size->a.length=i->Goer s.heap I d i es.size ep->Lies s.heap d es ep->
      tI s.heap S (a.map Value.ref).toArray c->PMade es I s.heap a->
      (∀f bs p,bs.length=es.size->PMade es I f bs->tI f S (bs.map Value.ref).toArray p->(∀b o,b≠S->b≠I->s.heap.get? b=some o->f.get? b=some o)->R (.ok (.ret res)) {s with heap:=f})->
      codeAny (model P w) A (.builtin "list.extend.loop" ⟨[.ref S,.ref I,res],[]⟩) R s:=by
  have g:S≠I:=dS C;intro r
  induction r with
  | zero=>
    intro i s a c Y t G L m M q;refine oz F.entry_extend_loop ?_;rw[sk sN _];refine show wpAny _ A.in1 (pyNext (.ref I) >>= _) _ _ s from cy (GO (by simpa using O) G L (Array.getElem?_eq_none (by lia)) λf x=>wpAny_pure ?_)
    exact q f a c (by lia) (M.keep λb o h e=>x b o (ka h) e) (x S _ g m) λb o _ u e=>x b o u e
  | succ r ih=>
    intro i s a c Y t G L m M q;obtain⟨D,E⟩: ∃D,es[i]? =some D:=⟨es[i]'(by lia),i' (by lia)⟩;have v:I<s.heap.objs.size:=by
      obtain⟨_,_,_,_,e,_⟩:=G;exact dh e
    have y:S<s.heap.objs.size:=dh m;refine oz F.entry_extend_loop ?_;rw[sk sN _];refine show wpAny _ A.in1 (pyNext (.ref I) >>= _) _ _ s from cy (LA G L E λj G1 p1 n=>?_)
    have k:=n S _ g m;refine show wpAny _ A.in1 (updateSeq S (·.push (Value.ref s.heap.objs.size)) >>= _) _ _ {s with heap:=j}from cy (v8 k rfl (cG ⟨qw sN _,?_⟩) ?_ ?_)
    · have off: ∀b o,b≠S->j.get? b=some o->(j.update S (Obj.mapSeq (·.push (Value.ref s.heap.objs.size)))).get? b=some o:=λb o u e=>(jg _ _ (eJ u)).trans e
      have l:=rk (Obj.mapSeq (·.push (Value.ref s.heap.objs.size))) k rfl;obtain⟨z,h0,x0,y0⟩:=L;have M1:PMade es I j a:=M.keep λb o h e=>n b o (ka h) e
      refine ih (i+1) {s with heap:=j.update S (Obj.mapSeq (·.push (Value.ref s.heap.objs.size)))} (a++[s.heap.objs.size]) _ (by lia) (by simp[t]) (G1.keep (λo e=>off I o (Ne.symm g) e) λb o e=>?_)
        ⟨z,off d z Q (n d z T h0),x0,y0⟩ (by simpa[Obj.mapSeq,List.map_append]using l) ?_ λf bs p l' M' B k'=>q f bs p l' M' B λb o H J e=>k' b o H J (off b o H (n b o J e))
      · by_cases N:b=S
        · subst N
          exact⟨_,l⟩
        · exact⟨o,off b o N e⟩
      · exact(M1.keep λb o h e=>off b o (ka (sP C h)) e).more v M.here (t▸E) (off _ _ (ka y) p1)
    · simp;lia
    · simp;lia
end
section
variable{P:Pg}{w:World}{A:Ar}{E:VP}{s:Sh}{v d:Ad}{ep:Nat}{es:Array DictEntry}
abbrev pd(d:Ad):Obj:={cls:= .type "dict_items",data:= .fields #[.ref d]}
def Lies.typeIs{s:Sh}(L:Lies s.heap d es ep):s.TypeIs (.ref d) "dict":=let⟨o,h,x,_⟩:=L;⟨o,h,x.1⟩
def Kj{Q:VP}(nd:(d==sysModules)=false)(L:Lies s.heap d es ep)(q:Q (.ref s.heap.objs.size) {s with heap:=s.heap.push (pd d)}):wpAny (model P w) A (call (.builtin "dict.items") [.ref d]) Q E s:=by
 refine call_meetsIn (S:=λ_ R s=>Lies s.heap d es ep/\R (.ok (.ret (.ref s.heap.objs.size))) {s with heap:=s.heap.push (pd d)}) F.slot_dict_items L.typeIs F.entry_dict_items (F.args_dict_items_1 _) (.of_wp λA R s ⟨L,r⟩=>?_) ⟨L,q⟩;unfold Builtin.«dict.items» Builtin.Dict.noArgs;refine cy (cy (wpAny_notOrdered_dict L.typeIs ?_));refine show wpAny _ _ (pure d) _ _ s from cG (show wpAny _ _ (Builtin.Dict.showsAll d >>= _) _ _ s from ?_)
 have all:Builtin.Dict.showsAll d=pure ():=by
  unfold Builtin.Dict.showsAll;rw[nd];rfl
 rw[all];exact cy (cG (cy (lO (cG ⟨_,rfl,r⟩))))
def Iw{Q:VP}(a:s.heap.get? v=some (pd d))(L:Lies s.heap d es ep)(q:Q (.ref s.heap.objs.size) {s with heap:=s.heap.push (og .none false d 0 es.size ep .none .none)}):wpAny (model P w) A (pyIter (.ref v)) Q E s:=by
 have ty:s.TypeIs (.ref v) "dict_items":=⟨_,a,rfl⟩;obtain⟨o,b,_,c⟩:=L;refine qb ty F.slot_dict_items_iter (i6 F.slot_dict_items_iter ty F.entry_dict_items_iter ?_ (F.args_dict_items_iter_1 _));unfold Builtin.«dict_items.__iter__» Builtin.Dict_items.dictOf Builtin.Dict_items.newIterator;refine cy (cG (cy (cy (q0 a rfl (x:= .ref d) rfl (cG (cy (cy (pB b c (cy (sq b c ?_))))))))));refine show wpAny _ _ (newFields "dict_itemiterator" [.none,.bool false,.ref d,rawInt 0,rawInt (es.size:Nat),rawInt (ep:Nat),.none,.none]) _ _ s from lO (cG ⟨_,rfl,"dict_itemiterator",_,⟨_,eO _ rfl,rfl⟩,tR.lookup,q⟩) (by size_fits)
def LV{Q:Bool->Sh->Prop}(ty:s.TypeIs (.ref v) "dict_items")(q:Q false s):wpAny (model P w) A (Builtin.List.listLengthHint (.ref v)) Q E s:=PySem.W.kdx_hint ty q
def Ll{Q:VP}(hh:A.handled=none)(O:s.heap.get? v=some (pd d))(L:Lies s.heap d es ep)(D:es.size<=sizeLine)
  (q: ∀h k c i,k.length=es.size->PMade es s.heap.objs.size h k->tI h s.heap.objs.size (k.map Value.ref).toArray c->(∀b o,s.heap.get? b=some o->h.get? b=some o)->Q (.ref s.heap.objs.size) {s with heap:=h,toks:=i}):
  wpAny (model P w) A (call (.type "list") [.ref v]) Q E s:=by
 let S:=s.heap.objs.size
 obtain⟨o,G,x,U⟩:=id L;have ld:d<S:=dh G;have lv:v<S:=dh O;refine callType_codes (Q₁:=λl n=>l= .ref S/\n={s with heap:=s.heap.push {cls:= .type "list",data:= .seq #[]}}) F.called_list (F.typeCall_list_1 _) F.entry_list_init (code_list_new _ ⟨rfl,rfl⟩) λl s1 z=>?_;obtain⟨rfl,rfl⟩:=z;have C:tI (s.heap.push {cls:= .type "list",data:= .seq #[]}) S #[] 0:=eO _ rfl;refine⟨⟨_,C,rfl⟩,F.args_list_init_2 _ _,?_⟩;unfold Builtin.«list.__init__» Builtin.List.listItems;refine cy (cy (wpAny_seqItems C rfl (cG ?_)));refine cy (m:=updateSeq S _) (v8 C rfl (cy (wpAny_letGo ?_)));have H:=rk (Obj.mapSeq (λ_=>(#[]:AV))) C rfl
 let p:=(s.heap.push {cls:= .type "list",data:= .seq #[]}).update S (Obj.mapSeq (λ_=>(#[]:AV)))
 have I: ∀b o,s.heap.get? b=some o->p.get? b=some o:=λb o e=>(jg _ _ (ka (dh e))).trans (dI _ e);have J:p.objs.size=S+1:=by
  show(Heap.update _ _ _).objs.size=_;simp[Heap.update,Heap.push,S]
 have go: ∀(j:Heap) (c i:Nat),tI j S #[] c->(∀b o,b≠S->(p.push (og .none false d 0 es.size ep .none .none)).get? b=some o->j.get? b=some o)->
   codeAny (model P w) A.in1 (.builtin "list.extend.loop" ⟨[.ref S,.ref p.objs.size,.none],[]⟩) (wants (λr t=>r=Value.none/\Q (Value.ref S) t) E) {s with heap:=j,toks:=i}:=λj c i l2 Y=>by
  have u:S<p.objs.size:=by rw[J];exact om _
  have y: ∀b o,s.heap.get? b=some o->j.get? b=some o:=λb o e=>Y b o (dS (dh e)) (dI _ (I b o e));refine zV (by simpa using hh) u (Nat.ne_of_lt ld) (Nat.ne_of_lt (Nat.lt_trans ld u)) D es.size 0 {s with heap:=j,toks:=i} [] c (by lia) rfl ⟨_,_,_,_,Y _ _ (Nat.ne_of_gt u) (Heap.get?_push_size _ rfl),.inl rfl⟩ ⟨o,y d o G,x,U⟩ l2 .nil λh k c' l' M N k'=>?_;refine⟨rfl,q h k c' i l' ⟨λa ha=>sP u (M.far a ha),M.up,M.is⟩ N λb o e=>?_⟩;have lb:b<S:=dh e;exact k' b o (dS lb) (dS (sP lb u)) (y b o e)
 refine show wpAny _ _ (Builtin.List.listExtendWith (.ref S) (.ref v) .none) _ _ _ from ?_
 unfold Builtin.List.listExtendWith;have f:=I v _ O;refine cy (wpAny_typeOf (T:="dict_items") ⟨_,f,rfl⟩ ?_);have no:(Builtin.List.listSameRef (.ref S) (.ref v) || Value.type "dict_items"==Value.type "list" || Value.type "dict_items"==Value.type "tuple")=false:=by
  have z:Builtin.List.listSameRef (.ref S) (.ref v)=false:=by simp[Builtin.List.listSameRef,Nat.ne_of_gt lv]
  rw[z];decide
 rw[no,wA (by decide)];refine cy (Iw f ⟨o,I d o G,x,U⟩ (cy (gw (LV ⟨_,dI _ f,rfl⟩ ?_))));have g:=dI (og .none false d 0 es.size ep .none .none) H;refine zm (λ_=>?_) λ_=>cG ⟨qw sN _,go _ _ _ g λ_ _ _ e=>e⟩;unfold Builtin.List.listTouch Builtin.List.listUpdate;refine cy (mW (cy (cy (m:=updateSeq S _) (v8 g rfl ?_))));have B:=rk (Obj.mapSeq (·.push Value.none)) g rfl;refine show wpAny _ _ (updateSeq S (·.pop)) _ _ _ from v8 (hz:=by seq_fits) B rfl (cG ⟨qw sN _,go _ _ _ (rk (Obj.mapSeq (·.pop)) B rfl) λb o nb e=>?_⟩)
 rw[jg _ _ (eJ nb),jg _ _ (eJ nb)];exact e
end
def mR(H:Hp):List (Ad×HO)->Hp
 | []=>H
 |p::l=>mR (cw H p.1 p.2) l
theorem yC: ∀{l:List (Ad×HO)} {H:Hp} {b:Ad},(∀p∈l,b≠p.1)->mR H l b=H b
 | [],_,_,_=>rfl
 |p::l,H,b,n=>by
  show mR (cw H p.1 p.2) l b=_;rw[yC λq a=>n q (fc _ a),cF (n p (dP ..))]
theorem BG: ∀{l:List (Ad×HO)} {H:Hp} {p:Ad×HO},(l.map (·.1)).Nodup->p∈l->mR H l p.1=some p.2
 | q::l,H,p,nd,hp=>by
  obtain⟨a,b⟩:=jc.mp nd
  rcases dQ.mp hp with rfl|hp
  .show mR (cw H p.1 p.2) l p.1=_;rw[yC λr c z=>a (c7.mpr ⟨r,c,z.symm⟩),cC]
  .exact BG (l:=l) b hp
def ye{c d:Type}{F:c->d->Prop}{l:List c}{m:List d}{j:Nat}{a:c}(r:Paired F l m)(e:l[j]? =some a): ∃b,m[j]? =some b/\F a b:=by
 induction r generalizing j with
 |nil=>simp at e
 | cons h _ f=>
  cases j with
  |zero=>
   have z:=fB e;subst z;exact⟨_,rfl,h⟩
  |succ j=>exact f (by simpa using e)
section
variable{X:Cx}
theorem Inv.tracks{a:AO}{c:St}{h:Hp}{s s1:Sh}(I:Inv X a c h s): ∀(l:List (Ad×HO)) (H:Hp),Inv X a c H s1->(∀p∈l,s.heap.objs.size<=p.1/\H p.1=none/\ ∀i,ObjOk X.prog X.w i s1.heap p.1 p.2)->(l.map (·.1)).Nodup->
  Inv X a c (mR H l) s1
 | [],_,d,_,_=>d
 |p::l,H,d,ok,nd=>by
  obtain⟨j,k⟩:=jc.mp nd;obtain⟨f,n,o⟩:=ok p (dP ..);obtain⟨u,m,v,w,r,t⟩:=I.fpOk (b:=p.1) (H':=H) f n;refine Inv.tracks I l _ (d.track n (o _) (dE I.sz f) m r t) (λq g=>?_) k;obtain⟨x,y,z⟩:=ok q (fc _ g);exact⟨x,by rw[cF λe=>j (c7.mpr ⟨q,g,e⟩)];exact y,z⟩
structure Listed(H H':Hp)(kvs:List (List dr×V))(l:Ad)(as:As):Prop where
 new:H l=none
 news: ∀a∈as,H a=none
 out:l∉as
 nd:as.Nodup
 len:as.length=kvs.length
 lst:H' l=some (.lst (as.map .ref))
 is: ∀(j:Nat) (a:Ad),as[j]? =some a-> ∃k v b,kvs[j]? =some (k,v)/\H b=some (.tup (k.map kV))/\H' a=some (.tup [.ref b,v])
 rest: ∀b,b≠l->b∉as->H' b=H b
def sI(v d:Ad):HO:= .ext λh=>h.get? v=some (pd d)
def HC:V->List V->Hp->VK->Prop:=λx c H Q=>c=[]/\ ∃a b,x= .ref a/\H a=some (.dT b)/\ ∀v,H v=none->Q (.ref v) (cw H v (sI v a))
def Ku:pc X "dict.items" HC:=by
 intro n s p H x r u t Q I b c h;obtain⟨rfl,a,d,rfl,f,q⟩:=h;cases b;cases c;obtain⟨z,g,v,i,o,w,A,j,l,m,_⟩:=I.hok a _ f;refine Kj g ⟨o,j,l,m⟩ ⟨.ref s.heap.objs.size,_,I.laid (a:=s.heap.objs.size) (o:=sI s.heap.objs.size a) (t':=s.toks) (λ_ _ q=>dI _ q) (cM _) ?_,rfl,q _ I.fresh⟩;have e:(s.heap.push (pd a)).get? s.heap.objs.size=some (pd a):=eO _ rfl;exact⟨e,⟨_,e⟩,λB C y k=>k _ y⟩
def HV:List V->Hp->VK->Prop:=λd H Q=> ∃v a b,d=[.ref v]/\H v=some (sI v a)/\H a=some (.dT b)/\ ∀l e c,Listed H c b l e->Q (.ref l) c
def Jm(hc:X.calm=true):iC X (.type "list") HV:=by
 intro za s σ H xs us Q I r h;obtain⟨v,a,t,rfl,hv,ha,q⟩:=h;obtain⟨u,rfl,ru⟩:=ig r;cases ru;obtain⟨ev,_,_⟩:=I.hok v _ hv;obtain⟨z,na,ys,E,o,es,ep,e1,e2,e3,e4,_⟩:=I.hok a _ ha;have el:es.size=t.length:=by rw[wp e4,<-nq E]
 refine Ll (I.ok.hd hc) ev ⟨o,e1,e2,e3⟩ (by lia) λD f c tk ln M lS k=>?_;have I1:Inv X za σ H {s with heap:=D,toks:=tk}:=I.kept k;have big: ∀b,s.heap.objs.size<=b->H b=none:=λb n=>I.hok.fresh n;have nd:f.Nodup:=M.up.imp λz=>dS z;have A:s.heap.objs.size∉f:=λm=>jb _ (M.far _ m);have G: ∀(j:Nat) (b:Ad),f[j]? =some b-> ∃k x y,t[j]? =some (k,x)/\H y=some (.tup (k.map kV))/\ ∃u,RelV x u/\D.get? b=some (iR (.ref y) u):=λj b d=>by
  obtain⟨en,ee,g⟩:=M.is j b d;obtain⟨jl,_⟩:=cK.mp d;obtain⟨⟨k,x⟩,ek⟩: ∃p,t[j]? =some p:=⟨_,cA (by lia)⟩;obtain⟨⟨k',y,u⟩,ey,p1,p2,p3⟩:=ye E ek;rw[entry_at e4,ey]at ee;cases ee;exact⟨k,x,y,ek,p2,u,p3,g⟩
 have w: ∀b,∃o:HO,∀j:Nat,f[j]? =some b-> ∃k x y,t[j]? =some (k,x)/\H y=some (.tup (k.map kV))/\o= .tup [.ref y,x]/\ ∃u,RelV x u/\D.get? b=some (iR (.ref y) u):=λb=>by
  by_cases n:b∈f
  .obtain⟨j,d⟩:=fy.mp n;obtain⟨k,x,y,L,N,u,O,T⟩:=G j b d;refine⟨.tup [.ref y,x],λi ei=>?_⟩;have ij:j=i:=im (cK.mp d).1 nd |>.mp (d.trans ei.symm)
   subst ij;exact⟨k,x,y,L,N,rfl,u,O,T⟩
  .exact⟨.tup [],λj d=>wC (cW d) n⟩
 let J:Ad->HO:=λb=>Classical.choose (w b)
 have B: ∀(j:Nat) (b:Ad),f[j]? =some b-> ∃k x y,t[j]? =some (k,x)/\H y=some (.tup (k.map kV))/\J b= .tup [.ref y,x]/\ ∃u,RelV x u/\D.get? b=some (iR (.ref y) u):=λj b d=>oT (w b) j d;have C:(f.map λb=>(b,J b)).map (·.1)=f:=by simp[List.map_map,Function.comp_def]
 have U: ∀b∈f,∀Y,ObjOk X.prog X.w Y D b (J b):=λb n Y=>by
  obtain⟨j,d⟩:=fy.mp n;obtain⟨k,x,y,L,N,O,u,T,h5⟩:=B j b d;rw[O];exact⟨by show 2<=sizeLine;decide,[.ref y,u],.cons rfl (.cons T .nil),_,h5,rfl,0,rfl,rfl⟩
 have vs: ∀l:As,Vals (l.map V.ref) (l.map Value.ref):=λl=>by
  induction l with
  |nil=>exact .nil
  |cons x l ih=>exact .cons rfl ih
 have I2:=Inv.tracks (s1:={s with heap:=D,toks:=tk}) I ((s.heap.objs.size,.lst (f.map .ref))::f.map λb=>(b,J b)) H I1 (λp hp=>by
   rcases dQ.mp hp with rfl|hp
   .exact⟨cM _,big _ (cM _),λY=>⟨by rw[cz];lia,_,c,vs f,lS⟩⟩
   .obtain⟨b,n,rfl⟩:=c7.mp hp;exact⟨fR (M.far b n),big _ (fR (M.far b n)),U b n⟩) (by
   rw[gv,C];exact jc.mpr ⟨A,nd⟩)
 refine⟨.ref s.heap.objs.size,_,I2,rfl,q _ f _ ⟨big _ (cM _),λb n=>big _ (fR (M.far b n)),A,nd,by lia,?_,λj b d=>?_,λb L N=>?_⟩⟩
 .exact BG (p:=(s.heap.objs.size,.lst (f.map .ref))) (by rw[gv,C];exact jc.mpr ⟨A,nd⟩) (dP ..)
 .obtain⟨k,x,y,g1,g2,g3,_⟩:=B j b d;refine⟨k,x,y,g1,g2,?_⟩;rw[<-g3];exact BG (p:=(b,J b)) (by rw[gv,C];exact jc.mpr ⟨A,nd⟩) (fc _ (c7.mpr ⟨b,cW d,rfl⟩))
 .refine yC λp hp=>?_
  rcases dQ.mp hp with rfl|hp
  .exact L
  .obtain⟨y,hy,rfl⟩:=c7.mp hp;exact λe=>N (e▸hy)
end
def a3v(b:TW)(c:As):List (List dr×V):=List.zipWith (λp a=>(nk p.1,V.ref a)) b c
def yB{ws:TW}{as:As}{p:cu×cu}{a:Ad}(h:as.length=ws.length):a3v (ws++[p]) (as++[a])=a3v ws as++[(nk p.1,.ref a)]:=by
 unfold a3v;rw[List.zipWith_append h.symm];rfl
def Cz{a:TW}{b:As}(h:b.length=a.length):(a3v a b).length=a.length:=by
 unfold a3v;rw[List.length_zipWith];lia
def Go{b:TW}{c:As}{j:Nat}{p:cu×cu}{a:Ad}(d:b[j]? =some p)(e:c[j]? =some a):(a3v b c)[j]? =some (nk p.1,.ref a):=by
 unfold a3v;rw[List.getElem?_zipWith,d,e]
theorem oI: ∀{b:TW} {c:As} {x:cu},x∉b.map (·.1)->gM (a3v b c) (nk x)=none
 | [],_,_,_=>rfl
 |_::_,[],_,_=>rfl
 |p::b,a::c,x,h=>by
  have d: ¬(nk p.1:List dr)=nk x:=λz=>h (c7.mpr ⟨p,dP ..,vx z⟩);exact(t7 (p:=(nk p.1,V.ref a)) (r:=a3v b c) d).trans (oI λz=>h (fc _ z))
theorem xR: ∀{c:TW} {d:As} {j:Nat} {p:cu×cu} {a:Ad},(c.map (·.1)).Nodup->c[j]? =some p->d[j]? =some a->gM (a3v c d) (nk p.1)=some (.ref a)
 |q::c,b::d,0,p,a,_,e,f=>by
  cases e;cases f;exact vp (p:=(nk q.1,V.ref b)) (r:=a3v c d) rfl
 |q::c,b::d,j+1,p,a,nd,e,f=>by
  obtain⟨h,i⟩:=jc.mp nd;have g:c[j]? =some p:=by simpa using e
  have n: ¬(nk q.1:List dr)=nk p.1:=λz=>h (c7.mpr ⟨p,cW g,(vx z).symm⟩);exact(t7 (p:=(nk q.1,V.ref b)) (r:=a3v c d) n).trans (xR i g (by simpa using f))
 | [],_,_,_,_,_,e,_=>by simp at e
 |_::_,[],_,_,_,_,_,f=>by simp at f
structure WordsAt(H:Hp)(D:Ad)(ws:TW)(as:As):Prop where
 len:as.length=ws.length
 dict:H D=some (.dT (a3v ws as))
 list: ∀(j:Nat) (a:Ad) (p:cu×cu),as[j]? =some a->ws[j]? =some p->H a=some (.lst (p.2.map nv))
def WordsAt.same{H b:Hp}{D:Ad}{c:TW}{d:As}(W:WordsAt H D c d)(g:Same H b):WordsAt b D c d:=⟨W.len,g _ _ W.dict,λj a p e f=>g _ _ (W.list j a p e f)⟩
def WordsAt.word{H:Hp}{D:Ad}{b:TW}{c:As}{p:cu×cu}(W:WordsAt H D b c)(nd:(b.map (·.1)).Nodup)(f:p∈b): ∃a,gM (a3v b c) (nk p.1)=some (.ref a)/\H a=some (.lst (p.2.map nv)):=by
 obtain⟨j,e⟩:=fy.mp f;obtain⟨g,_⟩:=cK.mp e;obtain⟨a,d⟩: ∃a,c[j]? =some a:=⟨_,cA (by rw[W.len];exact g)⟩;exact⟨a,xR nd e d,W.list j a p d e⟩
def WordsAt.put{H:Hp}{D l:Ad}{c:TW}{e:As}{p:cu×cu}(W:WordsAt H D c e)(f:H l=some (.lst (p.2.map nv))):WordsAt (cw H D (.dT (a3v c e++[(nk p.1,.ref l)]))) D (c++[p]) (e++[l]):=by
 have g: ∀{a:Ad} {k:List V},H a=some (.lst k)->a≠D:=λh=>nE h W.dict;refine⟨by simp[W.len],by rw[cC,yB W.len],λj a q d b=>?_⟩;by_cases i:j<c.length
 .rw[e8 (by rw[W.len];exact i)]at d;rw[e8 i]at b;have z:=W.list j a q d b;rw[cF (g z)];exact z
 .rw[eU (by rw[W.len];lia)]at d;rw[eU (by lia)]at b;have z:j-c.length=0:=by
   have:=(cK.mp b).1;simp at this;lia
  rw[W.len,z]at d;rw[z]at b;cases d;cases b;rw[cF (g f)];exact f
def noT(H:Hp):Hp:=λa=>match H a with
 |some (.tbl _)=>none
 |o=>o
def nP{H:Hp}{a:Ad}{o:HO}(h:H a=some o)(n: ∀b,o≠ .tbl b):noT H a=some o:=by
 unfold noT;rw[h];cases o<;>first|rfl|exact wC rfl (n _)
def Mr:HO->Bool
 | .tbl _=>true
 |_=>false
def nU{H:Hp}{a:Ad}{o:HO}(h:H a=some o)(d:Mr o=false:=by rfl):noT H a=some o:=nP h λb e=>by subst e;cases d
def su{H:Hp}{a:Ad}{o:HO}(h:noT H a=some o):H a=some o/\ ∀b,o≠ .tbl b:=by
 unfold noT at h;split at h
 .cases h
 .rename_i n
  exact⟨h,λb z=>n b (by rw[h,z])⟩
def AM{H:Hp}{a:Ad}(h:H a=none):noT H a=none:=by
 unfold noT;rw[h]
def Keeps(H a:Hp):Prop:=Same (noT H) a
def Same.keeps{H b:Hp}(g:Same H b):Keeps H b:=λa o h=>g a o (su h).1
def Keeps.refl(H:Hp):Keeps H H:=(Same.refl H).keeps
def Keeps.trans{H d e:Hp}(a:Keeps H d)(b:Keeps d e):Keeps H e:=λc o h=>b c o (nP (a c o h) (su h).2)
def TabOk(a:Str)(pos:Pos)(H:Hp)(T:Ad):Prop:=H T=some (.tbl #[])∨ ∃b,H T=some (.tbl (iV pos b))/\H b=some (i0 b a)
def TabOk.same{a:Str}{pos:Pos}{H b:Hp}{T:Ad}(t:TabOk a pos H T)(g:Same H b):TabOk a pos b T:=by
 rcases t with t|⟨c,d,e⟩
 .exact .inl (g _ _ t)
 .exact .inr ⟨c,g _ _ d,g _ _ e⟩
def DefAt(K:W.Frag)(x:Str)(st:Stmt)(f:Ad)(b:Fd)(g e:Vl):Prop:=
 PySem.W.codeIn K e x=true/\(∃kV a pm h i,b=PySem.W.fnOf x x (jq st) (ik st) (cU st) g kV a pm h e i)/\ ∃c d sl,K.lookup f=some ⟨c,d,.func b,sl⟩
section
variable{P:Pg}{w:World}{K:W.Frag}{mg:SV}{base:Heap}{x:Str}{st:Stmt}{f:Ad}{fd:Fd}{dv cv:Vl}{N ps:Ss}{k:Nat}{sp:Sp}
def IS(P:Pg)(w:World)(K:W.Frag)(mg:SV)(base:Heap)(x:Str)(st:Stmt)(f:Ad)(cv:Vl)(N:Ss)(k:Nat)(sp:Sp):Prop:=
 ∀A a s H b Q E,sp b H Q E->Room k (A.deeper (envOfC x (cU st) s.heap.objs.size f cv))-> ∃t:TS,t ⟨λ_ c=>Q .non c,Q,λ_ _=>False,λ_ _=>False⟩ (start N b) H/\PSs (oU cZ P w K mg base N x (cU st) f cv A a s H E).nox (ik st) t
def DefAt.fnOk(d:DefAt K x st f fd dv cv)(i:FnScope N ps (cU st))(len: ∀e H Q E,sp e H Q E->e.length=ps.length)(b:IS P w K mg base x st f cv N k sp):FnOk P w K mg base cZ (k+1) f fd ps sp:=by
 obtain⟨a,⟨kV,j,pm,m,n,rfl⟩,_,_,_,lk⟩:=d;refine CO lk a i len λA c s H e Q E l g=>?_;obtain⟨t,q,h⟩:=b A c s H e Q E g l;exact⟨t,h.nox,q⟩
def wG(P:Pg)(w:World)(K:W.Frag)(mg:SV)(base:Heap)(x:Str)(k:Nat)(ps:Ss)(sp:Sp)(a:List V):Prop:=
 ∃f fd b,FnOk P w K mg base cZ k f fd ps sp/\mg x=some (.ref f)/\PySem.W.keepIn K (.ref f)=true/\Binds K fd ps b/\Vals a b
def FE{X:Cx}{x y:Str}{k j:Nat}{ps:Ss}{sp:Sp}{c:Ad}{a:List V}{e:Expr}{b:List Expr}{t:TA}{p pos:Pos}(l:wG X.prog X.w X.K X.mg X.base x k ps sp a)(m:Room k X.A)(n:Gl X x)(o:X.N[j]? =some y)(q:X.env.cells.lookup y=some c)
  (d:X.env.scope.names.lookup y=some .cell) (g:X.fn y=true) (r:PA X (e::b) t) (h:(x==("__debug__":Str))=false:=by decide) (s:starEach (e::b) X.env=(false,eval e X.env)::starEach b X.env:=by rfl)
  (i:(backTo pos (starEach b X.env)).any (·.1)=false:=by rfl):PE X (.Call (.Name x p) (e::b) [] pos) (ER sp a j c t):=by
 obtain⟨f,fd,B,F,u,v,z,A⟩:=l;exact Lp F m n u v z A o q d g r h s i
end
section
variable{X:Cx}
def D8(d e:TE):TE:=λc H Q=> ∀p,H p=none->d c (cw H p (.dT [])) λx f=>e c f λy a=>a p=some (.dT [])/\ ∃b k,x= .ref b/\a b=some (.tup (k.map kV))/\Q (.ref p) (cw a p (.dT [(k,y)]))
def Jd{k v:Expr}{A B:TE}{pos:Pos}(hu:X.A.units+1<cLine)(D:PE X k A)(E:PE X v B):PE X (.Dict [some k] [v] pos) (D8 A B):=by
 intro J s L H Q I q;have M:=I.hok.fresh (cM s.heap.objs.size);have N:=I.laid (a:=s.heap.objs.size) (o:= .dT []) (h':=s.heap.push {cls:= .type "dict",data:= .dict #[]}) (t':=s.toks) (λ_ _ q=>dI _ q) (cM _) (FX s.heap I.big);have pairs:=JX (X:=X) (pos:=pos) D E GY;have O:=q s.heap.objs.size M;rw[arm_eval_Dict];refine cy (pZ ?_);have d:(evalEachOpt [some k] X.env).zip ((evalEach [v] X.env).map λv=>do let x <-v;standAt pos;pure x)=(pairTrees [some k] [v] X.env pos).map λp=>(some p.1,p.2):=rfl;rw[d,dictDisplay_pairs _ (by intro z;cases z) (by show 1<17;decide)];refine cy ?_;unfold subDict;refine cy (wR (cy (gw ?_)));rw[wB (by show 1<=15;decide)]
 let G:List (V×V)->Hp->Prop:=λf i=>match f with| [(x,y)]=>i s.heap.objs.size=some (.dT [])/\ ∃b k,x= .ref b/\i b=some (.tup (k.map kV))/\Q (.ref s.heap.objs.size) (cw i s.heap.objs.size (.dT [(k,y)]))|_=>False
 refine cy (cP (pairs J _ L _ G N O) λT s2 ⟨f,i,l,m,g⟩=>?_);obtain⟨x,y,rfl⟩: ∃x y,f=[(x,y)]:=by
  cases f with
  |nil=>exact wE g
  |cons p f=>
   cases f with
   |nil=>exact⟨p.1,p.2,rfl⟩
   |cons _ _=>exact wE g
 obtain⟨e,b,c,rfl,n,U⟩:=g;obtain⟨u,r,rfl,Y,rr⟩: ∃u r,T=[(u,r)]/\RelV (.ref b) u/\RelV y r:=by
  cases m with
  | @cons _ q _ qs h t=>
   cases t;exact⟨q.1,q.2,rfl,h.1,h.2⟩
 cases Y;obtain⟨z,hd,xs,kt,dd⟩:=A1 l.hok e;cases kt;refine gw ?_;simp only[List.forIn_cons,List.forIn_nil];refine cy (cy (cy (wpAny_dictSet_heap (show X.A.units<cLine by lia) (sr l.hok n) dd (λh' w hs=>?_) (by show 0<=_;exact hJ _))));refine cG (cG (cG (cG ?_)));obtain⟨o,es,ep,C,h2,h3,h4,_,h5⟩:=w;have j:cw i s.heap.objs.size (.dT [(c,y)]) b=some (.tup (c.map kV)):=by
  rw[cF (nE n e)];exact n
 have ok:ObjOk X.prog X.w (cw i s.heap.objs.size (.dT [(c,y)])) h' s.heap.objs.size (.dT [(c,y)]):=⟨by show 1<=sizeLine;decide,hd,_,.cons ⟨rfl,j,rr⟩ .nil,o,es,ep,C,h2,h3,h4,h5⟩;exact cG ⟨.ref s.heap.objs.size,_,Aw l (by rw[e];exact True.intro) hs ⟨o,C⟩ ok,rfl,U⟩
end
def xv:Sp:=λa H Q _=> ∃d:Ad,a=[.ref d,.non]/\Q .non H
def oq(G:Hp->Prop)(U:LN)(L:Nat)(g:cu->Nat->List Nat):Sp:=λa H Q _=> ∃(t:Ad) (x:cu) (l:Nat),a=[.ref t,nv l]/\G H/\H t=some (.tup (x.map nv))/\x∈U/\l<L/\rm H ((g x l).map nv) Q
def ThAt(H:Hp)(l:Ad)(b:TW):Prop:= ∃a:As,H l=some (.lst (a.map .ref))/\a.length=b.length/\ ∀(j:Nat) (t:Ad) (p:cu×cu),a[j]? =some t->b[j]? =some p->H t=some (.tup (p.1.map nv))
def ThAt.same{H a:Hp}{l:Ad}{b:TW}(h:ThAt H l b)(g:Same H a):ThAt a l b:=by
 obtain⟨c,d,e,f⟩:=h;exact⟨c,g _ _ d,e,λj t p i k=>g _ _ (f j t p i k)⟩
def ThAt.more{H:Hp}{l t:Ad}{c:TW}{d:As}{p:cu×cu}(i:H l=some (.lst (d.map .ref)))(f:d.length=c.length)(k: ∀(j:Nat) (t:Ad) (p:cu×cu),d[j]? =some t->c[j]? =some p->H t=some (.tup (p.1.map nv)))(ht:H t=some (.tup (p.1.map nv))):
  ThAt (cw H l (.lst (d.map .ref++[.ref t]))) l (c++[p]):=by
 have g: ∀{a:Ad} {m:List V},H a=some (.tup m)->a≠l:=λh=>nE h i;refine⟨d++[t],by rw[cC,eE];rfl,by simp[f],λj a q e b=>?_⟩;by_cases n:j<c.length
 .rw[e8 (by lia)]at e;rw[e8 n]at b;have z:=k j a q e b;rw[cF (g z)];exact z
 .rw[eU (by lia)]at e;rw[eU (by lia)]at b;have z:j-c.length=0:=by
   have:=(cK.mp b).1;simp at this;lia
  rw[f,z]at e;rw[z]at b;cases e;cases b;rw[cF (g ht)];exact ht
structure Srch(H0 H:Hp)(D wa fa:Ad)(ts:As)(ws wv fo:TW)(as:As):Prop where
 g:Same H0 H
 nD:H0 D=none
 nF:H0 fa=none
 W:WordsAt H D ws as
 wl:H wa=some (.lst (ts.map .ref))
 wt: ∀(j:Nat) (t:Ad) (p:cu×cu),ts[j]? =some t->wv[j]? =some p->H t=some (.tup (p.1.map nv))
 foll:ThAt H fa fo
 wf:wa≠fa
 fas:fa∉as
 new: ∀b∈as,H0 b=none
def Srch.same{a H b:Hp}{D c fa:Ad}{d:As}{e f g:TW}{h:As}(S:Srch a H D c fa d e f g h)(k:Same H b):Srch a b D c fa d e f g h:=
 ⟨S.g.trans k,S.nD,S.nF,S.W.same k,k _ _ S.wl,λj t p i l=>k _ _ (S.wt j t p i l),S.foll.same k,S.wf,S.fas,S.new⟩
def Srch.more{k H:Hp}{D n fa l t:Ad}{v:As}{f w g:TW}{i d:As}{p:cu×cu}(S:Srch k H D n fa v f w g i)(A:H l=some (.lst (p.2.map nv)))(x:l≠fa)(B:k l=none)(ht:H t=some (.tup (p.1.map nv)))
  (o:H fa=some (.lst (d.map .ref))) (C:d.length=g.length) (E: ∀(j:Nat) (t:Ad) (p:cu×cu),d[j]? =some t->g[j]? =some p->H t=some (.tup (p.1.map nv))):
  Srch k (cw (cw H D (.dT (a3v f i++[(nk p.1,.ref l)]))) fa (.lst (d.map .ref++[.ref t]))) D n fa v (f++[p]) w (g++[p]) (i++[l]):=by
 have y:fa≠D:=nE o S.W.dict;have r: ∀{a:Ad} {s:List V},H a=some (.tup s)->a≠D:=λh=>nE h S.W.dict;have G:n≠D:=nE S.wl S.W.dict;have I: ∀{a:Ad} {s:List V},H a=some (.tup s)->a≠fa:=λh=>nE h o;have u:=S.W.put (l:=l) (p:=p) A;have J:(cw H D (.dT (a3v f i++[(nk p.1,.ref l)]))) fa=some (.lst (d.map .ref)):=by rw[cF y];exact o
 refine⟨fQ (fQ S.g S.nD) S.nF,S.nD,S.nF,⟨u.len,?_,λj a q c e=>?_⟩,?_,λj a q c e=>?_,?_,S.wf,?_,λb L=>(dw.mp L).elim (S.new b) λm=>by rw[dj.mp m];exact B⟩
 .rw[cF (eJ y)];exact u.dict
 .have M:a≠fa:=λz=>by
   subst z
   rcases dw.mp (cW c)with m|m
   .exact S.fas m
   .exact x (dj.mp m).symm
  rw[cF M];exact u.list j a q c e
 .rw[cF S.wf,cF G];exact S.wl
 .have z:=S.wt j a q c e;rw[cF (I z),cF (r z)];exact z
 .refine ThAt.more J C (λj a q c e=>?_) ?_
  .have z:=E j a q c e;rw[cF (r z)];exact z
  .rw[cF (r ht)];exact ht
 .intro m
  rcases dw.mp m with m|m
  .exact S.fas m
  .exact x (dj.mp m).symm
section
variable{X:Cx}{H0:Hp}{a st D wa fa:Ad}{sd:Fd}{ps:Ss}{x0:cu}{L:Nat}{U:LN}{g:cu->Nat->List Nat}
abbrev Fj(X:Cx):TS:=l8 (lR (Dx X 2 (jo (fI 7) (jo (fI 8) jd))) (gE 9)) (sS (tB (Cr (fI 9) (fI 4)))
 (l8 (EW (fI 4) (fI 9) (sG (E4 X.K) (Eo (fI 4) (fI 7)) (uI (jo (fI 8) jd)))) (l8 (wP (vX xv [] E0 (jo (fI 4) (jo (fI 3) jd)))) (wP (wN X.K "list" E7 (fI 6) (jo (fI 9) jd))))) EN)
def HS{d i j:Nat}{k C y:TW}{O ts:As}{o:Ad}{t:cu×cu}{H:Hp}{En:Ends}{o9:Option V}(hr:Room 5 X.A)(E:H0 st=some (hE st sd))(h0:x0∈U)(hU: ∀x∈U,∀l,l<L->g x l∈U)(few:U.length<=4000)
  (hF:FnOk X.prog X.w X.K X.mg X.base cZ 5 st sd ps (oq (Same H0) U L g)) (hB:Binds X.K sd ps []) (B:Bfs g L x0 d k C y i j) (ht:C[i]? =some t) (hj:j<L) (hd:d+1<=k.length) (S:Srch H0 H D wa fa ts k C y O) (G:H o=some (.tup (t.1.map nv)))
  (next: ∀s u aa H' v,Bfs g L x0 d s C u i (j+1)->Srch H0 H' D wa fa ts s C u aa->s.length+y.length=k.length+u.length->H' o=some (.tup (t.1.map nv))->En.nx [some (.ref a),some (nv L),some (.ref st),some .non,some (.ref D),some (.ref wa),some (.ref fa),some (.ref o),some (nv j),some v] H'):
  Fj X En [some (.ref a),some (nv L),some (.ref st),some .non,some (.ref D),some (.ref wa),some (.ref fa),some (.ref o),some (nv j),o9] H:=by
 have tw:=(B.wave t (cW ht)).1;have tU:t.1∈U:=by
  obtain⟨Q,T⟩:=B.run t tw;rw[<-T];exact qo h0 hU t.2 Q
 have af:k.length<=4000:=by
  have z:(k.map (·.1)).length<=U.length:=nV B.keys λx hx=>by
   obtain⟨p,n,rfl⟩:=c7.mp hx;obtain⟨Q,T⟩:=B.run p n;rw[<-T];exact qo h0 hU p.2 Q
  rw[cz]at z;lia
 refine⟨_,rfl,st,sd,rfl,S.g _ _ E,_,rfl,_,rfl,S.g _ _ E,5,ps,_,hF,hr,hB,o,t.1,j,rfl,S.g,G,tU,hj,λfn Y g1 A=>?_⟩;have r:=S.same g1;have m:=g1 _ _ G;refine⟨_,rfl,_,rfl,D,_,rfl,DGet.t r.W.dict (by rw[ip];exact A),_,rfl,?_⟩;by_cases I:g t.1 j∈k.map (·.1)
 .obtain⟨p,n,e⟩:=c7.mp I;obtain⟨c,v1,_⟩:=r.W.word B.keys n;rw[<-e,v1];rw[wA (by simp)];exact next k y O Y _ (B.old ht I) r rfl m
 .rw[oI I];refine fm ?_;obtain⟨tw,tl⟩:=B.wave t (cW ht);obtain⟨c,v1,v2⟩:=r.W.word B.keys tw;have dg:DGet Y D (.ref o) (some (.ref c)):=v1▸DGet.t r.W.dict (by rw[ip];exact m);refine⟨_,rfl,_,rfl,D,_,rfl,dg,_,rfl,by show 1<=sizeLine;decide,λp n=>?_⟩;have k2:=cL n (.lst [nv j]);refine⟨c,p,_,_,rfl,rfl,SqL.of (k2 _ _ v2),SqL.of cC,by rw[cz,tl,dC];show d+1<=_;lia,λl hl=>?_⟩;have k3:=k2.trans (cL hl (.lst (t.2.map nv++[nv j])));have w:=r.same k3;have e3:=k3 _ _ A;have J:cw (cw Y p (.lst [nv j])) l (.lst (t.2.map nv++[nv j])) l=some (.lst ((t.2++[j]).map nv)):=by rw[cC,eE];rfl
  have b:=k3 _ _ m;obtain⟨tf,M,f2,f3⟩:=w.foll;have lf:l≠fa:=λz=>by
   obtain⟨_,q1,_⟩:=r.foll;have q2:=k2 _ _ q1;rw[<-z,hl]at q2;cases q2
  generalize cw (cw Y p (.lst [nv j])) l (.lst (t.2.map nv++[nv j]))=H3 at w e3 J b M f3⊢;refine⟨_,rfl,_,rfl,D,_,rfl,DPut.t w.W.dict (by rw[ip];exact e3) (by rw[Cz w.W.len,dC];lia),?_⟩;rw[zn _ (oI I)];have fD:fa≠D:=nE M w.W.dict;have ab:o≠D:=nE b w.W.dict;have ae:o≠fa:=nE b M;have N:(cw H3 D (.dT (a3v k O++[(nk (g t.1 j),.ref l)]))) fa=some (.lst (tf.map .ref)):=by rw[cF fD];exact M
  have fl:tf.length<=4000:=by
   have z:(y.map (·.1)).length<=k.length:=by
    rw[<-cz (f:=(·.1)) (as:=k)];refine nV ?_ λx hx=>?_
    .refine(si.mpr (B.fup.imp_of_mem λ{p q} n hq h z=>?_));have Q:=(B.run p (B.foll p n).1).2;have T:=(B.run q (B.foll q hq).1).2;obtain⟨i1,A⟩:=fy.mp (B.foll p n).1;obtain⟨i2,e2⟩:=fy.mp (B.foll q hq).1;have ii:i1=i2:=(im (by rw[cz];exact(cK.mp A).1) B.keys).mp (by rw[cQ,cQ,A,e2];exact dL some z);subst ii;rw[A]at e2;cases e2;exact xD h
    .obtain⟨p,n,rfl⟩:=c7.mp hx;exact c7.mpr ⟨p,(B.foll p n).1,rfl⟩
   rw[cz]at z;lia
  refine⟨_,rfl,_,rfl,D,rfl,_,rfl,.inl ⟨rfl,_,SqL.of N⟩,_,rfl,fa,_,_,rfl,rfl,N,by rw[cz,dC];lia,?_⟩;exact next (k++[(g t.1 j,t.2++[j])]) (y++[(g t.1 j,t.2++[j])]) (O++[l]) _ _ (B.new ht hj I) (w.more (p:=(g t.1 j,t.2++[j])) J lf ((r.g.trans k2).free hl) e3 M f2 f3) (by simp;lia) (by rw[cF ae,cF ab];exact b)
abbrev DT(X:Cx):TS:=oK (FU X.K (fI 5)) (gE 7) (oK (F5 (jo (fI 1) jd)) (gE 8) (Fj X))
def Lx{d:Nat}{b f:TW}{s q:As}{H:Hp}{En:Ends}{r k m:Option V}(hr:Room 5 X.A)(I:H0 st=some (hE st sd))(h0:x0∈U)(hU: ∀x∈U,∀l,l<L->g x l∈U)(few:U.length<=4000)(T:L<=4000)
  (hF:FnOk X.prog X.w X.K X.mg X.base cZ 5 st sd ps (oq (Same H0) U L g)) (hB:Binds X.K sd ps []) (B:Bfs g L x0 d b f [] 0 0) (hd:d+1<=b.length) (S:Srch H0 H D wa fa q b f [] s) (lt:q.length=f.length)
  (next: ∀c e h n r k m,Bfs g L x0 d c f e f.length 0->Srch H0 n D wa fa q c f e h->c.length=b.length+e.length->En.nx [some (.ref a),some (nv L),some (.ref st),some .non,some (.ref D),some (.ref wa),some (.ref fa),r,k,m] n):
  DT X En [some (.ref a),some (nv L),some (.ref st),some .non,some (.ref D),some (.ref wa),some (.ref fa),r,k,m] H:=by
 let Pv:Nat->L2.St->Hp->Prop:=λi o n=> ∃c e h r k m,Bfs g L x0 d c f e i 0/\Srch H0 n D wa fa q c f e h/\c.length=b.length+e.length/\
  o=[some (.ref a),some (nv L),some (.ref st),some .non,some (.ref D),some (.ref wa),some (.ref fa),r,k,m]
 refine⟨_,rfl,wa,rfl,⟨_,SqL.of S.wl⟩,mv (xs:=q.map .ref) Pv ⟨b,[],s,r,k,m,B,S,by simp,rfl⟩ (λi o n _ p=>?_) (λi x o n Y p=>?_) (λo n p=>?_)⟩
 .obtain⟨_,_,_,_,_,_,_,u,_⟩:=p;exact SqL.of u.wl
 .obtain⟨c,e,h,p7,J,M,E,u,N,rfl⟩:=p;rw[cQ]at Y;obtain⟨th,w,rfl⟩:=eC.mp Y;obtain⟨hi,_⟩:=cK.mp w;obtain⟨t,ht⟩: ∃t,f[i]? =some t:=⟨_,cA (by lia)⟩
  let Pj:Nat->L2.St->Hp->Prop:=λj o O=> ∃c e h k m,Bfs g L x0 d c f e i j/\Srch H0 O D wa fa q c f e h/\c.length=b.length+e.length/\
   o=[some (.ref a),some (nv L),some (.ref st),some .non,some (.ref D),some (.ref wa),some (.ref fa),some (.ref th),k,m]
  refine⟨_,rfl,(L:Int),rfl,by lia,by lia,vC Pj ⟨c,e,h,J,M,E,u,N,rfl⟩ (λj o O hj p=>?_) (λo O p=>?_)⟩
  .obtain⟨y,A,C,q8,q9,Q,G,l2,rfl⟩:=p;have z:(0:Int)+((j:Nat):Int)=((j:Nat):Int):=by lia
   rw[z];refine HS (t:=t) hr I h0 hU few hF hB Q ht (by simpa using hj) (by lia) G (G.wt i th t w ht) λw3 f3 a3 H3 v B3 S3 l3 _=>⟨w3,f3,a3,_,_,B3,S3,by lia,rfl⟩
  .obtain⟨y,A,C,q8,q9,Q,G,l2,rfl⟩:=p;exact⟨y,A,C,_,_,_,Bfs.next (by simpa using Q) ht,G,l2,rfl⟩
 .obtain⟨c,e,h,p7,J,M,E,u,N,rfl⟩:=p;rw[cz,lt]at E;exact next c e h n p7 J M E u N
abbrev Kv(X:Cx):TS:=l8 (lR (D8 (fI 0) (uI jd)) (gE 4)) (l8 (wP (vX xv [] E0 (jo (fI 4) (jo (fI 3) jd)))) (l8 (lR (uI (jo (fI 0) jd)) (gE 5))
 (l8 (Fq (λd b Q=>fI 5 d b λx c=> ∃k,pO X.K x c k/\Q k c) (l8 (lR (uI jd) (gE 6)) (l8 (DT X) (lR (fI 6) (gE 5))))) (sH (fI 4)))))
def IT{d i j:Nat}{b c e:TW}(h:x0∈U)(k: ∀x∈U,∀l,l<L->g x l∈U)(B:Bfs g L x0 d b c e i j):b.length<=U.length:=by
 rw[<-cz (f:=(·.1)) (as:=b)];exact nV B.keys λx m=>by
  obtain⟨p,n,rfl⟩:=c7.mp m;obtain⟨o,q⟩:=B.run p n;rw[<-q];exact qo h k p.2 o
def HR{En:Ends}(hr:Room 5 X.A)(ha:H0 a=some (.tup (x0.map nv)))(J:H0 st=some (hE st sd))(h0:x0∈U)(hU: ∀x∈U,∀l,l<L->g x l∈U)(few:U.length<=4000)(v:L<=4000)
  (hF:FnOk X.prog X.w X.K X.mg X.base cZ 5 st sd ps (oq (Same H0) U L g)) (hB:Binds X.K sd ps []) (q: ∀D f k u,Same H0 u->WordsAt u D f k->(∀b∈D::k,H0 b=none)->Told g L x0 f->En.rt (.ref D) u):
  Kv X En [some (.ref a),some (nv L),some (.ref st),some .non,none,none,none,none,none,none] H0:=by
 intro D C;have M:=cL C (.dT []);refine⟨_,rfl,by show 0<=sizeLine;decide,λl E=>?_⟩;have N:=cL E (.lst []);refine⟨N _ _ cC,a,nk x0,rfl,by rw[ip];exact(M.trans N) _ _ ha,?_⟩;have lD:l≠D:=λz=>by
  subst z;rw[cC]at E;cases E
 have W0:WordsAt (cw (cw (cw H0 D (.dT [])) l (.lst [])) D (.dT [(nk x0,.ref l)])) D [(x0,[])] [l]:=⟨rfl,cC,λj b p n w=>by
  cases j with
  |zero=>
   cases n;cases w;rw[cF lD,cC];rfl
  |succ j=>simp at n⟩
 have g0:Same H0 (cw (cw (cw H0 D (.dT [])) l (.lst [])) D (.dT [(nk x0,.ref l)])):=fQ (M.trans N) C;generalize cw (cw (cw H0 D (.dT [])) l (.lst [])) D (.dT [(nk x0,.ref l)])=H1 at W0 g0⊢;refine⟨_,rfl,_,rfl,D,rfl,_,rfl,by show 1<=sizeLine;decide,λwa hw=>?_⟩;have O:=cL hw (.lst [.ref a])
 let Wv:Nat->L2.St->Hp->Prop:=λm σ H=> ∃(d:Nat) (f r:TW) (k:As) (wa:Ad) (i:As) (o6 o7 o8 o9:Option V),Bfs g L x0 d f r [] 0 0/\WordsAt H D f k/\H wa=some (.lst (i.map .ref))/\(∀(j:Nat) (t:Ad) (p:cu×cu),i[j]? =some t->r[j]? =some p->H t=some (.tup (p.1.map nv)))/\i.length=r.length/\Same H0 H/\(∀b∈k,H0 b=none)/\
   (r≠[]->d+1<=f.length)/\m=2 * (U.length-f.length)+(if r=[]then 0 else 1)/\σ=[some (.ref a),some (nv L),some (.ref st),some .non,some (.ref D),some (.ref wa),o6,o7,o8,o9]
 refine⟨Wv,⟨_,0,[(x0,[])],[(x0,[])],[l],wa,[a],none,none,none,none,Bfs.start,W0.same O,cC,?_,rfl,g0.trans O,λb Q=>(by rw[dj.mp Q];exact M.free E),λ_=>cM _,rfl,rfl⟩,λm σ H P=>?_⟩
 .intro j t p n w;cases j with
  |zero=>
   cases n;cases w;exact(g0.trans O) _ _ ha
  |succ j=>simp at n
 .obtain⟨d,f,r,k,wa,i,o6,o7,o8,o9,B,W,T,wt,lt,Y,nw,s,hm,rfl⟩:=P;refine⟨_,rfl,!(i.map V.ref).isEmpty,.inl ⟨_,SqL.of T,rfl⟩,?_⟩;by_cases c:r=[]
  .subst c;have e:i=[]:=nX.mp lt;subst e;rw[wA (by simp)];exact⟨_,rfl,q D f k H Y W (λb Q=>(dQ.mp Q).elim (λe=>e▸C) (nw b)) B.told⟩
  .have ne:i≠[]:=λz=>c (nX.mp (by rw[<-lt,z];rfl));have c1:(!(i.map V.ref).isEmpty)=true:=by
    cases i with
    |nil=>exact wC rfl ne
    |cons=>rfl
   rw[c1];refine fm ?_;refine⟨λy u=> ∃m',m'<m/\Wv m' y u,λy u h=>h,by show 0<=sizeLine;decide,λfa o=>?_⟩;have G:=cL o (.lst []);have aa:fa∉k:=λm=>by
    obtain⟨j,e⟩:=fy.mp m;obtain⟨hj,_⟩:=cK.mp e;have z:=W.list j fa _ e (cA (by rw[<-W.len];exact hj));rw[o]at z;cases z
   have S:Srch H0 (cw H fa (.lst [])) D wa fa i f r [] k:=⟨Y.trans G,C,Y.free o,W.same G,G _ _ T,λj t p n w=>G _ _ (wt j t p n w),⟨[],cC,rfl,λj t p n _=>by simp at n⟩,dO T o,aa,nw⟩;refine Lx (En:={En with nx:=_,ct:=_,bk:=_}) hr J h0 hU few v hF hB B (s c) S lt λA fo ab u p7 p8 p9 B' I l'=>?_;obtain⟨tf,f1,f2,f3⟩:=I.foll;have z1:=IT h0 hU B';have z2:=s c;refine⟨_,rfl,2 * (U.length-A.length)+(if fo=[]then 0 else 1),?_,d+1,A,fo,ab,fa,tf,_,_,_,_,B'.wave',I.W,f1,f3,f2,I.g,I.new,λnf=>?_,rfl,rfl⟩
   .rw[hm,wA c];by_cases hf:fo=[]
    .subst hf;rw[wB rfl];simp at l';lia
    .have:=List.length_pos_iff.mpr hf;rw[wA hf];lia
   .have:=List.length_pos_iff.mpr nf;lia
end
def JQ{g:TW}{d:As}{k:List dr}{a:Ad}(h:gM (a3v g d) k=some (.ref a)):a∈d:=by
 unfold gM at h;obtain⟨m,j,l⟩:=eC.mp h;obtain⟨i,c⟩:=fy.mp (List.mem_of_find?_eq_some j);unfold a3v at c;rw[List.getElem?_zipWith]at c;cases e:g[i]? with
 |none=>rw[e]at c;cases c
 | some p=>
  cases f:d[i]? with
  |none=>rw[e,f]at c;cases c
  |some b=>
   rw[e,f]at c;cases c;cases l;exact cW f
section
variable{X:Cx}
def Ai(K:W.Frag)(a:Bool):R2:=λx y H Q=> ∃(l:Ad) (n:Nat) (d:Dt) (c:List Dt) (e:List V),y= .ref l/\SqL K H l e/\e.length=c.length/\Rep K H n d x/\(∀(i:Nat) f v,c[i]? =some f->e[i]? =some v->Rep K H n f v)/\n<=30/\ ∀b,(b=true↔d∈c)->Q (.bl (if a then !b else b)) H
def Eg{K:W.Frag}{H:Hp}{n:Nat}{d f:Dt}{y z:V}{u:Vl}(g:Rep K H n d y)(j:Rep K H n f z)(k:RelV y u)(l:RelV z u):y=z:=by
 have c: ∀{y:V} {d:Dt},Rep K H n d y->RelV y u->(y= .non/\u= .none)∨(∃i t,y= .int i/\u= .int i t)∨(∃x t,y= .str x/\u= .str x t)∨ ∃a,y= .ref a/\u= .ref a:=λh r=>by
  cases h with
  |non=>exact .inl ⟨rfl,r⟩
  |int _ i=>
   obtain⟨t,e⟩:=r;exact .inr (.inl ⟨i,t,rfl,e⟩)
  |str _ x=>
   obtain⟨t,e⟩:=r;exact .inr (.inr (.inl ⟨x,t,rfl,e⟩))
  |lst=>exact .inr (.inr (.inr ⟨_,rfl,r⟩))
  |tup=>exact .inr (.inr (.inr ⟨_,rfl,r⟩))
 rcases c g k with⟨rfl,e⟩|⟨i,t,rfl,e⟩|⟨x,t,rfl,e⟩|⟨a,rfl,e⟩<;>rcases c j l with⟨rfl,b⟩|⟨o,m,rfl,b⟩|⟨p,m,rfl,b⟩|⟨q,rfl,b⟩<;>rw[e]at b<;>cases b<;>rfl
def Ip{M:AO}{N:St}{H:Hp}{s:Sh}{x:V}{v:Vl}{n:Nat}{d:Dt}{k:List Dt}{l:List V}{c:Vs}(hu:X.A.units+64<cLine)(I:Inv X M N H s)(O:RelV x v)(r:Vals l c)(hl:l.length=k.length)(Q:Rep X.K H n d x)
  (q: ∀(i:Nat) a v,k[i]? =some a->l[i]? =some v->Rep X.K H n a v) (hn:n<=30): ∃e:Vl->Bool,(∀u∈c,SeqAt.EqAt X.A.in1 s u v (e u))/\(c.any e=true↔d∈k):=by
 have one: ∀(i:Nat) u,c[i]? =some u-> ∃b a,k[i]? =some a/\SeqAt.EqAt X.A.in1 s u v b/\(b=true↔a=d):=λi u g=>by
  obtain⟨C,_⟩:=cK.mp g;have t:=r.length;obtain⟨y,m⟩: ∃y,l[i]? =some y:=⟨_,cA (by lia)⟩;obtain⟨a,o⟩: ∃a,k[i]? =some a:=⟨_,cA (by lia)⟩;obtain⟨u',p,T⟩:=Vals.get r m;rw[g]at p;cases p;obtain⟨b,w,G⟩:=uD I n (A:=X.A.in1) (by show X.A.units+1+n<cLine;lia) (q i a y o m) Q T O;exact⟨b,a,o,w,G⟩
 have f: ∀u,∃b,(∃i:Nat,c[i]? =some u)->SeqAt.EqAt X.A.in1 s u v b/\ ∃(i:Nat) (a:Dt),c[i]? =some u/\k[i]? =some a/\(b=true↔a=d):=λu=>by
  by_cases h: ∃i:Nat,c[i]? =some u
  .obtain⟨i,B⟩:=h;obtain⟨b,a,C,t,w⟩:=one i u B;exact⟨b,λ_=>⟨t,i,a,B,C,w⟩⟩
  .exact⟨true,λz=>wC z h⟩
 refine⟨λu=>Classical.choose (f u),λu g=>(oT (f u) (fy.mp g)).1,?_⟩;rw[wk];constructor
 .rintro⟨u,g,U⟩;obtain⟨_,i,a,C,t,w⟩:=oT (f u) (fy.mp g);rw[<-w.mp U];exact cW t
 .intro Y;obtain⟨i,o⟩:=fy.mp Y;obtain⟨C,_⟩:=cK.mp o;have t:=r.length;obtain⟨u,p⟩: ∃u,c[i]? =some u:=⟨_,cA (by lia)⟩;refine⟨u,cW p,?_⟩;obtain⟨_,j,a,g1,D,g3⟩:=oT (f u) ⟨i,p⟩;refine g3.mpr ?_;obtain⟨y,m⟩: ∃y,l[i]? =some y:=⟨_,cA (by lia)⟩;obtain⟨G,_⟩:=cK.mp D;obtain⟨z,E⟩: ∃z,l[j]? =some z:=⟨_,cA (by lia)⟩;obtain⟨u1,J,r1⟩:=Vals.get r m;obtain⟨u2,L,r2⟩:=Vals.get r E;rw[p]at J;rw[g1]at L;cases J;cases L;have yz:y=z:=Eg (q i d y o m) (q j a z D E) r1 r2;subst yz;exact AE I n (q j a y D E) (q i d y o m)
def GB(b:X.A.units+64<cLine):OpR X (compareOp .NotIn) (Ai X.K true):=by
 intro z s A H x y v u Q I c f h;obtain⟨l,n,d,B,C,rfl,g,i,j,k,m,q⟩:=h;cases f;obtain⟨a,r,o,D⟩:=I.list g;obtain⟨e,p,t⟩:=Ip b I c r i j k m;refine SeqAt.notIn_listAt e o.isList (λw hw=>p w (by simpa using hw)) ⟨.bl _,H,I,rfl,?_⟩;rw[show a.toArray.any e=a.any e by simp];exact q _ t
def Gp{x y:Str}{p q e:Pos}{k:Nat}{a:Scope}(S:CompScope X [x,y] a)(f:X.calm=true)(b:a.names.lookup x=some .local)(c:a.names.lookup y=some .local):
  ∀C s H d,PG (ga X [x,y] a C s H d) (.Tuple [.Name x p,.Name y q] k e) (pI X.K 2 (sD (gE 0) (sD (gE 1) pG))):=λC s H d=>
 mH f (gG (eQ S.nd rfl (.inl (n9 b)) (.inr (n9 b))) (gG (eQ S.nd rfl (.inl (n9 c)) (.inr (n9 c))) md))
end
section
variable{X:Cx}
def Ci(K:W.Frag):V->List V->Hp->VK->Prop:=λx e H Q=> ∃(l:Ad) (y:V) (n:Nat) (d:Dt) (a:List Dt) (b:List V) (j:Nat),x= .ref l/\e=[y]/\SqL K H l b/\b.length=a.length/\Rep K H n d y/\(∀(i:Nat) c v,a[i]? =some c->b[i]? =some v->Rep K H n c v)/\n<=30/\a[j]? =some d/\(∀i:Nat,i<j->a[i]? ≠some d)/\Q (.int (j:Nat)) H
def G0{M:AO}{N:St}{H:Hp}{s:Sh}{x:V}{v:Vl}{n:Nat}{d:Dt}{k:List Dt}{l:List V}{c:Vs}(hu:X.A.units+64<cLine)(I:Inv X M N H s)(O:RelV x v)(r:Vals l c)(hl:l.length=k.length)(Q:Rep X.K H n d x)
  (p: ∀(i:Nat) a v,k[i]? =some a->l[i]? =some v->Rep X.K H n a v) (hn:n<=30): ∃e:Vl->Bool,(∀u∈c,SeqAt.EqAt X.A.in1 s u v (e u))/\ ∀(i:Nat) u a,c[i]? =some u->k[i]? =some a->(e u=true↔a=d):=by
 have E:=r.length;have one: ∀(i:Nat) u,c[i]? =some u-> ∃b a,k[i]? =some a/\SeqAt.EqAt X.A.in1 s u v b/\(b=true↔a=d):=λi u g=>by
  obtain⟨w,_⟩:=cK.mp g;obtain⟨y,m⟩: ∃y,l[i]? =some y:=⟨_,cA (by lia)⟩;obtain⟨a,o⟩: ∃a,k[i]? =some a:=⟨_,cA (by lia)⟩;obtain⟨u',q,T⟩:=Vals.get r m;rw[g]at q;cases q;obtain⟨b,B,G⟩:=uD I n (A:=X.A.in1) (by show X.A.units+1+n<cLine;lia) (p i a y o m) Q T O;exact⟨b,a,o,B,G⟩
 have f: ∀u,∃b,(∃i:Nat,c[i]? =some u)->SeqAt.EqAt X.A.in1 s u v b/\ ∃(i:Nat) (a:Dt),c[i]? =some u/\k[i]? =some a/\(b=true↔a=d):=λu=>by
  by_cases h: ∃i:Nat,c[i]? =some u
  .obtain⟨i,t⟩:=h;obtain⟨b,a,w,E,B⟩:=one i u t;exact⟨b,λ_=>⟨E,i,a,t,w,B⟩⟩
  .exact⟨true,λz=>wC z h⟩
 refine⟨λu=>Classical.choose (f u),λu g=>(oT (f u) (fy.mp g)).1,λi u d0 q o=>?_⟩;obtain⟨_,j,a,U,C,Y⟩:=oT (f u) ⟨i,q⟩;rw[Y];obtain⟨w,_⟩:=cK.mp o;obtain⟨y,m⟩: ∃y,l[i]? =some y:=⟨_,cA (by lia)⟩;obtain⟨G,_⟩:=cK.mp C;obtain⟨z,D⟩: ∃z,l[j]? =some z:=⟨_,cA (by lia)⟩;obtain⟨u1,J,r1⟩:=Vals.get r m;obtain⟨u2,L,r2⟩:=Vals.get r D;rw[q]at J;rw[U]at L;cases J;cases L;have yz:y=z:=Eg (p i d0 y o m) (p j a z C D) r1 r2;subst yz;have dd:a=d0:=AE I n (p j a y C D) (p i d0 y o m);rw[dd]
def u5(w:X.A.units+64<cLine):pc X "list.index" (Ci X.K):=by
 intro za s σ H x vs v us Q I A B h;obtain⟨l,y,m,d,C,xs,j,rfl,rfl,D,E,G,J,L,f,no,q⟩:=h;cases A;obtain⟨u,rfl,M⟩:=B.one;obtain⟨a,r,⟨⟨c1,d1,k1,N⟩,n,e,g,i,o⟩,O⟩:=I.list D;simp only at g i o;subst g i o;obtain⟨b,T,p⟩:=G0 w I M r E G J L;have lr:=r.length;have lj:=(cK.mp f).1;rw[dC]at O;refine oV F.slot_list_index ⟨_,e,rfl⟩ F.entry_list_index (F.args_list_index_2 _ _) (SeqAt.list_indexAt l a.toArray n none N u b j (by simp only[List.size_toArray];lia) (by lia) ?_ ?_)
  ⟨e,λy U=>T y (by simpa using U),⟨.int (j:Nat),H,I.tok _,⟨_,rfl⟩,q⟩⟩
 .show b a[j]=true;exact(p j _ d (cA (by lia)) f).mpr rfl
 .intro k Y c;show b a[k]=false;have t:k<C.length:=by lia
  cases z:b a[k]with
  |false=>rfl
  |true=>
   have z2:=(p k _ _ (cA (by lia)) (cA t)).mp z;exact wC (by rw[cA t,z2]) (no k c)
def GP{X:Cx}{K:W.Frag}{e:Expr}{T:String}{to:TE}{t:TA}(r:W.Frag->V->List V->Hp->VK->Prop)(a:X.K=K)(h:PE X e (wN X.K T (r X.K) to t)):PE X e (wN K T (r K) to t):=a▸h
end
section
variable{P:Pg}{w:World}{A:Ar}{E:VP}{s:Sh}{it d:Ad}{i ep:Nat}{es:Array DictEntry}
abbrev nM(d:Ad)(i n ep:Nat):Obj:={cls:= .type "dict_keyiterator",data:= .fields #[.ref d,.int i 0,.int n 0,.int ep 0]}
def DU{c:DictEntry}{Q:Option Vl->Sh->Prop}(G:s.heap.get? it=some (nM d i es.size ep))(L:Lies s.heap d es ep)(m:es[i]? =some c)
  (q: ∀g,g.get? it=some (nM d (i+1) es.size ep)->Heap.SameBut it s.heap g->Q (some c.key) {s with heap:=g}):wpAny (model P w) A (pyNext (.ref it)) Q E s:=by
 obtain⟨o,k,_,l⟩:=L;have ty:s.TypeIs (.ref it) "dict_keyiterator":=⟨_,G,rfl⟩;unfold pyNext;refine cy (nS (pE (name:=Str.ofString "__next__") ty pJ (i6 pJ ty CB ?_ (Cq _))));refine cy (cG (cy (cy ?_)));refine cy (wS ty (cG (cy (qm G rfl ?_))));have a:Builtin.Dict_items.ownsTuple "dict_keyiterator"=false:=by decide
 simp only[a,Bool.false_eq_true,if_false];refine show wpAny _ _ (if(Value.ref d==Value.none)=true then _ else _) _ _ s from(wA (show ¬((Value.ref d==Value.none)=true)from gy))▸cy (cG (cy (pB k l ?_)))
 rw[wA (by simp)];refine cy (cG (cy (sq k l ?_)));rw[wA (by simp)];refine cG ?_;have h:(if((i:Nat):Int)<0 then none else es[((i:Nat):Int).toNat]?)=some c:=by
  rw[wA (by lia),hV];exact m
 show wpAny _ _ (match (if((i:Nat):Int)<0 then none else es[((i:Nat):Int).toNat]?)with|some e=>_|none=>_) _ _ s;rw[h];refine cy (cy (wS ty (cG (cy (wpAny_isOneOf_keyiter ty ?_)))));refine show wpAny _ _ (setField (.ref it) 1 (rawInt ((i:Int)+1)) >>= _) _ _ s from cy (mh G (by simp) λf n p=>wpAny_bind (wpAny_holding ?_))
 have b:f.get? it=some (nM d (i+1) es.size ep):=by
  have z:((i+1:Nat):Int)=(i:Int)+1:=by lia
  unfold nM;rw[z];simpa[rawInt]using n
 have j:Shared.TypeIs {s with heap:=f} (.ref it) "dict_keyiterator":=⟨_,b,rfl⟩;refine cy (wpAny_isOneOf_keyiter j ?_);exact show wpAny _ _ (pure c.key) _ _ {s with heap:=f}from cG (cG ⟨_,rfl,cG (q f b p)⟩)
def Dl{Q:Option Vl->Sh->Prop}(k:A.handled=none)(G:s.heap.get? it=some (nM d i es.size ep))(L:Lies s.heap d es ep)(l:es[i]? =none)
  (q: ∀g,Heap.ExtBut it s.heap g->Q none {s with heap:=g}):wpAny (model P w) A (pyNext (.ref it)) Q E s:=by
 obtain⟨o,h,_,j⟩:=L;have ty:s.TypeIs (.ref it) "dict_keyiterator":=⟨_,G,rfl⟩;unfold pyNext;refine cy (nS (pE (name:=Str.ofString "__next__") ty pJ (i6 pJ ty CB ?_ (Cq _))));refine cy (cG (cy (cy ?_)));refine cy (wS ty (cG (cy (qm G rfl ?_))));have c:Builtin.Dict_items.ownsTuple "dict_keyiterator"=false:=by decide
 simp only[c,Bool.false_eq_true,if_false];refine show wpAny _ _ (if(Value.ref d==Value.none)=true then _ else _) _ _ s from(wA (show ¬((Value.ref d==Value.none)=true)from gy))▸cy (cG (cy (pB h j ?_)))
 rw[wA (by simp)];refine cy (cG (cy (sq h j ?_)));rw[wA (by simp)];refine cG ?_;have f:(if((i:Nat):Int)<0 then none else es[((i:Nat):Int).toNat]?)=none:=by
  rw[wA (by lia),hV];exact l
 show wpAny _ _ (match (if((i:Nat):Int)<0 then none else es[((i:Nat):Int).toNat]?)with|some e=>_|none=>_) _ _ s;rw[f];refine cy (cy (wS ty (cG ?_)));refine show wpAny _ _ (setField (.ref it) 0 .none >>= _) _ _ s from cy (mh G (by simp) λr t n=>?_)
 refine cy (m:=newExc _ _) ?_;simp only[newExc,newTuple];refine cy (lO ?_ (by size_fits));refine cy (m:=firstArgMember _ _) (xJ (a:=Value.none) (by first|rfl|(unfold firstArgMember;rfl)) (wpAny_newObj_type ?_ (by size_fits)));refine zK (by simpa using k) (wpAny_bind (wpAny_isInstance (T:="StopIteration") (b:=true) ⟨_,Heap.get?_push_size _ rfl,rfl⟩ isSubtype_stop (wpAny_pure ?_)));exact q _ λb o p z=>dI _ (dI _ (n.extBut b o p z))
def Dv{Q:VP}(nd:(d==sysModules)=false)(L:Lies s.heap d es ep)(q:Q (.ref s.heap.objs.size) {s with heap:=s.heap.push (nM d 0 es.size ep)}):wpAny (model P w) A (pyIter (.ref d)) Q E s:=by
 obtain⟨o,a,x,b⟩:=L;have ty:s.TypeIs (.ref d) "dict":=⟨o,a,x.1⟩;refine qb ty F.slot_dict_iter (i6 F.slot_dict_iter ty F.entry_dict_iter ?_ (F.args_dict_iter_1 _));unfold Builtin.«dict.__iter__» Builtin.Dict.dictSlotNone;refine cy (cy (wpAny_notOrdered_dict ty ?_));refine show wpAny _ _ (pure (Value.ref d)) _ _ s from cG (show wpAny _ _ (Builtin.Dict.showsAll d >>= _) _ _ s from ?_)
 have all:Builtin.Dict.showsAll d=pure ():=by
  unfold Builtin.Dict.showsAll;rw[nd];rfl
 rw[all];refine cy (cG (cy (pB a b (cy (sq a b ?_)))));exact cy (lO (cG ⟨_,rfl,"dict_keyiterator",_,⟨_,eO _ rfl,rfl⟩,pJ.lookup,q⟩))
def Gh(m:A.handled=none)(f:d≠it):Walks P w A it [it,d] [it] es.size (λi v=> ∃a,es[i]? =some a/\v=a.key) (λi h=>h.get? it=some (nM d i es.size ep)/\Lies h d es ep) where
 sub:=λb n=>dQ.mpr (.inl (dj.mp n))
 frame:=λi h c st k=>⟨k it (dP ..) _ st.1,let⟨o,e,x⟩:=st.2;⟨o,k d (fc _ (dj.mpr rfl)) _ e,x⟩⟩
 item:=λi s Q E p st q=>by
  obtain⟨a,j⟩: ∃a,es[i]? =some a:=⟨_,i' p⟩;refine DU st.1 st.2 j λc r l=>q a.key c s.toks ⟨a,j,rfl⟩ ⟨r,let⟨o,e,x⟩:=st.2;⟨o,l.extBut _ _ f e,x⟩⟩ λb o g e=>l.extBut _ _ (λz=>g (dj.mpr z)) e
 done:=λs Q E st q=>Dl m st.1 st.2 (yH (cM _)) λc x=>q c s.toks λb o g e=>x b o (λz=>g (dj.mpr z)) e
 self:=λi s Q E st q=>by
  have ty:s.TypeIs (.ref it) "dict_keyiterator":=⟨_,st.1,rfl⟩;refine qb ty xw (i6 xw ty EO ?_ (CJ _));exact show wpAny _ _ (ret (.ref it)) _ _ s from cG ⟨_,rfl,"dict_keyiterator",_,ty,pJ.lookup,q⟩
def um(nd:(d==sysModules)=false):PySem.W.KdlSrc P w "dict" d d es.size (λi v=> ∃a,es[i]? =some a/\v=a.key) (λh=>Lies h d es ep) where
 type:=λ_ e=>e.typeIs
 there:=λ_ ⟨_,e,_⟩=>⟨dh e,dh e⟩
 keep:=λ_ _ ⟨o,e,x⟩ k=>⟨o,k d (.inl rfl) _ e,x⟩
 notList:=by decide
 notTuple:=by decide
 hint:=λ_ _ _ _ e q=>PySem.W.kdl_hint_dict e.typeIs q
 iter:=λ_ _ b e=>⟨_,_,λ_ _ q=>Dv nd e q,Gh b (dS (let⟨_,z,_⟩:=e;dh z)),eO _ rfl,let⟨o,z,x⟩:=e;⟨o,dI _ z,x⟩⟩
end
open PySem PySem.W PyProof.Rows
section
variable(n:Nat)(k:Nat->Int)
def KOk{b:Type}:KasT b->(b->Prop)->Prop
 | .ret a,R=>R a
 | .ask i j f,R=>i<n/\j<n/\KOk (f (decide (k i<k j))) R
def Arr(p:Array Nat):Prop:=p.Perm (List.range n).toArray
def on(p:Array Nat)(m:Nat):Prop:= ∀a b,a<b->b<m->k (p.getD a 0)<k (p.getD b 0)
def MQ(p:Array Nat)(m:Nat):Prop:= ∀a b,a<b->b<m->k (p.getD b 0)<k (p.getD a 0)
variable{n k}
theorem KOk.bind{b c:Type}{f:b->KasT c}{R:b->Prop}{d:c->Prop}(h: ∀a,R a->KOk n k (f a) d): ∀t:KasT b,KOk n k t R->KOk n k (t.bind f) d
 | .ret a,q=>h a q
 | .ask i j g,q=>⟨q.1,q.2.1,KOk.bind h (g _) q.2.2⟩
def Arr.size{p:Array Nat}(h:Arr n p):p.size=n:=by
 have z:=(lQ.mp h).length_eq;simpa using z
def Arr.at{p:Array Nat}(h:Arr n p){i:Nat}(b:i<n):p.getD i 0<n/\p[i]? =some (p.getD i 0):=by
 have c:=h.size;have e:p[i]? =some (p.getD i 0):=by
  rw[ou,i' (by lia)];rfl
 refine⟨?_,e⟩;have m:p.getD i 0∈p:=BK e;have a:=(z9 h).mp m;simpa using a
def Arr.inj{p:Array Nat}(h:Arr n p){i j:Nat}(b:i<n)(d:j<n)(e:p.getD i 0=p.getD j 0):i=j:=by
 have nd:p.toList.Nodup:=(lQ.mp h).nodup_iff.mpr (by simpa using List.nodup_range);have c:=(h.at b).2;have a:=(h.at d).2;rw[<-e]at a;rw[<-iU]at c a;exact(im (by rw[d9,h.size];exact b) nd).mp (c.trans a.symm)
variable(inj: ∀i j,i<n->j<n->k i=k j->i=j)
include inj
end
end L2
namespace L2
open PySem PySem.Spec PySem.W PyProof.Rows
section
variable{P:Pg}{w:World}{A:Ar}{E:VP}{s:Sh}{a:Ad}{vs ks:Vs}{k:Nat->Int}
def yt(P:Pg)(w:World)(A:Ar)(ks:Vs)(lt:Nat->Nat->Bool)(s:Sh):Prop:=
 wpAny (model P w) A (keyKind' ks.toArray) (λb c=>c=s/\ ∀i j (C:Bool->Sh->Prop),i<ks.length->j<ks.length->C (lt i j) s->kas_ask P w A b ks i j C s) (λ_ _=>False) s
abbrev gB(vs:Vs)(p:Array Nat):Vs:=p.toList.map λi=>vs.getD i Value.none
def EK(vs:Vs):gB vs (List.range vs.length).toArray=vs:=by
 unfold gB;refine l7 λi=>?_;rw[v6,cQ];by_cases h:i<vs.length
 .rw[mM h,cA h];show some (vs.getD i Value.none)=_;rw[dY,cA h];rfl
 .rw[ie (by simp;lia),List.getElem?_eq_none (by lia)];rfl
def FA(b:ks.length=vs.length):(ks.toArray.zip vs.toArray).map (·.2)=vs.toArray:=by
 apply Array.toList_inj.mp;rw[wg,ksk_zip];exact List.map_snd_zip (by simp[b])
def vm{c:Heap}{b:Ad}{x:Obj}(e:c.get? b=some x)(d f:Obj):((c.push d).push f).get? b=some x:=dI _ (dI _ e)
end
theorem Ax{a:Type}{p q:a->Bool}: ∀{xs:List a},(∀z∈xs,p z=true->q z=true)->(∃z∈xs,p z=false/\q z=true)->xs.countP p<xs.countP q
 | [],_,h=>by obtain⟨z,hz,_⟩:=h;cases hz
 | x::xs,mono,h=>by
  have g:xs.countP p<=xs.countP q:=List.countP_mono_left λz hz=>mono z (fc _ hz);rw[yh,yh];obtain⟨z,hz,b,c⟩:=h
  rcases dQ.mp hz with e|hz
  .subst e;rw[b,c];simp;lia
  .have i:=Ax (xs:=xs) (λy d=>mono y (fc _ d)) ⟨z,hz,b,c⟩;have m:=mono x (dP ..);cases f:p x with
   |false=>cases q x<;>simp<;>lia
   |true=>rw[m f];simp;lia
structure Total{α:Type}(lt:α->α->Bool)(xs:List α):Prop where
 irr: ∀x,lt x x=false
 trans: ∀x y z,lt x y=true->lt y z=true->lt x z=true
 tot: ∀x∈xs,∀y∈xs,x≠y->lt x y=true∨lt y x=true
def i4{a:Type}(lt:a->a->Bool)(xs:List a)(x:a):Int:=((xs.countP λy=>lt y x):Nat)
section
variable{α:Type}{lt:α->α->Bool}{xs:List α}(T:Total lt xs)
include T
def Total.up{x y:α}(a:x∈xs)(h:lt x y=true):i4 lt xs x<i4 lt xs y:=by
 unfold i4;have z:=Ax (xs:=xs) (p:=λz=>lt z x) (q:=λz=>lt z y) (λz _ b=>T.trans _ _ _ b h) ⟨x,a,T.irr x,h⟩;lia
def Total.asks{x y:α}(a:x∈xs)(b:y∈xs):decide (i4 lt xs x<i4 lt xs y)=lt x y:=by
 by_cases e:x=y
 .subst e;rw[T.irr];exact fg (Int.lt_irrefl _)
 .rcases T.tot x a y b e with h|h
  .rw[h];exact dX (T.up a h)
  .have:=T.up b h;rw[fg (by lia)];cases z:lt x y with
   |false=>rfl
   |true=>
    have:=T.up a z;lia
def Total.same{x y:α}(a:x∈xs)(b:y∈xs)(h:i4 lt xs x=i4 lt xs y):x=y:=by
 refine x8 λe=>?_
 rcases T.tot x a y b e with z|z
 .have:=T.up a z;lia
 .have:=T.up b z;lia
end
theorem An: ∀(a b:cu),a≠b->eA a b=true∨eA b a=true
 | [],[],h=>wC rfl h
 | [],y::b,_=> .inl (by unfold eA;rw[show fO [] (y::b)=none from rfl];simp)
 |x::a,[],_=> .inr (by unfold eA;rw[show fO [] (x::a)=none from rfl];simp)
 | x::a,y::b,h=>by
  by_cases e:x=y
  .subst e
   rcases An a b (λz=>h (by rw[z]))with q|q
   .exact .inl (by rw[ot];exact q)
   .exact .inr (by rw[ot];exact q)
  .rw[iS e,iS (eJ e)]
   rcases Nat.lt_or_gt_of_ne e with q|q
   .exact .inl (dX q)
   .exact .inr (dX q)
theorem xu: ∀(xs a d:cu),eA xs a=true->eA a d=true->eA xs d=true
 | xs,a,[],_,b=>by
  have:eA a []=false:=by
   unfold eA;rw[show fO a []=none by cases a<;>rfl];simp
  rw[this]at b;cases b
 | [],a,z::d,_,_=>by unfold eA;rw[show fO [] (z::d)=none from rfl];simp
 | x::xs,[],z::d,c,_=>by
  have:eA (x::xs) []=false:=by
   unfold eA;rw[show fO (x::xs) []=none from rfl];simp
  rw[this]at c;cases c
 | x::xs,y::a,z::d,c,b=>by
  by_cases f:x=y
  .subst f;by_cases e:x=z
   .subst e;rw[ot]at c b⊢;exact xu xs a d c b
   .rw[iS e]at b⊢;exact b
  .rw[iS f]at c;have g:=gi c;by_cases e:y=z
   .subst e;rw[iS f];exact c
   .rw[iS e]at b;have h:=gi b;rw[iS (by lia)];exact dX (by lia)
def Ho(a:LN):Total eA a:=⟨m9,xu,λx _ y _ e=>An x y e⟩
section
variable{P:Pg}{w:World}{A:Ar}{E:VP}{s:Sh}
def EF{i j:Int}{t u:Tok}(f:Bool){Q:Bool->Sh->Prop}(h:Q (decide (i<j)) s):wpAny (model P w) A (oneLt' f (.int i t) (.int j u)) Q E s:=by
 cases f with
 |true=>exact oneLt_int h
 |false=>exact kat_one _ _ (PyProof.Rows.lt_int h)
theorem C9{fin:Bool}{Q:Bool->Sh->Prop}: ∀{b a:cu} {c d:Vs} (i:Nat),Vals (b.map nv) c->Vals (a.map nv) d->Q ((fO b a).getD fin) s->KatLex P w A true fin Q (c.zip d) i s
 | [],a,_,_,i,.nil,_,q=>by
  rw[show fO [] a=none by cases a<;>rfl]at q;rw[List.zip_nil_left];exact kat_nil q
 |n::b,[],_,_,i,.cons _ _,.nil,q=>by
  rw[List.zip_nil_right];exact kat_nil q
 | n::b,m::a,_,_,i,.cons ⟨t,f⟩ g,.cons ⟨u,h⟩ k,q=>by
  subst f h;refine kat_cons ?_;have z:=fu (A:=A) (s:=s) (i:=(n:Int)) (j:=(m:Int)) (t:=t) (u:=u);by_cases e:n=m
  .rw[dX (by lia)]at z;rw[fO,wB e]at q;exact z P w _ _ (kat_yes (C9 (i+1) g k q))
  .rw[fg (by lia)]at z;rw[fO,wA e]at q;refine z P w _ _ (kat_no (EF _ ?_));have l:decide ((n:Int)<(m:Int))=decide (n<m):=by simp
   rw[l];exact q
def mI(h:Heap)(v:Vl)(d:cu):Prop:= ∃a o b c,v= .ref a/\h.get? a=some o/\o.cls= .type "tuple"/\o.data= .seq b c/\Vals (d.map nv) b.toList
theorem D'{h:Heap}: ∀{vs:Vs} {ts:LN},vs.length=ts.length->(∀(i:Nat) v t,vs[i]? =some v->ts[i]? =some t->mI h v t/\t≠[])-> ∃fs:Vs,KatTups h vs fs/\fs.length=vs.length/\ ∀f∈fs,∃i t,f= .int i t
 | [],[],_,_=>⟨[],.nil,rfl,λ_ z=>nomatch z⟩
 | [],_::_,l,_=>by simp at l
 |_::_,[],l,_=>by simp at l
 | v::vs,t::ts,l,g=>by
  obtain⟨fs,k,m,p⟩:=D' (h:=h) (vs:=vs) (ts:=ts) (by simpa using l) λi v t q u=>g (i+1) v t (by simpa using q) (by simpa using u);obtain⟨⟨a,o,d,c,rfl,x,y,B,C⟩,D⟩:=g 0 v t rfl rfl;obtain⟨n,b,rfl⟩: ∃n b,t=n::b:=by
   cases t with
   |nil=>exact wC rfl D
   |cons n b=>exact⟨n,b,rfl⟩
  obtain⟨j⟩:=d;cases C with
  | cons r _=>
   obtain⟨G,rfl⟩:=r;exact⟨_::fs,.cons x y B rfl k,by simp[m],λf hf=>by
    rcases dQ.mp hf with e|hf
    .exact⟨_,_,e⟩
    .exact p f hf⟩
def KA{a:Vs}{b:LN}(l:a.length=b.length)(N:1<=a.length)(e: ∀(i:Nat) v t,a[i]? =some v->b[i]? =some t->mI s.heap v t/\t≠[]):yt P w A a (λi j=>eA (b.getD i []) (b.getD j [])) s:=by
 obtain⟨fs,k,O,m⟩:=D' l e;refine kat_kind (T:= .type "int") k (by lia) (λf n=>?_) (by decide) ⟨rfl,λi j C d o p=>?_⟩
 .obtain⟨i,t,rfl⟩:=m f n;exact .now
 .have c: ∀{i:Nat},i<a.length->mI s.heap (a.getD i Value.none) (b.getD i []):=λ{i} d=>by
   have q:a[i]? =some (a.getD i Value.none):=by rw[dY,cA d];rfl
   have r:b[i]? =some (b.getD i []):=by rw[dY,cA (by lia)];rfl
   exact(e i _ _ q r).1
  obtain⟨x,Q,u,U,z,B,Y,D,g⟩:=c d;obtain⟨y,oy,G,ny,H,I,y2,J,h⟩:=c o;show wpAny (model P w) A (keyLt' _ (a.getD i Value.none) (a.getD j Value.none)) C _ s;rw[z,H];refine kat_lt B D I J (C9 0 g h ?_);have L:(b.getD i []).length=u.size:=by have:=g.length;simpa using this
  have M:(b.getD j []).length=G.size:=by have:=h.length;simpa using this
  rw[<-L,<-M];exact p
end
def EY{b:Type}{a:List b}{p:Array Nat}{d:b}(c:Arr a.length p):(p.toList.map λi=>a.getD i d).Perm a:=by
 have z:=(lQ.mp c).map λi=>a.getD i d;refine z.trans (.of_eq ?_);refine l7 λi=>?_;rw[v6,cQ];by_cases h:i<a.length
 .rw[mM h,cA h];show some (a.getD i d)=_;rw[dY,cA h];rfl
 .rw[ie (by simp;lia),List.getElem?_eq_none (by lia)];rfl
def EM{p:Array Nat}{n i:Nat}(a:Arr n p)(b:i<n):p.toList[i]? =some (p.getD i 0):=by
 rw[iU];exact(a.at b).2
def EV{c:Type}{lt:c->c->Bool}{a:List c}{d:c}{p:Array Nat}(T:Total lt a)(b:Arr a.length p)(up:on (λi=>i4 lt a (a.getD i d)) p a.length):(p.toList.map λi=>a.getD i d).Pairwise λx y=>lt x y=true:=by
 rw[nJ];intro i j e f o;have k:i<a.length:=by rw[cz,d9,b.size]at e;exact e
 have g:j<a.length:=by rw[cz,d9,b.size]at f;exact f
 have l:(p.toList.map λi=>a.getD i d)[i]? =some (a.getD (p.getD i 0) d):=by rw[cQ,EM b k];rfl
 have n:(p.toList.map λi=>a.getD i d)[j]? =some (a.getD (p.getD j 0) d):=by rw[cQ,EM b g];rfl
 rw[cA e]at l;rw[cA f]at n;rw[fB l,fB n];have u:=up i j o g;have m: ∀{i:Nat},i<a.length->a.getD (p.getD i 0) d∈a:=λ{i} h=>by
  have:=(b.at h).1;rw[dY,cA this];exact i7 _
 rw[<-T.asks (m k) (m g)];exact dX u
structure TupsAt(H:Hp)(bs:As)(us:LN):Prop where
 len:bs.length=us.length
 is: ∀(i:Nat) (b:Ad) (u:cu),bs[i]? =some b->us[i]? =some u->H b=some (.tup (u.map nv))
def TupsAt.same{H a:Hp}{bs:As}{c:LN}(h:TupsAt H bs c)(g:Same H a):TupsAt a bs c:=⟨h.len,λi b u d e=>g _ _ (h.is i b u d e)⟩
def TupsAt.pick{H:Hp}{bs:As}{a:LN}(h:TupsAt H bs a){p:Array Nat}(f:Arr a.length p):TupsAt H (p.toList.map λi=>bs.getD i 0) (p.toList.map λi=>a.getD i []):=by
 refine⟨by simp,λi b u d c=>?_⟩;rw[cQ]at d c;obtain⟨j,e,rfl⟩:=eC.mp d;rw[e]at c;cases c;have g:j<a.length:=by
  have m:=(lQ.mp f).mem_iff.mp (cW e);simpa using m
 have k:=h.len;refine h.is j _ _ ?_ ?_
 .rw[dY,cA (by lia)];rfl
 .show a[j]? =some (a.getD j []);rw[dY,cA g];rfl
section
variable{X:Cx}
def tS{P:Pg}{w:World}{H:Hp}{h:Heap}{a:Ad}{t:cu}(ok:HOk P w H h)(e:H a=some (.tup (t.map nv))):mI h (.ref a) t:=by
 obtain⟨_,b,r,o,d,f,c,g,_⟩:=(show ObjOk P w H h a (.tup (t.map nv))from ok a _ e);exact⟨a,o,b.toArray,c,rfl,d,f,g,by simpa using r⟩
def nA{b:Type}{a:List b}{d:b}{i:Nat}(h:i<a.length):a[i]? =some (a.getD i d)/\a.getD i d∈a:=by
 have e:a[i]? =some (a.getD i d):=by
  rw[dY,cA h];rfl
 exact⟨e,cW e⟩
def Eh{b:Type}{lt:b->b->Bool}{a:List b}{d:b}(T:Total lt a)(nd:a.Nodup): ∀i j,i<a.length->j<a.length->i4 lt a (a.getD i d)=i4 lt a (a.getD j d)->i=j:=λi j c f e=>by
 have z:=T.same (nA c).2 (nA f).2 e;refine(im c nd).mp ?_;rw[(nA (d:=d) c).1,(nA (d:=d) f).1,z]
end
abbrev d0:Keyed:=(Value.none,Value.none)
structure Asks(M:Model)(A:Ar)(s:Sh)(κ:SortKind)(r:Keyed->Int)(a₀:Array Keyed):Prop where
 lt: ∀(x y:Keyed) (C:Bool->Sh->Prop),x∈a₀->y∈a₀->C (decide (r x<r y)) s->wpAny M A (keyLt' κ x.1 y.1) C (λ_ _=>False) s
 ne: ∀i j,i<a₀.size->j<a₀.size->i≠j->r (a₀.getD i d0)≠r (a₀.getD j d0)
structure StOk(κ:SortKind)(a₀:Array Keyed)(st:SortSt):Prop where
 kind:kindOf st=κ
 perm:(arrOf st).Perm a₀
 ok:failedOf st=none
section
variable{M:Model}{A:Ar}{E:VP}{s:Sh}{κ:SortKind}{r:Keyed->Int}{a₀ xs ys:Array Keyed}
abbrev kx(r:Keyed->Int)(xs:Array Keyed)(i:Nat):Int:=r (xs.getD i d0)
def nO{i:Nat}(h:i<xs.size):xs[i]? =some (xs.getD i d0):=by
 rw[ou,i' h];rfl
def dn{i:Nat}{x:Keyed}(h:xs[i]? =some x):xs.getD i d0=x:=by
 rw[ou,h];rfl
def nh{i j:Nat}(h:xs[i]? =ys[j]?):xs.getD i d0=ys.getD j d0:=by
 rw[ou,ou,h]
def nN(p:xs.Perm a₀):xs.size=a₀.size:=by
 have z:=(lQ.mp p).length_eq;simpa using z
def wy(p:xs.Perm a₀){i:Nat}(h:i<a₀.size):xs.getD i d0∈a₀:=(z9 p).mp (BK (nO (by rw[nN p];exact h)))
def Asks.pairs(K:Asks M A s κ r a₀):(a₀.toList.map r).Nodup:=by
 refine nJ.mpr λi j a b c=>?_;rw[oA,oA];rw[cz,d9]at a b;have z:=K.ne i j a b (by lia);rw[ou,ou,i' a,i' b]at z;exact z
def Asks.apart(K:Asks M A s κ r a₀)(p:xs.Perm a₀){i j:Nat}(a:i<a₀.size)(b:j<a₀.size)(c:i≠j):kx r xs i≠kx r xs j:=by
 have nd:(xs.toList.map r).Nodup:=((lQ.mp p).map r).nodup_iff.mpr K.pairs;have sz:=nN p;intro z;have e: ∀k,k<a₀.size->(xs.toList.map r)[k]? =some (kx r xs k):=λk d=>by
  rw[cQ,iU,nO (by lia)];rfl
 exact c ((im (by rw[cz,d9];lia) nd).mp (by rw[e i a,e j b,z]))
def uH{st:SortSt}{x y:Keyed}{Q:Option Bool->SortSt->Prop}(K:Asks M A s κ r a₀)(c:kindOf st=κ)(d:x∈a₀)(e:y∈a₀)(h:Q (some (decide (r x<r y))) st):wpS M A E s (lt' x y) Q st:=by
 rw[lt'_eq];refine cT (j5 ?_);rw[c];refine cT (pP (nS (gN (K.lt x y (λb a=>a=s/\b=decide (r x<r y)) d e ⟨rfl,rfl⟩) (λb a f=>?_) λ_ _ z=>z.elim)));obtain⟨rfl,rfl⟩:=f;exact⟨rfl,cY h⟩
def gn{a:SortSt}{i:Nat}{Q:Keyed->SortSt->Prop}(b:i<xs.size)(h:Q (xs.getD i d0) a):wpS M A E s (elem' xs i) Q a:=by
 rw[elem'_eq,nO b];exact cY h
def tE{st:SortSt}{i j:Nat}{Q:Option Bool->SortSt->Prop}(K:Asks M A s κ r a₀)(B:StOk κ a₀ st)(a:i<a₀.size)(b:j<a₀.size)(h:Q (some (decide (kx r (arrOf st) i<kx r (arrOf st) j))) st):wpS M A E s (ltAt' i j) Q st:=by
 have sz:=nN B.perm;rw[ltAt'_eq];refine cT (j5 ?_);exact cT (gn (by lia) (cT (gn (by lia) (uH K B.kind (wy B.perm a) (wy B.perm b) h))))
def Ris(r:Keyed->Int)(xs:Array Keyed)(lo c:Nat):Prop:= ∀a b,lo<=a->a<b->b<c->kx r xs a<kx r xs b
def Fal(r:Keyed->Int)(xs:Array Keyed)(lo c:Nat):Prop:= ∀a b,lo<=a->a<b->b<c->kx r xs b<kx r xs a
def Out(xs ys:Array Keyed)(lo a:Nat):Prop:= ∀k,k<lo∨a<=k->ys[k]? =xs[k]?
def Out.refl(xs:Array Keyed)(lo a:Nat):Out xs xs lo a:=λ_ _=>rfl
def Out.trans{b:Array Keyed}{lo a:Nat}(h:Out xs ys lo a)(c:Out ys b lo a):Out xs b lo a:=λk z=>(c k z).trans (h k z)
def Out.wide{lo c a b:Nat}(h:Out xs ys lo c)(d:a<=lo)(e:c<=b):Out xs ys a b:=λk z=>h k (by lia)
def Out.ris{lo c a b:Nat}(h:Out xs ys lo c)(e:Ris r xs a b)(d:b<=lo∨c<=a):Ris r ys a b:=λi j f g k=>by
 show r (ys.getD i d0)<r (ys.getD j d0);rw[nh (h i (by lia)),nh (h j (by lia))];exact e i j f g k
def Ris.one{lo:Nat}:Ris r xs lo (lo+1):=λa b c d e=>by lia
def Ris.snoc{lo c:Nat}(h:Ris r xs lo c)(i:lo<c)(l:kx r xs (c-1)<kx r xs c):Ris r xs lo (c+1):=λa b d f j=>by
 by_cases e:b=c
 .subst e;by_cases g:a=b-1
  .subst g;exact l
  .have:=h a (b-1) d (by lia) (by lia);lia
 .exact h a b d f (by lia)
def Fal.snoc{lo c:Nat}(h:Fal r xs lo c)(i:lo<c)(l:kx r xs c<kx r xs (c-1)):Fal r xs lo (c+1):=λa b d f j=>by
 by_cases e:b=c
 .subst e;by_cases g:a=b-1
  .subst g;exact l
  .have:=h a (b-1) d (by lia) (by lia);lia
 .exact h a b d f (by lia)
def StOk.set{st:SortSt}(B:StOk κ a₀ st)(p:ys.Perm (arrOf st)):StOk κ a₀ (setArr st ys):=⟨B.kind,p.trans B.perm,B.ok⟩
def C3{i j:Nat}(b:j<=xs.size)(k:Nat):kx r (mirror xs i j ((j-i) /2)) k=if i<=k/\k<j then kx r xs (i+j-1-k)else kx r xs k:=by
 have e:=getElem?_mirror_all (i:=i) b k;by_cases a:i<=k/\k<j
 .rw[wB a]at e⊢;exact dL r (nh e)
 .rw[wA a]at e⊢;exact dL r (nh e)
def HB{st:SortSt}{lo f:Nat}{Q:Option Nat->SortSt->Prop}(K:Asks M A s κ r a₀)(B:StOk κ a₀ st)(hn:lo+f<=a₀.size)(C:1<=f)
  (h: ∀n g,StOk κ a₀ g->pendingOf g=pendingOf st->gallopOf g=gallopOf st->Out (arrOf st) (arrOf g) lo (lo+f)->1<=n->n<=f->Ris r (arrOf g) lo (lo+n)->Q (some n) g):wpS M A E s (countRun' lo f) Q st:=by
 rw[countRun'_eq];have v: ∀(m:Nat) (g:SortSt) (D:Option (Option Nat)×Nat->SortSt->Prop),StOk κ a₀ g->1<=m->m<=f->Ris r (arrOf g) lo (lo+m)->(∀n,m<=n->n<=f->Ris r (arrOf g) lo (lo+n)->(n<f->kx r (arrOf g) (lo+n)<kx r (arrOf g) (lo+n-1))->D (none,n) g)->
   wpS M A E s (forIn [m:f] ((none,m):Option (Option Nat)×Nat) λ_ l=>do
    let G <-ltAt' (lo+l.snd) (lo+l.snd-1)
    match G with
    |some o=>if o=true then pure (ForInStep.done (none,l.snd))else pure (ForInStep.yield (none,l.snd+1))
    |_=>pure (ForInStep.done (some none,l.snd))) D g:=λm g D O m1 H up q=>by
  refine iq (I:=λi c d=>d=g/\c=(none,i)/\Ris r (arrOf g) lo (lo+i)) (λi c d n6 sB t=>?_) (λc d t=>?_) ⟨rfl,rfl,up⟩
  .obtain⟨rfl,rfl,p⟩:=t;refine cT (tE K O (by show lo+i<_;lia) (by show lo+i-1<_;lia) ?_);by_cases c:kx r (arrOf d) (lo+i)<kx r (arrOf d) (lo+i-1)
   .rw[dX c];exact cY (q i n6 (by lia) p λ_=>c)
   .rw[fg c];have ne:=K.apart O.perm (i:=lo+i) (j:=lo+i-1) (by lia) (by lia) (by lia);exact cY ⟨rfl,rfl,p.snoc (by lia) (by lia)⟩
  .obtain⟨rfl,rfl,p⟩:=t;rw[show max m f=f by lia]at p⊢;exact q f H (cM _) p λz=>wC z (jb _)
 refine cT (v 1 st _ B (cM _) C Ris.one λn J y up stop=>?_);dsimp only;by_cases e:n=f
 .rw[wB (by simpa using e)];exact cY (h n st B rfl rfl (Out.refl _ _ _) J y up)
 rw[wA (by simpa using e)];have L:=stop (by lia);by_cases T:n>1
 .rw[wB T];refine cT (tE K B (by lia) (by lia) ?_);rw[dX (up lo (lo+n-1) (cM _) (by lia) (by lia))];exact cY (h n st B rfl rfl (Out.refl _ _ _) J y up)
 rw[wA T];have en:n=1:=by lia
 subst en;refine cT (pP (mW ⟨rfl,?_⟩));have w:Fal r (arrOf st) lo (lo+2):=λa b C U h3=>by
  have ea:a=lo:=by lia
  have eb:b=lo+1:=by lia
  subst ea eb;exact L
 refine cT (iP (iq (I:=λi c d=>d=st/\c=(none,i,0)/\Fal r (arrOf st) lo (lo+i)) (Q:=λc d=>d=st/\ ∃m,c=(none,m,0)/\2<=m/\m<=f/\Fal r (arrOf st) lo (lo+m)) (λi c d n6 sB t=>?_) (λc d t=>?_) ⟨rfl,rfl,w⟩) ?_)
 .obtain⟨rfl,rfl,fa⟩:=t;refine cT (tE K B (by show lo+i<_;lia) (by show lo+i-1<_;lia) ?_);by_cases c:kx r (arrOf d) (lo+i)<kx r (arrOf d) (lo+i-1)
  .rw[dX c];exact cY ⟨rfl,rfl,fa.snoc (by lia) c⟩
  .rw[fg c];have ne:=K.apart B.perm (i:=lo+i) (j:=lo+i-1) (by lia) (by lia) (by lia);refine cT (tE K B (by show lo+i-1<_;lia) (by show lo+i<_;lia) ?_);rw[dX (by show kx r (arrOf d) (lo+i-1)<kx r (arrOf d) (lo+i);lia)];exact cY ⟨rfl,i,rfl,by lia,by lia,fa⟩
 .obtain⟨rfl,rfl,fa⟩:=t;refine⟨rfl,_,rfl,by lia,by lia,fa⟩
 .rintro c d ⟨rfl,m,rfl,Y,H,fa⟩;dsimp only;obtain⟨m,rfl⟩: ∃k,m=k+1:=nR λz=>by rw[z]at Y;exact wC Y (by decide)
  rw[wA (jb 0)];rw[reverseSlice'_eq];have sz:=nN B.perm;have u:lo+(m+1)<=(arrOf d).size:=by lia
  have B2:StOk κ a₀ (setArr d (mirror (arrOf d) lo (lo+(m+1)) ((lo+(m+1)-lo) /2))):=B.set (mirror_perm _ _ _ _);have N:Ris r (mirror (arrOf d) lo (lo+(m+1)) ((lo+(m+1)-lo) /2)) lo (lo+(m+1)):=λa b C U h3=>by
   rw[C3 u,C3 u,wB (by lia),wB (by lia)];exact fa _ _ (show lo<=lo+(lo+m)-b from Bc (by lia)) (show lo+(lo+m)-b<lo+(lo+m)-a from Nat.sub_lt_sub_left (by lia) U) (show lo+(lo+m)-a<lo+(m+1)from u9 (by lia) (by lia))
  have x:Out (arrOf d) (mirror (arrOf d) lo (lo+(m+1)) ((lo+(m+1)-lo) /2)) lo (lo+f):=λk hk=>by
   rw[getElem?_mirror_all u,wA (by lia)]
  refine cT (lW (cT (v (m+1) _ _ B2 (by lia) H N λn J y up stop=>?_)));exact cY (h n _ B2 rfl rfl x (by lia) y up)
end
section
variable{M:Model}{A:Ar}{E:VP}{s:Sh}{κ:SortKind}{r:Keyed->Int}{a₀ xs ys:Array Keyed}
def DR{a d:Nat}(f:a<xs.size)(g:d<=a)(k:Nat):kx r (bubble xs a d) k=if k=a-d then kx r xs a else if a-d<k/\k<=a then kx r xs (k-1)else kx r xs k:=by
 have e:=getElem?_bubble f d g k;by_cases b:k=a-d
 .rw[wB b]at e⊢;exact dL r (nh e)
 .rw[wA b]at e⊢;by_cases c:a-d<k/\k<=a
  .rw[wB c]at e⊢;exact dL r (nh e)
  .rw[wA c]at e⊢;exact dL r (nh e)
def Jp{st:SortSt}{lo n ok:Nat}{Q:Bool->SortSt->Prop}(K:Asks M A s κ r a₀)(B:StOk κ a₀ st)(hn:lo+n<=a₀.size)(Y:ok<=n)(hs:Ris r (arrOf st) lo (lo+ok))
  (h: ∀a,StOk κ a₀ a->pendingOf a=pendingOf st->gallopOf a=gallopOf st->Out (arrOf st) (arrOf a) lo (lo+n)->Ris r (arrOf a) lo (lo+n)->Q true a):wpS M A E s (binarySort' lo n ok) Q st:=by
 rw[binarySort'_eq];refine cT (iP (iq (I:=λk c a=>c=(none,())/\StOk κ a₀ a/\pendingOf a=pendingOf st/\gallopOf a=gallopOf st/\Out (arrOf st) (arrOf a) lo (lo+n)/\Ris r (arrOf a) lo (lo+min k n))
  (Q:=λc a=>c=(none,())/\StOk κ a₀ a/\pendingOf a=pendingOf st/\gallopOf a=gallopOf st/\Out (arrOf st) (arrOf a) lo (lo+n)/\Ris r (arrOf a) lo (lo+n)) ?step ?fin ?init) ?post)
 case post=>
  rintro c a ⟨rfl,v,D,G,o,u⟩;exact cY (h a v D G o u)
 case init=>
  refine⟨rfl,B,rfl,rfl,Out.refl _ _ _,λi j p w h3=>?_⟩;exact hs i j p w (by lia)
 case fin=>
  rintro c a ⟨hc,v,D,G,o,u⟩;refine⟨hc,v,D,G,o,?_⟩;rwa[show min (max (max ok 1) n) n=n by lia]at u
 case step=>
  rintro k c a aa ab ⟨rfl,v,D,G,o,t⟩;rw[show min k n=k by lia]at t;have sz:=nN v.perm;refine cT (iP (iq (I:=λx c b=>b=a/\ ∃l q,c=(none,l,q)/\l<=q/\q<=k/\q+x<=k+l/\
    (∀i,i<l->kx r (arrOf a) (lo+i)<kx r (arrOf a) (lo+k))/\(∀i,q<=i->i<k->kx r (arrOf a) (lo+k)<kx r (arrOf a) (lo+i)))
   (Q:=λc b=>b=a/\ ∃l q,c=(none,l,q)/\l<=k/\
    (∀i,i<l->kx r (arrOf a) (lo+i)<kx r (arrOf a) (lo+k))/\(∀i,l<=i->i<k->kx r (arrOf a) (lo+k)<kx r (arrOf a) (lo+i))) ?istep ?ifin ?iinit) ?ipost)
  case iinit=>exact⟨rfl,0,k,rfl,by lia,by lia,by lia,λi hi=>by lia,λi p w=>by lia⟩
  case ifin=>
   rintro c b ⟨rfl,l,q,rfl,J,m,hm,f,g⟩;have:l=q:=by lia
   subst this;exact⟨rfl,l,l,rfl,m,f,g⟩
  case istep=>
   rintro x c b _ ae ⟨rfl,l,q,rfl,J,m,hm,f,g⟩;dsimp only;by_cases y:l≥q
   .rw[wB y];have:l=q:=by lia
    subst this;exact cY ⟨rfl,l,l,rfl,m,f,g⟩
   .rw[wA y];have T:l<=(l+q) /2:=by lia
    have L:(l+q) /2<q:=by lia
    clear y;generalize(l+q) /2=d at T L⊢;have U:d<k:=ft L m;refine cT (tE K v (by lia) (by lia) ?_);by_cases e:kx r (arrOf b) (lo+k)<kx r (arrOf b) (lo+d)
    .simp only[e,decide_true,if_true];refine cY ⟨rfl,l,d,rfl,T,fR U,by lia,f,λi p w=>?_⟩;by_cases z:i=d
     .subst z;exact e
     .exact uV e (t (lo+d) (lo+i) (lI ..) (ya (uN p (eJ z)) _) (ya w _))
    .simp only[e,decide_false,Bool.false_eq_true,if_false];have ne:=K.apart v.perm (i:=lo+k) (j:=lo+d) (by lia) (by lia) (by lia);refine cY ⟨rfl,d+1,q,rfl,L,m,by lia,λi p=>?_,g⟩;by_cases z:i=d
     .subst z;exact Int.lt_iff_le_and_ne.mpr ⟨Int.not_lt.mp e,ne.symm⟩
     .exact Int.lt_of_lt_of_le (t (lo+i) (lo+d) (lI ..) (ya (uN (xP p) z) _) (ya U _)) (Int.not_lt.mp e)
  case ipost=>
   rintro c b ⟨rfl,l,q,rfl,H,f,g⟩;show wpS _ _ _ _ (do moveDown' (lo+k) (lo+l);pure (ForInStep.yield (none,()))) _ _
   rw[moveDown'_eq];have C:lo+k<(arrOf b).size:=by lia
   refine cT (lW (cY ⟨rfl,v.set (bubble_perm _ _ _),D,G,o.trans λj hj=>?_,?_⟩))
   .show(bubble (arrOf b) (lo+k) (lo+k-(lo+l)))[j]? =_;rw[getElem?_bubble C _ (by lia),Nat.sub_sub_self (uK H lo),wA (by lia),wA (by lia)]
   .rw[show min (k+1) n=k+1 by lia];intro i j p w h3;show kx r (bubble (arrOf b) (lo+k) (lo+k-(lo+l))) i<kx r (bubble (arrOf b) (lo+k) (lo+k-(lo+l))) j
    rw[DR C (by lia),DR C (by lia),Nat.sub_sub_self (uK H lo)];have N: ∀i,lo<=i->i<lo+l->kx r (arrOf b) i<kx r (arrOf b) (lo+k):=λi p w=>by
     have:=f (i-lo) (by lia);rwa[show lo+(i-lo)=i by lia]at this
    have O: ∀i,lo+l<=i->i<lo+k->kx r (arrOf b) (lo+k)<kx r (arrOf b) i:=λi p w=>by
     have:=g (i-lo) (by lia) (by lia);rwa[show lo+(i-lo)=i by lia]at this
    repeat' split
    all_goals first
     |(exfalso;lia)
     |exact N _ (by lia) (by lia)
     |exact O _ (by lia) (by lia)
     |exact t _ _ (by lia) (by lia) (by lia)
def nY:Bool->Keyed->Array Keyed->Nat->Nat->Nat->StateT SortSt Sem (Option Nat):=sortPriv%PySem.Builtin.gallop
def IK(left:Bool)(e:Keyed)(g:Array Keyed)(d n a:Nat):nY left e g d n a=(do
 let c (i:Nat):StateT SortSt Sem (Option Bool):=do
  let x <-elem' g (d+i)
  if left then lt' x e else return (<-lt' e x).map (!·)
 let mut lastofs:=0
 let mut ofs:=1
 let mut lo:=0
 let mut hi:=0
 let some right <-c a|return none
 if right then
  let b:=n-a
  for _ in[0:n] do
   if ofs≥b then break
   let some more <-c (a+ofs)|return none
   if !more then break
   lastofs:=ofs
   ofs:=2 * ofs+1
  lo:=a+lastofs+1
  hi:=a+min ofs b
 else
  let b:=a+1
  for _ in[0:n] do
   if ofs≥b then break
   let some f <-c (a-ofs)|return none
   if f then break
   lastofs:=ofs
   ofs:=2 * ofs+1
  lo:=a+1-min ofs b
  hi:=a-lastofs
 for _ in[0:n] do
  if lo≥hi then break
  let m:=lo+(hi-lo) /2
  let some more <-c m|return none
  if more then lo:=m+1 else hi:=m
 return some hi):=rfl
end
section
variable{M:Model}{A:Ar}{E:VP}{s:Sh}{κ:SortKind}{r:Keyed->Int}{a₀ xs ys:Array Keyed}
def qf{st:SortSt}{left:Bool}{m:Keyed}{d:Array Keyed}{a n b:Nat}{Q:Option Nat->SortSt->Prop}(K:Asks M A s κ r a₀)(hk:kindOf st=κ)(hz:a+n<=d.size)(mem: ∀i,i<n->d.getD (a+i) d0∈a₀)(mk:m∈a₀)(ne: ∀i,i<n->kx r d (a+i)≠r m)
  (up:Ris r d a (a+n)) (O:b<n) (q: ∀k,k<=n->(∀i,i<k->kx r d (a+i)<r m)->(∀i,k<=i->i<n->r m<kx r d (a+i))->Q (some k) st):wpS M A E s (nY left m d a n b) Q st:=by
 rw[IK];have C: ∀(i:Nat) (Q:Option Bool->SortSt->Prop),i<n->Q (some (decide (kx r d (a+i)<r m))) st->wpS M A E s (do
   let x <-elem' d (a+i)
   if left then lt' x m else return (<-lt' m x).map (!·)) Q st:=λi Q u hQ=>by
  refine cT (gn (by lia) ?_);cases left with
  |true=>exact uH K hk (mem i u) mk hQ
  | false=>
   refine cT (uH K hk mk (mem i u) (cY ?_));have e:(!decide (r m<r (d.getD (a+i) d0)))=decide (kx r d (a+i)<r m):=by
    have:=ne i u;by_cases z:kx r d (a+i)<r m
    .rw[dX z,fg (show ¬r m<r (d.getD (a+i) d0)from λy=>by have:r m<kx r d (a+i):=y;lia)];rfl
    .rw[fg z,dX (show r m<r (d.getD (a+i) d0)from by show r m<kx r d (a+i);lia)];rfl
   show Q (some (!decide (r m<r (d.getD (a+i) d0)))) st;rw[e];exact hQ
 have U: ∀i j,i<=j->j<n->kx r d (a+j)<r m->kx r d (a+i)<r m:=λi j ij jn l=>by
  by_cases z:i=j
  .subst z;exact l
  .have:=up (a+i) (a+j) (by lia) (by lia) (by lia);lia
 have J: ∀i j,i<=j->j<n-> ¬kx r d (a+i)<r m->r m<kx r d (a+j):=λi j ij jn l=>by
  have n1:=ne i (by lia);by_cases z:i=j
  .subst z;lia
  .have:=up (a+i) (a+j) (by lia) (by lia) (by lia);lia
 have fin: ∀(lo u:Nat) (p:SortSt) (f:Nat->Option (Option Nat)×Nat×Nat->StateT SortSt Sem (ForInStep (Option (Option Nat)×Nat×Nat))) (g:Option (Option Nat)×Nat×Nat->StateT SortSt Sem (Option Nat)),p=st->lo<=u->u<=n->(∀i,i<lo->kx r d (a+i)<r m)->(∀i,u<=i->i<n->r m<kx r d (a+i))->
   (∀x l h (R:ForInStep (Option (Option Nat)×Nat×Nat)->SortSt->Prop),l≥h->R (.done (none,l,h)) st->wpS M A E s (f x (none,l,h)) R st)->
   (∀x l h (R:ForInStep (Option (Option Nat)×Nat×Nat)->SortSt->Prop),l<h->h<=n->R (.yield (if kx r d (a+(l+(h-l) /2))<r m then(none,l+(h-l) /2+1,h)else(none,l,l+(h-l) /2))) st->wpS M A E s (f x (none,l,h)) R st)->
   (∀h,Q (some h) st->wpS M A E s (g (none,h,h)) Q st)->wpS M A E s (forIn [0:n] (none,lo,u) f >>= g) Q p:=λlo u p f g e lh Y dl du f1 f2 f3=>by
  subst e;refine cT (iP (iq (I:=λx c t=>t=p/\ ∃l h,c=(none,l,h)/\l<=h/\h<=n/\h+x<=n+l/\(∀i,i<l->kx r d (a+i)<r m)/\ ∀i,h<=i->i<n->r m<kx r d (a+i))
   (Q:=λc t=>t=p/\ ∃h,c=(none,h,h)/\h<=n/\(∀i,i<h->kx r d (a+i)<r m)/\ ∀i,h<=i->i<n->r m<kx r d (a+i)) ?step ?stop ⟨rfl,lo,u,rfl,lh,Y,by lia,dl,du⟩) ?post)
  case step=>
   rintro x c t _ hx ⟨rfl,l,h,rfl,w,D,v,L,N⟩;by_cases z:l≥h
   .have:l=h:=by lia
    subst this;exact f1 x l l _ z ⟨rfl,l,rfl,D,L,N⟩
   .refine f2 x l h _ (by lia) D ?_;by_cases c:kx r d (a+(l+(h-l) /2))<r m
    .rw[wB c];exact⟨rfl,_,_,rfl,by lia,by lia,by lia,λi u=>U i _ (by lia) (by lia) c,N⟩
    .rw[wA c];exact⟨rfl,_,_,rfl,by lia,by lia,by lia,L,λi G H=>J _ i G H c⟩
  case stop=>
   rintro c t ⟨rfl,l,h,rfl,w,D,v,L,N⟩;have:l=h:=by lia
   subst this;exact⟨rfl,l,rfl,D,L,N⟩
  case post=>
   rintro c t ⟨rfl,h,rfl,H,L,N⟩;exact f3 h (q h H L N)
 refine cT (C b _ O ?_);by_cases T:kx r d (a+b)<r m
 .rw[dX T];dsimp only;rw[wB rfl];refine cT (iP (iq (I:=λx c p=>p=st/\ ∃l o,c=(none,l,o)/\l<o/\x+1<=o/\l<n-b/\kx r d (a+(b+l))<r m)
   (Q:=λc p=>p=st/\ ∃l o,c=(none,l,o)/\l<o/\l<n-b/\kx r d (a+(b+l))<r m/\(o<n-b-> ¬kx r d (a+(b+o))<r m)) ?step ?stop ⟨rfl,0,1,rfl,by lia,by lia,by lia,T⟩) ?post)
  case step=>
   rintro x c p _ hx ⟨rfl,l,o,rfl,w,D,v,l4⟩;dsimp only;by_cases z:o≥n-b
   .rw[wB z];exact cY ⟨rfl,l,o,rfl,w,v,l4,λy=>by lia⟩
   .rw[wA z];refine cT (C _ _ (by lia) ?_);by_cases c:kx r d (a+(b+o))<r m
    .rw[dX c];exact cY ⟨rfl,o,_,rfl,by lia,by lia,by lia,c⟩
    .rw[fg c];exact cY ⟨rfl,l,o,rfl,w,v,l4,λ_=>c⟩
  case stop=>
   rintro c p ⟨rfl,l,o,rfl,w,D,v,l4⟩;exact⟨rfl,l,o,rfl,w,v,l4,λy=>by lia⟩
  case post=>
   rintro c p ⟨rfl,l,o,rfl,w,v,l4,l5⟩;dsimp only;refine fin (b+l+1) (b+min o (n-b)) _ _ _ rfl (uK (Nat.le_min.mpr ⟨w,v⟩) b) (dE (uK (Nat.min_le_right ..) b) (nH (mw (fR O)))) (λi u=>U i (b+l) (xP u) (Nat.add_lt_of_lt_sub' v) l4) (λi G H=>by
    by_cases z:o<n-b
    .exact J (b+o) i (by rw[sw (fR z)]at G;exact G) H (l5 z)
    .rw[Nat.min_eq_right (xC z),mw (fR O)]at G;exact wC H (Nat.not_lt.mpr G)) (λx l h R z B=>?_) (λx l h R z Y B=>?_) (λh hq=>cY hq)
   .dsimp only;rw[wB z];exact cY B
   .dsimp only;rw[wA (by lia)];refine cT (C _ _ (by lia) ?_);by_cases c:kx r d (a+(l+(h-l) /2))<r m
    .rw[wB c]at B;rw[dX c];exact cY B
    .rw[wA c]at B;rw[fg c];exact cY B
 .rw[fg T];dsimp only;rw[wA (by decide)];refine cT (iP (iq (I:=λx c p=>p=st/\ ∃l o,c=(none,l,o)/\l<o/\x+1<=o/\l<b+1/\ ¬kx r d (a+(b-l))<r m)
   (Q:=λc p=>p=st/\ ∃l o,c=(none,l,o)/\l<o/\l<b+1/\ ¬kx r d (a+(b-l))<r m/\(o<b+1->kx r d (a+(b-o))<r m)) ?step ?stop ⟨rfl,0,1,rfl,by lia,by lia,by lia,T⟩) ?post)
  case step=>
   rintro x c p _ hx ⟨rfl,l,o,rfl,w,D,v,l4⟩;dsimp only;by_cases z:o≥b+1
   .rw[wB z];exact cY ⟨rfl,l,o,rfl,w,v,l4,λy=>by lia⟩
   .rw[wA z];refine cT (C _ _ (by lia) ?_);by_cases c:kx r d (a+(b-o))<r m
    .rw[dX c];exact cY ⟨rfl,l,o,rfl,w,v,l4,λ_=>c⟩
    .rw[fg c];exact cY ⟨rfl,o,_,rfl,by lia,by lia,by lia,c⟩
  case stop=>
   rintro c p ⟨rfl,l,o,rfl,w,D,v,l4⟩;exact⟨rfl,l,o,rfl,w,v,l4,λy=>by lia⟩
  case post=>
   rintro c p ⟨rfl,l,o,rfl,w,v,l4,l5⟩;dsimp only;refine fin (b+1-min o (b+1)) (b-l) _ _ _ rfl (dE (Nat.sub_le_sub_left (Nat.le_min.mpr ⟨w,v⟩) _) (nH (Nat.add_sub_add_right ..))) (dE (Nat.sub_le ..) (fR O)) (λi u=>by
    by_cases z:o<b+1
    .rw[sw (fR z),Nat.succ_sub (xP z)]at u;exact U i (b-o) (xP u) (sZ (Nat.sub_le ..) O) (l5 z)
    .rw[Nat.min_eq_right (xC z),lG]at u;exact wC u (pU _)) (λi G H=>J (b-l) i G H l4) (λx l h R z B=>?_) (λx l h R z Y B=>?_) (λh hq=>cY hq)
   .dsimp only;rw[wB z];exact cY B
   .dsimp only;rw[wA (by lia)];refine cT (C _ _ (by lia) ?_);by_cases c:kx r d (a+(l+(h-l) /2))<r m
    .rw[wB c]at B;rw[dX c];exact cY B
    .rw[wA c]at B;rw[fg c];exact cY B
end
abbrev T5:Type:=Option (Array Keyed)×Array Keyed×Nat×Nat×Nat
abbrev T6:Type:=Option (Array Keyed)×Array Keyed×Nat×Nat×Nat×Nat
abbrev T7:Type:=Option (Array Keyed)×Array Keyed×Nat×Nat×Nat×Nat×Nat
def ze:Array Keyed->Array Keyed->StateT SortSt Sem (Array Keyed):=sortPriv%PySem.Builtin.mergeLo
def yl:Array Keyed->Array Keyed->StateT SortSt Sem (Array Keyed):=sortPriv%PySem.Builtin.mergeHi
def p0:Nat->StateT SortSt Sem Unit:=sortPriv%PySem.Builtin.setMinGallop
def GQ(g:Nat):p0 g=modify λst=>SortSt.mk' (kindOf st) (arrOf st) (pendingOf st) g (failedOf st):=rfl
section
variable(a b:Array Keyed)
abbrev i5(c:Array Keyed)(d e:Nat):Array Keyed:=c++a.extract d a.size++b.extract e b.size
abbrev mL(c:Array Keyed)(d e:Nat):Array Keyed:=c++b.extract e b.size++a.extract d a.size
def yj(mg:Nat)(c:T6):StateT SortSt Sem (ForInStep T6):=do
 let some d <-lt' (<-elem' b c.2.2.2.1) (<-elem' a c.2.2.1)|pure (.done (some (i5 a b c.2.1 c.2.2.1 c.2.2.2.1),c.2.1,c.2.2.1,c.2.2.2.1,c.2.2.2.2.1,c.2.2.2.2.2))
 if d then
  let x <-elem' b c.2.2.2.1
  if c.2.2.2.1+1==b.size then pure (.done (some (i5 a b (c.2.1.push x) c.2.2.1 (c.2.2.2.1+1)),c.2.1.push x,c.2.2.1,c.2.2.2.1+1,0,c.2.2.2.2.2+1))
  else if c.2.2.2.2.2+1≥mg then pure (.done (none,c.2.1.push x,c.2.2.1,c.2.2.2.1+1,0,c.2.2.2.2.2+1))
  else pure (.yield (none,c.2.1.push x,c.2.2.1,c.2.2.2.1+1,0,c.2.2.2.2.2+1))
 else
  let x <-elem' a c.2.2.1
  if c.2.2.1+1+1==a.size then pure (.done (some (mL a b (c.2.1.push x) (c.2.2.1+1) c.2.2.2.1),c.2.1.push x,c.2.2.1+1,c.2.2.2.1,c.2.2.2.2.1+1,0))
  else if c.2.2.2.2.1+1≥mg then pure (.done (none,c.2.1.push x,c.2.2.1+1,c.2.2.2.1,c.2.2.2.2.1+1,0))
  else pure (.yield (none,c.2.1.push x,c.2.2.1+1,c.2.2.2.1,c.2.2.2.2.1+1,0))
def mB(c:Array Keyed)(d e mg k f:Nat):StateT SortSt Sem (ForInStep T7):=do
 let x <-elem' a d
 if d+1+1==a.size then pure (.done (some (mL a b (c.push x) (d+1) e),c.push x,d+1,e,mg,k,f))
 else if k<7&&f<7 then pure (.done (none,c.push x,d+1,e,mg,k,f))
 else pure (.yield (none,c.push x,d+1,e,mg,k,f))
def mJ(d:Array Keyed)(f c mg k g:Nat):StateT SortSt Sem (ForInStep T7):=do
 let y <-elem' b c
 if c+1==b.size then pure (.done (some (i5 a b (d.push y) f (c+1)),d.push y,f,c+1,mg,k,g))
 else do
  let some e <-nY true (<-elem' a f) b (c+1) (b.size-(c+1)) 0|pure (.done (some (i5 a b (d.push y) f (c+1)),d.push y,f,c+1,mg,k,g))
  if e>0 then
   if c+1+e==b.size then pure (.done (some (i5 a b (d.push y++b.extract (c+1) (c+1+e)) f (c+1+e)),d.push y++b.extract (c+1) (c+1+e),f,c+1+e,mg,k,e))
   else mB a b (d.push y++b.extract (c+1) (c+1+e)) f (c+1+e) mg k e
  else mB a b (d.push y) f (c+1) mg k e
def nr(c:T7)(mg:Nat):StateT SortSt Sem (ForInStep T7):=do
 p0 mg
 let some k <-nY false (<-elem' b c.2.2.2.1) a c.2.2.1 (a.size-c.2.2.1) 0|pure (.done (some (i5 a b c.2.1 c.2.2.1 c.2.2.2.1),c.2.1,c.2.2.1,c.2.2.2.1,mg,c.2.2.2.2.2.1,c.2.2.2.2.2.2))
 if k>0 then
  if c.2.2.1+k+1==a.size then pure (.done (some (mL a b (c.2.1++a.extract c.2.2.1 (c.2.2.1+k)) (c.2.2.1+k) c.2.2.2.1),c.2.1++a.extract c.2.2.1 (c.2.2.1+k),c.2.2.1+k,c.2.2.2.1,mg,k,c.2.2.2.2.2.2))
  else if c.2.2.1+k==a.size then pure (.done (some (i5 a b (c.2.1++a.extract c.2.2.1 (c.2.2.1+k)) (c.2.2.1+k) c.2.2.2.1),c.2.1++a.extract c.2.2.1 (c.2.2.1+k),c.2.2.1+k,c.2.2.2.1,mg,k,c.2.2.2.2.2.2))
  else mJ a b (c.2.1++a.extract c.2.2.1 (c.2.2.1+k)) (c.2.2.1+k) c.2.2.2.1 mg k c.2.2.2.2.2.2
 else mJ a b c.2.1 c.2.2.1 c.2.2.2.1 mg k c.2.2.2.2.2.2
def yD(c:T7):StateT SortSt Sem (ForInStep T7):=if c.2.2.2.2.1>1 then nr a b c (c.2.2.2.2.1-1)else nr a b c c.2.2.2.2.1
def AG(c:T5):StateT SortSt Sem (ForInStep T5):=do
 let e <-forIn [0:a.size+b.size] ((none,c.2.1,c.2.2.1,c.2.2.2.1,0,0):T6) λ_ e=>yj a b c.2.2.2.2 e
 match e.1 with
 |some r=>pure (.done (some r,e.2.1,e.2.2.1,e.2.2.2.1,c.2.2.2.2))
 | none=>do
  rule "list.sort.gallop"
  let d <-forIn [0:a.size+b.size] ((none,e.2.1,e.2.2.1,e.2.2.2.1,c.2.2.2.2+1,e.2.2.2.2.1,e.2.2.2.2.2):T7) λ_ d=>yD a b d
  match d.1 with
  |some r=>pure (.done (some r,d.2.1,d.2.2.1,d.2.2.2.1,d.2.2.2.2.1))
  |none=>do
   p0 (d.2.2.2.2.1+1)
   pure (.yield (none,d.2.1,d.2.2.1,d.2.2.2.1,d.2.2.2.2.1+1))
def tT:StateT SortSt Sem (Array Keyed):=do
 rule "list.sort.merge-lo"
 let x <-elem' b 0
 if 1==b.size then pure (i5 a b #[x] 0 1)
 else if 0+1==a.size then pure (mL a b #[x] 0 1)
 else do
  let st <-get
  let c <-forIn [0:a.size+b.size] ((none,#[x],0,1,gallopOf st):T5) λ_ c=>AG a b c
  match c.1 with
  |some r=>pure r
  |none=>unsupported "internal:list.sort.merge-bound"
def GN:ze a b=tT a b:=by
 refine dL (bind _) (funext λ_=>?_);refine dL (bind (elem' b 0)) (funext λx=>?_);refine sh rfl (λ_=>rfl) (λ_=>?_);refine sh rfl (λ_=>rfl) (λ_=>?_);refine dL (bind get) (funext λst=>?_);refine congr (dL bind (dL (forIn [0:a.size+b.size] _) (funext λu=>funext λc=>?_))) (funext λc=>?_)
 .refine congr (dL bind (dL (forIn [0:a.size+b.size] _) (funext λu=>funext λd=>rfl))) (funext λd=>?_);obtain⟨e,f,h,i,j,k⟩:=d;cases e with
  |some e=>rfl
  | none=>
   refine dL (bind _) (funext λ_=>?_);refine congr (dL bind (dL (forIn [0:a.size+b.size] _) (funext λu=>funext λg=>?_))) (funext λg=>?_)
   .refine sh rfl (λ_=>?_) (λ_=>?_)
    .rfl
    .rfl
   .obtain⟨l,_⟩:=g;cases l<;>rfl
 .obtain⟨r,_⟩:=c;cases r<;>rfl
end
abbrev Up(r:Keyed->Int)(l:List Keyed):Prop:=l.Pairwise λx y=>r x<r y
structure Mg(r:Keyed->Int)(la lb out:List Keyed)(ia ib:Nat):Prop where
 perm:(out++la.drop ia++lb.drop ib).Perm (la++lb)
 so:Up r out
 oa: ∀x∈out,∀y∈la.drop ia,r x<r y
 ob: ∀x∈out,∀y∈lb.drop ib,r x<r y
section
variable{r:Keyed->Int}{la lb out:List Keyed}{ia ib:Nat}
def vK{l:List Keyed}(h:Up r l)(i:Nat):Up r (l.drop i):=m6 (List.drop_sublist i l) h
def Dp{l:List Keyed}(h:Up r l)(i k:Nat):Up r ((l.drop i).take k)/\ ∀x∈(l.drop i).take k,∀y∈l.drop (i+k),r x<r y:=by
 have z:=vK h i;rw[<-lT k (l.drop i)]at z;obtain⟨b,_,a⟩:=hY.mp z;rw[List.drop_drop]at a;exact⟨b,a⟩
def Mg.len(m:Mg r la lb out ia ib)(a:ia<=la.length)(b:ib<=lb.length):out.length+(la.length-ia)+(lb.length-ib)=la.length+lb.length:=by
 have z:=m.perm.length_eq;rw[dF,dF,dF,oB,oB]at z;exact z
def Mg.moveA(m:Mg r la lb out ia ib)(c:Up r la)(k:Nat)(h: ∀x∈(la.drop ia).take k,∀y∈lb.drop ib,r x<r y):Mg r la lb (out++(la.drop ia).take k) (ia+k) ib:=by
 obtain⟨d,f⟩:=Dp c ia k;have e:(la.drop ia).take k++la.drop (ia+k)=la.drop ia:=by rw[<-List.drop_drop];exact lT k _
 have sub: ∀y∈la.drop (ia+k),y∈la.drop ia:=λy a=>by rw[<-e];exact dw.mpr (.inr a)
 refine⟨?_,hY.mpr ⟨m.so,d,λx b y a=>m.oa x b y (r9 a)⟩,λx b y a=>?_,λx b y a=>?_⟩
 .have z:=m.perm;rw[<-e,<-fh]at z;exact z
 .rcases dw.mp b with z|z
  .exact m.oa x z y (sub y a)
  .exact f x z y a
 .rcases dw.mp b with z|z
  .exact m.ob x z y a
  .exact h x z y a
def Mg.moveB(m:Mg r la lb out ia ib)(c:Up r lb)(k:Nat)(h: ∀x∈(lb.drop ib).take k,∀y∈la.drop ia,r x<r y):Mg r la lb (out++(lb.drop ib).take k) ia (ib+k):=by
 obtain⟨d,f⟩:=Dp c ib k;have e:(lb.drop ib).take k++lb.drop (ib+k)=lb.drop ib:=by rw[<-List.drop_drop];exact lT k _
 have sub: ∀y∈lb.drop (ib+k),y∈lb.drop ib:=λy a=>by rw[<-e];exact dw.mpr (.inr a)
 refine⟨?_,hY.mpr ⟨m.so,d,λx b y a=>m.ob x b y (r9 a)⟩,λx b y a=>?_,λx b y a=>?_⟩
 .have z:=m.perm;rw[<-e]at z;refine List.Perm.trans ?_ z;rw[fh,fh,fh];refine tm _ ?_;rw[<-fh,<-fh];exact xr _ xW
 .rcases dw.mp b with z|z
  .exact m.oa x z y a
  .exact h x z y a
 .rcases dw.mp b with z|z
  .exact m.ob x z y (sub y a)
  .exact f x z y a
def fW(r:Keyed->Int)(la lb out:List Keyed):Prop:=out.Perm (la++lb)/\Up r out
def Mg.endB(m:Mg r la lb out ia ib)(a:Up r la)(h:lb.length<=ib):fW r la lb (out++la.drop ia++lb.drop ib):=by
 refine⟨m.perm,?_⟩;rw[List.drop_of_length_le h,gV];exact hY.mpr ⟨m.so,vK a ia,m.oa⟩
def Mg.endA(m:Mg r la lb out ia ib)(a:Up r lb)(h:la.length<=ia):fW r la lb (out++la.drop ia++lb.drop ib):=by
 refine⟨m.perm,?_⟩;rw[List.drop_of_length_le h,gV];exact hY.mpr ⟨m.so,vK a ib,m.ob⟩
def Mg.last(m:Mg r la lb out ia ib)(b:Up r lb)(h:ia+1=la.length)(top: ∀y∈lb,∀x∈la.drop ia,r y<r x):fW r la lb (out++lb.drop ib++la.drop ia):=by
 refine⟨List.Perm.trans ?_ m.perm,?_⟩
 .rw[fh,fh];exact tm _ xW
 .obtain⟨x,c⟩: ∃x,la.drop ia=[x]:=List.length_eq_one_iff.mp (by rw[oB];lia);refine hY.mpr ⟨hY.mpr ⟨m.so,vK b ib,m.ob⟩,by rw[c];exact pq _ _,λy d x a=>?_⟩
  rcases dw.mp d with z|z
  .exact m.oa y z x a
  .exact top y (BB z) x a
end
structure Eqv(st st':SortSt):Prop where
 kind:kindOf st'=kindOf st
 arr:arrOf st'=arrOf st
 pend:pendingOf st'=pendingOf st
 ok:failedOf st'=failedOf st
def Eqv.refl(st:SortSt):Eqv st st:=⟨rfl,rfl,rfl,rfl⟩
def Eqv.trans{a b c:SortSt}(h:Eqv a b)(d:Eqv b c):Eqv a c:=⟨d.kind.trans h.kind,d.arr.trans h.arr,d.pend.trans h.pend,d.ok.trans h.ok⟩
section
variable{M:Model}{A:Ar}{E:VP}{s:Sh}{κ:SortKind}{r:Keyed->Int}{a₀ a b out:Array Keyed}{ia ib:Nat}
def wx{g:Nat}{st:SortSt}{Q:Unit->SortSt->Prop}(h: ∀c,Eqv st c->Q () c):wpS M A E s (p0 g) Q st:=by
 rw[GQ];exact lW (h _ ⟨rfl,rfl,rfl,rfl⟩)
def wM(a:Array Keyed)(i:Nat):(a.extract i a.size).toList=a.toList.drop i:=by
 rw[wI,vU,wn (by rw[oB,d9];exact cM _)]
def D3(a:Array Keyed)(i k:Nat):(a.extract i (i+k)).toList=(a.toList.drop i).take k:=by
 rw[wI,vU,sV]
def tO:(i5 a b out ia ib).toList=out.toList++a.toList.drop ia++b.toList.drop ib:=by
 rw[j6,j6,wM,wM]
def vH:(mL a b out ia ib).toList=out.toList++b.toList.drop ib++a.toList.drop ia:=by
 rw[j6,j6,wM,wM]
def A6{i:Nat}(h:i<a.size):a.toList.drop i=a.getD i d0::a.toList.drop (i+1):=by
 have z:=nO h;rw[<-iU]at z;obtain⟨c,d⟩:=cK.mp z;rw[ve c,d]
def vY{i:Nat}{x:Keyed}(h:x∈a.toList.drop i): ∃j,i<=j/\j<a.size/\a.getD j d0=x:=by
 obtain⟨j,c⟩:=tK h;rw[ud,iU]at c;exact⟨i+j,by lia,(uP.mp c).1,dn c⟩
def Bl{i k:Nat}{x:Keyed}(h:x∈(a.toList.drop i).take k): ∃j,j<k/\i+j<a.size/\a.getD (i+j) d0=x:=by
 obtain⟨j,c⟩:=tK h;rw[zr]at c;split at c
 .next l=>
  rw[ud,iU]at c;exact⟨j,l,(uP.mp c).1,dn c⟩
 .cases c
def qj{lo c:Nat}(h:Up r a.toList)(o:c<=a.size):Ris r a lo c:=λi j _ d p=>by
 have e: ∀k,k<a.size->a.toList[k]? =some (a.getD k d0):=λk f=>by rw[iU];exact nO f
 obtain⟨g,l⟩:=cK.mp (e i (by lia));obtain⟨m,n⟩:=cK.mp (e j (by lia));have z:=nJ.mp h i j g m d;rw[l,n]at z;exact z
def gT{i:Nat}(h:i<a.size):a.getD i d0∈a.toList:=by
 rw[zw];exact BK (nO h)
structure Two(κ:SortKind)(r:Keyed->Int)(a₀ a b:Array Keyed):Prop where
 ma: ∀x∈a.toList,x∈a₀
 mb: ∀x∈b.toList,x∈a₀
 sa:Up r a.toList
 sb:Up r b.toList
 ap: ∀x∈a.toList,∀y∈b.toList,r x≠r y
 a1:0<a.size
 b1:0<b.size
 lo: ∀x∈a.toList,r (b.getD 0 d0)<r x
 top: ∀y∈b.toList,r y<r (a.getD (a.size-1) d0)
abbrev Gd(r:Keyed->Int)(a b m:Array Keyed):Prop:=fW r a.toList b.toList m.toList
def Two.tops(t:Two κ r a₀ a b){i:Nat}(h:i+1=a.size): ∀y∈b.toList,∀x∈a.toList.drop i,r y<r x:=λy c x d=>by
 obtain⟨j,f,g,rfl⟩:=vY d;have e:j=a.size-1:=by lia
 subst e;exact t.top y c
def we{x:Keyed}:(out.push x).toList=out.toList++[x]:=sA
def CV(t:Two κ r a₀ a b)(m:Mg r a.toList b.toList out.toList ia ib)(c:ia<a.size)(h: ∀y∈b.toList.drop ib,r (a.getD ia d0)<r y):Mg r a.toList b.toList (out.push (a.getD ia d0)).toList (ia+1) ib:=by
 have e:(a.toList.drop ia).take 1=[a.getD ia d0]:=by rw[A6 c];rfl
 have z:=m.moveA t.sa 1 (by rw[e];intro x d;rw[dj.mp d];exact h);rw[e]at z;rw[we];exact z
def BR(t:Two κ r a₀ a b)(m:Mg r a.toList b.toList out.toList ia ib)(c:ib<b.size)(h: ∀y∈a.toList.drop ia,r (b.getD ib d0)<r y):Mg r a.toList b.toList (out.push (b.getD ib d0)).toList ia (ib+1):=by
 have e:(b.toList.drop ib).take 1=[b.getD ib d0]:=by rw[A6 c];rfl
 have z:=m.moveB t.sb 1 (by rw[e];intro x d;rw[dj.mp d];exact h);rw[e]at z;rw[we];exact z
def below{x:Int}{i:Nat}(c:Up r a.toList)(g:i<a.size)(h:x<r (a.getD i d0)): ∀y∈a.toList.drop i,x<r y:=λy d=>by
 obtain⟨j,k,f,rfl⟩:=vY d;by_cases e:j=i
 .subst e;exact h
 .have:=qj (lo:=0) c (cM _) i j (hJ _) (by lia) f;show x<kx r a j;have:x<kx r a i:=h;lia
def He{e:SortSt}{mg old t:Nat}{c:T6}{st:SortSt}{Q:ForInStep T6->SortSt->Prop}(K:Asks M A s κ r a₀)(T:Two κ r a₀ a b)(n:Eqv e st)(o:kindOf e=κ)(p:c=(none,out,ia,ib,c.2.2.2.2.1,c.2.2.2.2.2))(m:Mg r a.toList b.toList out.toList ia ib)(q:ia+1<a.size)(d:ib<b.size)(B:old+t<=out.size)
  (k: ∀w rest,Gd r a b w->Q (.done (some w,rest)) st) (l: ∀out ia ib x y,Mg r a.toList b.toList out.toList ia ib->ia+1<a.size->ib<b.size->old+t+1<=out.size->Q (.done (none,out,ia,ib,x,y)) st/\Q (.yield (none,out,ia,ib,x,y)) st):wpS M A E s (yj a b mg c) Q st:=by
 have h:=n.kind.trans o;unfold yj;rw[p];dsimp only;have u:=T.ma _ (gT (show ia<a.size by lia));have v:=T.mb _ (gT d);refine cT (gn d (cT (gn (by lia) (cT (uH K h v u ?_)))));by_cases w:r (b.getD ib d0)<r (a.getD ia d0)
 .rw[dX w];refine cT (gn d ?_);have f:=BR T m d (below T.sa (by lia) w);by_cases z:ib+1=b.size
  .rw[wB (by simpa using z)];refine cY (k _ _ ?_);show fW r _ _ (i5 a b _ _ _).toList
   rw[tO];exact f.endB T.sa (by rw[d9];lia)
  .rw[wA (by simpa using z)];obtain⟨i,j⟩:=l _ _ _ 0 (c.2.2.2.2.2+1) f q (by lia) (by rw[mP];lia);by_cases g:c.2.2.2.2.2+1≥mg
   .rw[wB g];exact cY i
   .rw[wA g];exact cY j
 .rw[fg w];refine cT (gn (by lia) ?_);have C:=T.ap _ (gT (show ia<a.size by lia)) _ (gT d);have f:=CV T m (by lia) (below T.sb d (by lia));by_cases z:ia+1+1=a.size
  .rw[wB (by simpa using z)];refine cY (k _ _ ?_);show fW r _ _ (mL a b _ _ _).toList
   rw[vH];exact f.last T.sb (by rw[d9];lia) (T.tops (by lia))
  .rw[wA (by simpa using z)];obtain⟨i,j⟩:=l _ _ _ (c.2.2.2.2.1+1) 0 f (by lia) d (by rw[mP];lia);by_cases g:c.2.2.2.2.1+1≥mg
   .rw[wB g];exact cY i
   .rw[wA g];exact cY j
end
section
variable{M:Model}{A:Ar}{E:VP}{s:Sh}{κ:SortKind}{r:Keyed->Int}{a₀ a b out:Array Keyed}{ia ib:Nat}
structure Rnd(r:Keyed->Int)(a b:Array Keyed)(st0:SortSt)(old:Nat)(Q:ForInStep T7->SortSt->Prop):Prop where
 q1: ∀st w rest,Eqv st0 st->Gd r a b w->Q (.done (some w,rest)) st
 q2: ∀st (out:Array Keyed) ia ib x y z,Eqv st0 st->Mg r a.toList b.toList out.toList ia ib->ia+1<a.size->ib<b.size->old<=out.size->Q (.done (none,out,ia,ib,x,y,z)) st/\Q (.yield (none,out,ia,ib,x,y,z)) st
def FK{c st:SortSt}{mg k d old:Nat}{Q:ForInStep T7->SortSt->Prop}(T:Two κ r a₀ a b)(e:Eqv c st)(m:Mg r a.toList b.toList out.toList ia ib)(l:ia+1<a.size)(h:ib<b.size)(n:old<=out.size)(lt: ∀y∈b.toList.drop ib,r (a.getD ia d0)<r y)(q:Rnd r a b c old Q):wpS M A E s (mB a b out ia ib mg k d) Q st:=by
 unfold mB;refine cT (gn (by lia) ?_);have f:=CV T m (by lia) lt;by_cases z:ia+1+1=a.size
 .rw[wB (by simpa using z)];refine cY (q.q1 _ _ _ e ?_);show fW r _ _ (mL a b _ _ _).toList;rw[vH];exact f.last T.sb (by rw[d9];lia) (T.tops (by lia))
 .rw[wA (by simpa using z)];obtain⟨i,j⟩:=q.q2 st _ _ _ mg k d e f (by lia) h (by rw[mP];lia);by_cases g:(decide (k<7)&&decide (d<7))=true
  .rw[wB g];exact cY i
  .rw[wA g];exact cY j
def BV{c st:SortSt}{mg k I old:Nat}{Q:ForInStep T7->SortSt->Prop}(K:Asks M A s κ r a₀)(J:kindOf c=κ)(T:Two κ r a₀ a b)(f:Eqv c st)(m:Mg r a.toList b.toList out.toList ia ib)(w:ia+1<a.size)(B:ib<b.size)(Y:old<=out.size)(lt: ∀y∈a.toList.drop ia,r (b.getD ib d0)<r y)(q:Rnd r a b c old Q):wpS M A E s (mJ a b out ia ib mg k I) Q st:=by
 have p:=f.kind.trans J;unfold mJ;refine cT (gn B ?_);have o:=BR T m B lt;have h:old<=(out.push (b.getD ib d0)).size:=by rw[mP];lia
 generalize out.push (b.getD ib d0)=l at o h;by_cases z:ib+1=b.size
 .rw[wB (by simpa using z)];refine cY (q.q1 _ _ _ f ?_);show fW r _ _ (i5 a b _ _ _).toList;rw[tO];exact o.endB T.sa (by rw[d9];lia)
 rw[wA (by simpa using z)];have C:=gT (show ia<a.size by lia);refine cT (gn (by lia) (cT (qf K p (by lia) (λi L=>T.mb _ (gT (by lia))) (T.ma _ C) (λi L=>(T.ap _ C _ (gT (show ib+1+i<b.size by lia))).symm) (qj T.sb (by lia)) (by lia) λd kn N O=>?_)));dsimp only;have D: ∀y∈b.toList.drop (ib+1+d),r (a.getD ia d0)<r y:=λy t=>by
  obtain⟨j,n,G,rfl⟩:=vY t;have:=O (j-(ib+1)) (Bc (xo .. ▸n)) (Nat.sub_lt_sub_right (dE (lI ..) n) G);rw[mw (dE (lI ..) n)]at this;exact this
 by_cases g:d>0
 .rw[wB g];have u:=o.moveB T.sb d (λx U y t=>by
   obtain⟨j,n,G,rfl⟩:=Bl U;exact below T.sa (by lia) (N j n) y t)
  rw[<-D3,<-j6]at u;have v:old<=(l++b.extract (ib+1) (ib+1+d)).size:=by rw[wO];lia
  by_cases H:ib+1+d=b.size
  .rw[wB (by simpa using H)];refine cY (q.q1 _ _ _ f ?_);show fW r _ _ (i5 a b _ _ _).toList
   rw[tO];exact u.endB T.sa (by rw[d9];lia)
  .rw[wA (by simpa using H)];exact FK T f u w (by lia) v D q
 .rw[wA g];have e:d=0:=Nat.eq_zero_of_not_pos g;subst e;exact FK T f o w (by lia) h D q
def Ed{d st:SortSt}{c:T7}{mg old:Nat}{Q:ForInStep T7->SortSt->Prop}(K:Asks M A s κ r a₀)(o:kindOf d=κ)(T:Two κ r a₀ a b)(D:Eqv d st)(G:c.2.1=out/\c.2.2.1=ia/\c.2.2.2.1=ib)(m:Mg r a.toList b.toList out.toList ia ib)(H:ia+1<a.size)(f:ib<b.size)(I:old<=out.size)(q:Rnd r a b d old Q):wpS M A E s (nr a b c mg) Q st:=by
 obtain⟨J,L,N⟩:=G;unfold nr;rw[J,L,N];refine cT (wx λO U=>?_);have h:=D.trans U;have p:=h.kind.trans o;have v:=gT f;refine cT (gn f (cT (qf K p (by lia) (λi Y=>T.ma _ (gT (by lia))) (T.mb _ v) (λi Y=>T.ap _ (gT (show ia+i<a.size by lia)) _ v) (qj T.sa (by lia)) (by lia) λk kn k2 k3=>?_)));dsimp only;have w: ∀y∈a.toList.drop (ia+k),r (b.getD ib d0)<r y:=λy t=>by
  obtain⟨j,l,z,rfl⟩:=vY t;have:=k3 (j-ia) (Bc (xo .. ▸l)) (Nat.sub_lt_sub_right (dE (lI ..) l) z);rw[mw (dE (lI ..) l)]at this;exact this
 by_cases g:k>0
 .rw[wB g];have n:=m.moveA T.sa k (λx hx y t=>by
   obtain⟨j,l,z,rfl⟩:=Bl hx;exact below T.sb f (k2 j l) y t)
  rw[<-D3,<-j6]at n;have u:old<=(out++a.extract ia (ia+k)).size:=by rw[wO];lia
  by_cases B:ia+k+1=a.size
  .rw[wB (by simpa using B)];refine cY (q.q1 _ _ _ h ?_);show fW r _ _ (mL a b _ _ _).toList
   rw[vH];exact n.last T.sb (by rw[d9];lia) (T.tops (by lia))
  rw[wA (by simpa using B)];by_cases C:ia+k=a.size
  .rw[wB (by simpa using C)];refine cY (q.q1 _ _ _ h ?_);show fW r _ _ (i5 a b _ _ _).toList
   rw[tO];exact n.endA T.sb (by rw[d9];lia)
  rw[wA (by simpa using C)];exact BV K o T h n (by lia) f u w q
 .rw[wA g];have e:k=0:=Nat.eq_zero_of_not_pos g;subst e;exact BV K o T h m H f I w q
def HH{d st:SortSt}{c:T7}{old:Nat}{Q:ForInStep T7->SortSt->Prop}(K:Asks M A s κ r a₀)(e:kindOf d=κ)(T:Two κ r a₀ a b)(f:Eqv d st)(g:c.2.1=out/\c.2.2.1=ia/\c.2.2.2.1=ib)(m:Mg r a.toList b.toList out.toList ia ib)(h:ia+1<a.size)(i:ib<b.size)(j:old<=out.size)(q:Rnd r a b d old Q):wpS M A E s (yD a b c) Q st:=by
 unfold yD;split
 .exact Ed K e T f g m h i j q
 .exact Ed K e T f g m h i j q
def Gc{f st:SortSt}{c:T5}{Q:ForInStep T5->SortSt->Prop}{mg:Nat}(K:Asks M A s κ r a₀)(hk:kindOf f=κ)(T:Two κ r a₀ a b)(e0:Eqv f st)(ec:c=(none,out,ia,ib,mg))(m:Mg r a.toList b.toList out.toList ia ib)(ha:ia+1<a.size)(hb:ib<b.size)
  (q1: ∀st w rest,Eqv f st->Gd r a b w->Q (.done (some w,rest)) st) (q2: ∀st (k:Array Keyed) ia ib g,Eqv f st->Mg r a.toList b.toList k.toList ia ib->ia+1<a.size->ib<b.size->out.size+1<=k.size->Q (.yield (none,k,ia,ib,g)) st):wpS M A E s (AG a b c) Q st:=by
 subst ec;unfold AG;dsimp only;have aa:0<a.size+b.size:=by lia
 refine cT (iP (iq (I:=λx (q:T6) d=>Eqv f d/\ ∃(o:Array Keyed) (i j u v:Nat),q=(none,o,i,j,u,v)/\Mg r a.toList b.toList o.toList i j/\i+1<a.size/\j<b.size/\out.size+x<=o.size)
  (Q:=λq d=>Eqv f d/\((∃w rest,q=(some w,rest)/\Gd r a b w)∨ ∃(o:Array Keyed) (i j u v:Nat),q=(none,o,i,j,u,v)/\Mg r a.toList b.toList o.toList i j/\i+1<a.size/\j<b.size/\out.size+1<=o.size)) ?step ?stop ⟨e0,out,ia,ib,0,0,rfl,m,ha,hb,cM _⟩) ?post)
 case step=>
  rintro x q d _ hx ⟨p,o,i,j,u,v,rfl,C,D,G,h3⟩;refine He (old:=out.size) (t:=x) K T p hk rfl C D G h3 (λw rest g=>⟨p,.inl ⟨w,rest,rfl,g⟩⟩) λH J L u' v' N l n y=>⟨⟨p,.inr ⟨H,J,L,u',v',rfl,N,l,n,by lia⟩⟩,⟨p,H,J,L,u',v',rfl,N,l,n,by lia⟩⟩
 case stop=>
  rintro q d ⟨p,o,i,j,u,v,rfl,C,D,G,h3⟩;exact⟨p,.inr ⟨o,i,j,u,v,rfl,C,D,G,by lia⟩⟩
 case post=>
  rintro q d ⟨p,h⟩
  rcases h with⟨w,rest,rfl,g⟩|⟨o,i,j,u,v,rfl,C,D,G,h3⟩
  .exact cY (q1 _ _ _ p g)
  dsimp only;refine cT (pP (mW ⟨rfl,?_⟩));refine cT (iP (iq (I:=λx (z:T7) d=>Eqv f d/\ ∃(o:Array Keyed) (i j u v w:Nat),z=(none,o,i,j,u,v,w)/\Mg r a.toList b.toList o.toList i j/\i+1<a.size/\j<b.size/\out.size+1<=o.size)
   (Q:=λz d=>Eqv f d/\((∃w rest,z=(some w,rest)/\Gd r a b w)∨ ∃(o:Array Keyed) (i j u v w:Nat),z=(none,o,i,j,u,v,w)/\Mg r a.toList b.toList o.toList i j/\i+1<a.size/\j<b.size/\out.size+1<=o.size)) ?step2 ?stop2 ⟨p,o,i,j,mg+1,u,v,rfl,C,D,G,h3⟩) ?post2)
  case step2=>
   rintro x z O _ hx ⟨B,o,i,j,u,v,w,rfl,U,Y,g2,g3⟩;exact HH K hk T B ⟨rfl,rfl,rfl⟩ U Y g2 g3 ⟨λst w rest e g=>⟨e,.inl ⟨w,rest,rfl,g⟩⟩,λst H J L x' y' z' e N l n y=>⟨⟨e,.inr ⟨H,J,L,x',y',z',rfl,N,l,n,y⟩⟩,⟨e,H,J,L,x',y',z',rfl,N,l,n,y⟩⟩⟩
  case stop2=>
   rintro z O ⟨B,o,i,j,u,v,w,rfl,U,Y,g2,g3⟩;exact⟨B,.inr ⟨o,i,j,u,v,w,rfl,U,Y,g2,g3⟩⟩
  case post2=>
   rintro z O ⟨B,h⟩
   rcases h with⟨w,rest,rfl,g⟩|⟨o,i,j,u,v,w,rfl,U,Y,g2,g3⟩
   .exact cY (q1 _ _ _ B g)
   .dsimp only;exact cT (wx λab x3=>cY (q2 _ _ _ _ _ (B.trans x3) U Y g2 g3))
def Gu{st:SortSt}{Q:Array Keyed->SortSt->Prop}(K:Asks M A s κ r a₀)(C:kindOf st=κ)(T:Two κ r a₀ a b)(q: ∀m d,Eqv st d->Gd r a b m->Q m d):wpS M A E s (ze a b) Q st:=by
 rw[GN];unfold tT;refine cT (pP (mW ⟨rfl,cT (gn T.b1 ?_)⟩));have D:Mg r a.toList b.toList (#[]:Array Keyed).toList 0 0:=⟨by simp,List.Pairwise.nil,λx f=>(nomatch f),λx f=>(nomatch f)⟩;have k:Mg r a.toList b.toList (#[b.getD 0 d0]:Array Keyed).toList 0 1:=BR (out:= #[]) T D T.b1 (λy G=>T.lo y G);have a1:=T.a1;have b1:=T.b1;by_cases t:1=b.size
 .rw[wB (by simpa using t)];refine cY (q _ _ (Eqv.refl _) ?_);show fW r _ _ (i5 a b _ _ _).toList;rw[tO];exact k.endB T.sa (by rw[d9];lia)
 rw[wA (by simpa using t)];by_cases u:0+1=a.size
 .rw[wB (by simpa using u)];refine cY (q _ _ (Eqv.refl _) ?_);show fW r _ _ (mL a b _ _ _).toList;rw[vH];exact k.last T.sb (by rw[d9];lia) (T.tops (by lia))
 rw[wA (by simpa using u)];refine cT (j5 (cT (iP (iq (I:=λx (c:T5) d=>Eqv st d/\ ∃(o:Array Keyed) (i j g:Nat),c=(none,o,i,j,g)/\Mg r a.toList b.toList o.toList i j/\i+1<a.size/\j<b.size/\x+1<=o.size)
  (Q:=λc d=>Eqv st d/\ ∃w rest,c=(some w,rest)/\Gd r a b w) ?step ?stop ⟨Eqv.refl _,_,0,1,_,rfl,k,by lia,by lia,cM _⟩) ?post)))
 case step=>
  rintro x c d _ f ⟨h,o,i,j,g,rfl,l,v,B,H⟩;exact Gc K C T h rfl l v B (λst w rest e g=>⟨e,w,rest,rfl,g⟩) λd J L N O e U n p Y=>⟨e,J,L,N,O,rfl,U,n,p,by lia⟩
 case stop=>
  rintro c d ⟨h,o,i,j,g,rfl,l,v,B,H⟩;have z:=l.len (by rw[d9];lia) (by rw[d9];lia);rw[d9,d9,d9]at z
  exfalso
  lia
 case post=>
  rintro c d ⟨h,w,rest,rfl,g⟩;exact cY (q _ _ h g)
end
abbrev U5:Type:=Option (Array Keyed)×Nat×Nat×Array Keyed×Nat
abbrev U6:Type:=Option (Array Keyed)×Nat×Nat×Array Keyed×Nat×Nat
abbrev U7:Type:=Option (Array Keyed)×Nat×Nat×Array Keyed×Nat×Nat×Nat
section
variable(a b:Array Keyed)
abbrev jf(c:Array Keyed)(d e:Nat):Array Keyed:=a.extract 0 d++b.extract 0 e++c.reverse
abbrev m8(c:Array Keyed)(d e:Nat):Array Keyed:=b.extract 0 e++a.extract 0 d++c.reverse
def n6(mg:Nat)(c:U6):StateT SortSt Sem (ForInStep U6):=do
 let some d <-lt' (<-elem' b (c.2.2.1-1)) (<-elem' a (c.2.1-1))|pure (.done (some (jf a b c.2.2.2.1 c.2.1 c.2.2.1),c.2.1,c.2.2.1,c.2.2.2.1,c.2.2.2.2.1,c.2.2.2.2.2))
 if d then
  let x <-elem' a (c.2.1-1)
  if c.2.1-1==0 then pure (.done (some (jf a b (c.2.2.2.1.push x) (c.2.1-1) c.2.2.1),c.2.1-1,c.2.2.1,c.2.2.2.1.push x,c.2.2.2.2.1+1,0))
  else if c.2.2.2.2.1+1≥mg then pure (.done (none,c.2.1-1,c.2.2.1,c.2.2.2.1.push x,c.2.2.2.2.1+1,0))
  else pure (.yield (none,c.2.1-1,c.2.2.1,c.2.2.2.1.push x,c.2.2.2.2.1+1,0))
 else
  let x <-elem' b (c.2.2.1-1)
  if c.2.2.1-1==1 then pure (.done (some (m8 a b (c.2.2.2.1.push x) c.2.1 (c.2.2.1-1)),c.2.1,c.2.2.1-1,c.2.2.2.1.push x,0,c.2.2.2.2.2+1))
  else if c.2.2.2.2.2+1≥mg then pure (.done (none,c.2.1,c.2.2.1-1,c.2.2.2.1.push x,0,c.2.2.2.2.2+1))
  else pure (.yield (none,c.2.1,c.2.2.1-1,c.2.2.2.1.push x,0,c.2.2.2.2.2+1))
def mZ(d e:Nat)(c:Array Keyed)(mg k f:Nat):StateT SortSt Sem (ForInStep U7):=do
 let x <-elem' a (d-1)
 if d-1==0 then pure (.done (some (jf a b (c.push x) (d-1) e),d-1,e,c.push x,mg,k,f))
 else if k<7&&f<7 then pure (.done (none,d-1,e,c.push x,mg,k,f))
 else pure (.yield (none,d-1,e,c.push x,mg,k,f))
def mT(e d:Nat)(c:Array Keyed)(mg k f:Nat):StateT SortSt Sem (ForInStep U7):=do
 let y <-elem' b (d-1)
 if d-1==1 then pure (.done (some (m8 a b (c.push y) e (d-1)),e,d-1,c.push y,mg,k,f))
 else do
  let some t <-nY true (<-elem' a (e-1)) b 0 (d-1) (d-1-1)|pure (.done (some (jf a b (c.push y) e (d-1)),e,d-1,c.push y,mg,k,f))
  if d-1-t>0 then
   if t==1 then pure (.done (some (m8 a b (c.push y++(b.extract t (d-1)).reverse) e t),e,t,c.push y++(b.extract t (d-1)).reverse,mg,k,d-1-t))
   else if t==0 then pure (.done (some (jf a b (c.push y++(b.extract t (d-1)).reverse) e t),e,t,c.push y++(b.extract t (d-1)).reverse,mg,k,d-1-t))
   else mZ a b e t (c.push y++(b.extract t (d-1)).reverse) mg k (d-1-t)
  else mZ a b e (d-1) (c.push y) mg k (d-1-t)
def mG(c:U7)(mg:Nat):StateT SortSt Sem (ForInStep U7):=do
 p0 mg
 let some t <-nY false (<-elem' b (c.2.2.1-1)) a 0 c.2.1 (c.2.1-1)|pure (.done (some (jf a b c.2.2.2.1 c.2.1 c.2.2.1),c.2.1,c.2.2.1,c.2.2.2.1,mg,c.2.2.2.2.2.1,c.2.2.2.2.2.2))
 if c.2.1-t>0 then
  if t==0 then pure (.done (some (jf a b (c.2.2.2.1++(a.extract t c.2.1).reverse) t c.2.2.1),t,c.2.2.1,c.2.2.2.1++(a.extract t c.2.1).reverse,mg,c.2.1-t,c.2.2.2.2.2.2))
  else mT a b t c.2.2.1 (c.2.2.2.1++(a.extract t c.2.1).reverse) mg (c.2.1-t) c.2.2.2.2.2.2
 else mT a b c.2.1 c.2.2.1 c.2.2.2.1 mg (c.2.1-t) c.2.2.2.2.2.2
def sB(c:U7):StateT SortSt Sem (ForInStep U7):=if c.2.2.2.2.1>1 then mG a b c (c.2.2.2.2.1-1)else mG a b c c.2.2.2.2.1
def AY(c:U5):StateT SortSt Sem (ForInStep U5):=do
 let e <-forIn [0:a.size+b.size] ((none,c.2.1,c.2.2.1,c.2.2.2.1,0,0):U6) λ_ e=>n6 a b c.2.2.2.2 e
 match e.1 with
 |some r=>pure (.done (some r,e.2.1,e.2.2.1,e.2.2.2.1,c.2.2.2.2))
 | none=>do
  rule "list.sort.gallop"
  let d <-forIn [0:a.size+b.size] ((none,e.2.1,e.2.2.1,e.2.2.2.1,c.2.2.2.2+1,e.2.2.2.2.1,e.2.2.2.2.2):U7) λ_ d=>sB a b d
  match d.1 with
  |some r=>pure (.done (some r,d.2.1,d.2.2.1,d.2.2.2.1,d.2.2.2.2.1))
  |none=>do
   p0 (d.2.2.2.2.1+1)
   pure (.yield (none,d.2.1,d.2.2.1,d.2.2.2.1,d.2.2.2.2.1+1))
def EH:StateT SortSt Sem (Array Keyed):=do
 rule "list.sort.merge-hi"
 let x <-elem' a (a.size-1)
 if a.size-1==0 then pure (jf a b #[x] (a.size-1) b.size)
 else if b.size==1 then pure (m8 a b #[x] (a.size-1) b.size)
 else do
  let st <-get
  let c <-forIn [0:a.size+b.size] ((none,a.size-1,b.size,#[x],gallopOf st):U5) λ_ c=>AY a b c
  match c.1 with
  |some r=>pure r
  |none=>unsupported "internal:list.sort.merge-bound"
def JI:yl a b=EH a b:=by
 refine dL (bind _) (funext λ_=>?_);refine dL (bind (elem' a (a.size-1))) (funext λx=>?_);refine sh rfl (λ_=>rfl) (λ_=>?_);refine sh rfl (λ_=>rfl) (λ_=>?_);refine dL (bind get) (funext λst=>?_);refine congr (dL bind (dL (forIn [0:a.size+b.size] _) (funext λu=>funext λc=>?_))) (funext λc=>?_)
 .refine congr (dL bind (dL (forIn [0:a.size+b.size] _) (funext λu=>funext λd=>rfl))) (funext λd=>?_);obtain⟨e,f,h,i,j,k⟩:=d;cases e with
  |some e=>rfl
  | none=>
   refine dL (bind _) (funext λ_=>?_);refine congr (dL bind (dL (forIn [0:a.size+b.size] _) (funext λu=>funext λg=>?_))) (funext λg=>?_)
   .refine sh rfl (λ_=>?_) (λ_=>?_)
    .rfl
    .rfl
   .obtain⟨l,_⟩:=g;cases l<;>rfl
 .obtain⟨r,_⟩:=c;cases r<;>rfl
end
structure Mh(r:Keyed->Int)(la lb out:List Keyed)(na nb:Nat):Prop where
 perm:(la.take na++lb.take nb++out.reverse).Perm (la++lb)
 so:Up r out.reverse
 ao: ∀x∈la.take na,∀y∈out,r x<r y
 bo: ∀x∈lb.take nb,∀y∈out,r x<r y
section
variable{r:Keyed->Int}{la lb out:List Keyed}{na nb:Nat}
def CW{l:List Keyed}(h:Up r l){n t:Nat}(ht:t<=n):l.take t++(l.take n).drop t=l.take n/\Up r ((l.take n).drop t)/\ ∀x∈l.take t,∀y∈(l.take n).drop t,r x<r y:=by
 have e:l.take t++(l.take n).drop t=l.take n:=by
  have z:=lT t (l.take n);rwa[List.take_take,sw ht]at z
 have z:Up r (l.take n):=m6 (qh n l) h;rw[<-e]at z;obtain⟨_,a,b⟩:=hY.mp z;exact⟨e,a,b⟩
def Mh.len(m:Mh r la lb out na nb)(a:na<=la.length)(b:nb<=lb.length):na+nb+out.length=la.length+lb.length:=by
 have z:=m.perm.length_eq;rw[dF,dF,dF,fK,fK,List.length_reverse]at z;lia
def Mh.moveA(m:Mh r la lb out na nb)(g:Up r la){t:Nat}(ht:t<=na)(h: ∀x∈lb.take nb,∀y∈(la.take na).drop t,r x<r y):Mh r la lb (out++((la.take na).drop t).reverse) t nb:=by
 obtain⟨e,u,c⟩:=CW g ht;have sub: ∀x∈la.take t,x∈la.take na:=λx a=>by rw[<-e];exact dw.mpr (.inl a)
 have b: ∀x∈(la.take na).drop t,x∈la.take na:=λx a=>BB a;have f:(out++((la.take na).drop t).reverse).reverse=(la.take na).drop t++out.reverse:=by rw[List.reverse_append,List.reverse_reverse]
 refine⟨?_,?_,λx a y d=>?_,λx a y d=>?_⟩
 .rw[f];refine List.Perm.trans ?_ m.perm
  conv=>rhs;rw[<-e]
  rw[fh,fh,fh];refine tm _ ?_;rw[<-fh,<-fh];exact xr _ xW
 .rw[f];exact hY.mpr ⟨u,m.so,λx a y d=>m.ao x (b x a) y (lA.mp d)⟩
 .rcases dw.mp d with z|z
  .exact m.ao x (sub x a) y z
  .exact c x a y (lA.mp z)
 .rcases dw.mp d with z|z
  .exact m.bo x a y z
  .exact h x a y (lA.mp z)
def Mh.moveB(m:Mh r la lb out na nb)(g:Up r lb){t:Nat}(ht:t<=nb)(h: ∀x∈la.take na,∀y∈(lb.take nb).drop t,r x<r y):Mh r la lb (out++((lb.take nb).drop t).reverse) na t:=by
 obtain⟨e,u,c⟩:=CW g ht;have sub: ∀x∈lb.take t,x∈lb.take nb:=λx a=>by rw[<-e];exact dw.mpr (.inl a)
 have b: ∀x∈(lb.take nb).drop t,x∈lb.take nb:=λx a=>BB a;have f:(out++((lb.take nb).drop t).reverse).reverse=(lb.take nb).drop t++out.reverse:=by rw[List.reverse_append,List.reverse_reverse]
 refine⟨?_,?_,λx a y d=>?_,λx a y d=>?_⟩
 .rw[f];refine List.Perm.trans ?_ m.perm
  conv=>rhs;rw[<-e]
  rw[fh,fh,fh]
 .rw[f];exact hY.mpr ⟨u,m.so,λx a y d=>m.bo x (b x a) y (lA.mp d)⟩
 .rcases dw.mp d with z|z
  .exact m.ao x a y z
  .exact h x a y (lA.mp z)
 .rcases dw.mp d with z|z
  .exact m.bo x (sub x a) y z
  .exact c x a y (lA.mp z)
def Mh.endA(m:Mh r la lb out na nb)(a:Up r lb)(h:na=0):fW r la lb (la.take na++lb.take nb++out.reverse):=by
 refine⟨m.perm,?_⟩;subst h;rw[List.take_zero,A'];exact hY.mpr ⟨m6 (qh nb lb) a,m.so,λx b y c=>m.bo x b y (lA.mp c)⟩
def Mh.endB(m:Mh r la lb out na nb)(a:Up r la)(h:nb=0):fW r la lb (la.take na++lb.take nb++out.reverse):=by
 refine⟨m.perm,?_⟩;subst h;rw[List.take_zero,gV];exact hY.mpr ⟨m6 (qh na la) a,m.so,λx b y c=>m.ao x b y (lA.mp c)⟩
def Mh.first(m:Mh r la lb out na nb)(c:Up r la)(d:Up r lb)(bot: ∀y∈lb.take nb,∀x∈la,r y<r x):fW r la lb (lb.take nb++la.take na++out.reverse):=by
 refine⟨List.Perm.trans (xr _ xW) m.perm,?_⟩;refine hY.mpr ⟨hY.mpr ⟨m6 (qh nb lb) d,m6 (qh na la) c,λy a x b=>bot y a x (r9 b)⟩,m.so,λx b y a=>?_⟩
 rcases dw.mp b with z|z
 .exact m.bo x z y (lA.mp a)
 .exact m.ao x z y (lA.mp a)
end
section
variable{M:Model}{A:Ar}{E:VP}{s:Sh}{κ:SortKind}{r:Keyed->Int}{a₀ a b out:Array Keyed}{na nb:Nat}
def vR(a:Array Keyed)(i:Nat):(a.extract 0 i).toList=a.toList.take i:=by
 rw[wI,vU,List.drop_zero,Nat.sub_zero]
def A5(a:Array Keyed)(t n:Nat):(a.extract t n).toList=(a.toList.take n).drop t:=by
 rw[wI,vU,List.drop_take]
def uG:(jf a b out na nb).toList=a.toList.take na++b.toList.take nb++out.toList.reverse:=by
 rw[j6,j6,vR,vR,xY]
def v7:(m8 a b out na nb).toList=b.toList.take nb++a.toList.take na++out.toList.reverse:=by
 rw[j6,j6,vR,vR,xY]
def v5{n:Nat}{x:Keyed}(h:x∈a.toList.take n): ∃j,j<n/\j<a.size/\a.getD j d0=x:=by
 obtain⟨j,e,c,d⟩:=Bl (i:=0) (k:=n) (by rw[List.drop_zero];exact h);rw[pX]at c d;exact⟨j,e,c,d⟩
def xF{t n:Nat}{x:Keyed}(h:x∈(a.toList.take n).drop t): ∃j,t<=j/\j<n/\j<a.size/\a.getD j d0=x:=by
 obtain⟨j,c⟩:=tK h;rw[ud,zr]at c;split at c
 .next l=>
  rw[iU]at c;exact⟨t+j,by lia,l,(uP.mp c).1,dn c⟩
 .cases c
def wq{n:Nat}(h:n<a.size):(a.toList.take (n+1)).drop n=[a.getD n d0]:=by
 rw[List.drop_take,A6 h,sV];rfl
def vv{x:Int}{n:Nat}(c:Up r a.toList)(d:n<a.size)(h:r (a.getD n d0)<x): ∀y∈a.toList.take (n+1),r y<x:=λy f=>by
 obtain⟨j,g,i,rfl⟩:=v5 f;by_cases e:j=n
 .subst e;exact h
 .have:=qj (lo:=0) c (cM _) j n (hJ _) (by lia) d;show kx r a j<x;have:kx r a n<x:=h;lia
def zZ(t:Two κ r a₀ a b)(m:Mh r a.toList b.toList out.toList (na+1) nb)(c:na<a.size)(h: ∀y∈b.toList.take nb,r y<r (a.getD na d0)):Mh r a.toList b.toList (out.push (a.getD na d0)).toList na nb:=by
 have z:=m.moveA t.sa (t:=na) (l6 _) (by rw[wq c];intro x d y e;rw[dj.mp e];exact h x d);rw[wq c]at z;rw[we];exact z
def Fz(t:Two κ r a₀ a b)(m:Mh r a.toList b.toList out.toList na (nb+1))(c:nb<b.size)(h: ∀y∈a.toList.take na,r y<r (b.getD nb d0)):Mh r a.toList b.toList (out.push (b.getD nb d0)).toList na nb:=by
 have z:=m.moveB t.sb (t:=nb) (l6 _) (by rw[wq c];intro x d y e;rw[dj.mp e];exact h x d);rw[wq c]at z;rw[we];exact z
def Two.bot(t:Two κ r a₀ a b): ∀y∈b.toList.take 1,∀x∈a.toList,r y<r x:=λy c x d=>by
 obtain⟨j,f,g,rfl⟩:=v5 c;have e:j=0:=by lia
 subst e;exact t.lo x d
def MN{h:SortSt}{mg old t:Nat}{c:U6}{st:SortSt}{Q:ForInStep U6->SortSt->Prop}(K:Asks M A s κ r a₀)(T:Two κ r a₀ a b)(p:Eqv h st)(q:kindOf h=κ)(u:c=(none,na+1,nb+2,out,c.2.2.2.2.1,c.2.2.2.2.2))(m:Mh r a.toList b.toList out.toList (na+1) (nb+2))(d:na<a.size)(e:nb+1<b.size)(C:old+t<=out.size)
  (n: ∀w rest,Gd r a b w->Q (.done (some w,rest)) st) (o: ∀na nb (out:Array Keyed) x y,Mh r a.toList b.toList out.toList (na+1) (nb+2)->na<a.size->nb+1<b.size->old+t+1<=out.size->Q (.done (none,na+1,nb+2,out,x,y)) st/\Q (.yield (none,na+1,nb+2,out,x,y)) st):wpS M A E s (n6 a b mg c) Q st:=by
 have j:=p.kind.trans q;unfold n6;rw[u];dsimp only;have v:=T.ma _ (gT d);have B:=T.mb _ (gT e);rw[show nb+2-1=nb+1 by lia,show na+1-1=na by lia];refine cT (gn e (cT (gn d (cT (uH K j B v ?_)))));by_cases w:r (b.getD (nb+1) d0)<r (a.getD na d0)
 .rw[dX w];refine cT (gn d ?_);have i:=zZ T m d (vv T.sb e w);by_cases z:na=0
  .rw[wB (by simpa using z)];refine cY (n _ _ ?_);show fW r _ _ (jf a b _ _ _).toList
   rw[uG];exact i.endA T.sb z
  .rw[wA (by simpa using z)];obtain⟨f,rfl⟩: ∃f,na=f+1:=nR (by first|assumption|lia);obtain⟨k,l⟩:=o f nb _ (c.2.2.2.2.1+1) 0 i (by lia) e (by rw[mP];lia);by_cases g:c.2.2.2.2.1+1≥mg
   .rw[wB g];exact cY k
   .rw[wA g];exact cY l
 .rw[fg w];refine cT (gn e ?_);have D:=T.ap _ (gT d) _ (gT e);have i:=Fz T m e (vv T.sa d (by lia));by_cases z:nb+1=1
  .rw[wB (by simpa using z)];refine cY (n _ _ ?_);show fW r _ _ (m8 a b _ _ _).toList
   rw[v7];exact i.first T.sa T.sb (by rw[z];exact T.bot)
  .rw[wA (by simpa using z)];obtain⟨f,rfl⟩: ∃f,nb=f+1:=nR (by first|assumption|lia);obtain⟨k,l⟩:=o na f _ 0 (c.2.2.2.2.2+1) i d (by lia) (by rw[mP];lia);by_cases g:c.2.2.2.2.2+1≥mg
   .rw[wB g];exact cY k
   .rw[wA g];exact cY l
structure RndH(r:Keyed->Int)(a b:Array Keyed)(st0:SortSt)(old:Nat)(Q:ForInStep U7->SortSt->Prop):Prop where
 q1: ∀st w rest,Eqv st0 st->Gd r a b w->Q (.done (some w,rest)) st
 q2: ∀st na nb (out:Array Keyed) x y z,Eqv st0 st->Mh r a.toList b.toList out.toList (na+1) (nb+2)->na<a.size->nb+1<b.size->old<=out.size->Q (.done (none,na+1,nb+2,out,x,y,z)) st/\Q (.yield (none,na+1,nb+2,out,x,y,z)) st
def Ce{c st:SortSt}{mg k d old:Nat}{Q:ForInStep U7->SortSt->Prop}(T:Two κ r a₀ a b)(f:Eqv c st)(m:Mh r a.toList b.toList out.toList (na+1) (nb+2))(h:na<a.size)(j:nb+1<b.size)(o:old<=out.size)(lt: ∀y∈b.toList.take (nb+2),r y<r (a.getD na d0))(q:RndH r a b c old Q):wpS M A E s (mZ a b (na+1) (nb+2) out mg k d) Q st:=by
 unfold mZ;rw[show na+1-1=na by lia];refine cT (gn h ?_);have i:=zZ T m h lt;by_cases z:na=0
 .rw[wB (by simpa using z)];refine cY (q.q1 _ _ _ f ?_);show fW r _ _ (jf a b _ _ _).toList;rw[uG];exact i.endA T.sb z
 .rw[wA (by simpa using z)];obtain⟨e,rfl⟩: ∃e,na=e+1:=nR (by first|assumption|lia);obtain⟨l,n⟩:=q.q2 st e nb _ mg k d f i (by lia) j (by rw[mP];lia);by_cases g:(decide (k<7)&&decide (d<7))=true
  .rw[wB g];exact cY l
  .rw[wA g];exact cY n
def Db{c st:SortSt}{mg k J old:Nat}{Q:ForInStep U7->SortSt->Prop}(K:Asks M A s κ r a₀)(L:kindOf c=κ)(T:Two κ r a₀ a b)(d:Eqv c st)(m:Mh r a.toList b.toList out.toList (na+1) (nb+2))(f:na<a.size)(G:nb+1<b.size)(hz:old<=out.size)(lt: ∀y∈a.toList.take (na+1),r y<r (b.getD (nb+1) d0))(q:RndH r a b c old Q):wpS M A E s (mT a b (na+1) (nb+2) out mg k J) Q st:=by
 have u:=d.kind.trans L;unfold mT;rw[show nb+2-1=nb+1 by lia,show na+1-1=na by lia];refine cT (gn G ?_);have o:=Fz T m G lt;have h:old<=(out.push (b.getD (nb+1) d0)).size:=by rw[mP];lia
 generalize out.push (b.getD (nb+1) d0)=l at o h;by_cases z:nb+1=1
 .rw[wB (by simpa using z)];refine cY (q.q1 _ _ _ d ?_);show fW r _ _ (m8 a b _ _ _).toList;rw[v7];exact o.first T.sa T.sb (by rw[z];exact T.bot)
 rw[wA (by simpa using z)];have H:=gT f;refine cT (gn f (cT (qf K u (by lia) (λi N=>T.mb _ (gT (by lia))) (T.ma _ H) (λi N=>(T.ap _ H _ (gT (show 0+i<b.size by lia))).symm) (qj T.sb (by lia)) (by lia) λt kn O U=>?_)));dsimp only;have I: ∀y∈b.toList.take t,r y<r (a.getD na d0):=λy v=>by
  obtain⟨j,w,Y,rfl⟩:=v5 v;have:=O j w;rw[pX]at this;exact this
 by_cases g:nb+1-t>0
 .rw[wB g];have p:=o.moveB T.sb (t:=t) (by lia) (λx hx y v=>by
   obtain⟨j,w,Y,h3,rfl⟩:=xF v;have:=U j w (by lia)
   rw[pX]at this;exact vv T.sa f this x hx)
  rw[<-A5,<-xY,<-j6]at p;have B:old<=(l++(b.extract t (nb+1)).reverse).size:=by rw[wO];lia
  by_cases C:t=1
  .rw[wB (by simpa using C)];refine cY (q.q1 _ _ _ d ?_);show fW r _ _ (m8 a b _ _ _).toList
   rw[v7];exact p.first T.sa T.sb (by rw[C];exact T.bot)
  rw[wA (by simpa using C)];by_cases D:t=0
  .rw[wB (by simpa using D)];refine cY (q.q1 _ _ _ d ?_);show fW r _ _ (jf a b _ _ _).toList
   rw[uG];exact p.endB T.sa D
  rw[wA (by simpa using D)];obtain⟨n,rfl⟩: ∃n,t=n+2:=⟨t-2,by lia⟩;exact Ce T d p f (by lia) B I q
 .rw[wA g];have e:t=nb+1:=by lia
  obtain⟨n,rfl⟩: ∃n,nb=n+1:=nR (by first|assumption|lia);subst e;exact Ce T d o f (by lia) h I q
def F0{d st:SortSt}{c:U7}{mg old:Nat}{Q:ForInStep U7->SortSt->Prop}(K:Asks M A s κ r a₀)(k:kindOf d=κ)(T:Two κ r a₀ a b)(C:Eqv d st)(D:c.2.1=na+1/\c.2.2.1=nb+2/\c.2.2.2.1=out)(m:Mh r a.toList b.toList out.toList (na+1) (nb+2))(G:na<a.size)(f:nb+1<b.size)(H:old<=out.size)(q:RndH r a b d old Q):wpS M A E s (mG a b c mg) Q st:=by
 obtain⟨I,J,L⟩:=D;unfold mG;rw[I,J,L];rw[show nb+2-1=nb+1 by lia,show na+1-1=na by lia];refine cT (wx λN O=>?_);have h:=C.trans O;have l:=h.kind.trans k;have w:=gT f;refine cT (gn f (cT (qf K l (by lia) (λi U=>T.ma _ (gT (by lia))) (T.mb _ w) (λi U=>T.ap _ (gT (show 0+i<a.size by lia)) _ w) (qj T.sa (by lia)) (by lia) λt kn Y k3=>?_)));dsimp only;have z: ∀y∈a.toList.take t,r y<r (b.getD (nb+1) d0):=λy n=>by
  obtain⟨j,o,h2,rfl⟩:=v5 n;have:=Y j o;rw[pX]at this;exact this
 by_cases g:na+1-t>0
 .rw[wB g];have p:=m.moveA T.sa (t:=t) (by lia) (λx hx y n=>by
   obtain⟨j,o,h2,h3,rfl⟩:=xF n;have:=k3 j o (by lia)
   rw[pX]at this;exact vv T.sb f this x hx)
  rw[<-A5,<-xY,<-j6]at p;have u:old<=(out++(a.extract t (na+1)).reverse).size:=by rw[wO];lia
  by_cases v:t=0
  .rw[wB (by simpa using v)];refine cY (q.q1 _ _ _ h ?_);show fW r _ _ (jf a b _ _ _).toList
   rw[uG];exact p.endA T.sb v
  rw[wA (by simpa using v)];obtain⟨B,rfl⟩: ∃B,t=B+1:=nR (by first|assumption|lia);exact Db K k T h p (by lia) f u z q
 .rw[wA g];have e:t=na+1:=by lia
  subst e;exact Db K k T h m G f H z q
def Gv{d st:SortSt}{c:U7}{old:Nat}{Q:ForInStep U7->SortSt->Prop}(K:Asks M A s κ r a₀)(e:kindOf d=κ)(T:Two κ r a₀ a b)(f:Eqv d st)(g:c.2.1=na+1/\c.2.2.1=nb+2/\c.2.2.2.1=out)(m:Mh r a.toList b.toList out.toList (na+1) (nb+2))(h:na<a.size)(i:nb+1<b.size)(j:old<=out.size)(q:RndH r a b d old Q):wpS M A E s (sB a b c) Q st:=by
 unfold sB;split
 .exact F0 K e T f g m h i j q
 .exact F0 K e T f g m h i j q
def J2{f st:SortSt}{c:U5}{Q:ForInStep U5->SortSt->Prop}{mg:Nat}(K:Asks M A s κ r a₀)(hk:kindOf f=κ)(T:Two κ r a₀ a b)(e0:Eqv f st)(ec:c=(none,na+1,nb+2,out,mg))(m:Mh r a.toList b.toList out.toList (na+1) (nb+2))(ha:na<a.size)(hb:nb+1<b.size)
  (q1: ∀st w rest,Eqv f st->Gd r a b w->Q (.done (some w,rest)) st) (q2: ∀st na nb (k:Array Keyed) g,Eqv f st->Mh r a.toList b.toList k.toList (na+1) (nb+2)->na<a.size->nb+1<b.size->out.size+1<=k.size->Q (.yield (none,na+1,nb+2,k,g)) st):wpS M A E s (AY a b c) Q st:=by
 subst ec;unfold AY;dsimp only;have aa:0<a.size+b.size:=by lia
 refine cT (iP (iq (I:=λx (q:U6) d=>Eqv f d/\ ∃(i j:Nat) (o:Array Keyed) (u v:Nat),q=(none,i+1,j+2,o,u,v)/\Mh r a.toList b.toList o.toList (i+1) (j+2)/\i<a.size/\j+1<b.size/\out.size+x<=o.size)
  (Q:=λq d=>Eqv f d/\((∃w rest,q=(some w,rest)/\Gd r a b w)∨ ∃(i j:Nat) (o:Array Keyed) (u v:Nat),q=(none,i+1,j+2,o,u,v)/\Mh r a.toList b.toList o.toList (i+1) (j+2)/\i<a.size/\j+1<b.size/\out.size+1<=o.size)) ?step ?stop ⟨e0,na,nb,out,0,0,rfl,m,ha,hb,cM _⟩) ?post)
 case step=>
  rintro x q d _ hx ⟨p,i,j,o,u,v,rfl,C,D,G,h3⟩;refine MN (old:=out.size) (t:=x) K T p hk rfl C D G h3 (λw rest g=>⟨p,.inl ⟨w,rest,rfl,g⟩⟩) λH J L u' v' N l n y=>⟨⟨p,.inr ⟨H,J,L,u',v',rfl,N,l,n,by lia⟩⟩,⟨p,H,J,L,u',v',rfl,N,l,n,by lia⟩⟩
 case stop=>
  rintro q d ⟨p,i,j,o,u,v,rfl,C,D,G,h3⟩;exact⟨p,.inr ⟨i,j,o,u,v,rfl,C,D,G,by lia⟩⟩
 case post=>
  rintro q d ⟨p,h⟩
  rcases h with⟨w,rest,rfl,g⟩|⟨i,j,o,u,v,rfl,C,D,G,h3⟩
  .exact cY (q1 _ _ _ p g)
  dsimp only;refine cT (pP (mW ⟨rfl,?_⟩));refine cT (iP (iq (I:=λx (z:U7) d=>Eqv f d/\ ∃(i j:Nat) (o:Array Keyed) (u v w:Nat),z=(none,i+1,j+2,o,u,v,w)/\Mh r a.toList b.toList o.toList (i+1) (j+2)/\i<a.size/\j+1<b.size/\out.size+1<=o.size)
   (Q:=λz d=>Eqv f d/\((∃w rest,z=(some w,rest)/\Gd r a b w)∨ ∃(i j:Nat) (o:Array Keyed) (u v w:Nat),z=(none,i+1,j+2,o,u,v,w)/\Mh r a.toList b.toList o.toList (i+1) (j+2)/\i<a.size/\j+1<b.size/\out.size+1<=o.size)) ?step2 ?stop2 ⟨p,i,j,o,mg+1,u,v,rfl,C,D,G,h3⟩) ?post2)
  case step2=>
   rintro x z O _ hx ⟨B,i,j,o,u,v,w,rfl,U,Y,g2,g3⟩;exact Gv K hk T B ⟨rfl,rfl,rfl⟩ U Y g2 g3 ⟨λst w rest e g=>⟨e,.inl ⟨w,rest,rfl,g⟩⟩,λst H J L x' y' z' e N l n y=>⟨⟨e,.inr ⟨H,J,L,x',y',z',rfl,N,l,n,y⟩⟩,⟨e,H,J,L,x',y',z',rfl,N,l,n,y⟩⟩⟩
  case stop2=>
   rintro z O ⟨B,i,j,o,u,v,w,rfl,U,Y,g2,g3⟩;exact⟨B,.inr ⟨i,j,o,u,v,w,rfl,U,Y,g2,g3⟩⟩
  case post2=>
   rintro z O ⟨B,h⟩
   rcases h with⟨w,rest,rfl,g⟩|⟨i,j,o,u,v,w,rfl,U,Y,g2,g3⟩
   .exact cY (q1 _ _ _ B g)
   .dsimp only;exact cT (wx λab x3=>cY (q2 _ _ _ _ _ (B.trans x3) U Y g2 g3))
def Md{st:SortSt}{Q:Array Keyed->SortSt->Prop}(K:Asks M A s κ r a₀)(L:kindOf st=κ)(T:Two κ r a₀ a b)(q: ∀m d,Eqv st d->Gd r a b m->Q m d):wpS M A E s (yl a b) Q st:=by
 rw[JI];unfold EH;have a1:=T.a1;have b1:=T.b1;obtain⟨n,hn⟩: ∃n,a.size=n+1:=nR (by first|assumption|lia);have G:a.size-1=n:=by lia
 rw[G];refine cT (pP (mW ⟨rfl,cT (gn (by lia) ?_)⟩));have N:Mh r a.toList b.toList (#[]:Array Keyed).toList (n+1) b.size:=⟨by rw[wn (by rw[d9];lia),wn (by rw[d9];exact cM _)];simp,List.Pairwise.nil,λx _ y f=>(nomatch f),λx _ y f=>(nomatch f)⟩;have k:Mh r a.toList b.toList (#[a.getD n d0]:Array Keyed).toList n b.size:=zZ (out:= #[]) T N (by lia) (λy f=>by have:=T.top y (r9 f);rw[G]at this;exact this);by_cases p:n=0
 .rw[wB (by simpa using p)];refine cY (q _ _ (Eqv.refl _) ?_);show fW r _ _ (jf a b _ _ _).toList;rw[uG];exact k.endA T.sb p
 rw[wA (by simpa using p)];by_cases t:b.size=1
 .rw[wB (by simpa using t)];refine cY (q _ _ (Eqv.refl _) ?_);show fW r _ _ (m8 a b _ _ _).toList;rw[v7];exact k.first T.sa T.sb (by rw[t];exact T.bot)
 rw[wA (by simpa using t)];obtain⟨u,rfl⟩: ∃u,n=u+1:=nR (by first|assumption|lia);obtain⟨v,h⟩: ∃v,b.size=v+2:=⟨b.size-2,by lia⟩;rw[h]at k;refine cT (j5 (cT (iP (iq (I:=λx (c:U5) d=>Eqv st d/\ ∃(i j:Nat) (o:Array Keyed) (g:Nat),c=(none,i+1,j+2,o,g)/\Mh r a.toList b.toList o.toList (i+1) (j+2)/\i<a.size/\j+1<b.size/\x+1<=o.size)
  (Q:=λc d=>Eqv st d/\ ∃w rest,c=(some w,rest)/\Gd r a b w) ?step ?stop ⟨Eqv.refl _,u,v,_,_,by rw[h],k,by lia,by lia,cM _⟩) ?post)))
 case step=>
  rintro x c d _ hx ⟨l,i,j,o,g,rfl,B,H,J,O⟩;exact J2 K L T l rfl B H J (λst w rest e g=>⟨e,w,rest,rfl,g⟩) λd U Y o' g' e m' C D aa=>⟨e,U,Y,o',g',rfl,m',C,D,by lia⟩
 case stop=>
  rintro c d ⟨l,i,j,o,g,rfl,B,H,J,O⟩;have z:=B.len (by rw[d9];lia) (by rw[d9];lia);rw[d9,d9,d9]at z
  exfalso
  lia
 case post=>
  rintro c d ⟨l,w,rest,rfl,g⟩;exact cY (q _ _ l g)
end
def MB(i:Nat):mergeAt' i=(do
 let s <-get
 let(some (b,c,d),some (f,e,_)):=((pendingOf s)[i]?,(pendingOf s)[i+1]?)|unsupported "internal:list.sort.pending"
 set (setPending s (((pendingOf s).setIfInBounds i (b,c+e,d)).eraseIdxIfInBounds (i+1)))
 let some k <-nY false (<-elem' (arrOf s) f) (arrOf s) b c 0|return false
 let(b,c):=(b+k,c-k)
 if c==0 then return true
 let some e <-nY true (<-elem' (arrOf s) (b+c-1)) (arrOf s) f e (e-1)|return false
 if e==0 then return true
 let x:=(arrOf s).extract b f
 let y:=(arrOf s).extract f (f+e)
 let merged <-if c<=e then ze x y else yl x y
 modify λs=>setArr s (merged.toList.zipIdx.foldl (λa (p,j)=>a.setIfInBounds (b+j) p) (arrOf s))
 return (failedOf (<-get)).isNone):=rfl
section
variable{M:Model}{A:Ar}{E:VP}{s:Sh}{κ:SortKind}{r:Keyed->Int}{a₀ xs ys:Array Keyed}
def Lb{st a:SortSt}{Q:PUnit->SortSt->Prop}(h:Q ⟨⟩ a):wpS M A E s (set a:StateT SortSt Sem PUnit) Q st:=by
 unfold wpS;rw[StateT.run_set];exact cG ⟨rfl,h⟩
theorem laid: ∀(c:List Keyed) (j b:Nat) (xs:Array Keyed),b+j+c.length<=xs.size->((c.zipIdx j).foldl (λa (p,j)=>a.setIfInBounds (b+j) p) xs).toList=xs.toList.take (b+j)++c++xs.toList.drop (b+j+c.length)
 | [],j,b,xs,_=>by
  rw[gV,List.length_nil,vd];exact(lT _ _).symm
 | m::c,j,b,xs,h=>by
  rw[jz]at h;rw[List.zipIdx_cons,zU,laid c (j+1) b _ (by rw[Array.size_setIfInBounds];lia),DV,jz];have d:b+j<xs.toList.length:=by rw[d9];lia
  have e:(xs.toList.set (b+j) m).take (b+(j+1))=xs.toList.take (b+j)++[m]:=by
   rw[show b+(j+1)=b+j+1 by lia,List.take_succ_eq_append_getElem (by rw[oS];exact d),List.getElem_set_self,List.take_set_of_le (cM _)]
  have f:(xs.toList.set (b+j) m).drop (b+(j+1)+c.length)=xs.toList.drop (b+j+(c.length+1)):=by
   rw[List.drop_set_of_lt (by lia)]
   congr 1
   lia
  rw[e,f,fh,fh,fh];rfl
def yd(xs:Array Keyed)(t n:Nat):(xs.extract t n).toList=(xs.toList.take n).drop t:=A5 xs t n
def vt{t n:Nat}(h:n<=xs.size):(xs.extract t n).size=n-t:=by rw[Array.size_extract];lia
def zg{t n i:Nat}(h:n<=xs.size)(a:t+i<n):(xs.extract t n).getD i d0=xs.getD (t+i) d0:=by
 refine nh ?_;rw[Array.getElem?_extract,wB (by lia)]
def Ei{l:List Keyed}{ys:Array Keyed}(h:ys.toList=l)(i:Nat):ys[i]? =l[i]? :=by rw[<-h,iU]
def GS{st:SortSt}{i b d pw O I af:Nat}{Q:Bool->SortSt->Prop}(K:Asks M A s κ r a₀)(B:StOk κ a₀ st)(h1:(pendingOf st)[i]? =some (b,d,pw))(h2:(pendingOf st)[i+1]? =some (O,I,af))(es:O=b+d)(ao:1<=d)(aq:1<=I)(hz:O+I<=a₀.size)
  (J:Ris r (arrOf st) b (b+d)) (L:Ris r (arrOf st) O (O+I))
  (q: ∀f,StOk κ a₀ f->pendingOf f=((pendingOf st).setIfInBounds i (b,d+I,pw)).eraseIdxIfInBounds (i+1)->Out (arrOf st) (arrOf f) b (O+I)->Ris r (arrOf f) b (O+I)->Q true f):wpS M A E s (mergeAt' i) Q st:=by
 have sz:=nN B.perm;subst es;rw[MB];refine cT (j5 ?_);rw[h1,h2];dsimp only;refine cT (Lb ?_);generalize hP:((pendingOf st).setIfInBounds i (b,d+I,pw)).eraseIdxIfInBounds (i+1)=P at q⊢;have B1:StOk κ a₀ (setPending st P):=⟨B.kind,B.perm,B.ok⟩;generalize w:arrOf st=xs at J L q sz⊢;have pm:xs.Perm a₀:=w▸B.perm;have mem: ∀j,j<a₀.size->xs.getD j d0∈a₀:=λj D=>wy pm D;have ap: ∀i j,i<a₀.size->j<a₀.size->i≠j->kx r xs i≠kx r xs j:=λi j hi D ij=>K.apart pm hi D ij;refine cT (gn (by lia) (cT (qf K B1.kind (by lia) (λj D=>mem _ (by lia)) (mem _ (by lia)) (λj D=>ap _ _ (by lia) (by lia) (by lia)) J (by lia) λk kn k2 k3=>?_)));dsimp only;by_cases z0:d-k=0
 .rw[wB (by simpa using z0)];refine cY (q _ B1 rfl (by show Out xs (arrOf st) _ _;rw[w];exact Out.refl _ _ _) ?_);show Ris r (arrOf st) _ _;rw[w];intro i j o u C;by_cases U:j<b+d
  .exact J i j o u U
  by_cases c2:b+d<=i
  .exact L i j c2 u C
  have v:=k2 (i-b) (by lia);rw[mw o]at v;have v:kx r xs i<kx r xs (b+d):=v;by_cases c3:j=b+d
  .rw[c3];exact v
  .exact uV v (L (b+d) j (cM _) (uN (Nat.not_lt.mp U) (eJ c3)) C)
 rw[wA (by simpa using z0)];have kl:k<d:=by lia
 clear z0;have dk: ∀_:Unit,b+k+(d-k)=b+d:=λ_=>by lia
 rw[dk ()];refine cT (gn (by lia) (cT (qf K B1.kind (by lia) (λj D=>mem _ (by lia)) (mem _ (by lia)) (λj D=>ap _ _ (by lia) (by lia) (by lia)) L (by lia) λg nn ag ab=>?_)));dsimp only;have bk:kx r xs (b+d)<kx r xs (b+k):=by
  have:=k3 k (cM _) (by lia);exact this
 have Y:kx r xs (b+k)<=kx r xs (b+d-1):=by
  by_cases c:b+k=b+d-1
  .rw[c];exact Int.le_refl _
  .exact Int.le_of_lt (J (b+k) (b+d-1) (by lia) (by lia) (by lia))
 have ah:g≠0:=λz=>by
  subst z;have:=ab 0 (cM _) (by lia);rw[vd]at this;exact wC this (Int.not_lt.mpr (Int.le_trans (Int.le_of_lt bk) Y))
 rw[wA (by simpa using ah)];have sx:(xs.extract (b+k) (b+d)).size=d-k:=by rw[vt (by lia)];exact Nat.add_sub_add_left ..
 have sy:(xs.extract (b+d) (b+d+g)).size=g:=by rw[vt (by lia)];exact sV ..
 have mx: ∀x∈(xs.extract (b+k) (b+d)).toList,∃j,b+k<=j/\j<b+d/\xs.getD j d0=x:=λx w=>by
  rw[yd]at w;obtain⟨j,o,u,_,C⟩:=xF w;exact⟨j,o,u,C⟩
 have my: ∀x∈(xs.extract (b+d) (b+d+g)).toList,∃j,b+d<=j/\j<b+d+g/\xs.getD j d0=x:=λx w=>by
  rw[yd]at w;obtain⟨j,o,u,_,C⟩:=xF w;exact⟨j,o,u,C⟩
 have ae: ∀(t n:Nat),n<=xs.size->Ris r xs t n->Up r (xs.extract t n).toList:=λt n hn ur=>by
  refine nJ.mpr λi j hi D ij=>?_;rw[d9,vt hn]at hi D;have e: ∀c (hc:c<(xs.extract t n).toList.length),(xs.extract t n).toList[c]=xs.getD (t+c) d0:=λc hc=>by
   rw[d9,vt hn]at hc;rw[<-zg hn (by lia),Array.getElem_toList];exact(dn (i' _)).symm
  rw[e,e];exact ur (t+i) (t+j) (by lia) (by lia) (by lia)
 have ai: ∀_:Unit,b+k+(d-k-1)=b+d-1:=λ_=>by rw[<-dk ()];exact(Nat.add_sub_assoc (Nat.sub_pos_of_lt kl) _).symm
 have G: ∀_:Unit,b+k+(d-k+g)=b+d+g:=λ_=>by rw[<-Nat.add_assoc,dk ()]
 have T:Two κ r a₀ (xs.extract (b+k) (b+d)) (xs.extract (b+d) (b+d+g)):=by
  refine⟨λx w=>?_,λx w=>?_,ae _ _ (by lia) λi j o u C=>J i j (by lia) u C,ae _ _ (by lia) λi j o u C=>L i j o u (by lia),λx w y hy=>?_,by lia,by lia,λx w=>?_,λy hy=>?_⟩
  .obtain⟨j,o,u,rfl⟩:=mx x w;exact mem j (by lia)
  .obtain⟨j,o,u,rfl⟩:=my x w;exact mem j (by lia)
  .obtain⟨j,o,u,rfl⟩:=mx x w;obtain⟨l,C,g4,rfl⟩:=my y hy;exact ap j l (by lia) (by lia) (by lia)
  .obtain⟨j,o,u,rfl⟩:=mx x w;rw[zg (by lia) (by lia),vd];show kx r xs (b+d)<kx r xs j
   by_cases c:j=b+k
   .rw[c];exact bk
   .exact uV bk (J (b+k) j (lI ..) (uN o (eJ c)) u)
  .obtain⟨j,o,u,rfl⟩:=my y hy;rw[sx,zg (by lia) (by lia),show b+k+(d-k-1)=b+d-1 from ai ()];have:=ag (j-(b+d)) (u9 o u)
   rw[mw o]at this;exact this
 have fin: ∀m f,Eqv (setPending st P) f->Gd r (xs.extract (b+k) (b+d)) (xs.extract (b+d) (b+d+g)) m->wpS M A E s (do
   modify λs=>setArr s (m.toList.zipIdx.foldl (λa (p,j)=>a.setIfInBounds (b+k+j) p) (arrOf s))
   return (failedOf (<-get)).isNone) Q f:=λm f ev gd=>by
  have ea:arrOf f=xs:=ev.arr.trans w;have ml:m.toList.length=d-k+g:=by
   have:=gd.1.length_eq;rw[dF,d9 (xs:=xs.extract _ _),d9 (xs:=xs.extract _ _),sx,sy]at this;exact this
  refine cT (lW (cT (j5 ?_)));rw[ea];have tl:=laid m.toList 0 (b+k) xs (by rw[ml];lia);rw[vd,ml]at tl;generalize ar:m.toList.zipIdx.foldl (λa (p,j)=>a.setIfInBounds (b+k+j) p) xs=ys at tl⊢;have aj:(failedOf (setArr f ys)).isNone=true:=by
   show(failedOf f).isNone=true;rw[ev.ok];show(failedOf st).isNone=true
   rw[B.ok];rfl
  rw[aj];have mid:xs.toList=xs.toList.take (b+k)++((xs.extract (b+k) (b+d)).toList++(xs.extract (b+d) (b+d+g)).toList)++xs.toList.drop (b+k+(d-k+g)):=by
   rw[yd,yd];have e1:xs.toList.take (b+k)++(xs.toList.take (b+d)).drop (b+k)=xs.toList.take (b+d):=by
    have z:=lT (b+k) (xs.toList.take (b+d));rwa[List.take_take,sw (by lia)]at z
   have e2:xs.toList.take (b+d)++(xs.toList.take (b+d+g)).drop (b+d)=xs.toList.take (b+d+g):=by
    have z:=lT (b+d) (xs.toList.take (b+d+g));rwa[List.take_take,sw (by lia)]at z
   rw[<-fh,e1,e2,G (),lT]
  have ak:ys.Perm xs:=by
   refine lQ.mpr ?_;rw[tl]
   conv=>rhs;rw[mid]
   exact xr _ (tm _ gd.1)
  have lx:xs.toList.length=a₀.size:=by rw[d9];exact sz
  have mn:min (b+k) xs.toList.length=b+k:=sw (by lia);have N: ∀j,j<b+k∨b+d+g<=j->ys[j]? =xs[j]? :=λj D=>by
   rw[Ei tl j,<-iU]
   rcases D with h|h
   .rw[e8 (by rw[dF,fK,mn];exact Nat.lt_add_right _ h),e8 (by rw[fK,mn];exact h),zr,wB h]
   .rw[eU (by rw[dF,fK,ml,mn,G ()];exact h),ud]
    congr 1
    rw[dF,fK,ml,mn,G ()];exact mw h
  have aa: ∀j,b+k<=j->j<b+d+g-> ∃h:j-(b+k)<m.toList.length,ys.getD j d0=m.toList[j-(b+k)]:=λj o u=>by
   have hl:j-(b+k)<m.toList.length:=by rw[ml];exact u9 o (by rw[G ()];exact u)
   refine⟨hl,dn ?_⟩;rw[Ei tl j,e8 (by rw[dF,fK,ml,mn,G ()];exact u),eU (by rw[fK,mn];exact o),fK,mn,cA hl]
  have H: ∀j,b+k<=j->j<b+d+g-> ∃l,b+k<=l/\l<b+d+g/\ys.getD j d0=xs.getD l d0:=λj o u=>by
   obtain⟨hl,e⟩:=aa j o u;have mm:ys.getD j d0∈(xs.extract (b+k) (b+d)).toList++(xs.extract (b+d) (b+d+g)).toList:=by
    rw[e];exact(List.Perm.mem_iff gd.1).mp (i7 hl)
   rcases dw.mp mm with z|z
   .obtain⟨l,v,l2,l3⟩:=mx _ z;exact⟨l,v,by lia,l3.symm⟩
   .obtain⟨l,v,l2,l3⟩:=my _ z;exact⟨l,by lia,l2,l3.symm⟩
  refine cY (q _ ⟨ev.kind.trans B1.kind,ak.trans pm,by show failedOf f=none;rw[ev.ok];exact B.ok⟩ ev.pend (λj D=>N j (by lia)) λi j o u C=>?_);show kx r ys i<kx r ys j;have oe: ∀c,c<b+k∨b+d+g<=c->kx r ys c=kx r xs c:=λc hc=>dL r (nh (N c hc));have hd: ∀c l,b<=c->c<b+k->b+k<=l->l<b+d+I->kx r xs c<kx r xs l:=λc l U c2 c3 c4=>by
   by_cases c5:l<b+d
   .exact J c l U (by lia) c5
   .have v:=k2 (c-b) (u9 U c2);rw[mw U]at v;have v:kx r xs c<kx r xs (b+d):=v;by_cases c6:l=b+d
    .rw[c6];exact v
    .exact uV v (L (b+d) l (cM _) (uN (Nat.not_lt.mp c5) (eJ c6)) c4)
  have al: ∀l c,b+k<=l->l<b+d+g->b+d+g<=c->c<b+d+I->kx r xs l<kx r xs c:=λl c U c2 c3 c4=>by
   by_cases c5:b+d<=l
   .exact L l c c5 (by lia) c4
   .have c0:=dE (lI ..) c3;have v:=ab (c-(b+d)) (Nat.le_sub_of_add_le' c3) (u9 c0 c4);rw[mw c0]at v;have v:kx r xs (b+d-1)<kx r xs c:=v;by_cases c6:l=b+d-1
    .rw[c6];exact v
    .exact uV (J l (b+d-1) (by lia) (by lia) (by lia)) v
  by_cases i1:i<b+k
  .rw[oe i (.inl i1)];by_cases j1:j<b+k
   .rw[oe j (.inl j1)];exact J i j o u (by lia)
   .by_cases j2:j<b+d+g
    .obtain⟨l,v,l2,l3⟩:=H j (by lia) j2;show kx r xs i<r (ys.getD j d0);rw[l3];exact hd i l o i1 v (by lia)
    .rw[oe j (.inr (by lia))];exact hd i j o i1 (by lia) C
  .by_cases i2:i<b+d+g
   .by_cases j2:j<b+d+g
    .obtain⟨am,e1⟩:=aa i (by lia) i2;obtain⟨an,e2⟩:=aa j (by lia) j2;show r (ys.getD i d0)<r (ys.getD j d0)
     rw[e1,e2];exact nJ.mp gd.2 _ _ am an (by lia)
    .obtain⟨l,v,l2,l3⟩:=H i (by lia) i2;rw[oe j (.inr (by lia))];show r (ys.getD i d0)<kx r xs j
     rw[l3];exact al l j v l2 (by lia) C
   .rw[oe i (.inr (by lia)),oe j (.inr (by lia))];exact L i j (by lia) u C
 by_cases c:d-k<=g
 .rw[wB c];exact cT (Gu K B1.kind T fin)
 .rw[wA c];exact cT (Md K B1.kind T fin)
end
def fJ(r:Keyed->Int)(a:Array Keyed):Nat->List (Nat×Nat×Nat)->Nat->Prop
 |s,[],e=>s=e
 |s,u::l,e=>u.1=s/\1<=u.2.1/\Ris r a s (s+u.2.1)/\fJ r a (s+u.2.1) l e
section
variable{r:Keyed->Int}{xs ys:Array Keyed}
theorem wZ: ∀{l:List (Nat×Nat×Nat)} {s e:Nat},fJ r xs s l e->s+l.length<=e
 | [],s,e,h=>by
  have:s=e:=h;simp;lia
 |u::l,s,e,h=>by
  have:=wZ h.2.2.2;have:=h.2.1;rw[jz];lia
theorem dN: ∀{l c:List (Nat×Nat×Nat)} {s e:Nat},fJ r xs s (l++c) e↔ ∃m,fJ r xs s l m/\fJ r xs m c e
 | [],c,s,e=>⟨λh=>⟨s,rfl,h⟩,λ⟨m,a,b⟩=>by have:s=m:=a;subst this;exact b⟩
 | u::l,c,s,e=>by
  constructor
  .rintro⟨a,b,d,i⟩;obtain⟨m,f,g⟩:=dN.mp i;exact⟨m,⟨a,b,d,f⟩,g⟩
  .rintro⟨m,⟨a,b,d,f⟩,g⟩;exact⟨a,b,d,dN.mpr ⟨m,f,g⟩⟩
theorem uM{lo a:Nat}(o:Out xs ys lo a): ∀{l:List (Nat×Nat×Nat)} {s e:Nat},fJ r xs s l e->e<=lo∨a<=s->fJ r ys s l e
 | [],_,_,h,_=>h
 |u::l,s,e,h,d=>by
  have:=wZ h.2.2.2;exact⟨h.1,h.2.1,o.ris h.2.2.1 (by lia),uM o h.2.2.2 (by lia)⟩
def HQ{p:Array (Nat×Nat×Nat)}{i:Nat}(h:i+1<p.size): ∃a u v d,p.toList=a++u::v::d/\a.length=i/\p[i]? =some u/\p[i+1]? =some v:=by
 have e:p.toList.length=p.size:=d9;refine⟨p.toList.take i,p[i]'(by lia),p[i+1],p.toList.drop (i+2),?_,by rw[fK];lia,i' _,i' _⟩;have b:p.toList.drop i=p.toList[i]'(by lia)::p.toList.drop (i+1):=ve (by lia);have c:p.toList.drop (i+1)=p.toList[i+1]'(by lia)::p.toList.drop (i+2):=ve (by lia);rw[Array.getElem_toList]at b c;rw[<-c,<-b,lT]
def Km{p:Array (Nat×Nat×Nat)}{i:Nat}{a b:List (Nat×Nat×Nat)}{u v w:Nat×Nat×Nat}(h:p.toList=a++u::v::b)(c:a.length=i):((p.setIfInBounds i w).eraseIdxIfInBounds (i+1)).toList=a++w::b:=by
 rw[Array.toList_eraseIdxIfInBounds,DV,h,List.set_append_right _ _ (by lia),c,lG,List.eraseIdx_append_of_length_le (by lia),c,sV];rfl
variable{M:Model}{A:Ar}{E:VP}{s:Sh}{κ:SortKind}{a₀:Array Keyed}
def yq{st:SortSt}{i lo:Nat}{Q:Bool->SortSt->Prop}(K:Asks M A s κ r a₀)(B:StOk κ a₀ st)(t:i+1<(pendingOf st).size)(R:fJ r (arrOf st) 0 (pendingOf st).toList lo)(x:lo<=a₀.size)
  (q: ∀a,StOk κ a₀ a->(pendingOf a).size+1=(pendingOf st).size->Out (arrOf st) (arrOf a) 0 lo->fJ r (arrOf a) 0 (pendingOf a).toList lo->Q true a):wpS M A E s (mergeAt' i) Q st:=by
 obtain⟨T,u,v,y,e,z,C,D⟩:=HQ t;rw[e]at R;obtain⟨m,G,R2⟩:=dN.mp R;obtain⟨j,k,l,f,n,p,g⟩:=R2;obtain⟨b,d,H⟩:=u;obtain⟨I,c,J⟩:=v;dsimp only at j k l f n p g;subst j;have U:=wZ g;refine GS K B C D f k n (by lia) l (by rw[f];exact p) λa L N o up=>?_;have h:=Km (w:=(b,d+c,H)) e z;rw[<-N]at h;refine q a L ?_ (o.wide (hJ _) (by lia)) ?_
 .have O:(pendingOf a).toList.length+1=(pendingOf st).toList.length:=by
   rw[h,e];simp;lia
  rwa[d9,d9]at O
 .rw[h];refine dN.mpr ⟨b,uM o G (.inl (cM _)),rfl,by show 1<=d+c;lia,?_,?_⟩
  .show Ris r (arrOf a) b (b+(d+c));rw[show b+(d+c)=I+c by lia];exact up
  .show fJ r (arrOf a) (b+(d+c)) y lo;rw[show b+(d+c)=b+d+c by lia];exact uM o g (.inr (by lia))
theorem Bg{f:Nat->Nat}: ∀{l:List (Nat×Nat×Nat)} {s e i:Nat},fJ r xs s l e->fJ r xs s (l.modify i λu=>(u.1,u.2.1,f u.2.2)) e
 | [],_,_,_,h=>by simpa using h
 |u::l,s,e,0,h=>h
 |u::l,s,e,i+1,h=>⟨h.1,h.2.1,h.2.2.1,Bg h.2.2.2⟩
def LK{st:SortSt}{Q:Unit->SortSt->Prop}(K:Asks M A s κ r a₀)(B:StOk κ a₀ st)(hp:pendingOf st= #[])(h1:1<=a₀.size)
  (q: ∀a,StOk κ a₀ a->Ris r (arrOf a) 0 a₀.size->Q () a):wpS M A E s sortRuns' Q st:=by
 have sz:=nN B.perm;rw[sortRuns'_eq];refine cT (j5 ?_);dsimp only;rw[sz];refine cT (iP (iq (I:=λx c a=> ∃lo,c=(none,lo)/\x<=lo/\lo<=a₀.size/\StOk κ a₀ a/\fJ r (arrOf a) 0 (pendingOf a).toList lo)
  (Q:=λc a=>c=(none,a₀.size)/\StOk κ a₀ a/\fJ r (arrOf a) 0 (pendingOf a).toList a₀.size) ?step ?stop ⟨0,rfl,cM _,hJ _,B,by rw[hp];rfl⟩) ?post)
 case stop=>
  rintro c a ⟨lo,rfl,h1,h2,B',R⟩;have e:lo=a₀.size:=by lia
  subst e;exact⟨rfl,B',R⟩
 case step=>
  rintro x c U _ hx ⟨lo,rfl,ae,L,T,N⟩;dsimp only;by_cases z:lo≥a₀.size
  .rw[wB z];have e:lo=a₀.size:=by lia
   subst e;exact cY ⟨rfl,T,N⟩
  rw[wA z];refine cT (HB K T (by lia) (by lia) λn d D p2 H o2 J nn O=>?_);dsimp only;have R2:fJ r (arrOf d) 0 (pendingOf d).toList lo:=by rw[p2];exact uM o2 N (.inl (cM _))
  by_cases mr:n<minRun' a₀.size a₀.size 0
  .rw[wB mr];refine cT (pP (mW ⟨rfl,?_⟩));refine cT (Jp K D (by lia) (by lia) O λo v p3 g3 o3 p=>?_);rw[wA (by decide)];have G:fJ r (arrOf o) 0 (pendingOf o).toList lo:=by rw[p3];exact uM o3 R2 (.inl (cM _))
   have J:1<=min (a₀.size-lo) (minRun' a₀.size a₀.size 0):=by lia
   have nn:lo+min (a₀.size-lo) (minRun' a₀.size a₀.size 0)<=a₀.size:=by lia
   generalize min (a₀.size-lo) (minRun' a₀.size a₀.size 0)=w at p J nn⊢;refine cT (j5 ?_);cases eb:(pendingOf o).back? with
   |none=>
    dsimp only;refine cT (lW (cY ⟨lo+w,rfl,by lia,by lia,⟨v.kind,v.perm,v.ok⟩,?_⟩));show fJ r (arrOf o) 0 ((pendingOf o).push (lo,w,0)).toList (lo+w)
    rw[sA];exact dN.mpr ⟨lo,G,rfl,J,p,rfl⟩
   | some u=>
    obtain⟨t,j,w1⟩:=u;dsimp only;refine cT (iP (iq (I:=λx c a=>c=(none,())/\StOk κ a₀ a/\fJ r (arrOf a) 0 (pendingOf a).toList lo/\Ris r (arrOf a) lo (lo+w))
     (Q:=λc a=>c=(none,())/\StOk κ a₀ a/\fJ r (arrOf a) 0 (pendingOf a).toList lo/\Ris r (arrOf a) lo (lo+w)) ?step2 ?stop2 ⟨rfl,v,G,p⟩) ?post2)
    case stop2=>
     rintro c b h;exact h
    case step2=>
     rintro y c b _ _ ⟨rfl,k,C,i⟩;refine cT (j5 ?_);by_cases g:(pendingOf b).size>1
     .rw[wB g,i' (by lia)];generalize(pendingOf b)[(pendingOf b).size-2]=Y;obtain⟨a2,b2,m⟩:=Y;dsimp only;by_cases H:m<=power' a₀.size (2 * t+j) (2 * t+j+j+w) a₀.size
      .rw[wB H];exact cY ⟨rfl,k,C,i⟩
      .rw[wA H];refine cT (yq K k (by lia) C L λaa B5 _ o5 R5=>?_);exact cY ⟨rfl,B5,R5,o5.ris i (.inr (cM _))⟩
     .rw[wA g];exact cY ⟨rfl,k,C,i⟩
    case post2=>
     rintro c b ⟨rfl,k,C,i⟩;dsimp only;refine cT (lW (cT (lW (cY ⟨lo+w,rfl,by lia,by lia,⟨k.kind,k.perm,k.ok⟩,?_⟩))));show fJ r (arrOf b) 0 (((pendingOf b).modify ((pendingOf b).size-1) λx=>(x.fst,x.2.fst,power' a₀.size (2 * t+j) (2 * t+j+j+w) a₀.size)).push (lo,w,0)).toList (lo+w)
     rw[sA,Array.toList_modify];exact dN.mpr ⟨lo,Bg (f:=λ_=>power' a₀.size (2 * t+j) (2 * t+j+j+w) a₀.size) C,rfl,J,i,rfl⟩
  .rw[wA mr];have v:=D;have G:=R2;have p:=O;refine cT (j5 ?_);cases eb:(pendingOf d).back? with
   |none=>
    dsimp only;refine cT (lW (cY ⟨lo+n,rfl,by lia,by lia,⟨v.kind,v.perm,v.ok⟩,?_⟩));show fJ r (arrOf d) 0 ((pendingOf d).push (lo,n,0)).toList (lo+n)
    rw[sA];exact dN.mpr ⟨lo,G,rfl,J,p,rfl⟩
   | some u=>
    obtain⟨t,j,w1⟩:=u;dsimp only;refine cT (iP (iq (I:=λx c a=>c=(none,())/\StOk κ a₀ a/\fJ r (arrOf a) 0 (pendingOf a).toList lo/\Ris r (arrOf a) lo (lo+n))
     (Q:=λc a=>c=(none,())/\StOk κ a₀ a/\fJ r (arrOf a) 0 (pendingOf a).toList lo/\Ris r (arrOf a) lo (lo+n)) ?step2 ?stop2 ⟨rfl,v,G,p⟩) ?post2)
    case stop2=>
     rintro c b h;exact h
    case step2=>
     rintro y c b _ _ ⟨rfl,k,C,i⟩;refine cT (j5 ?_);by_cases g:(pendingOf b).size>1
     .rw[wB g,i' (by lia)];generalize(pendingOf b)[(pendingOf b).size-2]=Y;obtain⟨a2,b2,m⟩:=Y;dsimp only;by_cases H:m<=power' a₀.size (2 * t+j) (2 * t+j+j+n) a₀.size
      .rw[wB H];exact cY ⟨rfl,k,C,i⟩
      .rw[wA H];refine cT (yq K k (by lia) C L λaa B5 _ o5 R5=>?_);exact cY ⟨rfl,B5,R5,o5.ris i (.inr (cM _))⟩
     .rw[wA g];exact cY ⟨rfl,k,C,i⟩
    case post2=>
     rintro c b ⟨rfl,k,C,i⟩;dsimp only;refine cT (lW (cT (lW (cY ⟨lo+n,rfl,by lia,by lia,⟨k.kind,k.perm,k.ok⟩,?_⟩))));show fJ r (arrOf b) 0 (((pendingOf b).modify ((pendingOf b).size-1) λx=>(x.fst,x.2.fst,power' a₀.size (2 * t+j) (2 * t+j+j+n) a₀.size)).push (lo,n,0)).toList (lo+n)
     rw[sA,Array.toList_modify];exact dN.mpr ⟨lo,Bg (f:=λ_=>power' a₀.size (2 * t+j) (2 * t+j+j+n) a₀.size) C,rfl,J,i,rfl⟩
 case post=>
  rintro c U ⟨rfl,T,N⟩;dsimp only;refine cT (iP (iq (I:=λx c a=>c=(none,())/\StOk κ a₀ a/\fJ r (arrOf a) 0 (pendingOf a).toList a₀.size/\(pendingOf a).size+x<=a₀.size)
   (Q:=λc a=>c=(none,())/\StOk κ a₀ a/\fJ r (arrOf a) 0 (pendingOf a).toList a₀.size/\(pendingOf a).size<=1) ?step3 ?stop3 ⟨rfl,T,N,by have:=wZ N;rw[d9]at this;lia⟩) ?post3)
  case stop3=>
   rintro c d ⟨hc,D,R2,hz⟩;exact⟨hc,D,R2,by lia⟩
  case step3=>
   rintro x c d _ hx ⟨rfl,D,R2,hz⟩;refine cT (j5 ?_);by_cases g:(pendingOf d).size<=1
   .rw[wB g];exact cY ⟨rfl,D,R2,g⟩
   .rw[wA g];refine cT (yq K D ?_ R2 (cM _) λo v z3 o3 G=>?_)
    .have ab: ∀(c:Prop) [Decidable c],(if c then(pendingOf d).size-2-1 else(pendingOf d).size-2)+1<(pendingOf d).size:=λc _=>by
      by_cases h:c
      .rw[wB h];lia
      .rw[wA h];lia
     exact ab _
    .exact cY ⟨rfl,v,G,by lia⟩
  case post3=>
   rintro c d ⟨rfl,D,R2,hz⟩;refine cY (q d D ?_);have hl:(pendingOf d).toList.length<=1:=by rw[d9];exact hz
   generalize(pendingOf d).toList=l at R2 hl
   match l,R2,hl with
   | [],R2,_=>
    have:0=a₀.size:=R2;lia
   | [u],R2,_=>
    have e:0+u.2.1=a₀.size:=R2.2.2.2;rw[<-e];exact R2.2.2.1
end
section
variable{P:Pg}{w:World}{A:Ar}{E:VP}{s:Sh}{a:Ad}{vs ks:Vs}{k:Nat->Int}{κ:SortKind}
noncomputable def gQ (ks:Vs) (x:Keyed):Nat:=Classical.epsilon λi=>ks[i]? =some x.1
def ug(nd:ks.Nodup){i:Nat}{x:Keyed}(h:ks[i]? =some x.1):gQ ks x=i:=by
 have z:ks[gQ ks x]? =some x.1:=Classical.epsilon_spec (p:=λi=>ks[i]? =some x.1) ⟨i,h⟩;exact(im (cK.mp z).1 nd).mp (z.trans h.symm)
def Ep{Q:SortSt->Sh->Prop}(t:ks.length=vs.length)(M:1<=vs.length)(nd:ks.Nodup)(inj: ∀i j,i<vs.length->j<vs.length->k i=k j->i=j)
  (ask: ∀i j (C:Bool->Sh->Prop),i<ks.length->j<ks.length->C (decide (k i<k j)) s->kas_ask P w A κ ks i j C s)
  (G: ∀p b,Arr vs.length p->on k p vs.length->(arrOf b).map (·.2)=(gB vs p).toArray->failedOf b=none->Q b s):
  wpAny (model P w) A ((sortRuns').run (SortSt.mk' κ (ks.toArray.zip vs.toArray) #[] 7 none)) (λr u=>Q r.2 u) E s:=by
 have sz:(ks.toArray.zip vs.toArray).size=vs.length:=by simp[t]
 have n: ∀i,i<vs.length->(ks.toArray.zip vs.toArray).getD i d0=(ks.getD i Value.none,vs.getD i Value.none):=λi c=>kat_item t i;have o: ∀i,i<vs.length->ks[i]? =some (ks.getD i Value.none):=λi c=>by
  rw[dY,cA (by lia)];rfl
 have f: ∀i,i<vs.length->gQ ks ((ks.toArray.zip vs.toArray).getD i d0)=i:=λi c=>ug nd (by rw[n i c];exact o i c);have d: ∀x∈ks.toArray.zip vs.toArray,∃i,i<vs.length/\x=(ks.toArray.zip vs.toArray).getD i d0:=λx l=>by
  obtain⟨i,c,e⟩:=Array.getElem_of_mem l;exact⟨i,by lia,(dn (uP.mpr ⟨c,e⟩)).symm⟩
 have K:Asks (model P w) A s κ (λx=>k (gQ ks x)) (ks.toArray.zip vs.toArray):=by
  refine⟨λx y C l H v=>?_,λi j c g I z=>?_⟩
  .obtain⟨i,c,rfl⟩:=d x l;obtain⟨j,g,rfl⟩:=d y H;have z:=ask i j C (by lia) (by lia) (by rw[f i c,f j g]at v;exact v);unfold kas_ask at z;rw[n i c,n j g];exact z
  .rw[sz]at c g;rw[f i c,f j g]at z;exact I (inj i j c g z)
 have run:=LK (E:=E) (st:=SortSt.mk' κ (ks.toArray.zip vs.toArray) #[] 7 none) (Q:=λ_ b=>Q b s) K ⟨rfl,BP _,rfl⟩ rfl (by lia) λb B up=>?_
 .unfold wpS at run;exact gN run (λr u h=>by obtain⟨rfl,h⟩:=h;exact h) λ_ _ e=>e
 .have q:=nN B.perm;rw[sz]at up q;have mem: ∀i,i<vs.length->(arrOf b).getD i d0∈ks.toArray.zip vs.toArray:=λi c=>wy B.perm (by lia);have J:Arr vs.length ((arrOf b).map (gQ ks)):=by
   refine lQ.mpr ?_;rw[wg];refine((lQ.mp B.perm).map (gQ ks)).trans (.of_eq ?_);refine l7 λi=>?_;rw[cQ,iU,v6];by_cases c:i<vs.length
   .rw[nO (by lia),mM c];exact dL some (f i c)
   .rw[yH (by lia),ie (by simp;lia)];rfl
  have m: ∀i,i<vs.length->((arrOf b).map (gQ ks)).getD i 0=gQ ks ((arrOf b).getD i d0):=λi c=>by
   rw[ou,Array.getElem?_map,nO (by lia)];rfl
  refine G ((arrOf b).map (gQ ks)) b J (λx y L D=>?_) ?_ B.ok
  .rw[m x (by lia),m y D];exact up x y (hJ _) L D
  .apply Array.toList_inj.mp;rw[wg];show _=gB vs _
   unfold gB;rw[wg,hZ];refine pC λx l=>?_;obtain⟨i,c,rfl⟩:=d x ((z9 B.perm).mp (zw.mp l));show((ks.toArray.zip vs.toArray).getD i d0).2=vs.getD (gQ ks ((ks.toArray.zip vs.toArray).getD i d0)) Value.none
   rw[f i c,n i c]
def KH{n:Nat}{R:PySem.Fin->Sh->Prop}(v:s.heap.get? a=some (seqObj "list" vs.toArray n))(few:vs.length<=4000)(nd:vs.Nodup)(inj: ∀i j,i<vs.length->j<vs.length->k i=k j->i=j)
  (ask: ∀m,(∀b o,b≠a->s.heap.get? b=some o->m.get? b=some o)->2<=vs.length->yt P w A vs (λi j=>decide (k i<k j)) {s with heap:=m})
  (q: ∀p m c,Arr vs.length p->on k p vs.length->m.get? a=some (seqObj "list" (gB vs p).toArray c)->(∀b o,b≠a->s.heap.get? b=some o->m.get? b=some o)->R (.done (.ret .none)) {s with heap:=m}):
  wpAny (model P w) A (Builtin.«list.sort» ⟨[.ref a],[]⟩) R E s:=by
 have la:a<s.heap.objs.size:=dh v
 let C:=s.heap.update a (Obj.mapSeq λ_=>(#[]:AV))
 obtain⟨z,t⟩: ∃z,C.get? a=some (seqObj "list" #[] z):=⟨_,tH v λ_=> #[]⟩
 let g:=(C.push (seqObj "tuple" vs.toArray 0)).push (seqObj "list" #[] 0)
 have N: ∀b o,b≠a->s.heap.get? b=some o->C.get? b=some o:=λb o r e=>(jg _ _ (eJ r)).trans e;have L: ∀b o,b≠a->s.heap.get? b=some o->g.get? b=some o:=λb o r e=>vm (N b o r e) _ _;have h:g.get? a=some (seqObj "list" #[] z):=vm t _ _;rw[list_sort_plain];refine cy (listItems_at v rfl ?_);refine cy (pY v rfl ?_ (by rw[eM,dC];lia) (hJ _));refine cy (x9 t rfl ?_);refine cy (wpAny_newTuple ?_ (by show vs.length<=_;rw[dC];lia));refine cy (tj ?_ (hJ _));refine gw ?_;show wpAny (model P w) A _ R E {s with heap:=g};dsimp only;have fin: ∀(st:SortSt) (p:Array Nat),Arr vs.length p->on k p vs.length->(arrOf st).map (·.2)=(gB vs p).toArray->failedOf st=none-> ∀D,D=g->
   wpAny (model P w) A (do
    let d:=(<-seqEpoch a) != z
    Builtin.List.listUpdate (.ref a) λ_=>(arrOf st).map (·.2)
    if let some e:=failedOf st then rule "list.sort.comparison-raised";throw e
    if d then rule "list.sort.modified";raiseError "ValueError" "list modified during sort"
    ret .none) R E {s with heap:=D}:=λst p B up f G D O=>by
  subst O;rw[f];have sz:(gB vs p).toArray.size=vs.length:=by
   rw[eM,cz,d9,B.size]
  obtain⟨H,I⟩: ∃H,(g.update a (Obj.mapSeq λ_=>(gB vs p).toArray)).get? a=some (seqObj "list" (gB vs p).toArray H):=⟨_,tH h λ_=>(gB vs p).toArray⟩;refine cy (x9 h rfl ?_);refine cy (pY h rfl ?_ (hJ _) (dE (nH sz) (by rw[dC];lia)));rw[G];simp only[bne_self_eq_false,Bool.false_eq_true,if_false];exact cG (q p _ H B up I λb o r e=>(jg _ _ (eJ r)).trans (L b o r e))
 by_cases T:2<=vs.length
 .have u: ¬vs.toArray.size<2:=by rw[eM];lia
  rw[wA u,wA u];refine cy (gN (ask g L T) (λκ s0 J=>?_) λ_ _ x=>x.elim);obtain⟨rfl,J⟩:=J;refine cy (gN (Ep (ks:=vs) (vs:=vs) (k:=k) (Q:=λl M=>M={s with heap:=g}/\ ∃p:Array Nat,Arr vs.length p/\on k p vs.length/\(arrOf l).map (·.2)=(gB vs p).toArray/\failedOf l=none) rfl (by lia) nd inj J λp l U Y a3 a4=>⟨rfl,p,U,Y,a3,a4⟩) ?_ λ_ _ x=>x);rintro⟨⟨⟩,st⟩ M ⟨rfl,p,B,up,f,G⟩;exact fin st p B up f G _ rfl
 .have u:vs.toArray.size<2:=by rw[eM];lia
  rw[wB u,wB u];refine cy (cG (cy (cG ?_)));refine fin _ (List.range vs.length).toArray (BP _) (λx y xy yn=>by lia) ?_ rfl _ rfl;rw[EK];exact FA rfl
end
def Kh{H:Hp}{e:As}{d:LN}(c:TupsAt H e d)(nd:d.Nodup):(e.map Value.ref).Nodup:=by
 refine nJ.mpr λi j g k o z=>?_;rw[oA,oA]at z;rw[cz]at g k;have z:=Value.ref.inj z;have p:=c.len;have l:=c.is i e[i] (d[i]'(by lia)) (cA g) (cA _);have m:=c.is j e[j] (d[j]'(by lia)) (cA k) (cA _);rw[z,m]at l;have n:d[j]'(by lia)=d[i]'(by lia):=by
  have y:=fB l;injection y with y
  exact(List.map_inj_right (f:=nv) λa b h=>uQ (V.int.inj h)).mp y
 have q:=(im (i:=j) (j:=i) (by lia) nd).mp (by rw[cA (by lia),cA (by lia),n]);lia
def fN(g:cu->Int)(t u:cu):Bool:=pA (g t) t (g u) u
def lM(g:cu->Int)(f:LN):Total (fN g) f:=by
 refine⟨λx=>?_,λx y z b a=>?_,λx _ y _ h=>?_⟩
 .unfold fN pA;rw[wB rfl,m9]
 .unfold fN pA at b a⊢;by_cases d:g x=g y
  .rw[wB d]at b;by_cases c:g y=g z
   .rw[wB c]at a;rw[wB (by lia)];exact xu _ _ _ b a
   .rw[wA c]at a;have:=gi a;rw[wA (by lia)];exact dX (by lia)
  .rw[wA d]at b;have i:=gi b;by_cases c:g y=g z
   .rw[wA (by lia)];exact dX (by lia)
   .rw[wA c]at a;have j:=gi a;rw[wA (by lia)];exact dX (by lia)
 .unfold fN pA;by_cases e:g x=g y
  .rw[wB e,wB e.symm];exact An x y h
  .rw[wA e,wA λz=>e z.symm]
   rcases Int.lt_or_gt_of_ne e with q|q
   .exact .inl (dX q)
   .exact .inr (dX q)
def tL(H:Hp)(g:cu->Int)(b a:Ad)(t:cu):Prop:=H b=some (.tup [.int (g t),.ref a])/\H a=some (.tup (t.map nv))
structure KeysAt(H:Hp)(g:cu->Int)(κs as:As)(ts:LN):Prop where
 l1:κs.length=ts.length
 l2:as.length=ts.length
 is: ∀(i:Nat) κ a t,κs[i]? =some κ->as[i]? =some a->ts[i]? =some t->tL H g κ a t
section
variable{X:Cx}{za:AO}{σ:St}{H:Hp}{s:Sh}{g:cu->Int}
def zy{e a:Ad}{t:cu}(I:Inv X za σ H s)(h:tL H g e a t): ∃o f b n,s.heap.get? e=some o/\o.cls= .type "tuple"/\o.data= .seq #[.int (g t) f,.ref a] n/\Vals (t.map nv) b/\SeqObj "tuple" s.heap a b:=by
 obtain⟨_,b,r,o,k,l,c,m,_⟩:=(show ObjOk X.prog X.w H s.heap e (.tup [.int (g t),.ref a])from I.hok e _ h.1);obtain⟨i,j,rfl,⟨f,rfl⟩,p⟩: ∃i j,b=i::j/\RelV (.int (g t)) i/\Vals [.ref a] j:=by
  cases r with
  |cons x y=>exact⟨_,_,rfl,x,y⟩
 obtain⟨w,rfl,q⟩:=ig p;cases q;obtain⟨d,u,v,_⟩:=I.tuple (SqT.of (K:=X.K) h.2);exact⟨o,f,d,c,k,l,m,u,GR v⟩
def Iu{A:Ar}{c a b d:Ad}{t u:cu}{Q:Bool->Sh->Prop}{E:VP}(O:A.units+8<cLine)(I:Inv X za σ H s)(f:tL H g c a t)(h:tL H g b d u)(q:Q (fN g t u) s):
  wpAny (model X.prog X.w) A (keyLt' (tuples' true) (.ref c) (.ref b)) Q E s:=by
 obtain⟨T,k,p,U,r,Y,v,l,w⟩:=zy I f;obtain⟨o2,m,x,n2,y,y2,B,n,C⟩:=zy I h;refine kat_lt r v y B ?_;show KatLex _ _ _ _ _ _ [(Value.int (g t) k,Value.int (g u) m),(Value.ref a,Value.ref d)] 0 s;have z:=fu (A:=A) (s:=s) (i:=g t) (j:=g u) (t:=k) (u:=m);refine kat_cons ?_;unfold fN pA at q;by_cases e:g t=g u
 .rw[dX e]at z;rw[wB e]at q;refine z _ _ _ _ (kat_yes (kat_cons ?_));obtain⟨D,G,J⟩:=uD I 1 (A:=A) (by lia) (gu (SqT.of (K:=X.K) f.2)) (gu (SqT.of (K:=X.K) h.2)) rfl rfl;refine G _ _ _ _ ?_;cases D with
  |true=>
   have L:=dy.mp (J.mp rfl);subst L;rw[m9]at q;refine kat_yes (kat_nil ?_);exact q
  |false=>
   refine kat_no (kat_one _ _ ?_);have M:t.length=p.length:=by simpa using l.length
   have N:u.length=x.length:=by simpa using n.length
   have o:=Je (A:=A) w C (by lia) (Ht l n);rw[<-M,<-N]at o;exact show wpAny _ _ (richCompare .Lt _ _) _ _ _ from o _ _ _ _ q
 .rw[fg e]at z;rw[wA e]at q;exact z _ _ _ _ (kat_no (EF _ q))
theorem C6{g:cu->Int}(I:Inv X za σ H s): ∀{κs as:As} {ts:LN},KeysAt H g κs as ts-> ∃fs:Vs,KatTups s.heap (κs.map Value.ref) fs/\fs.length=κs.length/\ ∀f∈fs,∃i t,f= .int i t
 | [],as,ts,_=>⟨[],.nil,rfl,λ_ z=>nomatch z⟩
 |κ::κs,[],ts,h=>by have:=h.l1;have:=h.l2;simp at *;lia
 |κ::κs,a::as,[],h=>by have:=h.l1;simp at this
 | κ::κs,a::as,t::ts,h=>by
  obtain⟨fs,b,c,d⟩:=C6 I (κs:=κs) (as:=as) (ts:=ts) ⟨by simpa using h.l1,by simpa using h.l2,λi κ a t j k l=>h.is (i+1) κ a t (by simpa using j) (by simpa using k) (by simpa using l)⟩;obtain⟨o,u,m,n,p,q,r,_⟩:=zy I (h.is 0 κ a t rfl rfl rfl);exact⟨_::fs,.cons p q r rfl b,by simp[c],λf hf=>by
   rcases dQ.mp hf with e|hf
   .exact⟨_,_,e⟩
   .exact d f hf⟩
def Jw{A:Ar}{b n:As}{d:LN}(p:A.units+8<cLine)(I:Inv X za σ H s)(z:1<=d.length)(h:KeysAt H g b n d):yt X.prog X.w A (b.map Value.ref) (λi j=>fN g (d.getD i []) (d.getD j [])) s:=by
 obtain⟨fs,q,B,r⟩:=C6 I h;have D:=h.l1;have E:=h.l2;refine kat_kind (T:= .type "int") q (by lia) (λf u=>?_) (by decide) ⟨rfl,λi j C k o v=>?_⟩
 .obtain⟨i,t,rfl⟩:=r f u;exact .now
 .rw[cz]at k o;have e: ∀{i:Nat},i<b.length-> ∃c a,(b.map Value.ref).getD i Value.none= .ref c/\tL H g c a (d.getD i []):=λ{i} k=>by
   obtain⟨c,l⟩: ∃c,b[i]? =some c:=⟨_,cA k⟩;obtain⟨a,m⟩: ∃a,n[i]? =some a:=⟨_,cA (by lia)⟩;refine⟨c,a,?_,h.is i c a _ l m (nA (by lia)).1⟩;rw[dY,cQ,l];rfl
  obtain⟨c,a,l,w⟩:=e k;obtain⟨x,G,m,y⟩:=e o;show wpAny (model X.prog X.w) A (keyLt' _ ((b.map Value.ref).getD i Value.none) ((b.map Value.ref).getD j Value.none)) C _ s;rw[l,m];exact Iu p I w y v
end
def r4(g:cu->Int):Sp:=λd H Q _=> ∃(a:Ad) (t:cu),d=[.ref a]/\H a=some (.tup (t.map nv))/\ ∀c b,Same H b->b c=some (.tup [.int (g t),.ref a])->Q (.ref c) b
section
variable{X:Cx}{za:AO}{σ:St}{kk:Nat}{f:Ad}{fd:Fd}{ps:Ss}{g:cu->Int}
def HU{c:Sp}{H:Hp}{s:Sh}{Q:VK}{us:Vs}{vs:List V}(F:FnOk X.prog X.w X.K X.mg X.base cZ kk f fd ps c)(d:Room kk X.A.in1.in1)(i:Binds X.K fd ps [])(I:Inv X za σ H s)(r:Vals vs us)(h:c vs H Q E0):
  wpAny (model X.prog X.w) X.A.in1.in1 (call (.ref f) us) (EP X za σ Q) (λ_ _=>False) s:=by
 have j:(us++[]).length=ps.length:=by rw[gV,<-r.length];exact F.len _ _ _ _ h
 have b:=i s us I.kIn j;rw[gV]at b;refine uc (nI (F.run X.A.in1.in1 X.stack s H ⟨us,[]⟩ us vs Q E0 d I.env0.in1.in1 b r h) λr l a=>?_);cases r with
 |error e=>exact a.elim
 |ok k=>
  cases k with
  |ret u=>exact I.after a
  |next=>exact wE a
  |brk=>exact wE a
  |cont=>exact wE a
def Inv.pin2{H:Hp}{s:Sh}{b c:Ad}{o u:Obj}(I:Inv X za σ H s)(a:FpOk X za H b)(d:FpOk X za H c)(e:s.heap.get? b=some o)(h:s.heap.get? c=some u)(i: ∀v,o.data≠ .cell v)(j: ∀v,u.data≠ .cell v):Inv X ((b,o)::(c,u)::za) σ H s:=
 I.pins_of λp hp=>by
  rcases dQ.mp hp with rfl|hp
  .exact⟨e,a.1,a.2.1,a.2.2.1,i⟩
  .rcases dQ.mp hp with rfl|hp
   .exact⟨h,d.1,d.2.1,d.2.2.1,j⟩
   .exact I.pin p (eK _ hp)
def Inv.unpin2{H:Hp}{s:Sh}{b c:Ad}{o u:Obj}(I:Inv X ((b,o)::(c,u)::za) σ H s):Inv X za σ H s:=
 I.pins_of λp a=>I.pin p (eK _ (fc _ (fc _ a)))
def FpOk.to{H a:Hp}{b:Ad}(h:FpOk X za H b)(e:a b=none):FpOk X za a b:=⟨e,h.2⟩
theorem Cp{E:VP}{l D:Ad}{w:Nat}{m:Vl->PUnit->Sem (ForInStep PUnit)}{Q:Sh->Prop}(F:FnOk X.prog X.w X.K X.mg X.base cZ kk f fd ps (r4 g))(hr:Room kk X.A.in1.in1)(hb:Binds X.K fd ps [])(ne:l≠D)
  (n: ∀x (s:Sh) (C:VP) (Qy:Sh->Prop),wpAny (model X.prog X.w) X.A.in1.in1 (call (.ref f) [x]) C (λ_ _=>False) s->
   (∀k s',C k s'-> ∃O c,s'.heap.get? l=some (seqObj "list" O c)/\O.size<64/\Qy {s' with heap:=s'.heap.update l (Obj.mapSeq (·.push k))})->wpAny (model X.prog X.w) X.A.in1.in1 (m x ⟨⟩) (λr s'=>r= .yield ⟨⟩/\Qy s') E s):
  ∀(r:As) (rt:LN) (H:Hp) (d:As) (c:Nat) (s:Sh),Inv X za σ H s->TupsAt H r rt->s.heap.get? l=some (seqObj "list" (d.map Value.ref).toArray c)->s.heap.get? D=some (seqObj "list" #[] w)->FpOk X za H l->FpOk X za H D->d.length+r.length<64->
   (∀y p c2 M,Inv X za σ y M->Same H y->KeysAt y g p r rt->M.heap.get? l=some (seqObj "list" ((d++p).map Value.ref).toArray c2)->M.heap.get? D=some (seqObj "list" #[] w)->FpOk X za y l->FpOk X za y D->Q M)->
   wpAny (model X.prog X.w) X.A.in1.in1 (forIn (r.map Value.ref) PUnit.unit m) (λ_ s'=>Q s') E s
 | [],[],H,d,c,s,I,T,U,Y,A,N,_,q=>by
  rw[wh,List.forIn_nil];exact cG (q H [] c s I (Same.refl _) ⟨rfl,rfl,λi h a t e=>by simp at e⟩ (by rw[List.append_nil];exact U) Y A N)
 | [],_::_,H,d,c,s,I,T,U,Y,A,N,_,q=>by have:=T.len;simp at this
 |_::_,[],H,d,c,s,I,T,U,Y,A,N,_,q=>by have:=T.len;simp at this
 | a::r,t::rt,H,d,c,s,I,T,U,Y,A,N,ab,q=>by
  rw[jz]at ab;rw[gv,List.forIn_cons];have ha:H a=some (.tup (t.map nv)):=T.is 0 a t rfl rfl;have I1:=I.pin2 A N U Y (λ_ z=>nomatch z) (λ_ z=>nomatch z);have go:=HU (Q:=λv j=> ∃h,v= .ref h/\Same H j/\j h=some (.tup [.int (g t),.ref a])) F hr hb I1 (us:=[.ref a]) (vs:=[.ref a]) (.cons rfl .nil) ⟨a,t,rfl,ha,λh j B e=>⟨h,rfl,B,e⟩⟩;refine cy (gN (n _ s _ (λs'=> ∃h j G,Inv X za σ j s'/\Same H j/\j h=some (.tup [.int (g t),.ref a])/\s'.heap.get? l=some (seqObj "list" ((d++[h]).map Value.ref).toArray G)/\s'.heap.get? D=some (seqObj "list" #[] w)/\FpOk X za j l/\FpOk X za j D) go λk s' hk=>?_) (λx s' hx=>?_) λ_ _ z=>z)
  .obtain⟨v,j,I',rv,h,rfl,B,J⟩:=hk;cases rv;obtain⟨p1,p2,p3,p4,_⟩:=I'.pin (l,_) (eK _ (dP ..));obtain⟨d1,d2,d3,d4,_⟩:=I'.pin (D,_) (eK _ (fc _ (dP ..)));obtain⟨G,ae⟩: ∃G,(s'.heap.update l (Obj.mapSeq (·.push (Value.ref h)))).get? l=some (seqObj "list" ((d++[h]).map Value.ref).toArray G):=by
    have ea:(List.map Value.ref d).toArray.push (.ref h)=((d++[h]).map Value.ref).toArray:=by simp
    rw[<-ea];exact⟨_,tH p1 (·.push (Value.ref h))⟩
   refine⟨_,_,p1,by rw[eM,cz];lia,h,j,G,?_,B,J,ae,?_,A.to p2,N.to d2⟩
   .obtain⟨_,w1,w2,w3,w4,w5⟩:=A;exact I'.unpin2.turned (t':=s'.toks) (λb o nb e=>(jg _ _ (eJ nb)).trans e) p2 w1 w3 w4 w5
   .exact(jg _ _ ne).trans d1
  .obtain⟨rfl,h,j,G,I',B,J,af,ag,g1,g2⟩:=hx;show wpAny _ _ (forIn (r.map Value.ref) PUnit.unit m) _ E s';refine Cp F hr hb ne n r rt j (d++[h]) G s' I' ⟨by simpa using T.len,λi b u w e2=>B _ _ (T.is (i+1) b u (by simpa using w) (by simpa using e2))⟩ af ag g1 g2 (by rw[List.length_append];show d.length+1+r.length<64;lia) λy p c2 M I2 L K2 aa ah h1 h2=>?_;refine q y (h::p) c2 M I2 (B.trans L) ⟨by simp[K2.l1],by simp[K2.l2],λi ai b u w e2 e3=>?_⟩ (by rw[List.append_assoc]at aa;exact aa) ah h1 h2;cases i with
   |zero=>
    cases w;cases e2;cases e3;exact⟨L _ _ J,(B.trans L) _ _ ha⟩
   |succ i=>exact K2.is i ai b u (by simpa using w) (by simpa using e2) (by simpa using e3)
end
section
variable{X:Cx}{za:AO}{σ:St}{H:Hp}{s:Sh}{kk:Nat}{f D:Ad}{fd:Fd}{ps:Ss}{g:cu->Int}{as:As}{ts:LN}{E:VP}
def GC{R:PySem.Fin->Sh->Prop}{n:Nat}(F:FnOk X.prog X.w X.K X.mg X.base cZ kk f fd ps (r4 g))(hr:Room kk X.A.in1.in1)(hb:Binds X.K fd ps [])(hu:X.A.units+64<cLine)(I:Inv X za σ H s)(T:TupsAt H as ts)(nd:ts.Nodup)(aj:ts.length<64)
  (ho:s.heap.get? D=some (seqObj "list" (as.map Value.ref).toArray n)) (fD:FpOk X za H D)
  (q: ∀B p s2 c,Inv X za σ B s2->Same H B->Arr ts.length p->on (λi=>i4 (fN g) ts (ts.getD i [])) p ts.length->s2.heap.get? D=some (seqObj "list" (gB (as.map Value.ref) p).toArray c)->FpOk X za B D->R (.done (.ret .none)) s2):
  wpAny (model X.prog X.w) X.A.in1.in1 (ksk_tree D (.ref f) false) R E s:=by
 have la:=T.len;have G:(as.map Value.ref).length=ts.length:=by rw[cz,la]
 have lD:D<s.heap.objs.size:=dh ho;obtain⟨d0,d1,d2,d3,d4,d5⟩:=fD
 let h1:=s.heap.update D (Obj.mapSeq λ_=>(#[]:AV))
 obtain⟨t,J⟩: ∃t,h1.get? D=some (seqObj "list" #[] t):=⟨_,tH ho λ_=> #[]⟩;have I1:Inv X za σ H {s with heap:=h1}:=I.turned (t':=s.toks) (λb o L e=>(jg _ _ (eJ L)).trans e) d0 d1 d3 d4 d5
 let m:=h1.push (seqObj "tuple" (as.map Value.ref).toArray 0)
 have I3:Inv X za σ H {s with heap:=m.push (seqObj "list" #[] 0)}:=I1.kept (t':=s.toks) λb o e=>vm e _ _;have ab:(m.push (seqObj "list" #[] 0)).get? D=some (seqObj "list" #[] t):=vm J _ _;have ae:(m.push (seqObj "list" #[] 0)).get? m.objs.size=some (seqObj "list" ((([]:As)).map Value.ref).toArray 0):=eO _ rfl;have lk:s.heap.objs.size<=m.objs.size:=by
  show _<=(h1.push _).objs.size;rw[size_push'];show _<=(s.heap.update D _).objs.size+1;rw[Heap.size_update];exact l6 _
 have fk:FpOk X za H m.objs.size:=I.fpOk lk (I.hok.fresh lk);have ne:m.objs.size≠D:=ka (ft lD lk);unfold ksk_tree;refine cy (listItems_at ho rfl ?_);refine cy (pY ho rfl ?_ (by rw[eM,dC];lia) (hJ _));refine cy (x9 J rfl ?_);refine cy (wpAny_newTuple ?_ (by show(as.map Value.ref).length<=_;rw[dC];lia));refine cy (tj ?_ (hJ _));refine gw ?_;show wpAny (model X.prog X.w) X.A.in1.in1 (ksk_rest D (.ref f) false (as.map Value.ref).toArray t (.ref m.objs.size)) R E {s with heap:=m.push (seqObj "list" #[] 0)};unfold ksk_rest;refine cy (mW ?_);rw[List.forIn_toArray];refine cy (Cp F hr hb ne (λx s0 C Qy hx hC=>?_) as ts H [] 0 _ I3 T ae ab fk ⟨d0,d1,d2,d3,d4,d5⟩ (by simp;lia) λB r c2 s2 I2 gg M eS eD f1 f2=>?_)
 .refine cy (nS (gN hx (λk s' N=>?_) λ_ _ z=>z.elim));obtain⟨af,c,e,l,qy⟩:=hC k s' N;refine cy (pY e rfl ?_ (by rw[dC];lia) (by show(af.push k).size<=_;rw[mP,dC];lia));exact cG ⟨rfl,qy⟩
 rw[A']at eS;have O:(r.map Value.ref).length=(as.map Value.ref).length:=by rw[cz,G,M.l1]
 refine cy (listItems_at eS rfl ?_);have fin: ∀(st:SortSt) (p:Array Nat),Arr ts.length p->on (λi=>i4 (fN g) ts (ts.getD i [])) p ts.length->(arrOf st).map (·.2)=(gB (as.map Value.ref) p).toArray->failedOf st=none->
   wpAny (model X.prog X.w) X.A.in1.in1 (ksk_tail D false t (.ref m.objs.size) st) R E s2:=λst p ar up u hf=>by
  have sz:(gB (as.map Value.ref) p).toArray.size=ts.length:=by
   rw[eM,cz,d9,ar.size]
  unfold ksk_tail
  try dsimp only
  rw[u];have I4:Inv X za σ B {s2 with heap:=s2.heap.update m.objs.size (Obj.mapSeq λ_=>(#[]:AV))}:=by
   obtain⟨w0,w1,w2,w3,w4,w5⟩:=f1;exact I2.turned (t':=s2.toks) (λb o L e=>(jg _ _ (eJ L)).trans e) w0 w1 w3 w4 w5
  have v:(s2.heap.update m.objs.size (Obj.mapSeq λ_=>(#[]:AV))).get? D=some (seqObj "list" #[] t):=(jg _ _ ne).trans eD;obtain⟨c5,ag⟩: ∃c5,((s2.heap.update m.objs.size (Obj.mapSeq λ_=>(#[]:AV))).update D (Obj.mapSeq λ_=>(gB (as.map Value.ref) p).toArray)).get? D=some (seqObj "list" (gB (as.map Value.ref) p).toArray c5):=⟨_,tH v λ_=>(gB (as.map Value.ref) p).toArray⟩;refine cy (pY eS rfl ?_ (by rw[eM,dC];lia) (hJ _));refine cy (wpAny_letGo ?_);refine cy (x9 v rfl ?_);refine cy (pY v rfl ?_ (hJ _) (by show(gB (as.map Value.ref) p).toArray.size<=_;rw[sz,dC];lia));rw[hf];simp only[bne_self_eq_false,Bool.false_eq_true,if_false];refine cG (q B p _ c5 ?_ gg ar up ag f2);obtain⟨w0,w1,w2,w3,w4,w5⟩:=f2;exact I4.turned (t':=s2.toks) (λb o L e=>(jg _ _ (eJ L)).trans e) w0 w1 w3 w4 w5
 unfold ksk_end;simp only[Bool.false_eq_true,if_false];by_cases ak:2<=ts.length
 .have U: ¬(as.map Value.ref).toArray.size<2:=by rw[eM];lia
  rw[wA U,wA U];have To:=lM g ts;have inj:=Eh (d:=([]:cu)) To nd;refine cy (gN (Jw (A:=X.A.in1.in1) (by show X.A.units+1+1+8<cLine;lia) I2 (by lia) M) (λκ s0 N=>?_) λ_ _ x=>x.elim);obtain⟨rfl,N⟩:=N;have ai:r.length=ts.length:=M.l1;have Y:(r.map Value.ref).Nodup:=by
   refine nJ.mpr λi j hi hj ij z=>?_;rw[oA,oA]at z;rw[cz]at hi hj;have z:=Value.ref.inj z;have t:=M.is i r[i] (as[i]'(by lia)) (ts[i]'(by lia)) (cA hi) (cA _) (cA _);have e2:=M.is j r[j] (as[j]'(by lia)) (ts[j]'(by lia)) (cA hj) (cA _) (cA _);obtain⟨t,ah⟩:=t;obtain⟨e2,aa⟩:=e2;rw[z,e2]at t;have ea:as[j]'(by lia)=as[i]'(by lia):=by
    have y:=fB t;injection y with y
    injection y with _ y
    injection y with y
    exact V.ref.inj y
   rw[ea]at aa;have et:ts[j]'(by lia)=ts[i]'(by lia):=by
    have y:=fB (aa.symm.trans ah);injection y with y
    exact(List.map_inj_right (f:=nv) λa b h=>uQ (V.int.inj h)).mp y
   have e4:=(im (i:=j) (j:=i) (by lia) nd).mp (by rw[cA (by lia),cA (by lia),et]);lia
  refine cy (gN (Ep (ks:=r.map Value.ref) (vs:=as.map Value.ref) (k:=λi=>i4 (fN g) ts (ts.getD i [])) (Q:=λw s'=>s'=s0/\ ∃p:Array Nat,Arr ts.length p/\on (λi=>i4 (fN g) ts (ts.getD i [])) p ts.length/\(arrOf w).map (·.2)=(gB (as.map Value.ref) p).toArray/\failedOf w=none) O (by lia) Y (by rw[G];exact inj) (λi j C li lj hC=>N i j C (by lia) (by lia) (by
   have e:=To.asks (nA (d:=([]:cu)) (show i<ts.length by lia)).2 (nA (d:=([]:cu)) (show j<ts.length by lia)).2;show C (fN g (ts.getD i []) (ts.getD j [])) _
   rw[<-e];exact hC)) λp w a1 a2 a3 a4=>⟨rfl,p,by rw[<-G];exact a1,by rw[<-G];exact a2,a3,a4⟩) ?_ λ_ _ x=>x)
  rintro⟨⟨⟩,st⟩ s' ⟨rfl,p,ar,up,u,hf⟩;exact fin st p ar up u hf
 .have U:(as.map Value.ref).toArray.size<2:=by rw[eM];lia
  rw[wB U,wB U];refine cy (cG (cy (cG ?_)));refine fin _ (List.range ts.length).toArray (BP _) (λx y xy yn=>by lia) ?_ rfl;rw[<-G,EK];exact FA O
end
section
variable{X:Cx}{za:AO}{σ:St}{H:Hp}{s:Sh}{d:Ad}{kvs:List (List dr×V)}{ts:LN}
def Cc(I:Inv X za σ H s)(h:H d=some (.dT kvs))(e:kvs.map (·.1)=ts.map nk): ∃E g x,Lies s.heap d g x/\(d==sysModules)=false/\TupsAt H E ts/\(∀(i:Nat) (A:DictEntry),g[i]? =some A-> ∃a,E[i]? =some a/\A.key= .ref a)/\g.size=ts.length/\ts.Nodup/\ts.length<=sizeLine:=by
 obtain⟨z,N,l,c,o,g,x,O,Q,T,G,nd⟩:=(show ObjOk X.prog X.w H s.heap d (.dT kvs)from I.hok d _ h);have U:kvs.length=l.length:=nq c;have l2:kvs.length=ts.length:=by rw[<-cz (f:=(·.1)) (as:=kvs),e,cz]
 have le:g.size=l.length:=wp G;have B: ∀(i:Nat) (t:cu),ts[i]? =some t-> ∃k v y u,kvs[i]? =some (k,v)/\l[i]? =some (k,y,u)/\k=nk t/\H y=some (.tup (t.map nv)):=λi t r=>by
  have li:=(cK.mp r).1;obtain⟨⟨k,v⟩,j⟩: ∃p,kvs[i]? =some p:=⟨_,cA (by lia)⟩;obtain⟨⟨Y,y,u⟩,m,C,p2,p3⟩:=ye c j;have J:k=nk t:=by
   have w:(kvs.map (·.1))[i]? =some k:=by rw[cQ,j];rfl
   rw[e,cQ,r]at w;exact(fB w).symm
  have D:k=Y:=C;subst D;refine⟨k,v,y,u,j,m,J,?_⟩;have n:H y=some (.tup (k.map kV)):=p2;rw[J,ip]at n;exact n
 refine⟨l.map (·.2.1),g,x,⟨o,O,Q,T⟩,N,⟨by rw[cz];lia,λi b t L r=>?_⟩,λi A M=>?_,by lia,?_,by lia⟩
 .obtain⟨k,v,y,u,_,m,_,hy⟩:=B i t r;rw[cQ,m]at L;cases L;exact hy
 .rw[entry_at G]at M;obtain⟨q,eq,rfl⟩:=eC.mp M;exact⟨q.2.1,by rw[cQ,eq];rfl,rfl⟩
 .have w:(l.map (·.1))=ts.map nk:=by
   rw[<-e];refine l7 λi=>?_;rw[cQ,cQ];cases j:kvs[i]? with
   |none=>rw[ie (by rw[<-U];exact List.getElem?_eq_none_iff.mp j)];rfl
   |some p=>
    obtain⟨q,m,C,_⟩:=ye c j;rw[m];exact dL some C.symm
  rw[w]at nd;exact(si.mp nd).imp λh z=>h (dL nk z)
def Dw{f:As}{e:Array DictEntry}{b:AV}(is: ∀(i:Nat) (c:DictEntry),e[i]? =some c-> ∃a,f[i]? =some a/\c.key= .ref a)(o:f.length=e.size)(g:ItemsOf (λi v=> ∃c,e[i]? =some c/\v=c.key) b e.size):b.toList=f.map Value.ref:=by
 refine l7 λi=>?_;by_cases h:i<e.size
 .obtain⟨v,j⟩: ∃v,b[i]? =some v:=⟨_,i' (by rw[g.1];exact h)⟩;obtain⟨c,k,l⟩:=g.2 i v j;obtain⟨a,m,n⟩:=is i c k;rw[iU,j,cQ,m,l,n];rfl
 .rw[ie (by rw[d9,g.1];lia),ie (by rw[cz];lia)]
theorem AX: ∀l:As,Vals (l.map V.ref) (l.map Value.ref)
 | []=> .nil
 |x::l=> .cons rfl (AX l)
end
section
variable{X:Cx}
def BL(g:cu->Int):List V->Hp->VK->Prop:=λf H Q=> ∃d a c,f=[V.ref d]/\H d=some (.dT a)/\a.map (·.1)=c.map nk/\c.length<64/\
 ∀D bs e b,Same H b->H D=none->b D=some (.lst (bs.map V.ref))->TupsAt b bs e->e.Perm c->e.Pairwise (λx y=>fN g x y=true)->Q (.ref D) b
def EU{a:As}{p:Array Nat}(b:Arr a.length p):gB (a.map Value.ref) p=(p.toList.map λi=>a.getD i 0).map Value.ref:=by
 unfold gB;rw[hZ];refine pC λi c=>?_;have d:i<a.length:=by
  have m:=(lQ.mp b).mem_iff.mp c;simpa using m
 show(a.map Value.ref).getD i Value.none=Value.ref (a.getD i 0);rw[dY,dY,cQ,cA d];rfl
def LZ{x:Nat}{f:Ad}{y:Fd}{B:Ss}{g:cu->Int}{k:AO}{n:St}{H:Hp}{s:Sh}{Q:VK}{d:Ad}(N:X.calm=true)(O:X.A.units+64<cLine)(F:FnOk X.prog X.w X.K X.mg X.base cZ x f y B (r4 g))(U:Room x X.A.in1.in1)(Y:Binds X.K y B [])(I:Inv X k n H s)
  (h:BL g [.ref d] H Q):wpAny (model X.prog X.w) X.A (call (.builtin "sorted") [.ref d] [(Str.ofString "key",.ref f)]) (EP X k n Q) X.xe s:=by
 obtain⟨d',aa,ts,e0,hd,e,u,q⟩:=h;cases e0;obtain⟨a,es,ep,L,nm,T,is,le,nd,v⟩:=Cc I hd e;refine call_function_entry_kw kind_sorted plain_sorted entry_sorted (ksk_s1 _ _) ?_;unfold Builtin.«sorted»;refine cy (m:=checkCount "sorted" 1 1 _) (cG ?_);refine cy (kdu_collect (A:=X.A.in1) (um nm) (by simpa using I.ok.hd N) L (by lia) λj r ab keep it=>?_);have ea:=Dw is (by rw[T.len,le]) it;rw[ea];have t:Inv X k n H {s with heap:=j,toks:=r}:=I.kept keep;refine cy (tj ?_ (by rw[cz,T.len,dC];lia));have C:(j.push (seqObj "list" (a.map Value.ref).toArray 0)).get? j.objs.size=some (seqObj "list" (a.map Value.ref).toArray 0):=eO _ rfl;have I2:Inv X k n H {s with heap:=j.push (seqObj "list" (a.map Value.ref).toArray 0),toks:=r}:=t.kept (t':=r) λb o z=>dI _ z;have D:H j.objs.size=none:=t.hok.fresh (cM _);have fD:FpOk X k H j.objs.size:=t.fpOk (cM _) D;refine cy (gw (wpAny_call_entry_kw slot_list_sort ⟨_,C,rfl⟩ yY (GC (s:={s with heap:=j.push (seqObj "list" (a.map Value.ref).toArray 0),toks:=r}) F U Y O I2 T nd u C fD λH2 p s2 c Iz E l up G f2=>⟨_,rfl,?_⟩) (ksk_l1 _ _)));have w:Arr a.length p:=by rw[T.len];exact l
 rw[EU w]at G;have T2:=(T.same E).pick l;obtain⟨J,w1,w2,w3,w4,w5⟩:=f2;have few:((p.toList.map λi=>a.getD i 0).map V.ref).length<=sizeLine:=by
  rw[cz,cz,d9,l.size];exact v
 have I5:=Iz.track (o:= .lst ((p.toList.map λi=>a.getD i 0).map V.ref)) J ⟨few,_,c,AX _,G⟩ (dE t.sz (cM _)) w1 w4 w5;have M:=cL J (.lst ((p.toList.map λi=>a.getD i 0).map V.ref));exact cG ⟨_,rfl,.ref j.objs.size,_,I5,rfl,q _ _ _ _ (E.trans M) D cC (T2.same M) (EY l) (EV (lM g ts) l up)⟩
def GX(g:cu->Int)(a:TE):TE:=λb H Q=>a b H λx c=> ∃d,x= .ref d/\BL g [.ref d] c Q
def KR{m:Nat}{t:Ss}{g:cu->Int}{a:Str}{e:Expr}{b:TE}{p v w pos:Pos}(y:X.calm=true)(z:X.A.units+64<cLine)(A:dA X.prog X.w X.K X.mg X.base a m t (r4 g))(B:Room (m+2) X.A)(C:Gl X "sorted")(D:X.mg "sorted"=none)(c:Gl X a)(E:PE X e b)
  (i:(a==("__debug__":Str))=false:=by decide) (j:starEach [e] X.env=[(false,eval e X.env)]:=by rfl):PE X (.Call (.Name "sorted" p) [e] [⟨some "key",.Name a v,w⟩] pos) (GX g b):=by
 intro G s J H Q I h;obtain⟨f,O,F,k,T,L⟩:=A;refine oD (oP I C D wc ?_);refine callWith_kw ?_ (by rw[j];rfl) (by rw[j];rfl);have M:PA X [e] (jo b jd):=cJ E cI j;refine cP (M pos G s J H (λl n=>match l with| [x]=> ∃d,x= .ref d/\BL g [.ref d] n Q|_=>False) I h) λU Y ⟨l,n,o,r,q⟩=>?_
 match l,r,q with
 | [x],r,q=>
  obtain⟨d,rfl,q⟩:=q;obtain⟨u,rfl,N⟩:=ig r;cases N;refine kws_cons (vo o c k (kws_nil ?_) i);exact LZ y z F B.in1.in1 L o q
end
end L2
namespace L2
open PySem PySem.Spec PyProof.Rows
section
variable{X:Cx}{za:AO}{σ:St}{H:Hp}{s:Sh}{d:Ad}{kvs:List (List dr×V)}{ts:LN}{o:Obj}
def Inv.freeze(I:Inv X za σ H s)(h:H d=some (.dT kvs))(e:s.heap.get? d=some o):Inv X za σ (cw H d (.frz o (.dT kvs))) s:=by
 obtain⟨z,b,c,a,f,g,i,j,k,l,m,nd⟩:=(show ObjOk X.prog X.w H s.heap d (.dT kvs)from I.hok d _ h);refine I.write (x:=d) (e:=d) (h':=s.heap) (t':=s.toks) (by rw[h];exact True.intro) (.inl rfl) (λ_ _ _ q=>q) ⟨o,e⟩ ⟨e,z,b,c,Paired.mapP a λp q r=>⟨r.1,?_,r.2.2⟩,f,g,i,j,k,l,m,nd⟩;rw[cF (nE r.2.1 h)];exact r.2.1
def yF(I:Inv X za σ H s)(h:H d=some (.frz o (.dT kvs)))(e:kvs.map (·.1)=ts.map nk): ∃r c l,s.heap.get? d=some o/\o.ExactDict/\o.data= .dict c l/\(d==sysModules)=false/\TupsAt H r ts/\(∀(i:Nat) (m:DictEntry),c[i]? =some m-> ∃a,r[i]? =some a/\m.key= .ref a)/\c.size=ts.length:=by
 obtain⟨w,z,J,n,g,U,c,l,x,L,M,A,nd⟩:=(show ObjOk X.prog X.w H s.heap d (.frz o (.dT kvs))from I.hok d _ h);rw[w]at x;cases x;have Y:kvs.length=n.length:=nq g;have l2:kvs.length=ts.length:=by rw[<-cz (f:=(·.1)) (as:=kvs),e,cz]
 have le:c.size=n.length:=wp A;refine⟨n.map (·.2.1),c,l,w,L,M,J,⟨by rw[cz];lia,λi b t B C=>?_⟩,λi m D=>?_,by lia⟩
 .have li:=(cK.mp C).1;obtain⟨⟨k,v⟩,E⟩: ∃p,kvs[i]? =some p:=⟨_,cA (by lia)⟩;obtain⟨⟨k',y,u⟩,N,p1,O,p3⟩:=ye g E;have Q:k=nk t:=by
   have G:(kvs.map (·.1))[i]? =some k:=by rw[cQ,E];rfl
   rw[e,cQ,C]at G;exact(fB G).symm
  rw[cQ,N]at B;cases B;have j:H y=some (.tup (k.map kV)):=O;rw[Q,ip]at j;exact j
 .rw[entry_at A]at D;obtain⟨q,T,rfl⟩:=eC.mp D;exact⟨q.2.1,by rw[cQ,T];rfl,rfl⟩
end
def oZ(d:Ad)(o:Obj):It:=
  ⟨λi H=> ∃(b:List (List dr×V)) (c:LN) (t:cu),H d=some (.frz o (.dT b))/\b.map (·.1)=c.map nk/\c[i]? =some t,
   λi H x e=>e=H/\ ∃a,x= .ref a/\ ∀(b:List (List dr×V)) (c:LN),H d=some (.frz o (.dT b))->b.map (·.1)=c.map nk-> ∃t:cu,c[i]? =some t/\H a=some (.tup (t.map nv)),
   λi H=> ∃b,∃c:LN,H d=some (.frz o (.dT b))/\b.map (·.1)=c.map nk/\c.length<=i⟩
def JG{c d:LN}(h:c.map nk=d.map nk):c=d:=oH (λa b e=>vx e) h
def Lz{P:Pg}{w:World}{K:W.Frag}{tg:Expr}{d c:Ad}{o:Obj}{y:Array DictEntry}{ep:Nat}(ne:d≠c)(l:o.data= .dict y ep)(ox:o.ExactDict):Turn P w K tg (oZ d o) [c] c (λi h=>h.get? c=some (nM d i y.size ep)) where
 mem:=by simp
 obj:=λi h st b f=>by
  have e:b=c:=by simpa using f
  subst e;exact⟨_,st,λv z=>by
   have z':Data.fields _=Data.cell v:=z;cases z'⟩
 keep:=λi h m st k=>k c (by simp) _ st
 item:=by
  intro X A hw B hc i za s σ H E I p st C;subst A hw B;obtain⟨D,ts,t,r,u,x⟩:=C;obtain⟨as,G,J,L,e2,g,nm,T,is,le⟩:=yF I r u;rw[l]at g;cases g;obtain⟨M,N,f2,O,U,Y⟩:=p c (by simp);have li:=(cK.mp x).1;obtain⟨en,ee⟩: ∃en,y[i]? =some en:=⟨_,i' (by lia)⟩;obtain⟨a,ea,ek⟩:=is i en ee;refine DU st ⟨o,L,ox,l⟩ ee λm j sb=>?_;have I1:Inv X za σ H {s with heap:=m}:=I.turned (t':=s.toks) (λb o f e=>(sb.2 b f).trans e) M N O U Y;refine⟨_,rfl,wT (s:={s with heap:=m}) (n:="dict_keyiterator") j rfl rfl (by decide) ⟨.ref a,H,I1,ek,⟨rfl,a,rfl,λaa ab g1 g2=>?_⟩,j,λb f=>(p b f).1⟩⟩;rw[r]at g1;cases g1;have tt:=JG (u.symm.trans g2);subst tt;exact⟨t,x,T.is i a t ea x⟩
 done:=by
  intro X A hw B hc i za s σ H E I p st C;subst A hw B;obtain⟨D,ts,r,u,x⟩:=C;obtain⟨as,G,J,L,e2,g,nm,T,is,le⟩:=yF I r u;rw[l]at g;cases g;obtain⟨M,N,f2,O,U,Y⟩:=p c (by simp);exact Dl (I.ok.hd hc) st ⟨o,L,ox,l⟩ (yH (by lia)) λm eb=>⟨rfl,I.turned (t':=s.toks) (λb o f e=>eb b o f e) M N O U Y⟩
 self:=λ_ i s Q E st q=>by
  have ty:s.TypeIs (.ref c) "dict_keyiterator":=⟨_,st,rfl⟩;refine qb ty xw (i6 xw ty EO ?_ (CJ _));exact show wpAny _ _ (ret (.ref c)) _ _ s from cG ⟨_,rfl,"dict_keyiterator",_,ty,pJ.lookup,q⟩
section
variable{X:Cx}{tg:Expr}
def KS(H:Hp)(d:Ad)(o:Obj)(a:List (List dr×V))(b:Hp):Prop:=(H d=some (.frz o (.dT a))/\b=H)∨(H d=some (.dT a)/\b=cw H d (.frz o (.dT a)))
def tu(e:TE):TI:=λf H R=>e f H λx b=> ∃d a,∃g:LN,x= .ref d/\a.map (·.1)=g.map nk/\(b d=some (.dT a)∨ ∃o,b d=some (.frz o (.dT a)))/\ ∀o c,KS b d o a c->R (oZ d o) c
def C1{l:Expr}{tl:TE}(y:PE X l tl):PI X tg l (tu tl):=by
 intro k s m H R I h;refine cP (y k s m H _ I h) λv c ⟨x,p,n,z,A⟩=>?_;obtain⟨d,f,E,e,B,w,q⟩:=A;subst e;cases z;have go: ∀(g:Hp) (o:Obj),Inv X k m g c->g d=some (.frz o (.dT f))->R (oZ d o) g->wpAny (model X.prog X.w) X.A (pyIter (.ref d)) (zR X k m tg R) X.xe c:=λg o i a r=>by
  obtain⟨G,J,L,j,t,u,C,T,is,M⟩:=yF i a B;refine Dv C ⟨o,j,t,u⟩ ?_;refine⟨c.heap.objs.size,[c.heap.objs.size],_,_,g,rfl,i.kept (t':=c.toks) λb o e=>dI _ e,Lz (dS (dh j)) u t,eO _ rfl,λb D=>?_,r⟩;have e:b=c.heap.objs.size:=by simpa using D
  subst e;exact i.fpOk (cM _) (i.hok.fresh (cM _))
 rcases w with a|⟨o,a⟩
 .obtain⟨_,_,_,_,o,_,_,j,_⟩:=(show ObjOk X.prog X.w p c.heap d (.dT f)from n.hok d _ a);exact go _ o (n.freeze a j) cC (q o _ (.inr ⟨a,rfl⟩))
 .exact go p o n a (q o _ (.inl ⟨a,rfl⟩))
end
section
variable{d:Ad}{o:Obj}{kvs:List (List dr×V)}{ts:LN}{vs:Ss}{g:TG}{tt:TT}{te:TE}{σ:St}{H:Hp}{Fin:List V->Hp->Prop}
def Ke(j:kvs.map (·.1)=ts.map nk)(Pv:Nat->List V->Hp->Prop)(E:ts.length<=sizeLine)(l:Pv 0 [] H)(n: ∀i c H,i<=ts.length->Pv i c H->H d=some (.frz o (.dT kvs))/\c.length<=i)
  (r: ∀i a t c H,ts[i]? =some t->H a=some (.tup (t.map nv))->Pv i c H->g (.ref a) (gA vs σ) H λf s=>nQ (gA vs σ) f/\tt f s λb k=>if b=true then te f k λy u=>Pv (i+1) (c++[y]) u else Pv (i+1) c k)
  (w: ∀c H,Pv ts.length c H->Fin c H):me vs g tt te σ (oZ d o) H Fin:=by
 refine⟨λi m c H=>m=ts.length-i/\i<=ts.length/\Pv i c H,⟨ts.length,by simp,Nat.zero_le _,l⟩,?_⟩;rintro i m c H ⟨rfl,x,p⟩;obtain⟨q,G⟩:=n i c H x p;by_cases h:i<ts.length
 .refine .inr ⟨⟨kvs,ts,ts[i],q,j,by simp[h]⟩,by lia,Pv (i+1),λI z A=>⟨ts.length-(i+1),Nat.sub_succ_lt_self _ _ h,rfl,h,A⟩,λv z y=>?_⟩;obtain⟨e,a,B,y⟩:=y;subst e B;obtain⟨t,C,D⟩:=y kvs ts q j;exact r i a t c _ C D p
 .have e:i=ts.length:=by lia
  subst e;exact .inl ⟨⟨kvs,ts,q,j,cM _⟩,by lia,w c H p⟩
end
section
variable{d:Ad}{o:Obj}{kvs:List (List dr×V)}{ts:LN}{g:TG}{tb:TS}{D:Ends}{σ:St}{H:Hp}
def K8(j:kvs.map (·.1)=ts.map nk)(Pv:Nat->St->Hp->Prop)(n:Pv 0 σ H)(r: ∀i σ H,i<=ts.length->Pv i σ H->H d=some (.frz o (.dT kvs)))
  (s: ∀i a t σ H,ts[i]? =some t->H a=some (.tup (t.map nv))->Pv i σ H->g (.ref a) σ H λb k=>tb {D with nx:=Pv (i+1),ct:=Pv (i+1),bk:=D.nx} b k) (u: ∀σ H,Pv ts.length σ H->D.nx σ H):
  ∃W:Nat->Nat->St->Hp->Prop,(∃m,W 0 m σ H)/\ ∀i m σ H,W i m σ H->
   ((oZ d o).stop i H/\D.nx σ H)∨((oZ d o).go i H/\ ∃N:St->Hp->Prop,(∀c f,N c f-> ∃l,l<m/\W (i+1) l c f)/\ ∀x f,(oZ d o).yld i H x f->g x σ f λb k=>tb {D with nx:=N,ct:=N,bk:=D.nx} b k):=by
 refine⟨λi m σ H=>m=ts.length-i/\i<=ts.length/\Pv i σ H,⟨ts.length,by simp,Nat.zero_le _,n⟩,?_⟩;rintro i m σ H ⟨rfl,v,p⟩;have q:=r i σ H v p;by_cases h:i<ts.length
 .refine .inr ⟨⟨kvs,ts,ts[i],q,j,by simp[h]⟩,Pv (i+1),λc f w=>⟨ts.length-(i+1),Nat.sub_succ_lt_self _ _ h,rfl,h,w⟩,λx f y=>?_⟩;obtain⟨e,a,z,y⟩:=y;subst e z;obtain⟨t,A,B⟩:=y kvs ts q j;exact s i a t σ _ A B p
 .have e:i=ts.length:=by lia
  subst e;exact .inl ⟨⟨kvs,ts,q,j,cM _⟩,u σ H p⟩
end
section
variable{X:Cx}{za:AO}{σ:St}{H:Hp}{s:Sh}{h':Heap}{t':Nat}
def Inv.turnedN{ch:As}(I:Inv X za σ H s)(k: ∀b o,b∉ch->s.heap.get? b=some o->h'.get? b=some o)(f: ∀b∈ch,FpOk X za H b):Inv X za σ H {s with heap:=h',toks:=t'}:=by
 have g: ∀b u,H b=some u->b∉ch:=λb u e a=>by rw[(f b a).1]at e;cases e
 refine I.step (h':=h') (H':=H) (g':=s.gens) (t':=t') (d':=s.drawn) (ch:=ch) (λb a=>?_) (λb o _ _ d e _=>k b o d e) (λb o _ _ d e _=>⟨o.slots,k b o d e⟩) (λb o _ _ n=>n) (λb o d e=>⟨o,k b o d e⟩)
  (λb t q=>q) (λb o u q=>q) (λb v q=>⟨#[],by rw[q];simp⟩) (λm h=>?_) (λb u q=>?_) I.bare
 .obtain⟨_,i,_,j,l,p⟩:=f b a;exact⟨j,i,l,p⟩
 .exact h.at' λo e=>k _ o (λa=>(f _ a).2.1 rfl) e
 .refine(I.hok b u q).stay (λc o r e=>k c o ?_ e) (λ_ z=>z) λ_ _ z=>z
  rcases r with z|z
  .rw[z];exact g b u q
  .exact g c _ z
end
structure ZipL(h:Heap)(z TI TO i1 i2 t1 t2:Ad)(f0:Vl)(i:Nat):Prop where
 zip:IsZip h z TI TO f0
 ins:IsPair h TI (.ref i1) (.ref i2)
 out: ∃a b,IsPair h TO a b
 one:h.IsListIter i1 t1 i
 two:h.IsListIter i2 t2 i
def LX{n a b:Nat}(c:a<n)(d:b<n):ZipApart (n+4) (n+2) (n+3) n (n+1) a b:=by
 constructor<;>(intro h;have e:(_:Nat)=_:=h;lia)
def EX{z TO a b c:Ad}(h:c∉[z,TO,a,b]):c≠z/\c≠TO/\c≠a/\c≠b:=by
 simp only[List.mem_cons,List.not_mem_nil,or_false,not_or]at h;exact h
def sW(K:W.Frag)(c d:Ad):It:=
  ⟨λi H=> ∃a b x y,SqL K H c a/\SqL K H d b/\a[i]? =some x/\b[i]? =some y,
   λi H v e=> ∃T x y,v= .ref T/\H T=none/\e=cw H T (.tup [x,y])/\(∀a,SqL K H c a->a[i]? =some x)/\ ∀b,SqL K H d b->b[i]? =some y,
   λi H=> ∃a b,SqL K H c a/\SqL K H d b/\(a.length<=i∨b.length<=i)⟩
def KC{P:Pg}{w:World}{K:W.Frag}{t:List Expr}{x1:Nat}{pos:Pos}{z TI TO g j L M:Ad}(D:ZipApart z TI TO g j L M):
  Turn P w K (.Tuple t x1 pos) (sW K L M) [z,TI,TO,g,j] z (λi h=>ZipL h z TI TO g j L M .none i) where
 mem:=dP ..
 obj:=λi h Z b f=>by
  obtain⟨a0,b0,n⟩:=Z.out;simp only[List.mem_cons,List.not_mem_nil,or_false]at f
  rcases f with rfl|rfl|rfl|rfl|rfl
  .exact⟨_,Z.zip,λv q=>by cases q⟩
  .exact⟨_,Z.ins,λv q=>by cases q⟩
  .exact⟨_,n,λv q=>by cases q⟩
  .obtain⟨o,e,c,d⟩:=Z.one;exact⟨o,e,λv z=>by rw[d]at z;cases z⟩
  .obtain⟨o,e,c,d⟩:=Z.two;exact⟨o,e,λv z=>by rw[d]at z;cases z⟩
 keep:=λi h h' Z k=>⟨k z (by simp) _ Z.zip,k TI (by simp) _ Z.ins,let⟨a,b,o⟩:=Z.out;⟨a,b,k TO (by simp) _ o⟩,Z.one.at λo e=>k g (by simp) o e,Z.two.at λo e=>k j (by simp) o e⟩
 item:=by
  intro X Y hw hK hc i N s O H E I A Z hg;subst Y hw hK;obtain⟨xs,ys,x,y,Q,T,hx,hy⟩:=hg;obtain⟨aa,rv,p1,_⟩:=I.list Q;obtain⟨B,p,p2,_⟩:=I.list T;obtain⟨u,hu,ru⟩:=rv.get hx;obtain⟨v,hv,ab⟩:=p.get hy;obtain⟨ae,af,l⟩:=Z.out;refine wpAny_pyNext_zip_item D Z.zip Z.ins l Z.one Z.two p1.isList p2.isList (x:=u) (y:=v) (by simpa using hu) (by simpa using hv) λr c1 c2 c3 c4 pr _ U=>?_;have k1: ∀c o,c∉[z,TO,g,j]->s.heap.get? c=some o->r.get? c=some o:=λc o nc e=>let⟨n1,n2,n3,n4⟩:=EX nc;U c o n1 n2 n3 n4 e
  have C:ZipL r z TI TO g j L M (rawInt s.heap.objs.size) (i+1):=⟨c1,U _ _ D.TIz D.TITO D.TIi1 D.TIi2 Z.ins,⟨_,_,c2⟩,c3,c4⟩;have sub: ∀b∈[z,TO,g,j],b∈[z,TI,TO,g,j]:=λb f=>by simp only[List.mem_cons,List.not_mem_nil,or_false]at f⊢;rcases f with e|e|e|e<;>simp[e]
  have I1:Inv X N O H {s with heap:=r}:=I.turnedN (t':=s.toks) k1 λb f=>A b (sub b f);have nT:H s.heap.objs.size=none:=I.hok.fresh (cM _);have ok:ObjOk X.prog X.w (cw H s.heap.objs.size (.tup [x,y])) r s.heap.objs.size (.tup [x,y]):=⟨by show 2<=sizeLine;decide,[u,v],.cons ru (.cons ab .nil),⟨_,pr,rfl,_,rfl,rfl⟩⟩;have I2:Inv X N O (cw H s.heap.objs.size (.tup [x,y])) {s with heap:=r}:=Inv.trackNew I I1 ok;refine⟨_,rfl,wpAny_letOwnedTupleGo_zip C.zip λh2 z2 G=>?_⟩;obtain⟨a0,b0,n⟩:=C.out;have old: ∀b∈[z,TI,TO,g,j],b≠s.heap.objs.size:=λb f=>by
   obtain⟨a1,b1,J⟩:=Z.out;simp only[List.mem_cons,List.not_mem_nil,or_false]at f
   rcases f with rfl|rfl|rfl|rfl|rfl
   .exact dS (dh Z.zip)
   .exact dS (dh Z.ins)
   .exact dS (dh J)
   .obtain⟨o,e,_⟩:=Z.one;exact dS (dh e)
   .obtain⟨o,e,_⟩:=Z.two;exact dS (dh e)
  have m: ∀b∈[z,TI,TO,g,j],cw H s.heap.objs.size (.tup [x,y]) b=none:=λb f=>by rw[cF (old b f)];exact(A b f).1
  obtain⟨f0,f1,f2,f3,f4,f5⟩:=A z (dP ..);have I3:Inv X N O (cw H s.heap.objs.size (.tup [x,y])) {s with heap:=h2}:=I2.turned (t':=s.toks) (λb o nb e=>G.extBut b o nb e) (m z (dP ..)) f1 f3 f4 f5;refine⟨.ref s.heap.objs.size,_,I3,rfl,⟨_,x,y,rfl,nT,rfl,λag h=>?_,λah h=>?_⟩,⟨z2,G.extBut _ _ D.TIz C.ins,⟨a0,b0,G.extBut _ _ D.TOz n⟩,C.one.at λo e=>G.extBut _ _ D.i1z e,C.two.at λo e=>G.extBut _ _ D.i2z e⟩,m⟩
  .rw[I.list_inj h Q];exact hx
  .rw[I.list_inj h T];exact hy
 done:=by
  intro X Y hw hK hc i N s O H E I A Z hg;subst Y hw hK;obtain⟨xs,ys,Q,T,he⟩:=hg;obtain⟨aa,rv,p1,_⟩:=I.list Q;obtain⟨B,p,p2,_⟩:=I.list T;have l1:=rv.length;have l2:=p.length;have sub: ∀b∈[z,TO,g,j],b∈[z,TI,TO,g,j]:=λb f=>by simp only[List.mem_cons,List.not_mem_nil,or_false]at f⊢;rcases f with e|e|e|e<;>simp[e]
  obtain⟨ae,af,l⟩:=Z.out;refine wpAny_pyNext_zip_end (I.ok.hd hc) D Z.zip Z.ins l Z.one Z.two p1.isList p2.isList ?_ λr U=>⟨rfl,I.turnedN (t':=s.toks) (λc o nc e=>let⟨n1,n2,n3,n4⟩:=EX nc;U c o n1 n2 n3 n4 e) λb f=>A b (sub b f)⟩
  rcases he with h|h
  .exact .inl (by simp;lia)
  .exact .inr (by simp;lia)
 self:=λ_ _ _ _ _ Z q=>wpAny_pyIter_zip Z.zip q
section
variable{X:Cx}
def vh(K:W.Frag)(d:TA):TI:=λe H R=>d e H λf a=> ∃b c g h,f=[.ref b,.ref c]/\SqL K a b g/\SqL K a c h/\R (sW K b c) a
def zi{c:List Expr}{G:Nat}{J:Pos}{a b:Expr}{t:TA}{p pos:Pos}(L:Gl X "zip")(M:X.mg "zip"=none)(N:PA X [a,b] t)(O:starEach [a,b] X.env=[(false,eval a X.env),(false,eval b X.env)]:=by rfl)
  (d:starEach [b] X.env=[(false,eval b X.env)]:=by rfl):PI X (.Tuple c G J) (.Call (.Name "zip" p) [a,b] [] pos) (vh X.K t):=by
 intro u s v H R I h;refine Call_ (oP I L M PyProof.Rows.boot_zip (wF (cP (N pos u s v H _ I h) λw s1 ⟨vs,x,f,Q,k⟩=>?_) (by rw[O,d]) (by rw[d];rfl)));obtain⟨i,j,xs,ys,e,k,T,q⟩:=k;subst e;obtain⟨l,w,rfl,m,U⟩: ∃l g,w=l::g/\RelV (.ref i) l/\Vals [.ref j] g:=by cases Q with|cons a b=>exact⟨_,_,rfl,a,b⟩
 obtain⟨u2,rfl,n⟩:=ig U;cases m;cases n;obtain⟨Y,rv,y,_⟩:=f.list k;obtain⟨z,aa,A,_⟩:=f.list T;have o:i<s1.heap.objs.size:=let⟨_,e,_⟩:=y.isList;dh e
 have r:j<s1.heap.objs.size:=let⟨_,e,_⟩:=A.isList;dh e
 refine call_zip_2 y.isList A.isList λB c1 c2 c3 c4 c5 _ all=>?_;have Z:ZipL B (s1.heap.objs.size+4) (s1.heap.objs.size+2) (s1.heap.objs.size+3) s1.heap.objs.size (s1.heap.objs.size+1) i j .none 0:=⟨c1,c2,⟨_,_,c3⟩,c4,c5⟩;refine wpAny_pyIter_zip Z.zip ?_;have I2:Inv X u v x {s1 with heap:=B}:=f.kept (t':=s1.toks) all;have D:ZipApart (s1.heap.objs.size+4) (s1.heap.objs.size+2) (s1.heap.objs.size+3) s1.heap.objs.size (s1.heap.objs.size+1) i j:=LX o r;refine⟨_,_,_,_,x,rfl,I2,KC D,Z,λb C=>?_,q⟩;have E:s1.heap.objs.size<=b:=by
  simp only[List.mem_cons,List.not_mem_nil,or_false]at C
  rcases C with e|e|e|e|e<;>(rw[e];first|exact cM _|exact lI _ _)
 exact f.fpOk E (f.hok.fresh E)
end
def zL{K:W.Frag}{f h:Ad}{xs ys:List V}{g:TG}{n:TS}{D:Ends}{a:St}{H:Hp}(Pv:Nat->St->Hp->Prop)(q:Pv 0 a H)(r: ∀i a H,Pv i a H->SqL K H f xs/\SqL K H h ys)
  (s: ∀i x y T a H,xs[i]? =some x->ys[i]? =some y->H T=none->Pv i a H->g (.ref T) a (cw H T (.tup [x,y])) λb j=>n {D with nx:=Pv (i+1),ct:=Pv (i+1),bk:=D.nx} b j) (t: ∀a H,Pv (min xs.length ys.length) a H->D.nx a H):
  ∃W:Nat->Nat->St->Hp->Prop,(∃m,W 0 m a H)/\ ∀i m a H,W i m a H->
   ((sW K f h).stop i H/\D.nx a H)∨((sW K f h).go i H/\ ∃N:St->Hp->Prop,(∀c d,N c d-> ∃o,o<m/\W (i+1) o c d)/\ ∀x d,(sW K f h).yld i H x d->g x a d λb j=>n {D with nx:=N,ct:=N,bk:=D.nx} b j):=by
 refine⟨λi m a H=>m=min xs.length ys.length-i/\i<=min xs.length ys.length/\Pv i a H,⟨min xs.length ys.length,by simp,Nat.zero_le _,q⟩,?_⟩;rintro i m a H ⟨rfl,E,p⟩;obtain⟨k,l⟩:=r i a H p;by_cases lt:i<min xs.length ys.length
 .have u:i<xs.length:=by lia
  have w:i<ys.length:=by lia
  refine .inr ⟨⟨xs,ys,xs[i],ys[i],k,l,cA u,cA w⟩,Pv (i+1),λc d A=>⟨min xs.length ys.length-(i+1),by lia,rfl,lt,A⟩,λv d z=>?_⟩;obtain⟨T,x,y,rfl,hT,rfl,B,C⟩:=z;exact s i x y T a H (B xs k) (C ys l) hT p
 .have e:i=min xs.length ys.length:=by lia
  exact .inl ⟨⟨xs,ys,k,l,by lia⟩,t a H (e▸p)⟩
def qa(K:W.Frag)(l:Ad):It:=
  ⟨λi H=> ∃a x,SqL K H l a/\a[i]? =some x,
   λi H v b=> ∃T x,v= .ref T/\H T=none/\b=cw H T (.tup [.int (i:Nat),x])/\ ∀a,SqL K H l a->a[i]? =some x,
   λi H=> ∃a,SqL K H l a/\a.length<=i⟩
def GU(e a l:Ad)(i:Nat)(h:Heap):Prop:=(∃old,IsEnum h e a (i:Nat) old)/\h.IsListIter a l i
def Hl{P:Pg}{w:World}{K:W.Frag}{m:List Expr}{x1:Nat}{pos:Pos}{e d l:Ad}(T:e≠d):Turn P w K (.Tuple m x1 pos) (qa K l) [e,d] e (λi h=>GU e d l i h) where
 mem:=dP ..
 obj:=λi h Z b f=>by
  obtain⟨⟨old,c⟩,o,g,r,B⟩:=Z;simp only[List.mem_cons,List.not_mem_nil,or_false]at f
  rcases f with rfl|rfl
  .exact⟨_,c,λv q=>by cases q⟩
  .exact⟨_,g,λv q=>by rw[B]at q;cases q⟩
 keep:=λi h n Z k=>by
  obtain⟨⟨old,c⟩,o,g,r,B⟩:=Z;exact⟨⟨old,k e (by simp) _ c⟩,o,k d (by simp) _ g,r,B⟩
 item:=by
  intro X C hw D U i t s y H E I p Z G;subst C hw D;obtain⟨xs,x,A,Y⟩:=G;obtain⟨⟨old,c⟩,g⟩:=Z;obtain⟨J,L,M,_⟩:=I.list A;obtain⟨u,hu,ru⟩:=L.get Y;refine wpAny_pyNext_enum_item c g M.isList (x:=u) (by simpa using hu) T λn ho N hT hs k=>?_;have I1:Inv X t y H {s with heap:=n,toks:=s.toks+1}:=I.turnedN (ch:=[e,d]) (t':=s.toks+1) (λb o j O=>k b o (λz=>j (by simp[z])) (λz=>j (by simp[z])) O) p;have nT:H s.heap.objs.size=none:=I.hok.fresh (cM _);have ok:ObjOk X.prog X.w (cw H s.heap.objs.size (.tup [.int (i:Nat),x])) n s.heap.objs.size (.tup [.int (i:Nat),x]):=⟨by show 2<=sizeLine;decide,[_,u],.cons ⟨_,rfl⟩ (.cons ru .nil),⟨_,hT,rfl,_,rfl,rfl⟩⟩;have I2:Inv X t y (cw H s.heap.objs.size (.tup [.int (i:Nat),x])) {s with heap:=n,toks:=s.toks+1}:=Inv.trackNew I I1 ok;refine⟨_,rfl,wpAny_letOwnedTupleGo_enum ho λr Q sb=>?_⟩;have le:e<s.heap.objs.size:=dh c;have li:d<s.heap.objs.size:=by obtain⟨_,z,_⟩:=g;exact dh z
  have a: ∀b∈[e,d],cw H s.heap.objs.size (.tup [.int (i:Nat),x]) b=none:=λb f=>by
   have j:b≠s.heap.objs.size:=by
    simp only[List.mem_cons,List.not_mem_nil,or_false]at f
    rcases f with rfl|rfl
    .exact dS le
    .exact dS li
   rw[cF j];exact(p b f).1
  obtain⟨f0,f1,f2,f3,f4,f5⟩:=p e (dP ..);have I3:Inv X t y (cw H s.heap.objs.size (.tup [.int (i:Nat),x])) {s with heap:=r,toks:=s.toks+1}:=I2.turned (t':=s.toks+1) (λb o j e=>sb.extBut b o j e) (a e (dP ..)) f1 f3 f4 f5;refine⟨.ref s.heap.objs.size,_,I3,rfl,⟨_,x,rfl,nT,rfl,λaa h=>?_⟩,⟨⟨_,Q⟩,?_⟩,a⟩
  .rw[I.list_inj h A];exact Y
  .obtain⟨o,z1,z2,z3⟩:=N;exact⟨o,sb.extBut _ _ (eJ T) z1,z2,z3⟩
 done:=by
  intro X C hw D U i t s y H E I p Z G;subst C hw D;obtain⟨xs,A,he⟩:=G;obtain⟨⟨old,c⟩,g⟩:=Z;obtain⟨J,L,M,_⟩:=I.list A;have l1:=L.length;refine wpAny_pyNext_enum_end (I.ok.hd U) c g M.isList (by simp;lia) λn k=>⟨rfl,?_⟩;exact I.turnedN (ch:=[d]) (t':=s.toks) (λb o j O=>k b o (λz=>j (by simp[z])) O) λb f=>p b (by rw[List.mem_singleton.mp f];simp)
 self:=λ_ _ _ _ _ Z q=>by
  obtain⟨⟨old,c⟩,_⟩:=Z;exact wpAny_pyIter_enum c q
section
variable{X:Cx}
def uf(K:W.Frag)(b:TA):TI:=λc H R=>b c H λd a=> ∃l e,d=[.ref l]/\SqL K a l e/\R (qa K l) a
def x4{c:List Expr}{v:Nat}{w:Pos}{a:Expr}{j:TA}{p pos:Pos}(x:Gl X "enumerate")(y:X.mg "enumerate"=none)(z:PA X [a] j)(A:starEach [a] X.env=[(false,eval a X.env)]:=by rfl):PI X (.Tuple c v w) (.Call (.Name "enumerate" p) [a] [] pos) (uf X.K j):=by
 intro m s n H R I h;refine Call_ (oP I x y PyProof.Rows.boot_enumerate (wF (cP (z pos m s n H _ I h) λL s1 ⟨M,o,d,B,f⟩=>?_) (by rw[A];rfl) (by rfl)));obtain⟨l,N,e,f,q⟩:=f;subst e;obtain⟨O,rfl,g⟩:=ig B;cases g;obtain⟨C,Q,D,_⟩:=d.list f;have i:=D.isList;refine call_enumerate_list i λE r G sz k=>wpAny_pyIter_enum r ?_;have J:Inv X m n o {s1 with heap:=E}:=d.kept (t':=s1.toks) k;refine⟨_,_,_,_,o,rfl,J,Hl (l:=l) (ka (om _)),⟨⟨_,r⟩,G⟩,λb t=>?_,q⟩;have u:s1.heap.objs.size<=b:=by
  simp only[List.mem_cons,List.not_mem_nil,or_false]at t
  rcases t with e|e<;>(rw[e];first|exact cM _|exact lI _ _)
 exact d.fpOk u (d.hok.fresh u)
end
section
variable{K:W.Frag}{l:Ad}{xs:List V}{g:TG}{tb:TS}{D:Ends}{σ:St}{H:Hp}
def Bp(Pv:Nat->St->Hp->Prop)(j:Pv 0 σ H)(k: ∀i σ H,i<=xs.length->Pv i σ H->SqL K H l xs)
  (n: ∀i T x σ H,xs[i]? =some x->H T=none->Pv i σ H->g (.ref T) σ (cw H T (.tup [.int (i:Nat),x])) λa f=>tb {D with nx:=Pv (i+1),ct:=Pv (i+1),bk:=D.nx} a f) (o: ∀σ H,Pv xs.length σ H->D.nx σ H):
  ∃W:Nat->Nat->St->Hp->Prop,(∃m,W 0 m σ H)/\ ∀i m σ H,W i m σ H->
   ((qa K l).stop i H/\D.nx σ H)∨((qa K l).go i H/\ ∃N:St->Hp->Prop,(∀b c,N b c-> ∃h,h<m/\W (i+1) h b c)/\ ∀x c,(qa K l).yld i H x c->g x σ c λa f=>tb {D with nx:=N,ct:=N,bk:=D.nx} a f):=by
 refine⟨λi m σ H=>m=xs.length-i/\i<=xs.length/\Pv i σ H,⟨xs.length,by simp,Nat.zero_le _,j⟩,?_⟩;rintro i m σ H ⟨rfl,r,p⟩;have q:=k i σ H r p;by_cases d:i<xs.length
 .refine .inr ⟨⟨xs,xs[i],q,by simp[d]⟩,Pv (i+1),λb c s=>⟨xs.length-(i+1),Nat.sub_succ_lt_self _ _ d,rfl,d,s⟩,λv c y=>?_⟩;obtain⟨T,x,rfl,t,rfl,y⟩:=y;exact n i T x σ _ (y xs q) t p
 .have e:i=xs.length:=by lia
  subst e;exact .inl ⟨⟨xs,q,cM _⟩,o σ H p⟩
end
structure CompScope1(X:Cx)(vs:Ss)(x:Str)(sc:Scope):Prop where
 kind:sc.kind= .function
 spl: ∃l1 l2,sc.names=l1++(x,.cell)::l2/\(∀y∈l1,y.2≠ .cell)/\ ∀y∈l2,y.2≠ .cell
 look:sc.names.lookup x=some .cell
 locs: ∀y∈sc.names,y.2= .local->sc.names.lookup y.1=some .local
 own: ∀y∈X.N.map (gm vs),sc.names.lookup y≠some .local/\y≠x
 hid: ∀y∈vs,sc.names.lookup (sv y)=none
 nd:(vs++X.N.map (gm vs)).Nodup
 free: ∀y∈sc.names,y.2= .free->X.env.kindOf y.1=some .cell∨X.env.kindOf y.1=some .free
def iK(X:Cx)(a:Ss)(x:Str)(b:Scope)(C:Ad)(s:Sh)(H:Hp)(c:As):Cx where
 prog:=X.prog
 w:=X.w
 K:=X.K
 mg:=X.mg
 base:=X.base
 A:=X.A
 N:=a++X.N.map (gm a)
 s₀:=s
 H₀:=H
 env:=compEnvC b ((x,C+1)::gc X.env b) C X.env
 outer:=X.stack
 stack:=X.stack
 ex:=c
 fn:=λy=>y==x
 calm:=X.calm
 pn:=X.pn
 xe:=λ_ _=>False
section
variable{M:Model}{A:Ar}{E:VP}{s:Sh}{sc:Scope}{x:Str}{cl:List (Str×Ad)}{globals:Ad}{qual:Str}{env:Env}
def IC{Q:Env->Sh->Prop}(o: ∃f g,sc.names=f++(x,.cell)::g/\(∀y∈f,y.2≠ .cell)/\ ∀y∈g,y.2≠ .cell)
    (q:Q {scope:=sc,locals:=s.heap.objs.size,globals:=globals,cells:=(x,s.heap.objs.size+1)::cl,qual:=qual,func:=none,code:=env.code,frame:=env.frame,builtins:=env.builtins}
      {s with heap:=(s.heap.push {cls:= .type "dict",data:= .dict #[]}).push {cls:= .type "cell",data:= .cell none}}):wpAny M A (newFunctionEnv sc globals cl [] qual none .none (some env)) Q E s:=by
  obtain⟨f,g,e,p,r⟩:=o;unfold newFunctionEnv;refine cy (wR ?_);rw[e];have sz:(s.heap.push {cls:= .type "dict",data:= .dict #[]}).objs.size=s.heap.objs.size+1:=n' ..;refine cy (AJ _ (λrest cells h=>(∃a,rest=a++(x,.cell)::g/\(∀y∈a,y.2≠ .cell)/\cells=cl/\h={s with heap:=s.heap.push {cls:= .type "dict",data:= .dict #[]}})∨((∀y∈rest,y.2≠ .cell)/\cells=(x,s.heap.objs.size+1)::cl/\h={s with heap:=(s.heap.push {cls:= .type "dict",data:= .dict #[]}).push {cls:= .type "cell",data:= .cell none}})) _ (λz rest b h j=>?_) (λb h j=>?_) _ _ (.inl ⟨f,rfl,p,rfl,rfl⟩))
  · rcases j with⟨a,i,c,rfl,rfl⟩|⟨d,rfl,rfl⟩
    · cases a with
      | nil=>
        injection i with k l
        subst k l;dsimp only;rw[wB (by rfl)];refine cy (wR (cG (.inr ⟨r,?_,rfl⟩)));rw[sz]
      | cons y a=>
        injection i with k l
        subst k l;have n:=c z (dP ..);dsimp only;rw[wA (by simpa using n)];exact cG (.inl ⟨a,rfl,λw hw=>c w (fc _ hw),rfl,rfl⟩)
    · have n:=d z (dP ..)
      dsimp only;rw[wA (by simpa using n)];exact cG (.inr ⟨λw hw=>d w (fc _ hw),rfl,rfl⟩)
  · rcases j with⟨a,i,_⟩|⟨_,rfl,rfl⟩
    · cases a<;>cases i
    · refine cy (m:=forIn [] _ _) ?_
      rw[List.forIn_nil];exact cG (cG q)
end
section
variable{X:Cx}{za:AO}{σ:St}{H:Hp}{s:Sh}{vs:Ss}{x:Str}{sc:Scope}
def LR{C:Ad}{fp:As}{N:Heap}{tk:Nat}{m0:SV}(S:CompScope1 X vs x sc)(I:Inv X za σ H s)(hf: ∀b∈fp,FpOk X za H b)(ho: ∀b∈fp,∃o,s.heap.get? b=some o)
  (k: ∀b o,s.heap.get? b=some o->N.get? b=some o) (aa:N.Ns C m0) (A:s.heap.objs.size<=C) (ab:N.IsCell (C+1) none):Inv (iK X vs x sc C s H fp) za (gA vs σ) H {s with heap:=N,toks:=tk}:=by
 have a: ∀y c,(gc X.env sc).lookup y=some c->X.env.cells.lookup y=some c:=ph sc.names [] λy c e=>by simp at e
 have l: ∀y c,List.lookup y ((x,C+1)::gc X.env sc)=some c->(y=x/\c=C+1)∨(y≠x/\(gc X.env sc).lookup y=some c):=λy c e=>by
  rw[iB]at e;cases E:y==x with
  |true=>
   rw[E]at e;cases e;exact .inl ⟨eq_of_beq E,rfl⟩
  |false=>
   rw[E]at e;exact .inr ⟨λz=>by rw[z]at E;simp at E,e⟩
 have O:List.lookup x ((x,C+1)::gc X.env sc)=some (C+1):=by rw[iB];simp
 have Q: ∀y,y≠x->List.lookup y ((x,C+1)::gc X.env sc)=(gc X.env sc).lookup y:=λy ny=>by
  rw[iB];have:(y==x)=false:=by simpa using ny
  rw[this]
 have fr: ∀y,sc.names.lookup y=some .free->X.env.kindOf y=some .cell∨X.env.kindOf y=some .free:=λy e=>S.free (y,.free) (lC e) rfl;have ae: ∀y,(X.env.kindOf y=some .cell∨X.env.kindOf y=some .free)-> ∃c,X.env.cells.lookup y=some c:=λy e=>I.ok.has y e;have G: ∀y,sc.names.lookup y=some .cell->y=x:=λy e=>by
  obtain⟨l1,l2,en,n1,n2⟩:=S.spl;have m:=lC e;rw[en]at m
  rcases dw.mp m with z|z
  .exact wC rfl (n1 _ z)
  .rcases dQ.mp z with z|z
   .injection z
   .exact wC rfl (n2 _ z)
 have f: ∀{y:Str} {kd:NameKind},(relabel sc X.env).names.lookup y=some kd->kd= .cell∨kd= .free->y=x∨sc.names.lookup y=some .free:=λ{y kd} e hk=>by
  rcases pb (names:=sc.names) e with z|⟨z,_⟩
  .rcases hk with q|q
   .subst q;exact .inl (G y z)
   .subst q;exact .inr z
  .exact .inr z
 have has: ∀y,sc.names.lookup y=some .free-> ∃c,(gc X.env sc).lookup y=some c:=λy e=>yZ sc.names [] y e (ae y (fr y e));have T: ∀y c,X.env.cells.lookup y=some c->c<s.heap.objs.size:=λy c e=>let⟨_,z⟩:=I.cell y c e;z.lt
 have kc: ∀{c v},s.heap.IsCell c v->N.IsCell c v:=λ{c v} ⟨o,e,d⟩=>⟨o,k _ _ e,d⟩;have j: ∀y,y=x∨sc.names.lookup y=some .free-> ∃c,List.lookup y ((x,C+1)::gc X.env sc)=some c:=λy h=>by
  by_cases e:y=x
  .rw[e];exact⟨_,O⟩
  .rcases h with h|h
   .exact wC h e
   .rw[Q y e];exact has y h
 refine⟨⟨I.ok.mod,S.kind,I.ok.glob,I.ok.blt,A,λy z c h1 L=>?_,λy E=>?_,λy c z L=>?_,I.ok.hd,I.ok.frames,.inl rfl,λb J=>⟨?_,λy c e=>?_⟩,I.bs,dE I.ok.bsz I.sz,λb o e J=>?_,λb J hs=>?_,I.stack,I.stkFree⟩,
  rfl,I.bare,Un.kept k,⟨m0,aa,λi y v e1 M e3=>?_⟩,λy c e=>?_,I.hok.fresh A,λy c e=>?_,λp hp=>?_,I.hok.kept k,?_⟩
 .rcases l y c h1 with⟨rfl,rfl⟩|⟨_,D⟩
  .rcases l z _ L with⟨rfl,_⟩|⟨_,q2⟩
   .rfl
   .exact wC (ft (T _ _ (a _ _ q2)) (tV A)) (jb _)
  .rcases l z c L with⟨rfl,rfl⟩|⟨_,q2⟩
   .exact wC (ft (T _ _ (a _ _ D)) (tV A)) (jb _)
   .exact I.ok.inj y z c (a y c D) (a z c q2)
 .have af:(relabel sc X.env).names.lookup y=some .cell∨(relabel sc X.env).names.lookup y=some .free:=E
  rcases af with z|z
  .exact j y (f z (.inl rfl))
  .exact j y (f z (.inr rfl))
 .have ey:y=x:=eq_of_beq z;subst ey;have U:List.lookup y ((y,C+1)::gc X.env sc)=some c:=L;rw[O]at U;cases U;exact tV A
 .obtain⟨o,e⟩:=ho b J;exact dS (ft (dh e) A)
 .rcases l y c e with⟨_,rfl⟩|⟨_,D⟩
  .obtain⟨o,e⟩:=ho b J;exact ka (tN (ft (dh e) A))
  .exact(hf b J).2.2.2.2.1 y c (a y c D)
 .obtain⟨_,_,_,z,_⟩:=hf b J
  rcases z with z|z
  .exact I.ok.noex b o e z
  .exact wC (ft (dh (I.ok.bs b o e).1) z) (jb _)
 .obtain⟨_,h1,L,_⟩:=hf b J
  rcases dQ.mp (I.stkSub b hs)with z|z
  .exact h1 z
  .exact L z
 .have t:(vs++X.N.map (gm vs))[i]? =some y:=e1;have w:(List.replicate vs.length none++σ)[i]? =some (some v):=M;have hi:vs.length<=i:=by
   by_cases z:i<vs.length
   .rw[e8 (by simpa using z),List.getElem?_replicate]at w;split at w<;>cases w
   .lia
  rw[eU hi]at t;rw[eU (by simpa using hi),List.length_replicate]at w;have yN:y∈X.N.map (gm vs):=cW t;obtain⟨nl,nx⟩:=S.own y yN;have Y:(relabel sc X.env).names.lookup y=some .local∨(relabel sc X.env).names.lookup y=some .cell∨(relabel sc X.env).names.lookup y=some .free:=e3;have B:sc.names.lookup y=some .free:=by
   rcases Y with z|z|z
   .rcases pb (names:=sc.names) z with q|⟨_,q⟩
    .exact wC q nl
    .cases q
   .exact(f z (.inl rfl)).resolve_left nx
   .exact(f z (.inr rfl)).resolve_left nx
  have t:X.N[i-vs.length]? =some y:=by
   have g:(X.N.map (gm vs))[i-vs.length]? =some y:=t;rw[cQ]at g;cases e:X.N[i-vs.length]? with
   |none=>rw[e]at g;cases g
   | some y0=>
    rw[e]at g;have M:gm vs y0=y:=fB g;unfold gm at M
    split at M
    .rename_i hc
     rw[<-M,S.hid y0 (by simpa using hc)]at B;cases B
    .rw[M]
  have ok:=fr y B;obtain⟨m,_,hl⟩:=I.loc;obtain⟨u,r,lk⟩:=hl (i-vs.length) y v t w (.inr ok);refine⟨u,r,?_⟩
  rcases lk with⟨q,_⟩|⟨_,c,ec,hc⟩
  .rcases ok with z|z<;>rw[z]at q<;>cases q
  .obtain⟨c',e'⟩:=has y B;have:c'=c:=fB ((a y c' e').symm.trans ec);subst this;refine .inr ⟨?_,c',(Q y nx).trans e',kc hc⟩
   rcases Y with z|z|z
   .rcases pb (names:=sc.names) z with q|⟨_,q⟩
    .exact wC q nl
    .cases q
   .exact .inl z
   .exact .inr z
 .rcases l y c e with⟨_,rfl⟩|⟨_,D⟩
  .exact⟨none,ab⟩
  .obtain⟨v,z⟩:=I.cell y c (a y c D);exact⟨v,kc z⟩
 .rcases l y c e with⟨_,rfl⟩|⟨_,D⟩
  .exact I.hok.fresh (tV A)
  .exact I.freeC y c (a y c D)
 .obtain⟨e,n,ne,nf,d⟩:=I.pin p hp;refine⟨k _ _ e,n,dS (ft (dh e) A),λz=>?_,d⟩
  rcases dQ.mp (I.stkSub p.1 z)with q|q
  .exact ne q
  .exact nf q
 .show(List.replicate vs.length none++σ).length=(vs++X.N.map (gm vs)).length;rw[dF,dF,yE,cz,I.len]
end
section
variable{X:Cx}{za:AO}{σ:St}{H:Hp}{s:Sh}{vs:Ss}{nm:Str}{sc:Scope}{tg elt iter:Expr}{ifs:List Expr}{pos:Pos}{g:TG}{tt:TT}{te:TE}
def JS{J:It}{f:As}{it:Ad}{tn:Nat->Heap->Prop}{E:VP}{RR:Vl->Ad->Result->Sh->Prop}{Fin:List V->Hp->Prop}
  (S:CompScope1 X vs nm sc) (hc:X.calm=true) (hg: ∀C s H f,PG (iK X vs nm sc C s H f) tg g) (ht: ∀C s H f,mQ (iK X vs nm sc C s H f) ifs tt) (he: ∀C s H f,PE (iK X vs nm sc C s H f) elt te)
  (I:Inv X za σ H s) (T:Turn X.prog X.w X.K tg J f it tn) (st:tn 0 s.heap) (hf: ∀b∈f,FpOk X za H b) (hW:me vs g tt te σ J H Fin)
  (ap: ∀D C q a t m',Inv X za σ (cw a D (.lst t)) q->a D=none->FpOk X za (cw a D (.lst t)) C->q.heap.Ns C m'->Fin t a->RR (.ref D) C (.ok .next) q):
  wpAny (model X.prog X.w) X.A (newList []) (λak s3=>wpAny (model X.prog X.w) X.A (newFunctionEnv sc X.env.globals (gc X.env sc) [] X.env.qual none .none (some X.env)) (λcenv s4=>
   codeAny (model X.prog X.w) X.A (.compStart (.ListComp elt [⟨tg,iter,ifs,0⟩] sc pos) 0 (.ref it) ak {cenv with scope:=relabel sc X.env}) (RR ak cenv.locals) s4) E s3) E s:=by
 obtain⟨W,⟨m0,w0⟩,turn⟩:=hW;refine lO (IC S.spl ?_);dsimp only;generalize ae:s.heap.push {cls:= .type "list",dict:=none,data:= .seq ([]:Vs).toArray}=M;have hC:M.objs.size=s.heap.objs.size+1:=by rw[<-ae,n']
 have U:=(Heap.Ns.new M (.type "dict")).push {cls:= .type "cell",data:= .cell none};have m:((M.push {cls:= .type "dict",data:= .dict #[]}).push {cls:= .type "cell",data:= .cell none}).get? (M.objs.size+1)=some {cls:= .type "cell",data:= .cell none}:=by
  rw[<-n' (h:=M) (o:={cls:= .type "dict",data:= .dict #[]})];exact eO _ rfl
 have w: ∀b o,M.get? b=some o->((M.push {cls:= .type "dict",data:= .dict #[]}).push {cls:= .type "cell",data:= .cell none}).get? b=some o:=λb o e=>dI _ (dI _ e);generalize(M.push {cls:= .type "dict",data:= .dict #[]}).push {cls:= .type "cell",data:= .cell none}=h1 at U m w⊢;have al:=U;have A:h1.IsCell (M.objs.size+1) none:=⟨_,m,rfl⟩;generalize aD:M.objs.size=C at al hC A⊢;generalize B:s.heap.objs.size=D at hC⊢;have af:D≠C:=by lia
 have below: ∀b o,s.heap.get? b=some o->b≠D/\b≠C:=λb o e=>by
  have z:b<s.heap.objs.size:=dh e;rw[B]at z;exact⟨dS z,dS (by rw[hC];exact tN z)⟩
 have old: ∀b o,s.heap.get? b=some o->h1.get? b=some o:=λb o e=>w b o (ae▸dI _ e);have aq:h1.get? D=some {cls:= .type "list",data:= .seq ([]:Vs).toArray}:=w _ _ (by rw[<-ae,<-B];exact eO _ rfl);have G: ∀b∈f,∃o,s.heap.get? b=some o:=λb j=>let⟨o,e,_⟩:=T.obj 0 _ st b j;⟨o,e⟩
 have ag: ∀b∈f,b≠D/\b≠C:=λb j=>let⟨o,e⟩:=G b j;below b o e
 have fD: ∀a,a D=none->FpOk X za a D:=λa n=>I.fpOk (by lia) n;have fC: ∀a,a C=none->FpOk X za a C:=λa n=>I.fpOk (by lia) n;have ar: ∀p∈X.pn++za,p.1≠D:=λp hp=>(below _ _ (I.pin p hp).1).1;have am: ∀y c,List.lookup y ((nm,C+1)::gc X.env sc)=some c->c=C+1∨(gc X.env sc).lookup y=some c:=λy c e=>by
  rw[iB]at e;cases hy:y==nm with
  |true=>
   rw[hy]at e;cases e;exact .inl rfl
  |false=>
   rw[hy]at e;exact .inr e
 have ah: ∀y c,List.lookup y ((nm,C+1)::gc X.env sc)=some c->c≠D:=λy c e=>by
  rcases am y c e with rfl|e
  .lia
  .have e':=ph sc.names [] (λy c e=>by simp at e) y c e;obtain⟨v,z⟩:=I.cell y c e';have z':c<s.heap.objs.size:=z.lt;rw[B]at z';exact dS z'
 have as: ∀b,b∈iF X.stack-> ∃o,s.heap.get? b=some o:=λb j=>let⟨_,o,ho,_⟩:=I.stack.mem j;⟨o,ho⟩
 have au:D∉iF X.stack:=λz=>let⟨o,e⟩:=as D z;(below _ _ e).1 rfl
 have ai: ∀{pl:AO} {a:Hp},(∀p∈pl,p.1=D)->(∀b∈f,a b=none)-> ∀b∈f,FpOk (iK X vs nm sc C s H f) (za++pl) a b:=λ{pl a} av hn b j=>by
  obtain⟨_,q1,q2,q3,q4,q5⟩:=hf b j;refine⟨hn b j,(ag b j).2,λz=>?_,.inl j,λy c e=>?_,λp hp=>?_⟩
  .rcases dQ.mp (I.stkSub b z)with y|y
   .exact q1 y
   .exact q2 y
  .rcases am y c e with rfl|e
   .obtain⟨o,eo⟩:=G b j;have z:b<s.heap.objs.size:=dh eo;rw[B]at z;intro ez;have z2:C+1<D:=by rw[ez];exact z
    lia
   .exact q4 y c (ph sc.names [] (λy c e=>by simp at e) y c e)
  .rcases dw.mp hp with z|z
   .exact q5 p (jA _ z)
   .rcases dw.mp z with y|y
    .exact q5 p (eK _ y)
    .rw[av p y];exact eJ (ag b j).1
 have Y: ∀s3:Sh,s3={s with heap:=h1}->
   codeAny (model X.prog X.w) X.A (.compLoop (.ListComp elt [⟨tg,iter,ifs,0⟩] sc pos) 0 (.ref it) (.ref D) (compEnvC sc ((nm,C+1)::gc X.env sc) C X.env)) (RR (.ref D) C) s3:=by
  rintro s3 rfl;have I0:Inv (iK X vs nm sc C s H f) za (gA vs σ) H {s with heap:=h1}:=LR (tk:=s.toks) S I hf G old al (by lia) A;refine E6 (λn q=> ∃i t k no a,Inv (iK X vs nm sc C s H f) za (gA vs σ) a q/\tn i q.heap/\(∀b∈f,a b=none)/\a D=none/\
   q.heap.get? D=some {cls:= .type "list",data:= .seq k.toArray no}/\Vals t k/\W i n t a) ?_ m0
   ⟨0,[],[],0,H,I0,T.keep 0 _ _ st λb j o e=>old b o e,λb j=>(hf b j).1,I.hok.fresh (by lia),aq,.nil,w0⟩
  rintro n q ⟨i,t,k,no,a,I1,an,ao,O,aw,Q,w1⟩;have aa:Inv (iK X vs nm sc C s H f) (za++[(D,{cls:= .type "list",data:= .seq k.toArray no})]) (gA vs σ) a q:=I1.pins_of λp hp=>by
   rcases dw.mp hp with z|z
   .exact I1.pin p (eK _ z)
   .have e:p=(D,{cls:= .type "list",data:= .seq k.toArray no}):=by simpa using z
    subst e;exact⟨aw,O,af,au,λv z=>by have z':Data.seq _ _=Data.cell v:=z;cases z'⟩
  have l: ∀p∈[((D,{cls:= .type "list",data:= .seq k.toArray no}):Ad×Obj)],p.1=D:=λp hp=>by
   have e:p=(D,{cls:= .type "list",data:= .seq k.toArray no}):=by simpa using hp
   rw[e]
  rcases turn i n t a w1 with⟨stop,hz,fin⟩|⟨go,hz,N,hN,step⟩
  .refine cP (T.done (iK X vs nm sc C s H f) rfl rfl rfl hc i _ q _ a (λ_ _=>False) aa (ai l ao) an stop) λr s4 ⟨hr,I4⟩=>?_;subst hr;have d4:s4.heap.get? D=some {cls:= .type "list",data:= .seq k.toArray no}:=(I4.pin (D,_) (eK _ (eK _ (dP ..)))).1;have Io:Inv X za σ a s4:=I.call' (H':=a) (ch:=f) I4.os I4.base I4.hok I4.bare λb j=>by
    obtain⟨_,q1,_,q3,q4,q5⟩:=hf b j;exact⟨q3,q1,q4,q5⟩
   obtain⟨_,a1,_,a3,a4,a5⟩:=fD a O;have Ia:=Io.adopt hz Q O d4 (dE I.sz (by lia)) a1 a4 a5;obtain⟨m4,ax,_⟩:=I4.loc;refine ap D C s4 a t m4 Ia O (fC _ ?_) ax fin;rw[cF (eJ af)];exact I4.free
  .refine cP (T.item (iK X vs nm sc C s H f) rfl rfl rfl hc i _ q _ a (λ_ _=>False) aa (ai l ao) an go) λr s4 ⟨u,hr,h4⟩=>?_;subst hr;refine cP h4 λ_ s5 ⟨x,H5,I5,r5,y5,aj,ay⟩=>?_;have az:=I5.pinned (ai l ay) (T.obj _ _ aj);refine cP (hg C s H f _ s5 _ H5 x u _ az r5 (step x H5 y5)) λ_ s6 ⟨L,H6,I6,k6,q6⟩=>?_;refine cP (ht C s H f _ s6 L H6 _ I6 q6) λok s7 ⟨H7,I7,q7⟩=>?_;have ab:(gA vs σ).length=L.length:=by rw[I1.len,I6.len]
   have pinned: ∀{H8:Hp} {s8:Sh},Inv (iK X vs nm sc C s H f) (za++[(D,{cls:= .type "list",data:= .seq k.toArray no})]++qd f s5.heap) L H8 s8->
     tn (i+1) s8.heap/\(∀b∈f,H8 b=none)/\H8 D=none/\s8.heap.get? D=some {cls:= .type "list",data:= .seq k.toArray no}:=λ{H8 s8} I8=>by
    refine⟨T.keep _ _ _ aj λb j o e=>(I8.pin (b,o) (eK _ (eK _ (ry j e)))).1,λb j=>?_,?_,?_⟩
    .obtain⟨o,e,d⟩:=T.obj _ _ aj b j;exact(I8.pin (b,o) (eK _ (eK _ (ry j e)))).2.1
    .exact(I8.pin (D,_) (eK _ (jA _ (eK _ (dP ..))))).2.1
    .exact(I8.pin (D,_) (eK _ (jA _ (eK _ (dP ..))))).1
   cases ok with
   |false=>
    rw[wA (by decide)]at q7⊢;obtain⟨m',hm,w7⟩:=hN _ _ q7;obtain⟨a1,a2,a3,a4⟩:=pinned I7;exact⟨m',hm,i+1,t,k,no,H7,(I7.unpinned.unpinned).weak ab k6,a1,a2,a3,a4,Q,w7⟩
   | true=>
    rw[wB rfl]at q7⊢;refine cP (he C s H f _ s7 L H7 _ I7 q7) λyv s8 ⟨y,H8,I8,r8,n8⟩=>?_;obtain⟨m',hm,w8⟩:=hN _ _ n8;obtain⟨a1,a2,a3,a4⟩:=pinned I8;have aA:k.toArray.size<=sizeLine:=by
     have:=Q.length;rw[eM];lia
    refine wpAny_list_append_plain ⟨no,a4⟩ (λh' pl sb=>?_) aA;obtain⟨aB,aC⟩:=pl;have I9:Inv (iK X vs nm sc C s H f) za L H8 {s8 with heap:=h'}:=(I8.unpinned.unpinned).turned (t':=s8.toks) (it:=D) (λb o j e=>(sb.2 b j).trans e) a3 af (.inr (nH B)) ah ar;refine⟨m',hm,i+1,t++[y],k++[yv],aB,H8,I9.weak ab k6,T.keep _ _ _ a1 λb j o e=>(sb.2 b (ag b j).1).trans e,a2,a3,?_,Q.append (.cons r8 .nil),w8⟩;rw[aC]
    simp
 exact codeAny_compStart_list (Y _ rfl) (T.self _ 0 _ _ _ (T.keep 0 _ _ st λb j o e=>old b o e) (Y _ rfl))
end
section
variable{X:Cx}{za:AO}{σ:St}{H:Hp}{s:Sh}{sc:Scope}{tg elt iter:Expr}{ifs:List Expr}{pos:Pos}{g:TG}{tt:TT}{te:TE}
theorem FY{b:Env}{x:Str}: ∀{a:List (Str×NameKind)},a.lookup x=some .cell->(a.map λ(n,k)=>if(k==NameKind.free&&b.scope.kind== .function&&b.kindOf n==some .cell)then(n,NameKind.cell)else(n,k)).lookup x=some .cell
 | [],h=>by simp at h
 | (n,k)::r,h=>by
  have d:=@FY b x r;rw[iB]at h;rw[gv];cases c:x==n with
  |true=>
   rw[c]at h;cases h;dsimp only;rw[wA (by simp),List.lookup_cons,c]
  | false=>
   rw[c]at h;dsimp only;split
   .rw[iB,c];exact d h
   .rw[iB,c];exact d h
def CompScope1.clos{a:Ss}{x:Str}(S:CompScope1 X a x sc)(I:Inv X za σ H s):closureFor sc X.env=pure (gc X.env sc):=
 DF λy b c=>I.ok.has y.1 (S.free y b c)
def Mi{t:TI}{i:Ss}{x:Str}{j:Nat}{y:Str}{d c:Pos}(S:CompScope1 X i x sc)(A:X.calm=true)(B:X.N.Nodup)(E:X.N[j]? =some y)(u:X.env.scope.names.lookup y=some .local)(G:PI X tg iter t)(L: ∀C s H f,PG (iK X i x sc C s H f) tg g)(ht: ∀C s H f,mQ (iK X i x sc C s H f) ifs tt)
  (M: ∀C s H f,PE (iK X i x sc C s H f) elt te) (m:swapsWith (.ListComp elt [⟨tg,iter,ifs,0⟩] sc pos) (some (.Name y d)) c.line X.env=pure true:=by rfl) (N: ∀x,foldedSetIterable iter X.env x=pure x:=by intro _;rfl):
  PS X (.Assign [.Name y d] (.ListComp elt [⟨tg,iter,ifs,0⟩] sc pos) c) (lR (uF i t g tt te) (gE j)):=by
 intro za s σ H D I h;rw[exec_Assign_Name_used _ _ _ _ m];refine cy (pZ (cy ?_));show wpAny _ X.A (do let _ <-comprehension (.ListComp elt [⟨tg,iter,ifs,0⟩] sc pos) sc X.env _ (newList []) false (eval iter X.env) (some (assign (.Name y d) X.env))) _ _ s;refine cy (gN (Bm (use:=some (assign (.Name y d) X.env)) (Q:=λ_ k=>SP X za D .next k) rfl N (S.clos I) S.kind S.locs ?_) (λ_ k O=>cG (cG O)) λ_ _ e=>e);refine cP (G za s σ H _ I h) λv s1 U=>cP U λY s2 h2=>?_;obtain⟨it,f,tn,J,H2,e,I2,T,n,f2,hW⟩:=h2;subst e;refine JS (RR:=λp C=>compPost (model X.prog X.w) X.A X.xe (some (assign (.Name y d) X.env)) (λ_ k=>SP X za D .next k) p C) S A L ht M I2 T n f2 hW λl C k H' ys m' I' hD fC ns fin=>?_;obtain⟨c0,w,c2,c3,c4,c5⟩:=fC;show wpAny _ X.A (assign (.Name y d) X.env (.ref l)) _ _ _;refine yW (A7 (v:= .ref l) I' B E (.inl u) (show RelV (.ref l) (.ref l)from rfl) (λs3 I3 ⟨a,sb,ha⟩=>?_) (.inr u));have q:a≠C:=by
  rcases ha with z|z
  .rw[z];exact eJ w
  .exact c4 y a z
 refine⟨m',ns.sameBut sb (eJ q),λh' r=>⟨_,_,I3.turned (t':=s3.toks) (it:=C) (λb o hb e=>(r.2 b hb).trans e) c0 w c3 c4 c5,fin l hD⟩⟩
def JM{x y:Str}{p q c:Pos}{k:Nat}(S:CompScope1 X [x,y] y sc)(d:X.calm=true)(a:sc.names.lookup x=some .local):
  ∀C s H b,PG (iK X [x,y] y sc C s H b) (.Tuple [.Name x p,.Name y q] k c) (pI X.K 2 (sD (gE 0) (sD (gE 1) pG))):=λC s H b=>
 mH d (gG (eQ S.nd rfl (.inl (n9 a)) (.inr (n9 a))) (gG (eQ S.nd rfl (.inr (FY S.look)) (.inl (show(y==y)=true by simp))) md))
end
structure CompSc1(N:Ss)(osc:Scope)(vs:Ss)(x:Str)(sc:Scope):Prop where
 kind:sc.kind= .function
 one:(sc.names.filter λy=>y.2== .cell)=[(x,.cell)]
 look:sc.names.lookup x=some .cell
 locs: ∀y∈sc.names,y.2= .local->sc.names.lookup y.1=some .local
 own: ∀y∈N.map (gm vs),sc.names.lookup y≠some .local/\y≠x
 hid: ∀y∈vs,sc.names.lookup (sv y)=none
 nd:(vs++N.map (gm vs)).Nodup
 free: ∀y∈sc.names,y.2= .free->osc.names.lookup y.1=some .cell∨osc.names.lookup y.1=some .free
theorem Ea{x:Str}: ∀{l:List (Str×NameKind)},(l.filter λy=>y.2== .cell)=[(x,.cell)]-> ∃a b,l=a++(x,.cell)::b/\(∀y∈a,y.2≠ .cell)/\ ∀y∈b,y.2≠ .cell
 | [],h=>by cases h
 | y::l,h=>by
  rw[List.filter_cons]at h;by_cases c:(y.2==NameKind.cell)=true
  .rw[wB c]at h;injection h with d f
   refine⟨[],l,by rw[d];rfl,λ_ z=>(nomatch z),λz hz e=>?_⟩;have:=y7.mp f z hz
   exact this (by rw[e];rfl)
  .rw[wA c]at h;obtain⟨a,b,e,g,i⟩:=Ea h;refine⟨y::a,b,by rw[e];rfl,λz hz=>?_,i⟩
   rcases dQ.mp hz with rfl|hz
   .exact λe=>c (by rw[e];rfl)
   .exact g z hz
def CompSc1.to{X:Cx}{N:Ss}{osc:Scope}{vs:Ss}{x:Str}{a:Scope}(h:CompSc1 N osc vs x a)(b:X.N=N:=by rfl)(c:X.env.scope=osc:=by rfl):CompScope1 X vs x a:=by
 subst b c;exact⟨h.kind,Ea h.one,h.look,h.locs,h.own,h.hid,h.nd,h.free⟩
def K4(a osc:Scope):Bool:=a.names.all λy=> !(y.2== .free) || (osc.names.lookup y.1==some .cell || osc.names.lookup y.1==some .free)
def CompSc.toN{X:Cx}{N:Ss}{vs:Ss}{a:Scope}(d:X.N=N)(k:a.kind= .function)(c: ∀y∈a.names,y.2≠ .cell)(l: ∀y∈a.names,y.2= .local->a.names.lookup y.1=some .local)(o: ∀y∈N.map (gm vs),a.names.lookup y≠some .local)
  (h: ∀y∈vs,a.names.lookup (sv y)=none) (nd:(vs++N.map (gm vs)).Nodup) (f:K4 a X.env.scope=true):CompScope X vs a:=by
 subst d;refine⟨k,c,l,o,h,nd,λy g e=>?_⟩;have z:=oW.mp f y g;rw[e]at z;have b:(X.env.scope.names.lookup y.1==some .cell || X.env.scope.names.lookup y.1==some .free)=true:=by simpa using z
 rw[Bool.or_eq_true]at b;exact b.imp (λq=>eq_of_beq q) (λq=>eq_of_beq q)
def Gq{K:W.Frag}{X:Cx}{a l:Expr}{tl:TE}(b:PE X l tl)(c:X.K=K):PI X a l (uJ K tl):=by
 subst c;exact pK b
open PySem PySem.Spec PySem.W PyProof.Rows
section
variable{X:Cx}
def yw:List V->Hp->VK->Prop:=λe H Q=> ∃d a b,e=[V.ref d]/\H d=some (.dT a)/\a.map (·.1)=b.map nk/\(∀t∈b,t≠[])/\b.length<=4000/\
 ∀D bs c,H D=none->TupsAt H bs c->c.Perm b->c.Pairwise (λx y=>eA x y=true)->Q (.ref D) (cw H D (.lst (bs.map V.ref)))
def JZ(hc:X.calm=true):iC X (.builtin "sorted") yw:=by
 intro G s J H xs us Q I rr h;obtain⟨d,ae,g,rfl,hd,e,ne,few,q⟩:=h;obtain⟨u,rfl,ru⟩:=ig rr;cases ru;obtain⟨n,es,ep,L,nm,f,is,le,nd,M⟩:=Cc I hd e;refine AB kind_sorted plain_sorted entry_sorted (args_sorted1 _) ?_;unfold Builtin.«sorted»;refine cy (m:=checkCount "sorted" 1 1 _) (cG ?_);refine cy (kdu_collect (A:=X.A.in1) (um nm) (by simpa using I.ok.hd hc) L (by rw[sizeLine_eq];lia) λl y af keep it=>?_);have N:=Dw is (by rw[f.len,le]) it;rw[N];have D:(n.map Value.ref).length=g.length:=by rw[cz,f.len]
 refine cy (tj ?_ (by rw[D,dC];lia));have T:=Ho g;have inj:=Eh (d:=([]:cu)) T nd;have O:=Kh f nd;have eD:(l.push (seqObj "list" (n.map Value.ref).toArray 0)).get? l.objs.size=some (seqObj "list" (n.map Value.ref).toArray 0):=eO _ rfl;have B: ∀{b:Ad} {o:Obj},s.heap.get? b=some o->b≠l.objs.size:=λz=>dS (dh (keep _ _ z));refine cy (gw (i6 slot_list_sort ⟨_,eD,rfl⟩ yY (KH (s:={s with heap:=l.push (seqObj "list" (n.map Value.ref).toArray 0),toks:=y}) (k:=λi=>i4 eA g (g.getD i [])) eD (by rw[D];exact few) O (λi j hi hj z=>inj i j (by lia) (by lia) z) (λE U h2=>?_) λp E c r up e U=>⟨_,rfl,?_⟩) (args_list_sort _)))
 .have Y:Inv X G J H {s with heap:=E,toks:=y}:=I.kept λb o z=>U b o (B z) (dI _ (keep b o z));have z:=KA (P:=X.prog) (w:=X.w) (A:=X.A.in1.in1) (s:={s with heap:=E,toks:=y}) D (by lia) (λi v t e1 e2=>by
   rw[cQ]at e1;obtain⟨a,N,rfl⟩:=eC.mp e1;exact⟨tS Y.hok (f.is i a t N e2),ne t (cW e2)⟩)
  refine gN z (λκ s' hk=>⟨hk.1,λi j C li lj hC=>hk.2 i j C li lj ?_⟩) λ_ _ x=>x;have e:=T.asks (nA (d:=([]:cu)) (show i<g.length by lia)).2 (nA (d:=([]:cu)) (show j<g.length by lia)).2;show C (eA (g.getD i []) (g.getD j [])) _;rw[<-e];exact hC
 .rw[D]at r up;have Y:Inv X G J H {s with heap:=E,toks:=y}:=I.kept λb o z=>U b o (B z) (dI _ (keep b o z));have I0:Inv X G J H {s with heap:=l,toks:=y}:=I.kept keep;have hD:H l.objs.size=none:=I0.hok.fresh (cM _);have aa:=f.pick r;obtain⟨f0,f1,f2,f3,f4,f5⟩:=I0.fpOk (b:=l.objs.size) (H':=H) (cM _) hD;have ab:Arr n.length p:=by rw[f.len];exact r
  rw[EU ab]at e;have fw:((p.toList.map λi=>n.getD i 0).map V.ref).length<=sizeLine:=by
   rw[cz,cz,d9,r.size];exact M
  exact cG ⟨_,rfl,.ref l.objs.size,_,Y.track (o:= .lst ((p.toList.map λi=>n.getD i 0).map V.ref)) hD ⟨fw,_,c,AX _,e⟩ I0.sz f1 f4 f5,rfl,q _ _ _ hD aa (EY r) (EV T r up)⟩
end
def Mq(l:Ad)(a:AV)(n:Nat)(v:Option Ad)(sl:Array (Option Vl))(x:Vl)(e:Vl->Bool)(j:Nat)(M:j<a.size)(p:e a[j]=true)(q: ∀m (N:m<a.size),m<j->e a[m]=false):
  Meets (Builtin.«tuple.index» ⟨[.ref l,x],[]⟩)
   (λA R s=>s.heap.get? l=some {cls:= .type "tuple",dict:=v,data:= .seq a n,slots:=sl}/\(∀y,y∈a->SeqAt.EqAt A.in1 s y x (e y))/\R (.ok (.ret (.int j s.toks))) {s with toks:=s.toks+1}):=
 .of_wp λf w A R s h=>by
  obtain⟨B,g,d,C,os⟩:=s;obtain⟨D,E,h⟩:=h;unfold Builtin.«tuple.index»;simp only[Std.Legacy.Range.forIn_eq_forIn_range'];have G: ∀k:Nat,([:k]:Std.Legacy.Range).size=k:=λk=>by simp[Std.Legacy.Range.size]
  wp_walk using xz D,AJ _ (λrest b r=>r=⟨B,g,d,C,os⟩/\b=(none,())/\ ∃i,i<=j/\rest=List.range' i (a.size-i)) _
  case h=>exact⟨rfl,rfl,0,hJ _,by rw[G,wD];rfl⟩
  case turn=>
   rintro i rest b r ⟨rfl,rfl,u,H,o⟩;have I:a.size-u=(a.size-(u+1))+1:=by lia
   rw[I,List.range'_succ]at o;injection o with J L
   subst J;have t:i<a.size:=by lia
   rw[i' t];refine cy (E _ (Array.getElem_mem t) f w _ _ ?_);by_cases c:i=j
   .subst c;rw[p];exact cy (cy (wpAny_mkInt (cG (cG (cG ⟨_,rfl,h⟩)))))
   .rw[q i t (by lia)];exact cG ⟨rfl,rfl,i+1,by lia,L⟩
  case fin=>
   rintro b r ⟨rfl,rfl,i,H,o⟩;have z:=dL List.length o;rw[List.length_range']at z;simp at z;lia
section
variable{X:Cx}
def Gw(K:W.Frag):V->List V->Hp->VK->Prop:=λx b H Q=> ∃(l:Ad) (a:Zs) (i:Int),x= .ref l/\b=[.int i]/\SqT K H l (a.map V.int)/\i∈a/\Q (.int (a.idxOf i:Nat)) H
def FP:pc X "tuple.index" (Gw X.K):=by
 intro E s G H x J v L Q I j m h;obtain⟨l,b,i,rfl,rfl,o,p,q⟩:=h;cases j;obtain⟨u,rfl,t,rfl⟩:=m.one;obtain⟨a,r,w,M⟩:=I.tuple o;obtain⟨⟨N,z,O,A⟩,e,f,n,g⟩:=w;simp only at f g;subst f g;have c:IntsAre a b:=Hg r;have T:=c.length;have B:b.idxOf i<b.length:=pQ.mpr p;refine oV F.slot_tuple_index ⟨_,e,rfl⟩ F.entry_tuple_index (F.args_tuple_index_2 _ _) (Mq l a.toArray n z A (.int i t) (isInt i) (b.idxOf i) (by simp only[List.size_toArray];lia) ?_ ?_)
  ⟨e,λy C=>(eq_isInt i t c y (by simpa using C)).at _ _,⟨.int (b.idxOf i:Nat),H,I.tok _,⟨_,rfl⟩,q⟩⟩
 .show isInt i a[b.idxOf i]=true;rw[isInt_at i c _ (by lia) B];simp
 .intro k D d;show isInt i a[k]=false;rw[isInt_at i c _ (by lia) (by lia)];exact ne_of_lt_idxOf d _
end
def y3(r:V->List V->Hp->VK->Prop)(to:TE)(t:TA):TE:=λa H Q=>to a H λx b=>(∃p c,x= .ref p/\b p=some (.tup c))/\t a b λd e=>r x d e Q
def CS{X:Cx}{o e:Expr}{c:List Expr}{to:TE}{t:TA}{name:Str}{d b:Pos}{id:String}{r:V->List V->Hp->VK->Prop}(i:Slot "tuple" name id)(k:typeOf (.builtin id)=pure (.type "method_descriptor"))(A:pc X id r)(B:PE X o to)(C:PA X (e::c) t)
  (f:attributeBase o name X.env (eval o X.env)=eval o X.env:=by rfl)
  (j:((backTo b (starEach (e::c) X.env)).all (λx=> !x.1)&&(backToKw b (keywordEach [] X.env)).all (λx=>x.1.isSome)&&decide ((e::c).length+([]:List Keyword).length+(if([]:List Keyword).isEmpty then 0 else 1)<30))=true:=by rfl)
  (g:(d.endLine==b.line)=true:=by rfl) (D:starEach (e::c) X.env=(false,eval e X.env)::starEach c X.env:=by rfl) (E:(backTo b (starEach c X.env)).any (·.1)=false:=by rfl):
  PE X (.Call (.Attribute o name d) (e::c) [] b) (y3 r to t):=by
 intro l s m H Q I h;refine wpAny_Call_method_late f j g rfl (cP (B l s m H _ I h) λv n ⟨x,q,u,G,⟨p,J,L,M⟩,N⟩=>?_);subst L;cases(show v=Value.ref p from G);obtain⟨_,_,_,w,y,O,_,_,T⟩:=(show ObjOk X.prog X.w q n.heap p (.tup J)from u.hok p _ M);refine⟨"tuple",id,F.plainAttrs_tuple,i,k,⟨w,y,O⟩,λa U=>?_,?_⟩
 .cases U;exact⟨w,y,T⟩
 have z:=C b l n m q _ u N;rw[D]at z⊢;refine yr (show(false || (backTo b (starEach c X.env)).any λx=>x.1)=false by rw[E];rfl) (Calls.evalArgs_plain ?_);exact cP z λY s2 ⟨vs,H2,I2,r2,q2⟩=>A l s2 m H2 (.ref p) vs (.ref p) Y Q I2 rfl r2 q2
end L2
namespace L2
open PySem PySem.Spec PyProof.Rows
def NoAs(K:W.Frag)(C:Ad):Ss->Prop
 | []=>True
 |f::fs=>PySem.W.findIn K (.ref C) f=some none/\NoAs K C fs
structure OwnC(K:W.Frag)(C:Ad)(fs:Ss):Prop where
 cl:Cls K C
 na:NoAs K C fs
theorem NoAs.get{K:W.Frag}{C:Ad}{f:Str}: ∀{fs:Ss},NoAs K C fs->f∈fs->NoAttr K C f
 | [],_,h=>nomatch h
 | g::fs,n,h=>by
  rcases dQ.mp h with e|e
  .subst e;exact n.1
  .exact NoAs.get n.2 e
def OwnC.no{K:W.Frag}{C:Ad}{fs:Ss}(o:OwnC K C fs){f:Str}(h:fs.contains f=true:=by rfl):NoAttr K C f:=o.na.get (fY.mp h)
def NoAs.nil{K:W.Frag}{C:Ad}:NoAs K C []:=True.intro
def NoAs.cons{K:W.Frag}{C:Ad}{f:Str}{fs:Ss}(h:PySem.W.findIn K (.ref C) f=some none)(n:NoAs K C fs):NoAs K C (f::fs):=⟨h,n⟩
abbrev jp(K:W.Frag)(C:Ad)(m q:Str)(st:Stmt)(f:Ad)(a:Fd):Prop:=PySem.W.findIn K (.ref C) m=some (some (.ref f))/\PySem.W.isFn K (.ref f)=true/\Fun K m q st f a
def fL(P:Pg)(w:World)(K:W.Frag)(mg:SV)(a:Heap)(C:Ad)(m:Str)(k:Nat)(b:Ss)(d:Sp):Prop:=
 ∃f c,FnOk P w K mg a cZ k f c b d/\Meth K C m f/\Binds K c b []
def vg(P:Pg)(w:World)(K:W.Frag)(mg:SV)(a:Heap)(x:Str)(C:Ad)(k:Nat)(b:Ss)(d:Sp):Prop:=
 ∃f c,FnOk P w K mg a cZ k f c b d/\Mk K C f/\mg x=some (.ref C)/\Binds K c b []
def ke{X:Cx}{o e:Expr}{d:List Expr}{i:TE}{t:TA}{C:Ad}{m:Str}{k:Nat}{n:Ss}{j:Sp}{a pos:Pos}{p:Sem Bool}(q:PE X o i)(c:Cls X.K C)(r:fL X.prog X.w X.K X.mg X.base C m k n j)(s:Room k X.A)(u:PA X (e::d) t)
  (g:starEach (e::d) X.env=(false,eval e X.env)::starEach d X.env:=by rfl) (h:(backTo pos (starEach d X.env)).any (·.1)=false:=by rfl)
  (ht:eval (.Call (.Attribute o m a) (e::d) [] pos) X.env=(do
   let l <-eval o X.env
   standAt a.atName
   let(f,first) <-holding [l] (getMethod l m p)
   callWith pos f first (backTo pos (starEach (e::d) X.env)) (backToKw pos (keywordEach [] X.env))):=by rfl):
  PE X (.Call (.Attribute o m a) (e::d) [] pos) (wQ C m j [] E0 i t):=by
 obtain⟨f,v,F,M,b⟩:=r;exact G5 q c M F s b .nil ua u g h ht
def DY{X:Cx}{o:Expr}{d:TE}{C:Ad}{m:Str}{k:Nat}{h:Ss}{e:Sp}{a pos:Pos}{i:Sem Bool}(j:PE X o d)(c:Cls X.K C)(l:fL X.prog X.w X.K X.mg X.base C m k h e)(n:Room k X.A)
  (ht:eval (.Call (.Attribute o m a) [] [] pos) X.env=(do
   let g <-eval o X.env
   standAt a.atName
   let(f,first) <-holding [g] (getMethod g m i)
   callWith pos f first (backTo pos (starEach [] X.env)) (backToKw pos (keywordEach [] X.env))):=by rfl):
  PE X (.Call (.Attribute o m a) [] [] pos) (wQ C m e [] E0 d jd):=by
 obtain⟨f,p,F,M,b⟩:=l;exact Mf j c M F n b .nil ua ht
def Dk{X:Cx}{x:Str}{e:Expr}{a:List Expr}{t:TA}{C:Ad}{k:Nat}{g:Ss}{d:Sp}{p pos:Pos}(c:vg X.prog X.w X.K X.mg X.base x C k g d)(h:Room (k+1) X.A)(i:Gl X x)(j:PA X (e::a) t)
  (l:(x==("__debug__":Str))=false:=by decide) (n:starEach (e::a) X.env=(false,eval e X.env)::starEach a X.env:=by rfl) (o:(backTo pos (starEach a X.env)).any (·.1)=false:=by rfl):
  PE X (.Call (.Name x p) (e::a) [] pos) (De C d [] E0 t):=by
 obtain⟨f,q,F,M,m,b⟩:=c;exact Mn M F h i m b .nil ua j l n o
section
variable{X:Cx}
theorem Dz: ∀{bs:List Bool} {a:Vs},Vals (bs.map V.bl) a->a=bs.map Value.bool
 | [],_,h=>by cases h;rfl
 | b::bs,_,h=>by
  cases h with
  |cons r t=>
   obtain rfl:=r;rw[Dz t];rfl
def AR:Vl->Bool
 | .bool b=>b
 |_=>false
def MC(K:W.Frag):V->List V->Hp->VK->Prop:=λx a H Q=> ∃(l:Ad) (bs:List Bool),x= .ref l/\a=[.bl true]/\SqL K H l (bs.map V.bl)/\true∈bs/\Q (.int (bs.idxOf true:Nat)) H
def HA:pc X "list.index" (MC X.K):=by
 intro L s M H x N v O Q I j m h;obtain⟨l,bs,rfl,rfl,o,t,q⟩:=h;cases j;obtain⟨u,rfl,w⟩:=m.one;obtain rfl:u=Value.bool true:=w;obtain⟨B,r,⟨⟨T,U,Y,C⟩,n,e,c,d,f⟩,D⟩:=I.list o;simp only at c d f;subst c d f;have E:=Dz r;subst E;have g:bs.idxOf true<bs.length:=pQ.mpr t;rw[cz,dC]at D;refine oV F.slot_list_index ⟨_,e,rfl⟩ F.entry_list_index (F.args_list_index_2 _ _) (SeqAt.list_indexAt l (bs.map Value.bool).toArray n none C (.bool true) AR (bs.idxOf true) (by simp only[List.size_toArray,List.length_map];exact g) (by lia) ?_ ?_)
  ⟨e,λy G=>?_,⟨.int (bs.idxOf true:Nat),H,I.tok _,⟨_,rfl⟩,q⟩⟩
 .simp[AR,List.getElem_idxOf g]
 .intro k J a;have hk:k<bs.length:=by lia
  have z:bs[k]≠true:=λe=>by
   have y:=zH (p:=(· ==true)) (xs:=bs) (i:=k) a;rw[e]at y;cases y
  simp only[List.getElem_toArray,List.getElem_map];exact oh.mpr z
 .obtain⟨b,_,rfl⟩:=c7.mp (show y∈bs.map Value.bool by simpa using G);have z:=SeqAt.EqAt.bool_bool (A:=X.A.in1) (s:=s) b true;rw[show(b==true)=AR (.bool b) by cases b<;>rfl]at z;exact z
end
section
variable{K:W.Frag}{H:Hp}{σ:St}{vs:Ss}{g:TG}{tt:TT}{te:TE}{Fin:List V->Hp->Prop}{l:Ad}{xs:List V}
def JR(Pv:Nat->List V->Hp->Prop)(z:xs.length<=sizeLine)(h:Pv 0 [] H)(j: ∀i a H,i<=xs.length->Pv i a H->SqL K H l xs/\a.length<=i)
  (k: ∀i T x a H,xs[i]? =some x->H T=none->Pv i a H->g (.ref T) (gA vs σ) (cw H T (.tup [.int (i:Nat),x])) λc n=>nQ (gA vs σ) c/\tt c n λb f=>if b=true then te c f λy o=>Pv (i+1) (a++[y]) o else Pv (i+1) a f)
  (r: ∀a H,Pv xs.length a H->Fin a H):me vs g tt te σ (qa K l) H Fin:=by
 refine⟨λi m a H=>m=xs.length-i/\i<=xs.length/\Pv i a H,⟨xs.length,by simp,Nat.zero_le _,h⟩,?_⟩;rintro i m a H ⟨rfl,s,p⟩;obtain⟨q,A⟩:=j i a H s p;by_cases d:i<xs.length
 .refine .inr ⟨⟨xs,xs[i],q,by simp[d]⟩,by lia,Pv (i+1),λB t u=>⟨xs.length-(i+1),Nat.sub_succ_lt_self _ _ d,rfl,d,u⟩,λv t y=>?_⟩;obtain⟨T,x,rfl,w,rfl,y⟩:=y;exact k i T x a _ (y xs q) w p
 .have e:i=xs.length:=by lia
  subst e;exact .inl ⟨⟨xs,q,cM _⟩,by lia,r a H p⟩
end
section
variable{X:Cx}{pos:Pos}
def u7{d:Pg}{w:World}{A:Ar}{E:VP}{a l:Ad}{u v:Vl}{s:Sh}{Q:Vs->Sh->Prop}(n:l≠a)(p:s.heap.IsListIter a l 0)(f:s.heap.IsList l #[u,v])
  (k: ∀c,c.IsListIter a l 2->c.IsList l #[u,v]->(∀b o,b≠a->s.heap.get? b=some o->c.get? b=some o)->Q [u,v] {s with heap:=c}):wpAny (model d w) A (draw (.ref a) 2) Q E s:=by
 have go: ∀{g i:Heap},g.IsList l #[u,v]->Heap.SameBut a g i->i.IsList l #[u,v]:=λ⟨o,e,r⟩ q=>⟨o,(q.2 l n).trans e,r⟩;refine cy (xh p f (x:=u) rfl λz t h=>cy (gw ?_));refine cy (xh t (go f h) (x:=v) rfl λc y j=>cy (gw (cG (cG (cG ?_)))));exact k c y (go (go f h) j) λb o m e=>(j.2 b m).trans ((h.2 b m).trans e)
def sX(K:W.Frag)(t:mS):TG:=λv b H Q=> ∃a x y,v= .ref a/\SqL K H a [x,y]/\t [x,y] b H Q
def KP{f:List Expr}{k:Nat}{t:mS}(A:X.calm=true)(h:tG X f t)(B:(assignEach f X.env).length=2:=by rfl)(i:(assignEach f X.env).findIdx? (·.1)=none:=by rfl):PG X (.Tuple f k pos) (sX X.K t):=by
 intro n s w H v u Q I r hw;obtain⟨a,x,y,C,D,hw⟩:=hw;subst C;cases r;obtain⟨j,E,p,Y⟩:=I.list D;obtain⟨c,d,rfl,l,m⟩: ∃c d,j=[c,d]/\RelV x c/\RelV y d:=by
  cases E with
  | cons l t=>cases t with
   |cons m t=>cases t with
    |nil=>exact⟨_,_,rfl,l,m⟩
 have g:s.heap.IsList a #[c,d]:=p.isList;have lt:a≠s.heap.objs.size:=by obtain⟨o,G,_⟩:=g;exact dS (dh G)
 rw[assign_Tuple];refine cy (pZ ?_);unfold unpack;rw[B,i];refine cy (gw ?_);unfold unpackItems notIterableAtAll;refine cy (cy (BI g.typeIs slot_list_iter.lookup (cG ?_)));rw[wA (by simp)];refine cy (gw (sL g ?_));have J:(s.heap.push {cls:= .type "list_iterator",data:= .fields #[.ref a,.int 0 0]}).IsList a #[c,d]:=by obtain⟨o,e,q⟩:=g;exact⟨o,dI _ e,q⟩
 refine cy (gw (u7 lt ⟨_,eO _ rfl,rfl,rfl⟩ J λh2 L M N=>?_));rw[wA (by simp)];refine cy (gw (zX (I.ok.hd A) L M rfl λO T=>?_));rw[wA (by simp)];refine cG ?_;have U:Inv X n w H {s with heap:=O}:=I.kept (t':=s.toks) λb o e=>by
  have z:b≠s.heap.objs.size:=dS (dh e);exact T b o z (N b o z (dI _ e))
 exact h n _ w H [x,y] _ Q U (.cons l (.cons m .nil)) hw
end
end L2
namespace My
open PySem L2 PyProof.Rows
def top(i:Nat):Stmt:=PySem.Challenge.pw_cascade_k53_a_row_moved.main.body.getD i (.Pass ⟨0,0,0,0⟩)
abbrev uu:Stmt:=top 0
abbrev oR:Stmt:=top 5
abbrev y9:Stmt:=top 7
abbrev ni:Stmt:=top 8
abbrev Az:Stmt:=top 10
abbrev Ao:Stmt:=top 11
abbrev v0:Stmt:=top 12
abbrev wu:Stmt:=top 13
abbrev mq:Stmt:=top 14
abbrev yk:Stmt:=top 16
abbrev xQ:Stmt:=top 17
abbrev zE:Stmt:=top 19
abbrev rq:Stmt:=top 20
abbrev xt:Stmt:=top 21
abbrev uw:Stmt:=top 22
abbrev Af:Stmt:=top 24
abbrev vW:Stmt:=top 25
abbrev yA:Stmt:=top 26
abbrev vI:Stmt:=top 27
abbrev tQ:Stmt:=top 28
abbrev xN:Stmt:=top 29
abbrev zP:Stmt:=top 30
abbrev wW:Stmt:=top 31
abbrev v9:Stmt:=top 33
abbrev Ag:Stmt:=top 34
abbrev lV:Stmt:=top 35
abbrev BN:Stmt:=top 40
abbrev z6:Stmt:=top 41
abbrev vE:Stmt:=top 42
abbrev yo:Stmt:=top 43
abbrev xm:Stmt:=top 44
abbrev wJ:Stmt:=top 45
abbrev Ba:Stmt:=top 46
abbrev Bb:Stmt:=top 47
abbrev BH:Stmt:=top 48
abbrev Bv:Stmt:=top 49
abbrev vA:Stmt:=top 50
abbrev vw:Stmt:=top 51
abbrev vf:Stmt:=top 52
abbrev Bj:Stmt:=top 53
abbrev rb:Stmt:=top 54
def jk:Stmt->List Stmt
 | .ClassDef _ _ _ b _ _ _ _ _ _ _=>b
 |_=>[]
abbrev xk:Stmt:=(jk (top 37)).getD 0 (.Pass ⟨0,0,0,0⟩)
abbrev By:Stmt:=(jk (top 37)).getD 1 (.Pass ⟨0,0,0,0⟩)
abbrev Ab:Stmt:=(jk (top 37)).getD 2 (.Pass ⟨0,0,0,0⟩)
abbrev xj:Stmt:=(jk (top 37)).getD 3 (.Pass ⟨0,0,0,0⟩)
abbrev AQ:Stmt:=(jk (top 37)).getD 4 (.Pass ⟨0,0,0,0⟩)
abbrev yS:Stmt:=(jk (top 37)).getD 5 (.Pass ⟨0,0,0,0⟩)
abbrev BC:Stmt:=(jk (top 37)).getD 6 (.Pass ⟨0,0,0,0⟩)
abbrev zq:Stmt:=(jk (top 37)).getD 7 (.Pass ⟨0,0,0,0⟩)
abbrev ww:Stmt:=(jk (top 38)).getD 0 (.Pass ⟨0,0,0,0⟩)
abbrev zJ:Stmt:=(jk (top 38)).getD 2 (.Pass ⟨0,0,0,0⟩)
abbrev y6:Stmt:=(jk (top 38)).getD 3 (.Pass ⟨0,0,0,0⟩)
abbrev Am:Stmt:=(jk (top 38)).getD 5 (.Pass ⟨0,0,0,0⟩)
abbrev Aj:Stmt:=(jk (top 38)).getD 6 (.Pass ⟨0,0,0,0⟩)
def rW:FnScope ["machine","room","word","letter"] ["machine","room","word"] (cU oR):={}
def IZ:FnScope ["things","most"] ["things","most"] (cU y9):={}
def kE:FnScope ["start","letters","step","most","words","wave","following","thing","letter","found"] ["start","letters","step","most"] (cU ni):={}
def J1:FnScope ["rooms"] ["rooms"] (cU Az):={}
def rJ:FnScope ["sets","once","rooms"] ["sets"] (cU Ao):={}
def HD:FnScope ["one","other"] ["one","other"] (cU v0):={}
def Ie:FnScope ["machine","rooms","word"] ["machine","rooms","word"] (cU wu):={}
def Gf:FnScope ["machine","rooms"] ["machine","rooms"] (cU mq):={}
def Jr:FnScope ["rooms"] ["rooms"] (cU yk):={}
def HM:FnScope ["one","other"] ["one","other"] (cU xQ):={}
def rN:FnScope ["machine","words"] ["machine"] (cU zE):={}
def rS:FnScope ["machine","singles"] ["machine"] (cU rq):={}
def Hs:FnScope ["part","sets"] ["part","sets"] (cU xt):={}
def rV:FnScope ["machine","rooms","within"] ["machine","rooms"] (cU uw):={}
def kX:FnScope ["machine","words","rooms"] ["machine"] (cU Af):={}
def IR:FnScope ["words","rooms"] ["words","rooms"] (cU vW):={}
def kG:FnScope ["words","found","rooms","sets"] ["words"] (cU yA):={}
def Mb:FnScope ["words","sets","waiting"] ["words","sets","waiting"] (cU vI):={}
def jZ:FnScope ["words","waiting","told","free"] ["words","waiting"] (cU tQ):={}
def qG:FnScope ["machine","words","told","sets","face","ways"] ["machine"] (cU xN):={}
def IJ:FnScope ["machine","level","k","j"] ["machine","level","k","j"] (cU zP):={}
def Hu:FnScope ["machine","level","k"] ["machine","level","k"] (cU wW):={}
def qD:FnScope ["machine","level","k","letter","there","ends"] ["machine","level","k","letter"] (cU v9):={}
def jO:FnScope ["machine","level","found","k","letter","turn"] ["machine","level"] (cU Ag):={}
def rE:FnScope ["machine","level","makers"] ["machine","level"] (cU lV):={}
def KQ:FnScope ["_law_script","_law_k"] ["_law_script","_law_k"] (cU BN):={}
def kF:FnScope ["_law_cell","_law_rooms","_law_number","_law_turn_here","_law_k","_law_other","_law_kept"] ["_law_cell","_law_rooms"] (cU z6):={}
def qJ:FnScope ["_law_script","_law_rooms","_law_many"] ["_law_script"] (cU vE):={}
def JK:FnScope ["_law_found"] ["_law_found"] (cU yo):={}
def Kb:FnScope ["_law_found"] ["_law_found"] (cU xm):={}
def kU:FnScope ["_law_machine_here","_law_found","_law_level","_law_tiled","_law_k","_law_one"] ["_law_machine_here"] (cU wJ):={}
def qK:FnScope ["_law_plan_here","_law_found","_law_number","_law_step"] ["_law_plan_here"] (cU Ba):={}
def qV:FnScope ["_law_plan_here","_law_script","_law_first","_law_found","_law_word","_law_number","_law_many"] ["_law_plan_here","_law_script","_law_first"] (cU Bb):={}
def kJ:FnScope ["_law_plan_here","_law_row_here","_law_found","_law_some","_law_step","_law_turning"] ["_law_plan_here","_law_row_here"] (cU BH):={}
def Ka:FnScope ["_law_step","_law_here","_law_pair"] ["_law_step","_law_here","_law_pair"] (cU Bv):={}
def F8:FnScope ["_law_machine_here","_law_rooms","_law_letter"] ["_law_machine_here","_law_rooms","_law_letter"] (cU vA):={}
def kO:FnScope ["_law_step","_law_pair","_law_here","_law_letter","_law_machine_here","_law_level","_law_turn_here","_law_new"] ["_law_step","_law_pair","_law_here","_law_letter"] (cU vw):={}
def rF:FnScope ["_law_step","_law_pair","_law_there","_law_goes","_law_fit"] ["_law_step","_law_pair","_law_there","_law_goes"] (cU vf):={}
def jJ:FnScope ["_law_machine_here","_law_plan_here","_law_row_here","_law_letter","_law_here","_law_there","_law_found","_law_step","_law_pair","_law_goes","_law_new"] ["_law_machine_here","_law_plan_here","_law_row_here","_law_letter"] (cU Bj):={}
def rG:FnScope ["_law_script","_law_machine_here","_law_plan_here","_law_some","_law_row_here","_law_cell","_law_letter","_law_found"] ["_law_script"] (cU rb):={}
def kK:FnScope ["self","machine","level","k","rooms"] ["self","machine","level"] (cU xk):={}
def Ja:FnScope ["self"] ["self"] (cU By):={}
def Ln:FnScope ["self","here","pair"] ["self","here","pair"] (cU Ab):={}
def Gj:FnScope ["self","here","rooms"] ["self","here","rooms"] (cU xj):={}
def kA:FnScope ["self","here","there","letter","still_turn","end"] ["self","here","there","letter"] (cU AQ):={}
def GF:FnScope ["self","deed","turning"] ["self","deed","turning"] (cU yS):={}
def Lh:FnScope ["self","deed","turning","bringing"] ["self","deed","turning","bringing"] (cU BC):={}
def KE:FnScope ["self","deed","pair"] ["self","deed","pair"] (cU zq):={}
def L9:FnScope ["self","machine"] ["self","machine"] (cU ww):={}
def jR:FnScope ["self","row","pairs","place","step","turning"] ["self","row"] (cU zJ):={}
def kM:FnScope ["self","pairs","row","step","pair"] ["self","pairs"] (cU y6):={}
def jL:FnScope ["self","pairs","letter","here","there","ends","step","pair","end"] ["self","pairs","letter"] (cU Am):={}
def KI:FnScope ["self","row","letter"] ["self","row","letter"] (cU Aj):={}
def yc(K:W.Frag):Sp:=λb H Q _=> ∃(a:Ad) (d:Zs) (k:Int),b=[.ref a,.int k]/\0<=k/\SqL K H a (d.map V.int)/\ ∀c,Q (.int c) H
variable{P:Pg}{w:World}{K:W.Frag}{mg:SV}{base:Heap}{f:Ad}{fd:Fd}
def LH(F:Fun K "_law_cell_at" "_law_cell_at" BN f fd)(i:mg "len"=none):FnOk P w K mg base cZ 1 f fd ["_law_script","_law_k"] (yc K):=by
 refine F.ok KQ (λj H Q E h=>?_) (λl A d s H j Q E o h=>?_)
 .obtain⟨a,b,k,rfl,_⟩:=h;rfl
 obtain⟨a,b,k,rfl,p,g,q⟩:=h;refine⟨_,(cN (ge (gq vN (pv 1) (eZ fZ rfl i fV (cJ (pv 0) cI)) (fT _)) (cS (dH (cX fS (pv 0) (pv 1) (λ_ _=>rfl)))) gJ) (cS (dH cV))),?_⟩;refine⟨_,rfl,_,rfl,a,_,rfl,.inl g,_,_,rfl,rfl,_,rfl,?_⟩;refine ju (λc=>?_) (λc=>?_)
 .have m:k<((b.map V.int).length:Nat):=gi c;rw[cz]at m;have n:k.toNat<b.length:=by lia
  have e:k=((k.toNat:Nat):Int):=by lia
  refine⟨_,rfl,_,rfl,a,_,_,.int (b.getD k.toNat 0),rfl,rfl,g,?_,q _⟩;rw[e];exact KN n
 .exact q _
structure Mach(H:Hp)(m:Ad)(ts:LN)(n:Nat):Prop where
 refs: ∃rs:As,H m=some (.tup (rs.map V.ref))/\rs.length=ts.length/\ ∀(i:Nat) r t,rs[i]? =some r->ts[i]? =some t->H r=some (.tup (t.map nv))
 some1:1<=ts.length
 few:ts.length<=4
 n1:1<=n
 n5:n<=5
 each: ∀t∈ts,t.length=n/\ ∀x∈t,x<n
def Mach.same{H a:Hp}{m:Ad}{b:LN}{n:Nat}(M:Mach H m b n)(g:Same H a):Mach a m b n:=
 ⟨let⟨c,d,e,h⟩:=M.refs;⟨c,g _ _ d,e,λi r t j k=>g _ _ (h i r t j k)⟩,M.some1,M.few,M.n1,M.n5,M.each⟩
def Mach.at{H:Hp}{m:Ad}{ts:LN}{n:Nat}(M:Mach H m ts n){l:Nat}(b:l<ts.length):
  ∃(a:As) (r:Ad),H m=some (.tup (a.map V.ref))/\a.length=ts.length/\iX (a.map V.ref) (l:Int)=some (.ref r)/\H r=some (.tup ((ts.getD l []).map nv))/\(ts.getD l []).length=n/\ ∀x∈ts.getD l [],x<n:=by
 obtain⟨a,d,g,h⟩:=M.refs;have c:l<a.length:=by lia
 have e:ts.getD l []=ts[l]:=by rw[dY,cA b];rfl
 rw[e];obtain⟨i,j⟩:=M.each ts[l] (i7 b);exact⟨a,a[l],d,g,gF (by rw[cQ,cA c];rfl),h l _ _ (by simp[c]) (by simp[b]),i,j⟩
def eG(a:LN)(r:Nat)(word:cu):Nat:=word.foldl (λr l=>(a.getD l []).getD r 0) r
def Mu(a:LN)(r:Nat)(word:cu)(l:Nat):eG a r (word++[l])=(a.getD l []).getD (eG a r word) 0:=by
 unfold eG;rw[nZ];rfl
theorem lK{H:Hp}{m:Ad}{a:LN}{n:Nat}(M:Mach H m a n): ∀(word:cu) (r:Nat),r<n->(∀l∈word,l<a.length)->eG a r word<n
 | [],_,b,_=>b
 |l::word,r,b,h=>by
  obtain⟨_,_,_,_,_,_,e,c⟩:=M.at (h l (dP ..));exact lK M word _ (sT c (by lia)) λx d=>h x (fc _ d)
def rz(a:LN)(n:Nat)(word:cu):cu:=(List.range n).map λr=>eG a r word
def JP(a:LN)(n:Nat)(word:cu):(rz a n word).length=n:=by simp[rz]
def DB:Sp:=λd H Q _=> ∃(c:Int) (n:Nat),d=[.int c,nv n]/\1<=n/\n<=5/\
 ∀(a:cu) r b,Same H b->b r=some (.tup (a.map nv))->a.length=n->(∀y∈a,y<n)->Q (.ref r) b
def Dy(K:W.Frag):Sp:=λc H Q _=> ∃(a:Ad) (d:Zs),c=[.ref a]/\SqL K H a (d.map V.int)/\ ∀m e n b,Same H b->Mach b m e n->Q (.ref m) b
def vr(H:Hp)(c:Int)(n:Nat)(d:L2.St)(b:Hp):Prop:=Same H b/\ ∃(l:Ad) (a:cu) (num:Int) (e g h:Option V),d=[some (.int c),some (nv n),some (.int num),some (.ref l),e,g,h]/\
 b l=some (.lst (a.map nv))/\H l=none/\a.length=n/\ ∀y∈a,y<n
def Lq(F:Fun K "_law_turn" "_law_turn" z6 f fd)(Y:mg "range"=none)(jC:mg "tuple"=none)(qL:mg "list"=none):FnOk P w K mg base cZ 1 f fd ["_law_cell","_law_rooms"] DB:=by
 refine F.ok kF (λvs H Q E h=>?_) (λaa A D s H vs Q E hr h=>?_)
 .obtain⟨c,n,rfl,_⟩:=h;rfl
 obtain⟨c,n,rfl,G,h5,q⟩:=h;refine⟨_,(cN (dm (i:=2) kF.nd rfl (Or.inl rfl) (gC yI (pv 0) cV)) (cN (dm (i:=3) kF.nd rfl (Or.inl rfl) (gY (LM rfl) rfl qL boot_list (cJ (gY zx rfl Y boot_range (cJ (pv 1) cI)) cI))) (cN (gK gk rfl (mK rfl Y (cJ (pv 1) cI)) (eQ (i:=4) kF.nd rfl (Or.inl rfl)) (cN (dm (i:=5) kF.nd rfl (Or.inl rfl) (gC kS (pv 2) (pv 1))) (cN (dm (i:=2) kF.nd rfl (Or.inl rfl) (gC yI (pv 2) (pv 1))) (cS (ge (gq vN (gC kS (pv 0) cV) cV (fT _)) (cS (uS (pv 5) (wV (pv 3) (pv 4) xV))) (cS (ge (gq vN (gC kS (pv 0) cV) cV (fT _)) (cN (dm (i:=6) kF.nd rfl (Or.inl rfl) (cX fS (pv 3) (pv 4) (λ_ _=>rfl))) (cN (uS (cX fS (pv 3) (pv 5) (λ_ _=>rfl)) (wV (pv 3) (pv 4) xV)) (cS (uS (pv 6) (wV (pv 3) (pv 5) xV))))) (cS (ge (PW.pt (pi (gq Fb (gC kS (pv 0) cV) cV (fT _)) (pV (gq vN (pv 4) cV (fT _))))) (cS (uS (gC kS (pv 2) (pv 1)) (wV (pv 3) (pv 5) xV))) gJ))))))))) (cN (px (ge (gq Fb (gC kS (pv 0) cV) cV (fT _)) (cS (dm (i:=3) kF.nd rfl (Or.inl rfl) (gC JC (fM (cJ (gC kS (gC yI (pv 0) cV) (pv 1)) cI)) (pv 1)))) gJ)) (cS (dH (gY mo rfl jC jr (cJ (pv 3) cI)))))))),?_⟩;have I:(0:Int)<(n:Int):=by lia
 refine⟨_,rfl,_,_,rfl,rfl,⟨by decide,by decide⟩,?_⟩;refine⟨_,rfl,(n:Int),rfl,λp1 r=>⟨p1,(n:Int),rfl,cC,by lia,by lia,λl b=>?_⟩⟩;have g1:=(cL r (.rng 0 (n:Int))).trans (cL b (.lst (iD (n:Int).toNat)));have s1: ∀num,vr H c n [some (.int c),some (nv n),some (.int num),some (.ref l),none,none,none] (cw (cw H p1 (.rng 0 (n:Int))) l (.lst (iD (n:Int).toNat))):=
  λnum=>⟨g1,l,List.range n,num,none,none,none,rfl,by rw[cC];rfl,(cL r _).free b,by simp,λy d=>List.mem_range.mp d⟩
 refine⟨_,rfl,(n:Int),rfl,by lia,by lia,vC (λi J B=>vr H c n J B) (s1 _) (λi J B hi p=>?_) (λJ B p=>?_)⟩
 .obtain⟨g,l,L,num,j,m,o,rfl,e,b,a,d⟩:=p;have ab:i<n:=by lia
  have M:(0+(i:Int))=((i:Nat):Int):=by lia
  obtain⟨N,C⟩:=fA num G;obtain⟨m3,m4⟩:=fA (num/ (n:Int)) G;refine⟨_,rfl,_,rfl,_,_,rfl,rfl,I,?_⟩
  try dsimp only
  rw[N];generalize(num%(n:Int)).toNat=k at C;refine⟨_,rfl,_,rfl,_,_,rfl,rfl,⟨by lia,by lia⟩,?_⟩;refine⟨_,rfl,_,_,rfl,rfl,(by decide:(0:Int)<6),_,_,rfl,rfl,_,rfl,ju (λc1=>?_) (λc1=>?_)⟩
  .refine⟨_,rfl,_,rfl,_,rfl,l,_,_,i,rfl,rfl,e,(by rw[M,cz];exact xB (by lia)),?_⟩
   try dsimp only
   rw[xZ];exact⟨fQ g b,l,_,_,_,_,_,rfl,cC,b,by rw[oS,a],w6 d C⟩
  refine⟨_,rfl,_,_,rfl,rfl,(by decide:(0:Int)<6),_,_,rfl,rfl,_,rfl,ju (λc2=>?_) (λc2=>?_)⟩
  .refine⟨_,rfl,_,rfl,l,_,_,_,rfl,rfl,SqL.of e,(by rw[M];exact lY (by lia)),?_⟩;refine⟨_,rfl,_,rfl,l,_,_,_,rfl,rfl,SqL.of e,lY (by lia),_,rfl,_,rfl,l,_,_,i,rfl,rfl,e,(by rw[M,cz];exact xB (by lia)),?_⟩;try dsimp only
   rw[xZ];refine⟨_,rfl,_,rfl,_,rfl,l,_,_,k,rfl,rfl,cC,(by rw[cz,oS];exact xB (by lia)),?_⟩;try dsimp only
   rw[xZ,Kt];exact⟨fQ g b,l,_,_,_,_,_,rfl,cC,b,by rw[oS,oS,a],w6 (w6 d (sT d (by lia))) (sT d (by lia))⟩
  have stay: ∀j m o,vr H c n [some (.int c),some (nv n),some (.int (num/ (n:Int))),some (.ref l),j,m,o] B:=λj m o=>⟨g,l,L,_,j,m,o,rfl,e,b,a,d⟩;refine⟨_,rfl,_,_,rfl,rfl,(by decide:(0:Int)<6),rfl,_,rfl,ju (λc3=>?_) (λc3=>fj (stay _ _ _))⟩;refine⟨_,rfl,_,_,rfl,rfl,_,rfl,ju (λc4=>?_) (λc4=>stay _ _ _)⟩;refine⟨_,rfl,_,rfl,_,_,rfl,rfl,I,?_⟩
  try dsimp only
  rw[m3];refine⟨_,rfl,_,rfl,l,_,_,k,rfl,rfl,e,(by rw[cz];exact xB (by lia)),?_⟩
  try dsimp only
  rw[xZ];exact⟨fQ g b,l,_,_,_,_,_,rfl,cC,b,by rw[oS,a],w6 d m4⟩
 .obtain⟨g,l,L,num,j,m,o,rfl,e,b,a,d⟩:=p;refine⟨vr H c n,?_,λae H4 p4=>?_⟩
  .refine⟨_,rfl,_,_,rfl,rfl,(by decide:(0:Int)<6),rfl,_,rfl,ju (λc5=>?_) (λc5=>⟨g,l,L,num,j,m,o,rfl,e,b,a,d⟩)⟩;obtain⟨N,C⟩:=fA (c/6) G;refine⟨_,rfl,_,_,rfl,rfl,⟨by decide,by decide⟩,_,rfl,_,_,rfl,rfl,I,by show 1<=sizeLine;decide,λl2 u=>?_⟩;have e1:(n:Int).toNat=n:=hV n;refine⟨_,rfl,l2,_,_,rfl,rfl,cC,by lia,by lia,by rw[e1,dC];show 1 * n<=_;lia,λl3 v=>?_⟩;have e2:(List.replicate (n:Int).toNat [V.int (c/6%(n:Int))]).flatten=(List.replicate n (c/6%(n:Int)).toNat).map nv:=by
    rw[e1,N,List.map_replicate]
    induction n with
    |zero=>rfl
    |succ n _=>simp[List.replicate_succ]
   refine⟨g.trans ((cL u _).trans (cL v _)),l3,List.replicate n (c/6%(n:Int)).toNat,num,_,_,_,rfl,?_,?_,by simp,λy d=>?_⟩
   .rw[cC];exact dL (λz=>some (HO.lst z)) e2
   .exact(g.trans (cL u _)).free v
   .rw[List.eq_of_mem_replicate d];exact C
  .obtain⟨g4,l4,O,num,j,m,o,rfl,T,af,x,U⟩:=p4;exact⟨_,rfl,l4,_,rfl,.inl ⟨SqL.of T,λt ht=>q O t _ (g4.trans (cL ht _)) cC x U⟩⟩
def Gr(F:Fun K "_law_machine" "_law_machine" vE f fd)(L:dA P w K mg base "_law_cell_at" 1 ["_law_script","_law_k"] (yc K))(qW:dA P w K mg base "_law_turn" 1 ["_law_cell","_law_rooms"] DB)
  (jD:mg "range"=none) (jC:mg "tuple"=none):FnOk P w K mg base cZ 3 f fd ["_law_script"] (Dy K):=by
 refine F.ok qJ (λvs H Q E h=>?_) (λab A M s H vs Q E D h=>?_)
 .obtain⟨a,G,rfl,_⟩:=h;rfl
 obtain⟨a,G,rfl,O,q⟩:=h;refine⟨_,(cN (dm (i:=1) qJ.nd rfl (Or.inr rfl) (gC yg cV (gC kS (dD L D.m rfl (de (cB (pv 0) (cB cV c8 rfl) rfl))) cV))) (cN (dm (i:=2) qJ.nd rfl (Or.inl rfl) (gC yg cV (gC kS (dD L D.m rfl (de (cB (pv 0) (cB cV c8 rfl) rfl))) cV))) (cS (dH (gY mo rfl jC jr (cJ (gI (CompSc.to (N:=["_law_script","_law_rooms","_law_many"]) (osc:=cU vE) (vs:=["_law_k"]) {}) rfl rfl (mK rfl jD (cJ (pv 2) cI)) (λ_ _ _ _=>iu) (λ_ _ _ _=>(dD qW D.m rfl (de (cB (dD L D.m rfl (de (cB (pv 1) (cB (gC yg cV (pv 0)) c8 rfl) rfl))) (cB (pv 2) c8 rfl) rfl))))) cI)))))),?_⟩;refine⟨_,rfl,a,G,0,rfl,Int.le_refl 0,O,λc=>⟨_,_,rfl,rfl,(by decide:(0:Int)<5),_,_,rfl,rfl,?_⟩⟩;obtain⟨n,en,n1,n5⟩: ∃n:Nat,(1+c%5:Int)=(n:Int)/\1<=n/\n<=5:=⟨(1+c%5).toNat,by lia,by lia,by lia⟩
 try dsimp only
 rw[en];refine⟨_,rfl,a,G,1,rfl,by decide,O,λc'=>⟨_,_,rfl,rfl,(by decide:(0:Int)<4),_,_,rfl,rfl,?_⟩⟩;obtain⟨k,ek,k1,k4⟩: ∃n:Nat,(1+c'%4:Int)=(n:Int)/\1<=n/\n<=4:=⟨(1+c'%4).toNat,by lia,by lia,by lia⟩
 try dsimp only
 rw[ek];refine⟨_,rfl,(k:Int),rfl,by lia,by lia,t8 (λi I y=>Same H y/\ ∃(b:As) (o:LN),I=b.map V.ref/\b.length=i/\o.length=i/\(∀(j:Nat) r t,b[j]? =some r->o[j]? =some t->y r=some (.tup (t.map nv)))/\ ∀t∈o,t.length=n/\ ∀x∈t,x<n)
  (small (by lia)) ⟨Same.refl _,[],[],rfl,rfl,rfl,(λj r t e=>wC e (by simp)),(λt ht=>wC ht (by simp))⟩ (λi I y _ p=>?_) (λi I y hi p=>?_) (λI y p l hl=>?_)⟩
 .obtain⟨_,b,o,rfl,e,_⟩:=p;rw[cz];lia
 .obtain⟨g,b,o,rfl,d,u,v,ht⟩:=p;refine⟨hI,jm ?_⟩;refine⟨_,rfl,_,rfl,_,_,rfl,rfl,a,G,_,rfl,by lia,g.seq O,λc=>⟨_,rfl,c,n,rfl,n1,n5,λys r H2 B T U hy=>?_⟩⟩;refine⟨g.trans B,b++[r],o++[ys],by simp,by simp[d],by simp[u],λj r' t' C J=>?_,λt Y=>?_⟩
  .by_cases hj:j<i
   .rw[e8 (by lia)]at C J;exact B _ _ (v j r' t' C J)
   .have aa:j=i:=by
     have:=(cK.mp C).1;rw[dF,d]at this;have:j<i+1:=this
     lia
    subst aa;rw[eU (by lia),d,lG]at C;rw[eU (by lia),u,lG]at J;cases C;cases J;exact T
  .rcases dw.mp Y with z|z
   .exact ht t z
   .have e:t=ys:=by simpa using z
    rw[e];exact⟨U,hy⟩
 .obtain⟨g,b,o,rfl,d,u,v,ht⟩:=p;have g1:=cL hl (.lst (b.map V.ref));refine⟨l,_,rfl,.inl ⟨SqL.of cC,λm hm=>?_⟩⟩;have B:=g1.trans (cL hm (.tup (b.map V.ref)));have hk:(k:Int).toNat=k:=hV k;exact q m o n _ (g.trans B) ⟨⟨b,cC,by lia,λi r t e1 T=>B _ _ (v i r t e1 T)⟩,by lia,by lia,n1,n5,ht⟩
def D7(K:W.Frag):Sp:=λc H Q _=> ∃(m b:Ad) (a:LN) (n r:Nat) (word:cu),c=[.ref m,nv r,.ref b]/\Mach H m a n/\r<n/\SqL K H b (word.map nv)/\(∀l∈word,l<a.length)/\Q (nv (eG a r word)) H
def L3(F:Fun K "led" "led" oR f fd):FnOk P w K mg base cZ 1 f fd ["machine","room","word"] (D7 K):=by
 refine F.ok rW (λu H Q E h=>?_) (λv A g s H u Q E G h=>?_)
 .obtain⟨m,b,j,n,r,word,rfl,_⟩:=h;rfl
 obtain⟨m,b,j,n,r,word,rfl,M,k,t,hw,q⟩:=h;refine⟨_,(cN (gK gk rfl (gL (pv 2)) (eQ (i:=3) rW.nd rfl (Or.inl rfl)) (cS (dm (i:=1) rW.nd rfl (Or.inl rfl) (cX dz (cX dz (pv 0) (pv 3) (λ_ _=>rfl)) (pv 1) (λ_ _=>rfl))))) (cS (dH (pv 1)))),?_⟩;refine⟨_,rfl,b,rfl,⟨_,t⟩,mv (xs:=word.map nv) (λi c d=>d=H/\ ∃o,c=[some (.ref m),some (nv (eG j r (word.take i))),some (.ref b),o]) ⟨rfl,none,rfl⟩ (λi c d _ p=>by obtain⟨rfl,_⟩:=p;exact t) (λi x c d a p=>?_) (λc d p=>?_)⟩
 .obtain⟨rfl,o,rfl⟩:=p;rw[cQ]at a;cases e:word[i]? with
  |none=>rw[e]at a;cases a
  | some l=>
   rw[e]at a;cases a;obtain⟨I,y,z,J,B,C,D,L⟩:=M.at (hw l (cW e));refine⟨_,rfl,_,rfl,m,_,_,_,rfl,rfl,SqT.of z,B,_,rfl,y,_,_,_,rfl,rfl,SqT.of C,lY ?_,rfl,some (nv l),?_⟩
   .rw[D];exact lK M _ _ k λx a=>hw x (r9 a)
   .rw[hG,e];show _=[some (.ref m),some (nv (eG j r (word.take i++[l]))),some (.ref b),some (nv l)];rw[Mu];rfl
 .obtain⟨rfl,o,rfl⟩:=p;refine⟨_,rfl,?_⟩;rw[cz,gj];exact q
def kv(b:LN)(a word:cu):cu:=a.map λr=>eG b r word
def KL{n:Nat}{a:cu}(c:n<=5)(h: ∀x∈a,x<n):fb a=(List.range n).filter λi=>a.contains i:=by
 unfold fb;have e:List.range 5=List.range n++(List.range (5-n)).map (n+ ·):=by rw[<-List.range_add];congr 1;lia
 rw[e,oC];have no:((List.range (5-n)).map (n+ ·)).filter (λi=>a.contains i)=[]:=by
  rw[y7];intro y b z;obtain⟨k,_,rfl⟩:=c7.mp b;have:=h _ (fY.mp z);lia
 rw[no,gV]
def vT{a:cu}{x:Nat}(h:x∈fb a):x∈a:=fY.mp (dJ.mp h).2
def Cd{a:cu}{x:Nat}(h:x∈a)(b:x<5):x∈fb a:=dJ.mpr ⟨fq.mpr b,fY.mpr h⟩
def FJ(a:cu):(fb a).length<=5:=dE (gZ _ _) (by simp)
def DP(i:Nat)(a:cu):xq (nv i) (a.map nv)=a.contains i:=by
 unfold xq;rw[wK]
 induction a with
 |nil=>rfl
 | cons x a b=>
  rw[qx,List.contains_cons,b]
  congr 1
  show ky (.int (x:Int)) (.int (i:Int))=(i==x);by_cases h:x=i
  .subst h;show((x:Int)==(x:Int))=(x==x);simp
  .have c: ¬(x:Int)=(i:Int):=by lia
   have d: ¬i=x:=by lia
   show((x:Int)==(i:Int))=(i==x);rw[mO.mpr c,mO.mpr d]
def EJ(a:cu):(a.map nv).all ir=true:=by
 rw[List.all_map,oW];intro x _;rfl
def sn(K:W.Frag):Sp:=λd H Q _=> ∃(m p b:Ad) (c:LN) (n:Nat) (a word:cu),d=[.ref m,.ref p,.ref b]/\Mach H m c n/\SqT K H p (a.map nv)/\a.length<=5/\(∀r∈a,r<n)/\SqL K H b (word.map nv)/\(∀l∈word,l<c.length)/\
 rm H ((fb (kv c a word)).map nv) Q
def MA(F:Fun K "carried" "carried" wu f fd)(y:dA P w K mg base "led" 1 ["machine","room","word"] (D7 K))(z:mg "tuple"=none)(B:mg "sorted"=none)(C:mg "set"=none):FnOk P w K mg base cZ 3 f fd ["machine","rooms","word"] (sn K):=by
 refine F.ok Ie (λD H Q E h=>?_) (λG A j s H D Q E I h=>?_)
 .obtain⟨m,p,b,d,n,c,word,rfl,_⟩:=h;rfl
 obtain⟨m,p,b,d,n,c,word,rfl,M,u,J,g,L,hw,q⟩:=h;refine⟨_,(cS (dH (gY mo rfl z jr (cJ (eZ (DL rfl) rfl B wc (cJ (gY (Cj rfl) rfl C PyProof.Rows.boot_set (cJ (gI (CompSc.to (N:=["machine","rooms","word"]) (osc:=cU wu) (vs:=["room"]) {}) rfl rfl (pK (pv 1)) (λ_ _ _ _=>iu) (λ_ _ _ _=>(dD y I.m rfl (de (cB (pv 1) (cB (pv 0) (cB (pv 3) c8 rfl) rfl) rfl))))) cI)) cI)) cI)))),?_⟩;have n5:=M.n5;refine⟨_,rfl,p,rfl,⟨_,u⟩,uj (f:=λv=>match v with| .int i=>nv (eG d i.toNat word)|v=>v) (by rw[cz];exact small (by lia)) u (λv Q O q=>?_) (λl T=>?_)⟩
 .obtain⟨r,k,rfl⟩:=c7.mp O;exact⟨_,rfl,_,rfl,_,rfl,m,b,d,n,r,word,rfl,M,g r k,L,hw,q⟩
 .have e:(c.map nv).map (λv=>match v with| .int i=>nv (eG d i.toNat word)|v=>v)=(kv d c word).map nv:=by
   unfold kv;rw[hZ,hZ];rfl
  try dsimp only
  rw[e];have U:=cL T (.lst ((kv d c word).map nv));refine⟨l,_,rfl,SqL.of cC,λx Y=>?_,λa ha=>⟨a,_,rfl,cC,λo ho=>?_⟩⟩
  .obtain⟨r,k,rfl⟩:=c7.mp Y;have:=lK M word r (g r k) hw;lia
  .try dsimp only
   rw[yR];exact⟨o,_,rfl,.inl ⟨SqL.of cC,λt ht=>q t _ (U.trans ((cL ha _).trans ((cL ho _).trans (cL ht _)))) cC⟩⟩
def uB(P:Pg)(w:World)(K:W.Frag)(mg:SV)(base:Heap):Sp:=λj H Q _=> ∃(a st:Ad) (fd:Fd) (e:Ss) (c:cu) (L:Nat) (U:LN) (g:cu->Nat->List Nat),
 j=[.ref a,nv L,.ref st,.non]/\H a=some (.tup (c.map nv))/\H st=some (hE st fd)/\c∈U/\(∀x∈U,∀l,l<L->g x l∈U)/\U.length<=4000/\L<=4000/\FnOk P w K mg base cZ 5 st fd e (oq (Same H) U L g)/\Binds K fd e []/\
 ∀D h i d,Same H d->WordsAt d D h i->(∀b∈D::i,H b=none)->Told g L c h->Q (.ref D) d
def KU(F:Fun K "refuse_more" "refuse_more" y9 f fd)(b:mg "len"=none):FnOk P w K mg base cZ 1 f fd ["things","most"] xv:=by
 refine F.ok IZ (λc H Q E h=>?_) (λe A a s H c Q E g h=>?_)
 .obtain⟨d,rfl,_⟩:=h;rfl
 obtain⟨d,rfl,q⟩:=h;refine⟨_,(cS (ge (PW.pt (pi (gq Ff (pv 1) qr (fT _)) (pV (gq qi (eZ KO rfl b fV (cJ (pv 0) cI)) (pv 1) (fT _))))) (cS Jq) gJ)),?_⟩;exact⟨_,rfl,rfl,_,rfl,q⟩
def ML{e m:Vl}(F:DefAt K "reached" ni f fd e m)(l:dA P w K mg base "refuse_more" 1 ["things","most"] xv)(n:mg "range"=none):FnOk P w K mg base cZ 8 f fd ["start","letters","step","most"] (uB P w K mg base):=by
 refine F.fnOk kE (λo H Q E h=>?_) (λA j s H o Q E h d=>?_)
 .obtain⟨a,st,fd,p,r,L,U,g,rfl,_⟩:=h;rfl
 obtain⟨a,st,z,p,r,L,U,g,rfl,t,k,u,v,few,c,x,y,q⟩:=h;have b:=hR d;exact⟨_,HR d.m t k u v few c x y q,(cN (dm (i:=4) kE.nd rfl (Or.inl rfl) (Jd b (pv 0) (fM cI))) (cN (hO (dD l d.m rfl (de (cB (pv 4) (cB (pv 3) c8 rfl) rfl)))) (cN (dm (i:=5) kE.nd rfl (Or.inl rfl) (fM (cJ (pv 0) cI))) (cN (Ew gk (Ct (pv 5) (λ_=>rfl)) (cN (dm (i:=6) kE.nd rfl (Or.inl rfl) (fM cI)) (cN (gK gk rfl (gL (pv 5)) (eQ (i:=7) kE.nd rfl (Or.inl rfl)) (cS (gK gk rfl (mK rfl n (cJ (pv 1) cI)) (eQ (i:=8) kE.nd rfl (Or.inl rfl)) (cN (dm (i:=9) kE.nd rfl (Or.inl rfl) (Hk 2 (pv 2) (de (cB (pv 7) (cB (pv 8) c8 rfl) rfl)))) (cS (ge (lP (xf b (pv 9) (pv 4))) (cN (qp b (pv 4) (pv 9) (gC Bd (lF b (pv 4) (pv 7) (λ_ _=>rfl)) (fM (cJ (pv 8) cI))) rfl) (cN (hO (dD l d.m rfl (de (cB (pv 4) (cB (pv 3) c8 rfl) rfl)))) (cS (hO (gb f' iN iA iM (pv 6) (cJ (pv 9) cI)))))) gJ)))))) (cS (dm (i:=5) kE.nd rfl (Or.inl rfl) (pv 6)))))) (cS (dH (pv 4)))))))⟩
def fe:List (Str×Pos×Ad):=[("sets_reached.<locals>.<lambda>",(⟨49,40,49,93⟩:Pos),101),("level_group.<locals>.<lambda>",(⟨121,61,121,110⟩:Pos),200)]
def Hv:(fe.map (·.2.2)).Nodup:=by decide
def Tabs(H:Hp):Prop:= ∀q∈fe,TabOk q.1 q.2.1 H q.2.2
def _root_.L2.TabOk.most{a:Str}{pos:Pos}{H d:Hp}{T:Ad}(t:TabOk a pos H T)(g: ∀b u,(∀c,u≠HO.dT c)->(∀h,u≠HO.lst h)->H b=some u->d b=some u):TabOk a pos d T:=by
 rcases t with t|⟨i,j,k⟩
 .exact .inl (g _ _ (λ_ e=>nomatch e) (λ_ e=>nomatch e) t)
 .exact .inr ⟨i,g _ _ (λ_ e=>nomatch e) (λ_ e=>nomatch e) j,g _ _ (λ_ e=>nomatch e) (λ_ e=>nomatch e) k⟩
def Tabs.same{H a:Hp}(t:Tabs H)(g:Same H a):Tabs a:=λq b=>(t q b).same g
def Tabs.most{H c:Hp}(t:Tabs H)(g: ∀b u,(∀a,u≠HO.dT a)->(∀d,u≠HO.lst d)->H b=some u->c b=some u):Tabs c:=λq e=>(t q e).most g
def KeepsBut(T:Ad)(H a:Hp):Prop:= ∀b o,b≠T->H b=some o->a b=some o
def KeepsBut.keeps{T:Ad}{H a:Hp}{c:AV}(g:KeepsBut T H a)(hT:H T=some (.tbl c)):Keeps H a:=λb o d=>by
 obtain⟨z,h⟩:=su d;exact g b o (iE z hT λe=>h _ e) z
theorem Eu: ∀{l:List (Str×Pos×Ad)} {p q:Str×Pos×Ad},(l.map (·.2.2)).Nodup->p∈l->q∈l->p.2.2=q.2.2->p=q
 | [],_,_,_,hp,_,_=>nomatch hp
 | r::l,p,q,nd,hp,hq,e=>by
  obtain⟨b,d⟩:=jc.mp nd
  rcases dQ.mp hp with c|hp
  .rcases dQ.mp hq with a|hq
   .rw[c,a]
   .exact wC (c7.mpr ⟨q,hq,by rw[<-c];exact e.symm⟩) b
  .rcases dQ.mp hq with a|hq
   .exact wC (c7.mpr ⟨p,hp,by rw[<-a];exact e⟩) b
   .exact Eu d hp hq e
def Tabs.but{a:Str}{pos:Pos}{T:Ad}{H c:Hp}{i:AV}(j:(a,pos,T)∈fe)(t:Tabs H)(hT:H T=some (.tbl i))(g:KeepsBut T H c)(k:TabOk a pos c T):Tabs c:=λd b=>by
 by_cases e:d.2.2=T
 .have:=Eu Hv b j e;subst this;exact k
 .rcases t d b with t|⟨l,m,h⟩
  .exact .inl (g _ _ e t)
  .exact .inr ⟨l,g _ _ e m,g _ _ (nE h hT) h⟩
def Fk{H:Hp}{T d a:Ad}(pos:Pos)(c:Str)(hT:H T=some (.tbl #[]))(e:H d=none)(g:H a=none)(h:d≠a)(lo:HO):KeepsBut T H (cw (cw (cw H T (.tbl (iV pos a))) a (i0 a c)) d lo)/\
  (cw (cw (cw H T (.tbl (iV pos a))) a (i0 a c)) d lo) T=some (.tbl (iV pos a))/\(cw (cw (cw H T (.tbl (iV pos a))) a (i0 a c)) d lo) a=some (i0 a c):=by
 refine⟨λb o i z=>?_,?_,?_⟩
 .rw[cF (dO z e),cF (dO z g),cF i];exact z
 .rw[cF (dO hT e),cF (dO hT g),cC]
 .rw[cF (eJ h),cC]
def cE(a:LN)(x:cu)(l:Nat):cu:=fb (kv a x [l])
def dW(n:Nat):LN:=((List.range 32).map cO).filter λx=>x.all λr=>decide (r<n)
def yP(T:Ad)(pos:Pos):Sp:=λh H Q _=> ∃(m p:Ad) (d:LN) (n:Nat) (a:cu),h=[.ref m,.ref p]/\Mach H m d n/\H p=some (.tup (a.map nv))/\a∈dW n/\Tabs H/\
 ∀D e g c,Keeps H c->Tabs c->WordsAt c D e g->(∀b∈D::g,noT H b=none)->Told (cE d) d.length a e->Q (.ref D) c
def cD{n:Nat}{x:cu}:x∈dW n↔fb x=x/\ ∀r∈x,r<n:=by
 unfold dW;rw[dJ,c7,oW];constructor
 .rintro⟨⟨k,a,rfl⟩,h⟩;refine⟨?_,λr c=>gi (h r c)⟩;have z: ∀k:Fin 32,fb (cO k)=cO k:=by decide+kernel
  exact z ⟨k,fq.mp a⟩
 .rintro⟨d,e⟩;refine⟨⟨ko 0 (fb x),fq.mpr ?_,by rw[yR,d];exact d⟩,λr c=>dX (e r c)⟩;have z: ∀(b:cu) (k:Nat),(∀n∈b,n<5)->k<32->ko k b<32:=by
   intro b
   induction b with
   |nil=>intro k _ a;exact a
   |cons n b g=>intro k h a;exact g _ (λy i=>h y (fc _ i)) (EC ⟨k,a⟩ ⟨n,h n (dP ..)⟩)
  exact z _ 0 (λn j=>fq.mp (dJ.mp j).1) (by decide)
def DX(a:cu):fb (fb a)=fb a:=by
 unfold fb;refine qz λi b=>?_;rw[iZ,fY,fY,dJ,fY];exact⟨λh=>h.2,λh=>⟨b,h⟩⟩
def Mach.noT{H:Hp}{m:Ad}{a:LN}{n:Nat}(M:Mach H m a n):Mach (L2.noT H) m a n:=
 ⟨let⟨b,c,d,e⟩:=M.refs;⟨b,nU c,d,λi r t g h=>nU (e i r t g h)⟩,M.some1,M.few,M.n1,M.n5,M.each⟩
def Mach.keeps{H a:Hp}{m:Ad}{b:LN}{n:Nat}(M:Mach H m b n)(g:Keeps H a):Mach a m b n:=M.noT.same g
def Mach.drop{H:Hp}{m c:Ad}{a:LN}{n:Nat}{e:Heap->Prop}(M:Mach H m a n)(b:H c=some (.ext e)):Mach (L2.drop H c) m a n:=by
 obtain⟨g,d,h,j⟩:=M.refs;refine⟨⟨g,?_,h,λi r t k l=>?_⟩,M.some1,M.few,M.n1,M.n5,M.each⟩
 .rw[dZ (nE d b)];exact d
 .have z:=j i r t k l;rw[dZ (nE z b)];exact z
def CZ{v c m j:Ad}{O:Obj}{u:LN}{n:Nat}{p:Hp}{pm B:Vl}{a:Arguments}{i:Expr}{d:Scope}{fx a1 a2:Expr}{kw:List Keyword}{lp cp rp:Pos}(e:ik mq=[.Return (some (.Call fx [a1,a2,.Lambda a i d lp] kw cp)) rp])
  (jH:dA P w K mg base "carried" 3 ["machine","rooms","word"] (sn K)) (M:Mach p m u n) (h1:p v=some (hE v (gD "sets_reached.<locals>.<lambda>" a i d "machine" c pm (.ref j) B))) (T:p c=some (gf c m O)) (h3:p j=some (i0 j "sets_reached.<locals>.<lambda>")):
  FnOk P w K mg base cZ 5 v (gD "sets_reached.<locals>.<lambda>" a i d "machine" c pm (.ref j) B) ["here","letter"] (oq (Same p) (dW n) u.length (cE u))/\Binds K (gD "sets_reached.<locals>.<lambda>" a i d "machine" c pm (.ref j) B) ["here","letter"] []:=by
 cases e;refine⟨D1 (k:=4) (m:=m) (oc:=O) ⟨rfl,rfl,rfl,by decide+kernel,by decide+kernel,rfl,by decide+kernel⟩ (λU H Q E h=>?_) (λU H Q E h=>?_) (λA C s H U Q E hr h=>?_),.all λus D=>match us,D with| [_,_],_=>rfl⟩
 .obtain⟨t,x,l,rfl,_⟩:=h;rfl
 .obtain⟨t,x,l,rfl,g,_⟩:=h;exact⟨g _ _ h1,g _ _ T,g _ _ h3⟩
 .obtain⟨t,x,l,rfl,g,ht,hx,D,q⟩:=h;refine⟨_,(dD jH hr.m rfl (de (cB (pv 2) (cB (pv 0) (cB (fM (cJ (pv 1) cI)) c8 rfl) rfl) rfl))),?_⟩;obtain⟨x1,x2⟩:=cD.mp hx;have G:=g _ _ T;refine⟨_,rfl,_,rfl,_,rfl,by show 1<=sizeLine;decide,λb hb=>?_⟩;have I:=cL hb (.lst [nv l]);have M1:=((M.same g).drop G).same I;have J:(cw (L2.drop H c) b (.lst [nv l])) t=some (.tup (x.map nv)):=I _ _ (by rw[dZ (nE ht G)];exact ht);refine⟨m,t,b,u,n,x,[l],rfl,M1,SqT.of J,by rw[<-x1];exact FJ x,x2,SqL.of cC,λz hz=>by rw[dj.mp hz];exact D,λr H3 g3 Y free=>q r _ (λy o L=>?_) ?_⟩
  .by_cases N:y=c
   .subst N;rw[G]at L;cases L;exact cC
   .rw[cF N];exact g3 _ _ (I _ _ (by rw[dZ N];exact L))
  .rw[cF (dO Y free)];exact Y
def GJ{cd T:Ad}(F:DefAt K "sets_reached" mq f fd .none (.ref cd))(hC:PySem.W.CodeHd base cd T)(bm:mD mg base)(hq:(("sets_reached.<locals>.<lambda>":Str),(⟨49,40,49,93⟩:Pos),T)∈fe)(jH:dA P w K mg base "carried" 3 ["machine","rooms","word"] (sn K))
  (kW:wG P w K mg base "reached" 8 ["start","letters","step","most"] (uB P w K mg base) [.non]) (jB:mg "len"=none):FnOk P w K mg base cZ 10 f fd ["machine","rooms"] (yP T (⟨49,40,49,93⟩:Pos)):=by
 refine F.fnOk Gf (λvs H Q E h=>?_) (λA af s H vs Q E h hr=>?_)
 .obtain⟨m,p,Y,n,v,rfl,_⟩:=h;rfl
 obtain⟨m,p,Y,n,v,rfl,M,hp,hU,hT,q⟩:=h;refine⟨_,?_,(cS (dH (FE kW hr.m rfl (j:=0) rfl rfl rfl rfl (de (cB (pv 1) (cB (eZ fZ rfl jB fV (cJ (pv 0) cI)) (cB (Fs (qual:="sets_reached.<locals>.<lambda>") rfl hC bm (λ_ _ _ _ _=>rfl) rfl rfl) c8 rfl) rfl) rfl)))))⟩;obtain⟨rs,hm,ag,_⟩:=M.refs;refine⟨_,rfl,_,rfl,m,_,rfl,.inr (SqT.of hm),?_⟩
 try dsimp only
 rw[cz,ag];have go: ∀(B t:Ad) (J:Vl) (L:Hp) (aa:AV),H T=some (.tbl aa)->KeepsBut T H L->L T=some (.tbl (iV (⟨49,40,49,93⟩:Pos) t))->L t=some (i0 t "sets_reached.<locals>.<lambda>")-> ∀(d:Arguments) (k:Expr) (e:Scope) (pm:Vl) (c:Ad),L B=some (hE B (gD "sets_reached.<locals>.<lambda>" d k e "machine" c pm (.ref t) J))->
   ∀C,L c=none->(FnOk P w K mg base cZ 5 B (gD "sets_reached.<locals>.<lambda>" d k e "machine" c pm (.ref t) J) ["here","letter"] (oq (Same (cw L c (gf c m C))) (dW n) Y.length (cE Y)))->Binds K (gD "sets_reached.<locals>.<lambda>" d k e "machine" c pm (.ref t) J) ["here","letter"] []->
   uB P w K mg base [.ref p,nv Y.length,.ref B,.non] (cw L c (gf c m C)) (λr H2=>H2 c=some (gf c m C)/\Q r (L2.drop H2 c)) E0:=λB t J L aa ab kb h1 h2 d k e pm c h3 C G hF hB=>by
  have u:=kb.keeps ab;have i:=cL G (gf c m C);have n5:=M.n5;refine⟨p,B,_,_,v,Y.length,dW n,cE Y,rfl,i _ _ (u _ _ (nU hp)),i _ _ h3,hU,λx hx l hl=>?_,?_,?_,hF,hB,λD ws as H2 N W nw TT=>⟨N _ _ cC,q D ws as _ (λb o O=>?_) (hT.but hq ab (λb o nb O=>?_) (.inr ⟨t,?_,?_⟩)) ⟨W.len,?_,λj a r e1 e2=>?_⟩ (λb O=>?_) TT⟩⟩
  .obtain⟨x1,x2⟩:=cD.mp hx;refine cD.mpr ⟨DX _,λr hr=>?_⟩;obtain⟨y,h4,rfl⟩:=c7.mp (vT hr);exact lK M [l] y (x2 y h4) λz hz=>by rw[dj.mp hz];exact hl
  .exact dE (gZ _ _) (by rw[cz,iY];decide)
  .have:=M.few;lia
  .have z:=u b o O;rw[dZ (dO z G)];exact N _ _ (i _ _ z)
  .have z:=kb b o nb O;rw[dZ (dO z G)];exact N _ _ (i _ _ z)
  .rw[dZ (dO h1 G)];exact N _ _ (i _ _ h1)
  .rw[dZ (dO h2 G)];exact N _ _ (i _ _ h2)
  .rw[dZ (nE W.dict (N _ _ cC))];exact W.dict
  .have z:=W.list j a r e1 e2;rw[dZ (nE z (N _ _ cC))];exact z
  .have z:=nw b O;cases y:L2.noT H b with
   |none=>rfl
   |some o=>
    have z2:=i _ _ (u _ _ y);rw[z]at z2;cases z2
 rcases hT _ hq with g|⟨t,g,I⟩
 .refine .inl ⟨g,λB t J U I ne=>⟨m,rfl,λC G=>?_⟩⟩;obtain⟨u,ah,ae⟩:=Fk (⟨49,40,49,93⟩:Pos) "sets_reached.<locals>.<lambda>" g U I ne _;have i:=cL G (gf (s.heap.objs.size+1) m C);obtain⟨F1,F2⟩:=CZ rfl jH ((M.keeps (u.keeps g)).same i) (i _ _ cC) cC (i _ _ ae);exact go B t J _ _ g u ah ae _ _ _ _ _ cC C G F1 F2
 .refine .inr ⟨t,g,I,λB J U=>⟨m,rfl,λC G=>?_⟩⟩;have u: ∀lo,Same H (cw H B lo):=λlo=>cL U lo;have i:=cL G (gf (s.heap.objs.size+1) m C);obtain⟨F1,F2⟩:=CZ rfl jH ((M.same (u _)).same i) (i _ _ cC) cC (i _ _ (u _ _ _ I));exact go B t J _ _ g (λb o _ O=>u _ _ _ O) (u _ _ _ g) (u _ _ _ I) _ _ _ _ _ cC C G F1 F2
def wU:Sp:=λa H Q _=> ∃n:Nat,a=[nv n]/\n<=1000/\rm H ((List.range n).map nv) Q
def JH(F:Fun K "still" "still" yk f fd)(b:mg "tuple"=none)(c:mg "range"=none):FnOk P w K mg base cZ 1 f fd ["rooms"] wU:=by
 refine F.ok Jr (λd H Q E h=>?_) (λe A a s H d Q E i h=>?_)
 .obtain⟨n,rfl,_⟩:=h;rfl
 obtain⟨n,rfl,j,q⟩:=h;refine⟨_,(cS (dH (gY (BS rfl) rfl b jr (cJ (gY zx rfl c boot_range (cJ (pv 0) cI)) cI)))),?_⟩;refine⟨_,rfl,(n:Int),rfl,λp g=>⟨p,(n:Int),rfl,cC,by lia,by lia,λt ht=>?_⟩⟩;exact q t _ ((cL g _).trans (cL ht _)) cC
def dU(xs a:cu):cu:=xs.map λx=>a.getD x 0
def wj:Sp:=λe H Q _=> ∃(a b:Ad) (c d:cu),e=[.ref a,.ref b]/\H a=some (.tup (c.map nv))/\H b=some (.tup (d.map nv))/\(∀x∈c,x<d.length)/\c.length<=1000/\rm H ((dU c d).map nv) Q
def J4(F:Fun K "behind" "behind" xQ f fd)(l:mg "tuple"=none):FnOk P w K mg base cZ 1 f fd ["one","other"] wj:=by
 refine F.ok HM (λm H Q E h=>?_) (λn A d s H m Q E B h=>?_)
 .obtain⟨a,b,g,c,rfl,_⟩:=h;rfl
 obtain⟨a,b,g,c,rfl,k,o,j,r,q⟩:=h;refine⟨_,(cS (dH (gY mo rfl l jr (cJ (gI (CompSc.to (N:=["one","other"]) (osc:=cU xQ) (vs:=["room"]) {}) rfl rfl (pK (pv 0)) (λ_ _ _ _=>iu) (λ_ _ _ _=>(cX (IxR.k (K:=K) ux dz rfl) (pv 2) (pv 0) (λ_ _=>rfl)))) cI)))),?_⟩;have e:(g.map nv).map (λv=>match v with| .int i=>nv (c.getD i.toNat 0)|v=>v)=(dU g c).map nv:=by
  unfold dU;rw[hZ,hZ];rfl
 refine⟨_,rfl,a,rfl,⟨_,SqT.of k⟩,uj (f:=λv=>match v with| .int i=>nv (c.getD i.toNat 0)|v=>v) (by rw[cz];exact small r) (SqT.of k) (λv Q u q=>?_) (λp y=>?_)⟩
 .obtain⟨x,z,rfl⟩:=c7.mp u;exact⟨_,rfl,_,rfl,b,_,_,_,rfl,rfl,SqT.of o,lY (j x z),q⟩
 .rw[e];exact⟨p,_,rfl,.inl ⟨SqL.of cC,λt ht=>q t _ ((cL y _).trans (cL ht _)) cC⟩⟩
def jh(n:Nat):Nat->List cu
 |0=>[[]]
 |k+1=>(jh n k).flatMap λx=>(List.range n).map λr=>x++[r]
theorem dB{n:Nat}: ∀{k:Nat} {x:cu},x∈jh n k↔x.length=k/\ ∀r∈x,r<n
 | 0,x=>by
  show x∈[[]]↔_;rw[dj];constructor
  .rintro rfl;exact⟨rfl,λr a=>nomatch a⟩
  .rintro⟨h,_⟩;exact nX.mp h
 | k+1,x=>by
  show x∈(jh n k).flatMap _↔_;rw[List.mem_flatMap];constructor
  .rintro⟨y,e,g⟩;obtain⟨r,a,rfl⟩:=c7.mp g;obtain⟨b,c⟩:=dB.mp e;refine⟨by simp[b],λz i=>?_⟩
   rcases dw.mp i with m|m
   .exact c z m
   .rw[dj.mp m];exact fq.mp a
  .rintro⟨b,c⟩;have d:x≠[]:=λz=>by rw[z]at b;cases b
   refine⟨x.dropLast,dB.mpr ⟨by rw[List.length_dropLast,b];rfl,λr a=>c r (List.dropLast_subset _ a)⟩,c7.mpr ⟨x.getLast d,fq.mpr (c _ (List.getLast_mem d)),Fl d⟩⟩
theorem Fm{n:Nat}: ∀k,(jh n k).length=n ^ k
 |0=>rfl
 | k+1=>by
  show((jh n k).flatMap _).length=_;rw[List.length_flatMap];have z: ∀l:LN,(l.map λx=>((List.range n).map λr=>x++[r]).length).sum=l.length * n:=by
   intro l
   induction l with
   |nil=>simp
   |cons a l b=>rw[gv,List.sum_cons,b,cz,iY,jz,Nat.succ_mul,xo]
  rw[z,Fm k,Nat.pow_succ]
def Gb{n:Nat}(h:n<=5):(jh n n).length<=4000:=by
 rw[Fm];have z: ∀k:Fin 6,(k:Nat) ^ (k:Nat)<=4000:=by decide
 exact z ⟨n,by lia⟩
def Ix(n:Nat):List.range n∈jh n n:=dB.mpr ⟨iY,λr a=>fq.mp a⟩
def gl(t:cu):Int:= -((t.length:Nat):Int)
def jx(a:LN)(t:cu):LN:=if a.contains t then a else a++[t]
def uniq(a:LN):LN:=a.foldl jx []
def MD(a:LN)(t:cu):uniq (a++[t])=jx (uniq a) t:=by
 unfold uniq;rw[nZ];rfl
def Jn{a:LN}{t x:cu}:x∈jx a t↔x∈a∨x=t:=by
 unfold jx;by_cases h:a.contains t=true
 .rw[wB h];constructor
  .exact .inl
  .rintro(b|rfl)
   .exact b
   .exact fY.mp h
 .rw[wA h,dw,dj]
def G3{a:LN}{t:cu}(nd:a.Nodup):(jx a t).Nodup:=by
 unfold jx;by_cases h:a.contains t=true
 .rw[wB h];exact nd
 .rw[wA h,zD];refine⟨nd,by simp,λx b y c z=>h (List.contains_iff_mem.mpr ?_)⟩;rw[<-dj.mp c,<-z];exact b
def A2(b:LN):(uniq b).Nodup/\ ∀x,x∈uniq b↔x∈b:=by
 have go: ∀(b a:LN),a.Nodup->(b.foldl jx a).Nodup/\ ∀x,x∈b.foldl jx a↔x∈a∨x∈b:=by
  intro b
  induction b with
  |nil=>intro a nd;exact⟨nd,λx=>by simp⟩
  |cons t b e=>
   intro a nd;obtain⟨c,d⟩:=e (jx a t) (G3 nd);refine⟨c,λx=>?_⟩;rw[zU,d x,Jn,dQ,or_assoc]
 obtain⟨c,d⟩:=go b [] List.nodup_nil;exact⟨c,λx=>by rw[show uniq b=b.foldl jx []from rfl,d x];simp⟩
def Js{b:List (List dr×V)}{d:LN}{t:cu}{v:V}(h:b.map (·.1)=d.map nk):(io b (nk t) v).map (·.1)=(jx d t).map nk:=by
 have e:(b.any λa=>decide (a.1=nk t))=d.contains t:=by
  rw[iZ,wk,fY];constructor
  .rintro⟨a,g,i⟩;have m:a.1∈d.map nk:=by rw[<-h];exact c7.mpr ⟨a,g,rfl⟩
   obtain⟨u,j,k⟩:=c7.mp m;have z:=vx (k.trans (gi i));rw[<-z];exact j
  .intro ht;have m:nk t∈b.map (·.1):=by rw[h];exact c7.mpr ⟨t,ht,rfl⟩
   obtain⟨a,g,i⟩:=c7.mp m;exact⟨a,g,dX i⟩
 unfold io jx;rw[e];by_cases c:d.contains t=true
 .rw[wB c,wB c,<-h,hZ];refine pC λa _=>?_;show(if a.1=nk t then(a.1,v)else a).1=a.1;split<;>rfl
 .rw[wA c,wA c,eE,eE,h];rfl
theorem AS{i:Type}{lt:i->i->Bool}(j: ∀x,lt x x=false)(k: ∀x y z,lt x y=true->lt y z=true->lt x z=true): ∀{c d:List i},c.Pairwise (λx y=>lt x y=true)->d.Pairwise (λx y=>lt x y=true)->(∀x,x∈c↔x∈d)->c=d
 | [],[],_,_,_=>rfl
 | [],q::d,_,_,h=>wC ((h q).mpr (dP ..)) (by simp)
 |p::c,[],_,_,h=>wC ((h p).mp (dP ..)) (by simp)
 | p::c,q::d,n,o,h=>by
  obtain⟨l,s⟩:=qC.mp n;obtain⟨m,t⟩:=qC.mp o;have no: ∀{x y:i},lt x y=true->lt y x=true->False:=λ{x y} a b=>by
   have:=k _ _ _ a b;rw[j]at this;cases this
  have u:p=q:=by
   rcases dQ.mp ((h p).mp (dP ..))with e|e
   .exact e
   .rcases dQ.mp ((h q).mpr (dP ..))with e'|e'
    .exact e'.symm
    .exact(no (m p e) (l q e')).elim
  subst u;have rest:c=d:=AS j k s t λr=>by
   constructor
   .intro g
    rcases dQ.mp ((h r).mp (fc _ g))with e|e
    .subst e;have:=l r g;rw[j]at this;cases this
    .exact e
   .intro g
    rcases dQ.mp ((h r).mpr (fc _ g))with e|e
    .subst e;have:=m r g;rw[j]at this;cases this
    .exact e
  rw[rest]
def EQ:Sp:=λe H Q _=> ∃(l:Ad) (d:As) (a U:LN),e=[.ref l]/\H l=some (.lst (d.map .ref))/\TupsAt H d a/\(∀t∈a,t∈U)/\U.length<64/\a.length<=4000/\
 ∀D bs c b,Same H b->H D=none->b D=some (.lst (bs.map .ref))->TupsAt b bs c->(∀x,x∈c↔x∈a)->c.Pairwise (λx y=>fN gl x y=true)->Q (.ref D) b
def Mv(F:Fun K "place_of" "place_of" Az f fd)(d:mg "len"=none):FnOk P w K mg base cZ 1 f fd ["rooms"] (r4 gl):=by
 refine F.ok J1 (λe H Q E h=>?_) (λg A b s H e Q E k h=>?_)
 .obtain⟨a,t,rfl,_⟩:=h;rfl
 obtain⟨a,t,rfl,i,q⟩:=h;refine⟨_,(cS (dH (iT (de (cB (u6 Gg (eZ fZ rfl d fV (cJ (pv 0) cI))) (cB (pv 0) c8 rfl) rfl))))),?_⟩;refine⟨_,rfl,a,_,rfl,.inr (SqT.of i),_,rfl,_,rfl,by show 2<=sizeLine;decide,λj c=>?_⟩;refine q j _ (cL c _) ?_;rw[cC,cz];rfl
def Hy(F:Fun K "in_order" "in_order" Ao f fd)(N:dA P w K mg base "place_of" 1 ["rooms"] (r4 gl))(O:mg "sorted"=none):FnOk P w K mg base cZ 5 f fd ["sets"] EQ:=by
 refine F.ok rJ (λY H Q E h=>?_) (λaa A r s H Y Q E u h=>?_)
 .obtain⟨l,z,c,U,rfl,_⟩:=h;rfl
 obtain⟨l,z,c,U,rfl,B,T,inU,few,C,q⟩:=h;have hu:=u.units;have v:=hR u;refine⟨_,(cN (dm (i:=1) rJ.nd rfl (Or.inl rfl) tX) (cN (gK gk rfl (gL (pv 0)) (eQ (i:=2) rJ.nd rfl (Or.inl rfl)) (cS (qp v (pv 1) (pv 2) yf rfl))) (cS (dH (KR rfl hu N u.m rfl O rfl (pv 1)))))),?_⟩;intro d G;have I:=cL G (.dT []);have la:=T.len;obtain⟨un,J⟩:=A2 c;refine⟨_,rfl,l,rfl,⟨_,SqL.of (I _ _ B)⟩,mv (xs:=z.map .ref) (λi n j=>Same H j/\ ∃b o,j d=some (.dT b)/\b.map (·.1)=(uniq (c.take i)).map nk/\n=[some (.ref l),some (.ref d),o]) ⟨I,[],none,cC,rfl,rfl⟩ (λi n j _ p=>SqL.of (p.1 _ _ B)) (λi x n j e p=>?_) (λn j p=>?_)⟩
 .obtain⟨g,b,o,y,k,rfl⟩:=p;rw[cQ]at e;obtain⟨a,L,rfl⟩:=eC.mp e;have li:=(cK.mp L).1;obtain⟨t,M⟩: ∃t,c[i]? =some t:=⟨_,cA (by lia)⟩;have ha:=g _ _ (T.is i a t L M);have lk:b.length<=c.length:=by
   rw[<-cz (f:=(·.1)) (as:=b),k,cz];refine dE (nV (A2 _).1 (U:=c) λx e=>?_) (cM _);exact r9 (((A2 _).2 x).mp e)
  refine⟨_,rfl,_,rfl,d,_,rfl,DPut.t y (by rw[ip];exact ha) (by rw[dC];lia),?_⟩;refine⟨fQ g G,_,_,cC,?_,rfl⟩;rw[Js k,hG,M];show _=(uniq (c.take i++[t])).map nk;rw[MD]
 .obtain⟨g,b,o,y,k,rfl⟩:=p;rw[cz,la,gj]at k;have lu:(uniq c).length<64:=sZ (nV un λx e=>inU x ((J x).mp e)) few;refine⟨_,rfl,d,rfl,d,b,uniq c,rfl,y,k,lu,λD bs us H2 g2 hD eD T2 m pw=>?_⟩;exact q D bs us H2 (g.trans g2) (g.free hD) eD T2 (λx=>(m.mem_iff).trans (J x)) pw
def PicsAt(H:Hp)(l:Ad)(d:As)(e:TW):Prop:=H l=some (.lst (d.map .ref))/\d.length=e.length/\ ∀(j:Nat) (a:Ad) (p:cu×cu),d[j]? =some a->e[j]? =some p-> ∃b c,c≠l/\H a=some (.tup [.ref b,.ref c])/\H b=some (.tup (p.1.map nv))/\H c=some (.lst (p.2.map nv))
def D9(T:Ad)(pos:Pos):Sp:=λd H Q _=> ∃(m:Ad) (b:LN) (n:Nat),d=[.ref m]/\Mach H m b n/\Tabs H/\
 ∀l e c a,Keeps H a->Tabs a->PicsAt a l e c->Told (cE b) b.length (List.range n) c->Q (.ref l) a
def fX(a:cu):List Dt:=(a.map λ(n:Nat)=>(n:Int)).map Dt.int
def yQ{a b:cu}(h:fX a=fX b):a=b:=dy.mp (dL Dt.tup h)
def CM{n:Nat}(h:n<=5):List.range n∈dW n:=by
 have z: ∀k:Fin 6,fb (List.range k)=List.range k:=by decide+kernel
 exact cD.mpr ⟨z ⟨n,by lia⟩,λr a=>fq.mp a⟩
def Im{T:Ad}(F:Fun K "pictures" "pictures" zE f fd)(kQ:dA P w K mg base "still" 1 ["rooms"] wU)(jP:dA P w K mg base "sets_reached" 10 ["machine","rooms"] (yP T (⟨49,40,49,93⟩:Pos)))(jB:mg "len"=none)(qL:mg "list"=none):
  FnOk P w K mg base cZ 12 f fd ["machine"] (D9 T (⟨49,40,49,93⟩:Pos)):=by
 refine F.ok rN (λvs H Q E h=>?_) (λaa A g s H vs Q E G h=>?_)
 .obtain⟨m,I,n,rfl,_⟩:=h;rfl
 obtain⟨m,I,n,rfl,M,hT,q⟩:=h;have t1:=M.some1;have n5:=M.n5;obtain⟨_,r0,b1,b2,b3,b4,b5,b6⟩:=M.at (l:=0) (by lia);refine⟨_,(cN (dm (i:=1) rN.nd rfl (Or.inl rfl) (dD jP G.m rfl (de (cB (pv 0) (cB (dD kQ G.m rfl (cJ (eZ fZ rfl jB fV (cJ (cX dz (pv 0) cV (λ_ _=>rfl)) cI)) cI)) c8 rfl) rfl)))) (cS (dH (gY (Jm rfl) rfl qL boot_list (cJ (GD PySem.F.plainAttrs_dict PySem.F.slot_dict_items PySem.F.type_dict_items Ku (pv 1)) cI))))),?_⟩;refine⟨_,rfl,_,rfl,m,_,_,_,rfl,rfl,SqT.of b1,b3,r0,_,rfl,.inr (SqT.of b4),?_⟩
 try dsimp only
 rw[cz,b5];refine⟨n,rfl,by lia,λst H1 r t=>⟨m,st,I,n,List.range n,rfl,M.same r,t,CM n5,hT.same r,λD ws as J k2 T2 W _ TT=>?_⟩⟩;refine⟨_,rfl,.inr (.inr (.inl ⟨rfl,.inr ⟨_,W.dict⟩⟩)),rfl,D,_,rfl,W.dict,λv hv=>?_⟩;have u:=cL hv (sI v D);refine⟨v,D,_,rfl,cC,u _ _ W.dict,λl ps y d=>?_⟩;have B:Same (cw J v (sI v D)) y:=λb o e=>by
  rw[d.rest b (dO e d.new) λz=>by rw[d.news b z]at e;cases e];exact e
 have L:Same J y:=u.trans B;refine q l ps ws y ((r.keeps.trans k2).trans L.keeps) (T2.same L) ⟨d.lst,by rw[d.len,Cz W.len],λj a p t C=>?_⟩ TT;obtain⟨k,x,b,N,O,f3⟩:=d.is j a t;obtain⟨hj,_⟩:=cK.mp C;obtain⟨c,U⟩: ∃c,as[j]? =some c:=⟨_,cA (by rw[W.len];exact hj)⟩;rw[Go C U]at N;cases N;have Y:=u _ _ (W.list j c p U C);rw[ip]at O;exact⟨b,c,dO Y d.new,f3,B _ _ O,B _ _ Y⟩
def B4{a b:cu}(h: ∀r,r∈a↔r∈b):fb a=fb b:=by
 unfold fb;refine qz λi _=>?_;rw[iZ,fY,fY];exact h i
def sj{H:Hp}{m:Ad}{a:LN}{n:Nat}(M:Mach H m a n){x:cu}{l:Nat}(b:x∈dW n)(c:l<a.length):cE a x l∈dW n:=by
 obtain⟨i,d⟩:=cD.mp b;refine cD.mpr ⟨DX _,λr e=>?_⟩;obtain⟨y,g,rfl⟩:=c7.mp (vT e);exact lK M [l] y (d y g) λz h=>by rw[dj.mp h];exact c
theorem xx{H:Hp}{m:Ad}{a:LN}{n:Nat}(M:Mach H m a n): ∀(word:cu) (x:cu),x∈dW n->(∀l∈word,l<a.length)->di (cE a) x word=fb (kv a x word)
 | [],x,c,_=>by
  show x=fb (x.map λr=>eG a r []);rw[show(λr=>eG a r [])=id from rfl,List.map_id];exact(cD.mp c).1.symm
 | l::word,x,c,h=>by
  have e:=h l (dP ..);have g:=M.n5;show di (cE a) (cE a x l) word=_;rw[xx M word _ (sj M c e) λy b=>h y (fc _ b)];refine B4 λr=>?_;unfold kv;rw[c7,c7];constructor
  .rintro⟨y,b,rfl⟩;obtain⟨z,d,rfl⟩:=c7.mp (vT b);exact⟨z,d,rfl⟩
  .rintro⟨z,d,rfl⟩;have i:=lK M [l] z ((cD.mp c).2 z d) λy b=>by rw[dj.mp b];exact e
   exact⟨eG a z [l],Cd (c7.mpr ⟨z,d,rfl⟩) (by lia),rfl⟩
theorem AA{b:Type}{P:Nat->b->Prop}: ∀{n:Nat},(∀j,j<n-> ∃x,P j x)-> ∃a:List b,a.length=n/\ ∀(j:Nat) (x:b),a[j]? =some x->P j x
 |0,_=>⟨[],rfl,λj x e=>by simp at e⟩
 | n+1,h=>by
  obtain⟨a,c,d⟩:=AA (n:=n) λj g=>h j (by lia);obtain⟨x,i⟩:=h n (by lia);refine⟨a++[x],by simp[c],λj y e=>?_⟩;by_cases g:j<n
  .rw[e8 (by lia)]at e;exact d j y e
  .rw[eU (by lia)]at e;have z:j-a.length=0:=by
    have:=(cK.mp e).1;simp at this;lia
   rw[z]at e;cases e;have k:j=n:=by lia
   subst k;exact i
structure Prs(H:Hp)(l:Ad)(as:As)(bc:List (Ad×Ad))(ws:TW):Prop where
 lst:H l=some (.lst (as.map .ref))
 la:as.length=ws.length
 lb:bc.length=ws.length
 is: ∀(j:Nat) (a:Ad) (q:Ad×Ad) (p:cu×cu),as[j]? =some a->bc[j]? =some q->ws[j]? =some p->q.2≠l/\H a=some (.tup [.ref q.1,.ref q.2])/\H q.1=some (.tup (p.1.map nv))/\H q.2=some (.lst (p.2.map nv))
def PicsAt.prs{H:Hp}{l:Ad}{i:As}{d:TW}(h:PicsAt H l i d): ∃o,Prs H l i o d:=by
 obtain⟨r,s,t⟩:=h;obtain⟨o,u,v⟩:=AA (n:=d.length) (P:=λj (q:Ad×Ad)=> ∀a p,i[j]? =some a->d[j]? =some p->q.2≠l/\H a=some (.tup [.ref q.1,.ref q.2])/\H q.1=some (.tup (p.1.map nv))/\H q.2=some (.lst (p.2.map nv))) λj x=>by
  obtain⟨a,k⟩: ∃a,i[j]? =some a:=⟨_,cA (by lia)⟩;obtain⟨p,m⟩: ∃p,d[j]? =some p:=⟨_,cA x⟩;obtain⟨b,c,y,z,A,B⟩:=t j a p k m;refine⟨(b,c),λD E e g=>?_⟩;rw[k]at e;rw[m]at g;cases e;cases g;exact⟨y,z,A,B⟩
 exact⟨o,r,s,u,λj a q p k C m=>v j q C a p k m⟩
def Prs.at{H:Hp}{l:Ad}{as:As}{c:List (Ad×Ad)}{b:TW}(h:Prs H l as c b){j:Nat}(i:j<b.length): ∃a q p,as[j]? =some a/\c[j]? =some q/\b[j]? =some p/\q.2≠l/\H a=some (.tup [.ref q.1,.ref q.2])/\H q.1=some (.tup (p.1.map nv))/\H q.2=some (.lst (p.2.map nv)):=by
 have k:=h.la;have m:=h.lb;obtain⟨a,d⟩: ∃a,as[j]? =some a:=⟨_,cA (by lia)⟩;obtain⟨q,e⟩: ∃q,c[j]? =some q:=⟨_,cA (by lia)⟩;obtain⟨p,g⟩: ∃p,b[j]? =some p:=⟨_,cA i⟩;exact⟨a,q,p,d,e,g,h.is j a q p d e g⟩
def Bk(a:LN)(n:Nat)(x:cu):Prop:= ∃word:cu,(∀l∈word,l<a.length)/\di (cE a) (List.range n) word=x
structure FamOf(ts:LN)(n:Nat)(us:LN):Prop where
 up:us.Pairwise λx y=>fN gl x y=true
 mem: ∀x,x∈us↔(Bk ts n x∨ ∃r,r<n/\x=[r])
def FamOf.uniq{b:LN}{n:Nat}{a c:LN}(d:FamOf b n a)(e:FamOf b n c):a=c:=AS (lM gl a).irr (lM gl a).trans d.up e.up λx=>(d.mem x).trans (e.mem x).symm
def At{a:LN}{n:Nat}{b:TW}(T:Told (cE a) a.length (List.range n) b)(x:cu):x∈b.map (·.1)↔Bk a n x:=by
 constructor
 .intro h;obtain⟨p,c,rfl⟩:=c7.mp h;obtain⟨d,e⟩:=T.run p c;exact⟨p.2,d,e⟩
 .rintro⟨word,g,rfl⟩;obtain⟨u,i,_⟩:=T.least _ word rfl g;exact c7.mpr ⟨_,i,rfl⟩
def sQ{n r:Nat}(b:n<=5)(h:r<n):[r]∈dW n:=by
 have z: ∀k:Fin 5,fb [(k:Nat)]=[(k:Nat)]:=by decide+kernel
 exact cD.mpr ⟨z ⟨r,by lia⟩,λx a=>by rw[dj.mp a];exact h⟩
def zI{H:Hp}{m:Ad}{a:LN}{n:Nat}(M:Mach H m a n){x:cu}(h:Bk a n x):x∈dW n:=by
 obtain⟨word,b,rfl⟩:=h;exact qo (CM M.n5) (λy c l d=>sj M c d) word b
def zC(n:Nat):(dW n).length<=32:=dE (gZ _ _) (by rw[cz,iY];decide)
def FamOf.inU{H:Hp}{m:Ad}{a:LN}{n:Nat}{b:LN}(M:Mach H m a n)(h:FamOf a n b){x:cu}(c:x∈b):x∈dW n:=by
 rcases (h.mem x).mp c with z|⟨r,d,rfl⟩
 .exact zI M z
 .exact sQ M.n5 d
def FamOf.few{H:Hp}{m:Ad}{d:LN}{n:Nat}{c:LN}(M:Mach H m d n)(h:FamOf d n c):c.length<=32:=by
 refine dE (nV (U:=dW n) ?_ λx g=>h.inU M g) (zC n);exact h.up.imp λ{a b} z e=>by
  subst e;rw[(lM gl c).irr]at z;cases z
def oO{n:Nat}(a:n<=5){x:cu}(h:x∈dW n):x.length<=n:=by
 obtain⟨b,c⟩:=cD.mp h;rw[<-b,KL a c];exact dE (gZ _ _) (by simp)
def oi{H:Hp}{d:Ad}{o c:HO}{bs:As}{a:LN}(T:TupsAt H bs a)(h:H d=some o)(no: ∀g,o≠ .tup g):TupsAt (cw H d c) bs a:=⟨T.len,λi b u j k=>by
 have z:=T.is i b u j k;rw[cF (iE z h λe=>no _ e.symm)];exact z⟩
def qt{H:Hp}{bs:As}{d:LN}{p:Ad}{u:cu}(h:TupsAt H bs d)(e:H p=some (.tup (u.map nv))):TupsAt H (bs++[p]) (d++[u]):=by
 refine⟨by simp[h.len],λi b v c a=>?_⟩;have l:=h.len;by_cases g:i<d.length
 .rw[e8 (by lia)]at c a;exact h.is i b v c a
 .rw[eU (by lia)]at c a;have z:i-d.length=0:=by
   have:=(cK.mp a).1;simp at this;lia
  rw[l,z]at c;rw[z]at a;cases c;cases a;exact e
def Jo{H:Hp}{bs e:As}{d g:LN}(h:TupsAt H bs d)(j:TupsAt H e g):TupsAt H (bs++e) (d++g):=by
 refine⟨by simp[h.len,j.len],λi b v a c=>?_⟩;have l:=h.len;by_cases k:i<d.length
 .rw[e8 (by lia)]at a c;exact h.is i b v a c
 .rw[eU (by lia)]at a c;rw[l]at a;exact j.is _ b v a c
def FT{c d:LN}(h:(Dt.lst (c.map λu=> .tup (fX u)))=Dt.lst (d.map λu=> .tup (fX u))):c=d:=by
 injection h with h
 exact oH (λa b e=>by injection e with e;exact yQ e) h
def Bx(T:Ad)(pos:Pos):Sp:=λd H Q _=> ∃(m:Ad) (b:LN) (n:Nat),d=[.ref m]/\Mach H m b n/\Tabs H/\
 ∀D bs c a,Keeps H a->Tabs a->L2.noT H D=none->a D=some (.lst (bs.map .ref))->TupsAt a bs c->FamOf b n c->Q (.ref D) a
def Iv{T:Ad}(F:Fun K "family" "family" rq f fd)(rB:dA P w K mg base "pictures" 12 ["machine"] (D9 T (⟨49,40,49,93⟩:Pos)))(rC:dA P w K mg base "in_order" 5 ["sets"] EQ)(jB:mg "len"=none)(jD:mg "range"=none):FnOk P w K mg base cZ 14 f fd ["machine"] (Bx T (⟨49,40,49,93⟩:Pos)):=by
 refine F.ok rS (λvs H Q E h=>?_) (λak A aa s H vs Q E hr h=>?_)
 .obtain⟨m,ts,n,rfl,_⟩:=h;rfl
 obtain⟨m,ts,n,rfl,M,hT,q⟩:=h;have t1:=M.some1;have n1:=M.n1;have n5:=M.n5;obtain⟨_,r0,b1,b2,b3,b4,b5,b6⟩:=M.at (l:=0) (by lia);refine⟨_,(cN (Cy (CompSc.to (N:=["machine","singles"]) (osc:=cU rq) (vs:=["room"]) {}) rfl rfl rS.nd (j:=1) rfl rfl (mK rfl jD (cJ (eZ fZ rfl jB fV (cJ (cX dz (pv 0) cV (λ_ _=>rfl)) cI)) cI)) (λ_ _ _ _=>iu) (λ_ _ _ _=>(iT (cJ (pv 0) cI)))) (cS (dH (dD rC hr.m rfl (cJ (gC Bd (Cb (CompSc.to (N:=["machine","singles"]) (osc:=cU rq) (vs:=["rooms","word"]) {}) rfl (gL (dD rB hr.m rfl (cJ (pv 0) cI))) (Gp (CompSc.to (N:=["machine","singles"]) (osc:=cU rq) (vs:=["rooms","word"]) {}) rfl rfl rfl) (λ_ _ _ _=>iu) (λ_ _ _ _=>(pv 0))) (pv 1)) cI))))),?_⟩;refine⟨_,rfl,m,_,_,_,rfl,rfl,SqT.of b1,b3,r0,_,rfl,.inr (SqT.of b4),(n:Int),by rw[cz,b5],by lia,by lia,t8 (λi d c=>Same H c/\ ∃a,d=a.map V.ref/\a.length=i/\TupsAt c a ((List.range i).map λr=>[r])) (by rw[hV];exact small (by lia)) ⟨Same.refl _,[],rfl,rfl,rfl,λi b u e=>by simp at e⟩ (λi d c _ p=>?_) (λi d c hi p=>?_) (λd H1 p U ab=>?_)⟩
 .obtain⟨_,a,rfl,e,_⟩:=p;rw[cz];lia
 .obtain⟨g,a,rfl,e,Y⟩:=p;have e0:V.int (0+(i:Int))=nv i:=by show V.int (0+(i:Int))=V.int (i:Int);rw[rh]
  refine⟨hI,jm ⟨_,rfl,by show 1<=sizeLine;decide,λp hp=>?_⟩⟩;have k:=cL hp (.tup [V.int (0+(i:Int))]);refine⟨g.trans k,a++[p],by simp,by simp[e],?_⟩;rw[List.range_succ,eE];refine qt (Y.same k) ?_;rw[cC,e0];rfl
 obtain⟨g1,a,rfl,er,Y⟩:=p;rw[hV]at Y er;have k1:=cL ab (.lst (a.map V.ref));have I:cw H1 U (.lst (a.map V.ref)) U=some (.lst (a.map V.ref)):=cC;have T2:=Y.same k1;have B:=g1.trans k1;generalize cw H1 U (.lst (a.map V.ref))=H2 at k1 I T2 B⊢;refine⟨_,rfl,m,ts,n,rfl,M.same B,hT.same B,λl as ws H3 k3 T3 ae TT=>?_⟩;obtain⟨bc,C⟩:=ae.prs;have aj:=(M.same B);have few:ws.length<=32:=by
  rw[<-cz (f:=(·.1)) (as:=ws)];exact dE (nV TT.keys λx hx=>zI M ((At TT x).mp hx)) (zC n)
 refine⟨l,rfl,⟨_,SqL.of C.lst⟩,lB (xs:=as.map .ref) (λi d c=>c=H3/\ ∃bs,d=bs.map V.ref/\bs.length=i/\TupsAt H3 bs ((ws.take i).map (·.1))) (by rw[cz,C.la,dC];lia) ⟨rfl,[],rfl,rfl,rfl,λi b u e=>by simp at e⟩ (λi d c _ p=>?_) (λi v d c hv p=>?_) (λd c p c1 af=>?_)⟩
 .obtain⟨rfl,bs,rfl,e,_⟩:=p;exact⟨SqL.of C.lst,by rw[cz];lia⟩
 .obtain⟨rfl,bs,rfl,e,J⟩:=p;rw[cQ]at hv;obtain⟨a1,ea,rfl⟩:=eC.mp hv;obtain⟨a',q',p',L,al,ag,f0,f1,f2,f3⟩:=C.at (j:=i) (by have:=(cK.mp ea).1;rw[<-C.la];exact this);rw[ea]at L;cases L;refine⟨a1,_,rfl,SqT.of f1,rfl,_,_,rfl,_,_,rfl,rfl,FQ,jm ⟨_,rfl,rfl,bs++[q'.1],by simp,by simp[e],?_⟩⟩;rw[hG,ag,eE];exact qt J f2
 obtain⟨rfl,bs,rfl,e,J⟩:=p;rw[cz,C.la,gj]at J;have G:=cL af (.lst (bs.map V.ref));have O:=G _ _ (k3 _ _ (nU I));have T5:TupsAt (cw c c1 (.lst (bs.map V.ref))) a ((List.range n).map λr=>[r]):=⟨T2.len,λi b u e1 e2=>G _ _ (k3 _ _ (nU (T2.is i b u e1 e2)))⟩;have lb:bs.length=ws.length:=by rw[J.len,cz]
 refine⟨_,rfl,c1,U,_,_,rfl,rfl,SqL.of cC,SqL.of O,by rw[cz,cz,lb,er,dC];lia,λl2 ah=>?_⟩;have k2:=cL ah (.lst (bs.map V.ref++a.map V.ref));have T6:=(Jo (J.same G) T5).same k2;refine⟨l2,bs++a,_,dW n,rfl,by rw[cC,eE],T6,λt ht=>?_,sZ (zC n) (by decide),by rw[dF,cz,cz,iY];lia,λD ds us H5 g5 hD eD T7 mem up=>?_⟩
 .rcases dw.mp ht with z|z
  .exact zI M ((At TT t).mp z)
  .obtain⟨r,ai,rfl⟩:=c7.mp z;exact sQ n5 (fq.mp ai)
 .have kk:Keeps H H5:=((B.keeps.trans k3).trans (G.trans k2).keeps).trans g5.keeps;refine q D ds us H5 kk (T3.same ((G.trans k2).trans g5)) ?_ eD T7 ⟨up,λx=>?_⟩
  .cases y:L2.noT H D with
   |none=>rfl
   |some o=>
    have z:=(G.trans k2) _ _ ((B.keeps.trans k3) _ _ y);rw[hD]at z;cases z
  .rw[mem x,dw,At TT x];refine or_congr Iff.rfl ?_;rw[c7];constructor
   .rintro⟨r,h1,rfl⟩;exact⟨r,fq.mp h1,rfl⟩
   .rintro⟨r,h1,rfl⟩;exact⟨r,fq.mpr h1,rfl⟩
def sub(x y:cu):Bool:=x.all λr=>y.contains r
def xL:Sp:=λd H Q _=> ∃(a b:Ad) (x y:cu),d=[.ref a,.ref b]/\H a=some (.tup (x.map nv))/\H b=some (.tup (y.map nv))/\x.length<=5/\ ∀c,Same H c->Q (.bl (sub x y)) c
def gW(a:LN)(x:cu):LN:=a.filter λu=>decide (u≠x)&&sub u x
def j7(a:LN)(u:cu):Bool:=a.any λv=>decide (v≠u)&&sub u v
def hA(a:LN)(x:cu):LN:=(gW a x).filter λu=> !j7 (gW a x) u
def B8:Sp:=λd H Q _=> ∃(a l:Ad) (x:cu) (bs:As) (b:LN),d=[.ref a,.ref l]/\H a=some (.tup (x.map nv))/\H l=some (.lst (bs.map .ref))/\TupsAt H bs b/\x.length<=5/\b.length<=32/\ ∀c,Same H c->Q (.bl (j7 b x)) c
def F3(T:Ad)(pos:Pos):Sp:=λe H Q _=> ∃(m p:Ad) (c:LN) (n:Nat) (x:cu),e=[.ref m,.ref p]/\Mach H m c n/\H p=some (.tup (x.map nv))/\Tabs H/\
 ∀D bs d a b,Keeps H b->Tabs b->L2.noT H D=none->b D=some (.lst (bs.map .ref))->TupsAt b bs d->FamOf c n a->d=hA a x->Q (.ref D) b
def wY{H:Hp}{d:As}{b:LN}{f:cu->Bool}{i:Nat}{a:Ad}{t:cu}(T:TupsAt H d ((b.take i).filter f))(e:b[i]? =some t)(g:H a=some (.tup (t.map nv))):if f t=true then TupsAt H (d++[a]) ((b.take (i+1)).filter f)else TupsAt H d ((b.take (i+1)).filter f):=by
 have h:(b.take (i+1)).filter f=(b.take i).filter f++(if f t=true then[t]else[]):=by
  rw[hG,e,oC];cases c:f t with
  |true=>simp[c]
  |false=>simp[c]
 rw[h];cases c:f t with
 |true=>exact qt T g
 |false=>
  rw[wA (by decide),wA (by decide),gV];exact T
def Ij(F:Fun K "lies_in" "lies_in" v0 f fd)(g:mg "all"=none):FnOk P w K mg base cZ 1 f fd ["one","other"] xL:=by
 refine F.ok HD (λj H Q E h=>?_) (λk A c s H j Q E t h=>?_)
 .obtain⟨a,b,x,y,rfl,_⟩:=h;rfl
 obtain⟨a,b,x,y,rfl,d,m,u,q⟩:=h;refine⟨_,(cS (dH (eZ (J3 rfl) rfl g boot_all (cJ (gI (CompSc.to (N:=["one","other"]) (osc:=cU v0) (vs:=["room"]) {}) rfl rfl (pK (pv 0)) (λ_ _ _ _=>iu) (λ_ _ _ _=>(ut (OpR.k (K:=K) (λK=>vq K false) Gz rfl) (pv 0) (pv 2) (by with_unfolding_all rfl)))) cI)))),?_⟩;refine⟨_,rfl,a,rfl,⟨_,SqT.of d⟩,uj (f:=λv=>match v with| .int i=> .bl (y.contains i.toNat)|v=>v) (by rw[cz];exact small (by lia)) (SqT.of d) (λv Q n q=>?_) (λl o=>?_)⟩
 .obtain⟨r,z,rfl⟩:=c7.mp n;refine⟨_,rfl,_,rfl,b,_,rfl,.inr (SqT.of m),rfl,EJ _,?_⟩
  try dsimp only
  rw[DP];exact q
 .have e:(x.map nv).map (λv=>match v with| .int i=>V.bl (y.contains i.toNat)|v=>v)=(x.map λr=>y.contains r).map V.bl:=by
   rw[hZ,hZ];rfl
  try dsimp only
  rw[e];refine⟨l,_,rfl,SqL.of cC,?_⟩;have p:(x.map λr=>y.contains r).all id=sub x y:=by
   unfold sub;rw[List.all_map];rfl
  try dsimp only
  rw[p];exact q _ (cL o _)
def K3(F:Fun K "is_covered" "is_covered" xt f fd)(L:dA P w K mg base "lies_in" 1 ["one","other"] xL)(M:mg "any"=none):FnOk P w K mg base cZ 3 f fd ["part","sets"] B8:=by
 refine F.ok Hs (λO H Q E h=>?_) (λU A n s H O Q E r h=>?_)
 .obtain⟨a,l,x,bs,d,rfl,_⟩:=h;rfl
 obtain⟨a,l,x,bs,d,rfl,Y,t,T,l5,few,q⟩:=h;have hu:=r.units;have lb:=T.len;refine⟨_,(cS (dH (eZ (E8 rfl) rfl M boot_any (cJ (gI (CompSc.to (N:=["part","sets"]) (osc:=cU xt) (vs:=["other"]) {}) rfl rfl (gL (pv 1)) (λ_ _ _ _=>iu) (λ_ _ _ _=>(xS (ut (OpR.k (K:=K) (λK=>ow K true) (va hu) rfl) (pv 0) (pv 1) (fT _)) (wL (dD L r.m rfl (de (cB (pv 1) (cB (pv 0) c8 rfl) rfl))))))) cI)))),?_⟩;refine⟨_,rfl,l,rfl,⟨_,SqL.of t⟩,lB (xs:=bs.map .ref) (λi k m=>Same H m/\k=((d.take i).map λv=>decide (v≠x)&&sub x v).map V.bl) (by rw[cz,dC];lia) ⟨Same.refl _,rfl⟩ (λi k m hi p=>?_) (λi v k m y p=>?_) (λk m p c1 o=>?_)⟩
 .obtain⟨g,rfl⟩:=p;exact⟨SqL.of (g _ _ t),by simp;lia⟩
 .obtain⟨g,rfl⟩:=p;rw[cQ]at y;obtain⟨b,B,rfl⟩:=eC.mp y;have li:=(cK.mp B).1;obtain⟨u,C⟩: ∃u,d[i]? =some u:=⟨_,cA (by lia)⟩;have D:=g _ _ (T.is i b u B C);have G:=g _ _ Y;have I:((d.take (i+1)).map λv=>decide (v≠x)&&sub x v).map V.bl=((d.take i).map λv=>decide (v≠x)&&sub x v).map V.bl++[V.bl (decide (u≠x)&&sub x u)]:=by
   rw[hG,C,eE,eE];rfl
  refine⟨hI,jm ?_⟩;refine⟨_,rfl,_,rfl,b,a,0,_,_,rfl,rfl,gu (SqT.of D),gu (SqT.of G),by decide,λc J=>?_⟩;by_cases e:u=x
  .have j:c=true:=J.mpr (dy.mpr e);subst j;refine⟨_,rfl,fj ⟨g,?_⟩⟩;rw[I,fg (λz=>z e)];rfl
  .have j:c=false:=by
    cases c with
    |false=>rfl
    |true=>exact wC (dy.mp (J.mp rfl)) e
   subst j;refine⟨_,rfl,fm ⟨_,rfl,_,rfl,a,b,x,u,rfl,G,D,l5,λH4 g4=>⟨g.trans g4,?_⟩⟩⟩;rw[I,dX e,sF]
 .obtain⟨g,rfl⟩:=p;rw[cz,lb,gj];have e2:(d.map λv=>decide (v≠x)&&sub x v).any id=j7 d x:=by
   unfold j7;rw[wK];rfl
  refine⟨c1,_,rfl,SqL.of cC,?_⟩
  try dsimp only
  rw[e2];exact q _ (g.trans (cL o _))
def Ha{T:Ad}(F:Fun K "tiles" "tiles" uw f fd)(qH:dA P w K mg base "family" 14 ["machine"] (Bx T (⟨49,40,49,93⟩:Pos)))(jX:dA P w K mg base "lies_in" 1 ["one","other"] xL)(qM:dA P w K mg base "is_covered" 3 ["part","sets"] B8):FnOk P w K mg base cZ 16 f fd ["machine","rooms"] (F3 T (⟨49,40,49,93⟩:Pos)):=by
 refine F.ok rV (λvs H Q E h=>?_) (λag A ab s H vs Q E hr h=>?_)
 .obtain⟨m,p,ts,n,x,rfl,_⟩:=h;rfl
 obtain⟨m,p,ts,n,x,rfl,M,hp,hT,q⟩:=h;have hu:=hr.units;have n5:=M.n5;refine⟨_,(cN (dm (i:=2) rV.nd rfl (Or.inr rfl) (gI (CompSc.to (N:=["machine","rooms","within"]) (osc:=cU uw) (vs:=["part"]) {}) rfl rfl (gL (dD qH hr.m rfl (cJ (pv 0) cI))) (λ_ _ _ _=>oo (PW.pt (pi (gq (OpR.k (K:=K) (λK=>ow K true) (va hu) rfl) (pv 0) (pv 2) (fT _)) (pV (pF (dD jX hr.m rfl (de (cB (pv 0) (cB (pv 2) c8 rfl) rfl)))))))) (λ_ _ _ _=>(pv 0)))) (cS (dH (gI (CompSc.to (N:=["machine","rooms","within"]) (osc:=cU uw) (vs:=["part"]) {}) rfl rfl (gL (pv 2)) (λ_ _ _ _=>oo (vF (pF (dD qM hr.m rfl (de (cB (pv 0) (cB (pv 3) c8 rfl) rfl)))))) (λ_ _ _ _=>(pv 0)))))),?_⟩;refine⟨_,rfl,m,ts,n,rfl,M,hT,λl bs a H1 k1 T1 nl el Tf ff=>?_⟩;have few:=ff.few M;have lb:=Tf.len;have ae:=k1 _ _ (nU hp);have l5: ∀u∈a,u.length<=5:=λu h=>dE (oO n5 (ff.inU M h)) n5;refine⟨l,rfl,⟨_,SqL.of el⟩,lB (xs:=bs.map .ref) (λi k r=>Same H1 r/\ ∃d,k=d.map V.ref/\d.length<=i/\TupsAt r d ((a.take i).filter λu=>decide (u≠x)&&sub u x)) (by rw[cz,dC];lia) ⟨Same.refl _,[],rfl,cM _,rfl,λi b u e=>by simp at e⟩ (λi k r hi p=>?_) (λi v k r L p=>?_) (λk H2 p O af=>?_)⟩
 .obtain⟨g,d,rfl,e,_⟩:=p;exact⟨SqL.of (g _ _ el),by rw[cz];exact e⟩
 .obtain⟨g,d,rfl,e,U⟩:=p;rw[cQ]at L;obtain⟨b,Y,rfl⟩:=eC.mp L;have li:=(cK.mp Y).1;obtain⟨u,B⟩: ∃u,a[i]? =some u:=⟨_,cA (by lia)⟩;have C:=g _ _ (Tf.is i b u Y B);have hx:=g _ _ ae;refine⟨hI,_,rfl,_,rfl,b,_,0,_,_,rfl,rfl,gu (SqT.of C),gu (SqT.of hx),by decide,λc hc=>⟨_,rfl,?_⟩⟩;by_cases ex:u=x
  .have G:c=true:=hc.mpr (dy.mpr ex);subst G;have z:=wY U B C;rw[fg (λz=>z ex),vZ,wA (by decide)]at z;refine fj (fj ⟨g,d,rfl,by lia,z⟩)
  .have G:c=false:=by
    cases c with
    |false=>rfl
    |true=>exact wC (dy.mp (hc.mp rfl)) ex
   subst G;refine fm ⟨_,rfl,_,rfl,b,_,u,x,rfl,C,hx,l5 u (cW B),λH4 I=>⟨_,rfl,?_⟩⟩;have z:=wY (U.same I) B (I _ _ C);rw[dX ex,sF]at z;cases c2:sub u x with
   |true=>
    rw[c2,wB rfl]at z;exact fm ⟨_,rfl,g.trans I,d++[b],by simp,by simp;exact e,z⟩
   |false=>
    rw[c2,wA (by decide)]at z;exact fj ⟨g.trans I,d,rfl,by lia,z⟩
 obtain⟨g2,d,rfl,_,U⟩:=p;rw[cz,lb,gj]at U;have Tw:TupsAt H2 d (gW a x):=U;have kw:=cL af (.lst (d.map V.ref));have t:cw H2 O (.lst (d.map V.ref)) O=some (.lst (d.map V.ref)):=cC;have J:=Tw.same kw;have g3:=g2.trans kw;generalize cw H2 O (.lst (d.map V.ref))=H3 at kw t J g3⊢;have lw:(gW a x).length<=32:=dE (gZ _ _) few;have lc:=Tw.len;have aa: ∀u∈gW a x,u∈a:=λu h=>(dJ.mp h).1;refine⟨_,rfl,O,rfl,⟨_,SqL.of t⟩,lB (xs:=d.map .ref) (λi k r=>Same H3 r/\ ∃j,k=j.map V.ref/\j.length<=i/\TupsAt r j (((gW a x).take i).filter λu=> !j7 (gW a x) u)) (by rw[cz,dC];lia) ⟨Same.refl _,[],rfl,cM _,rfl,λi b u e=>by simp at e⟩ (λi k r hi p=>?_) (λi v k r L p=>?_) (λk H4 p D hD=>?_)⟩
 .obtain⟨g,j,rfl,e,_⟩:=p;exact⟨SqL.of (g _ _ t),by rw[cz];exact e⟩
 .obtain⟨g,j,rfl,e,Td⟩:=p;rw[cQ]at L;obtain⟨b,Y,rfl⟩:=eC.mp L;have li:=(cK.mp Y).1;obtain⟨u,B⟩: ∃u,(gW a x)[i]? =some u:=⟨_,cA (by lia)⟩;have C:=g _ _ (J.is i b u Y B);refine⟨hI,_,rfl,_,rfl,b,O,u,d,gW a x,rfl,C,g _ _ t,J.same g,l5 u (aa u (cW B)),lw,λH5 g5=>⟨_,rfl,?_⟩⟩;have z:=wY (Td.same g5) B (g5 _ _ C);cases c2:j7 (gW a x) u with
  |true=>
   rw[c2,wA (by decide)]at z;exact fj ⟨g.trans g5,j,rfl,by lia,z⟩
  |false=>
   rw[c2,wB (by decide)]at z;exact fm ⟨_,rfl,g.trans g5,j++[b],by simp,by simp;exact e,z⟩
 obtain⟨I,j,rfl,_,Td⟩:=p;rw[cz,lc,gj]at Td;have kD:=cL hD (.lst (j.map V.ref));have gg:=g3.trans (I.trans kD);refine q D j _ a _ (k1.trans gg.keeps) (T1.same gg) ?_ cC (Td.same kD) ff rfl;cases y:L2.noT H D with
 |none=>rfl
 |some o=>
  have z:=(g3.trans I) _ _ (k1 _ _ y);rw[hD]at z;cases z
def Rch(ts:LN)(x y:cu):Prop:= ∃word:cu,(∀l∈word,l<ts.length)/\di (cE ts) x word=y
open Classical in
noncomputable def eF (a:LN) (x y:cu):Bool:=decide (Rch a x y)
def cH{a:LN}{x y:cu}:eF a x y=true↔Rch a x y:=by
 unfold eF;exact @decide_eq_true_iff _ (Classical.propDecidable _)
def Rch.refl(ts:LN)(x:cu):Rch ts x x:=⟨[],λ_ h=>(nomatch h),rfl⟩
def Rch.trans{ts:LN}{x y z:cu}(a:Rch ts x y)(b:Rch ts y z):Rch ts x z:=by
 obtain⟨u,c,rfl⟩:=a;obtain⟨v,d,rfl⟩:=b;refine⟨u++v,λl e=>(dw.mp e).elim (c l) (d l),?_⟩;unfold di;rw[nZ]
def zA{a:LN}{x:cu}{b:TW}(T:Told (cE a) a.length x b)(y:cu):y∈b.map (·.1)↔Rch a x y:=by
 constructor
 .intro h;obtain⟨p,c,rfl⟩:=c7.mp h;obtain⟨d,e⟩:=T.run p c;exact⟨p.2,d,e⟩
 .rintro⟨word,g,rfl⟩;obtain⟨u,i,_⟩:=T.least _ word rfl g;exact c7.mpr ⟨_,i,rfl⟩
abbrev WE:=Ad×TW×As
def fE(a:LN)(ys:List WE):List (List dr×V):=a3v (a.map λx=>(x,[])) (ys.map (·.1))
structure WB(H:Hp)(D:Ad)(ts:LN)(xs:LN)(ys:List WE):Prop where
 len:ys.length=xs.length
 each: ∀(i:Nat) (x:cu) (y:WE),xs[i]? =some x->ys[i]? =some y->WordsAt H y.1 y.2.1 y.2.2/\Told (cE ts) ts.length x y.2.1/\y.1≠D
 nd:xs.Nodup
def WB.same{H c:Hp}{D:Ad}{d e:LN}{ys:List WE}(h:WB H D d e ys)(g:Same H c):WB c D d e ys:=⟨h.len,λi x y j k=>let⟨a,b⟩:=h.each i x y j k;⟨a.same g,b⟩,h.nd⟩
def Ga{H b:Hp}{D:Ad}{c:TW}{d:As}(W:WordsAt H D c d)(g:Keeps H b):WordsAt b D c d:=⟨W.len,g _ _ (nU W.dict),λj a p e h=>g _ _ (nU (W.list j a p e h))⟩
def WB.keeps{H c:Hp}{D:Ad}{d e:LN}{ys:List WE}(h:WB H D d e ys)(g:Keeps H c):WB c D d e ys:=⟨h.len,λi x y j k=>let⟨a,b⟩:=h.each i x y j k;⟨Ga a g,b⟩,h.nd⟩
def vi{a:LN}{ys:List WE}(h:ys.length=a.length):(fE a ys).map (·.1)=a.map nk:=by
 unfold fE L2.a3v
 induction a generalizing ys with
 |nil=>rfl
 | cons x a b=>
  cases ys with
  |nil=>simp at h
  |cons y ys=>
   have z:=b (ys:=ys) (by simpa using h);simp only[List.map_cons,List.zipWith_cons_cons];rw[z]
def WB.off{H:Hp}{D:Ad}{e g:LN}{ys:List WE}{d:List (List dr×V)}{o:HO}(h:WB H D e g ys)(k:H D=some (.dT d)):WB (cw H D o) D e g ys:=by
 refine⟨h.len,λi x y m n=>?_,h.nd⟩;obtain⟨a,b,c⟩:=h.each i x y m n;refine⟨⟨a.len,by rw[cF c];exact a.dict,λj l p q r=>?_⟩,b,c⟩;have z:=a.list j l p q r;rw[cF (nE z k)];exact z
def tF(a:LN):((a.map λx=>((x,[]):cu×cu)).map (·.1))=a:=by
 rw[hZ];exact List.map_id' a
def WB.get{H:Hp}{D b:Ad}{e c:LN}{ys:List WE}{x:cu}(h:WB H D e c ys)(l:Rd H D (.dT (fE c ys)))(m:x∈c)(n:H b=some (.tup (x.map nv))): ∃W g k,DGet H D (.ref b) (some (.ref W))/\WordsAt H W g k/\Told (cE e) e.length x g/\ ∃i:Nat,c[i]? =some x/\ys[i]? =some (W,g,k):=by
 obtain⟨i,d⟩:=fy.mp m;have o:=(cK.mp d).1;have q:=h.len;obtain⟨y,j⟩: ∃y,ys[i]? =some y:=⟨_,cA (by lia)⟩;obtain⟨a,t,_⟩:=h.each i x y d j;have v:gM (fE c ys) (nk x)=some (.ref y.1):=xR (p:=(x,[])) (by rw[tF];exact h.nd) (by rw[cQ,d];rfl) (by rw[cQ,j];rfl);exact⟨y.1,y.2.1,y.2.2,.inr ⟨_,_,b,l,rfl,by rw[ip];exact n,v.symm⟩,a,t,i,d,j⟩
def zo{H:Hp}{W c:Ad}{b:LN}{d:TW}{g:As}{x y:cu}(a:WordsAt H W d g)(t:Told (cE b) b.length x d)(h:H c=some (.tup (y.map nv))): ∃o,DGet H W (.ref c) o/\o.isSome=eF b x y:=by
 refine⟨_,.inr ⟨_,nk y,c,.inl a.dict,rfl,by rw[ip];exact h,rfl⟩,?_⟩;by_cases m:y∈d.map (·.1)
 .rw[cH.mpr ((zA t y).mp m)];obtain⟨p,i,rfl⟩:=c7.mp m;obtain⟨l,e,_⟩:=a.word t.keys i;rw[e];rfl
 .rw[oI m];cases z:eF b x y with
  |false=>rfl
  |true=>exact wC ((zA t y).mpr (cH.mp z)) m
noncomputable def df (ts a:LN) (x:cu):LN:=a.filter λy=>eF ts x y&&eF ts y x
noncomputable def db (ts a:LN):gP:=(a.filter λx=>(df ts a x).head? ==some x).map (df ts a)
def big(a:LN):LN:=a.filter λx=>decide (1<x.length)
def Fx(T:Ad)(pos:Pos):Sp:=λg H Q _=> ∃(m:Ad) (e:LN) (n:Nat),g=[.ref m]/\Mach H m e n/\Tabs H/\
 ∀D a d c,Keeps H c->Tabs c->L2.noT H D=none->FamOf e n a->c D=some (.dT (fE (big a) d))->WB c D e (big a) d->(∀y∈d,∀b∈y.2.2,L2.noT H b=none)->d.Pairwise (λp q=> ∀b∈p.2.2,b∉q.2.2)->Q (.ref D) c
def EE:Sp:=λe H Q _=> ∃(D p:Ad) (o:Obj) (c a:LN) (d:List WE) (x:cu),e=[.ref D,.ref p]/\H D=some (.frz o (.dT (fE a d)))/\WB H D c a d/\H p=some (.tup (x.map nv))/\x∈a/\a.length<=32/\
 ∀l bs b,Same H b->H l=none->b l=some (.lst (bs.map .ref))->TupsAt b bs (df c a x)->Q (.ref l) b
def JJ{T:Ad}(F:Fun K "words_between" "words_between" Af f fd)(qH:dA P w K mg base "family" 14 ["machine"] (Bx T (⟨49,40,49,93⟩:Pos)))(jP:dA P w K mg base "sets_reached" 10 ["machine","rooms"] (yP T (⟨49,40,49,93⟩:Pos)))(jB:mg "len"=none):FnOk P w K mg base cZ 16 f fd ["machine"] (Fx T (⟨49,40,49,93⟩:Pos)):=by
 refine F.ok kX (λvs H Q E h=>?_) (λau A ah s H vs Q E hr h=>?_)
 .obtain⟨m,ts,n,rfl,_⟩:=h;rfl
 obtain⟨m,ts,n,rfl,M,hT,q⟩:=h;have hu:=hr.units;have ai:=hR hr;refine⟨_,(cN (dm (i:=1) kX.nd rfl (Or.inl rfl) tX) (cN (gK gk rfl (gL (dD qH hr.m rfl (cJ (pv 0) cI))) (eQ (i:=2) kX.nd rfl (Or.inl rfl)) (cS (ge (gq qi (eZ fZ rfl jB fV (cJ (pv 2) cI)) cV (fT _)) (cS (qp ai (pv 1) (pv 2) (dD jP hr.m rfl (de (cB (pv 0) (cB (pv 2) c8 rfl) rfl))) rfl)) gJ))) (cS (dH (pv 1))))),?_⟩;intro D hD;have kD:=cL hD (.dT []);refine⟨_,rfl,m,ts,n,rfl,M.same kD,hT.same kD,λso fs d H1 k1 T1 av aa Tf ff=>?_⟩;have aj:=k1 _ _ (nU (cC:cw H D (.dT []) D=_));have ak:=kD.keeps.trans k1;have lf:=Tf.len;have few:=ff.few M;have al:d.Nodup:=ff.up.imp λ{a b} z e=>by
  subst e;rw[(lM gl d).irr]at z;cases z
 have ab:=AM hD
 let Pv:Nat->L2.St->Hp->Prop:=λi σ N=>Keeps H N/\Tabs N/\N so=some (.lst (fs.map .ref))/\TupsAt N fs d/\ ∃k o2,N D=some (.dT (fE (big (d.take i)) k))/\WB N D ts (big (d.take i)) k/\(∀y∈k,∀b∈y.2.2,L2.noT H b=none)/\k.Pairwise (λp q=> ∀b∈p.2.2,b∉q.2.2)/\σ=[some (.ref m),some (.ref D),o2]
 refine⟨so,rfl,⟨_,SqL.of aa⟩,mv (xs:=fs.map .ref) Pv ⟨ak,T1,aa,Tf,[],none,aj,⟨rfl,λi x y e=>by simp[big]at e,List.nodup_nil⟩,λ_ h=>(nomatch h),.nil,rfl⟩ (λi σ N _ p=>SqL.of p.2.2.1) (λi v σ H2 hv p=>?_) (λσ H2 p=>?_)⟩
 .obtain⟨Y,T2,O,C,k,o2,r,B,nw,ap,rfl⟩:=p;rw[cQ]at hv;obtain⟨b,eb,rfl⟩:=eC.mp hv;have li:=(cK.mp eb).1;obtain⟨x,ex⟩: ∃x,d[i]? =some x:=⟨_,cA (by lia)⟩;have hb:=C.is i b x eb ex;have mx:=cW ex;have G:big (d.take (i+1))=big (d.take i)++(if 1<x.length then[x]else[]):=by
   unfold big;rw[hG,ex,oC];by_cases c:1<x.length
   .rw[wB c];simp[c]
   .rw[wA c];simp[c]
  refine⟨_,rfl,b,_,rfl,.inr (SqT.of hb),_,_,rfl,rfl,_,rfl,ju (λc=>?_) (λc=>?_)⟩
  .have c1:1<x.length:=by
    have z:=gi c;rw[cz]at z;lia
   rw[wB c1]at G;refine⟨_,rfl,_,rfl,m,b,ts,n,x,rfl,M.keeps Y,hb,ff.inU M mx,T2,λW ws as H3 k3 T3 Wd U TT=>?_⟩;have t:=k3 _ _ (nU r);have am:=k3 _ _ (nU hb);have an:=B.keeps k3;have WD:W≠D:=λz=>by
    subst z;have z2:=U W (dP ..);rw[nU r]at z2;cases z2
   have xn:x∉big (d.take i):=λh=>by
    have h1:=(dJ.mp h).1;obtain⟨j,ej⟩:=fy.mp h1;have lj:=(cK.mp ej).1;rw[fK]at lj;rw[ui (by lia)]at ej;have:=(im (by lia) al).mp (ej.trans ex.symm)
    lia
   have vn:gM (fE (big (d.take i)) k) (nk x)=none:=oI (by rw[tF];exact xn);have lk:(fE (big (d.take i)) k).length<sizeLine:=by
    rw[<-cz (f:=(·.1)),vi B.len,cz,dC];have z1:(big (d.take i)).length<=(d.take i).length:=gZ _ _;rw[fK]at z1;lia
   refine⟨_,rfl,_,rfl,D,_,rfl,DPut.t t (by rw[ip];exact am) lk,?_⟩;have ae:=k3 _ _ (nU O);have ao:TupsAt H3 fs d:=⟨C.len,λi b u I J=>k3 _ _ (nU (C.is i b u I J))⟩;have ek:io (fE (big (d.take i)) k) (nk x) (.ref W)=fE (big (d.take (i+1))) (k++[(W,ws,as)]):=by
    rw[zn _ vn,G];unfold fE;rw[eE,eE];exact(yB (ws:=(big (d.take i)).map λx=>(x,[])) (as:=k.map (·.1)) (p:=(x,[])) (a:=W) (by simp[B.len])).symm
   have wo:=an.off (o:= .dT (fE (big (d.take (i+1))) (k++[(W,ws,as)]))) t;have Wo:WordsAt (cw H3 D (.dT (fE (big (d.take (i+1))) (k++[(W,ws,as)])))) W ws as:=⟨Wd.len,by rw[cF WD];exact Wd.dict,λj l p h1 h2=>by
    have z:=Wd.list j l p h1 h2;rw[cF (nE z t)];exact z⟩
   rw[ek];refine⟨λL o g=>?_,?_,?_,?_,k++[(W,ws,as)],_,cC,⟨?_,λj x' y' I J=>?_,?_⟩,?_,?_,rfl⟩
   .rw[cF λz=>?_]
    .exact(Y.trans k3) _ _ g
    .subst z;rw[ab]at g;cases g
   .exact T3.most λL u nd _ g=>by rw[cF (iE g t λe=>nd _ e)];exact g
   .rw[cF (nE ae t)];exact ae
   .exact oi ao t λ_ e=>nomatch e
   .rw[G,dF,dF,B.len];rfl
   .rw[G]at I;have hl:=B.len;by_cases hj:j<k.length
    .rw[e8 (by lia)]at I;rw[e8 hj]at J;exact wo.each j x' y' I J
    .rw[eU (by lia)]at I J;have z:j-k.length=0:=by
      have:=(cK.mp J).1;simp at this;lia
     rw[<-hl,z]at I;rw[z]at J;cases I;cases J;exact⟨Wo,TT,WD⟩
   .rw[G,zD];refine⟨B.nd,by simp,λa ha c hc e=>xn ?_⟩;rw[dj.mp hc]at e;rw[<-e];exact ha
   .intro y hy L g
    rcases dw.mp hy with h|h
    .exact nw y h L g
    .rw[dj.mp h]at g;have z:=U L (.tail _ g);cases y2:L2.noT H L with
     |none=>rfl
     |some o=>
      have z3:=Y _ _ y2;rw[nP z3 (su y2).2]at z;cases z
   .rw[hY];refine⟨ap,pq _ _,λp hp q' hq L g af=>?_⟩;rw[dj.mp hq]at af;have z:=U L (.tail _ af);obtain⟨j,ej⟩:=fy.mp hp;have lj:=(cK.mp ej).1;have hl:=B.len;obtain⟨x',aq⟩: ∃x',(big (d.take i))[j]? =some x':=⟨_,cA (by lia)⟩;obtain⟨a',_⟩:=B.each j x' p aq ej;obtain⟨j2,ag⟩:=fy.mp g;have ar:=(cK.mp ag).1;have z2:=a'.list j2 L _ ag (cA (by rw[<-a'.len];exact ar));rw[nU z2]at z;cases z
  .have c1: ¬1<x.length:=by
    have z:=ql (oh.mpr c);rw[cz]at z;lia
   rw[wA c1,gV]at G;refine⟨Y,T2,O,C,k,_,?_,?_,nw,ap,rfl⟩
   .rw[G];exact r
   .rw[G];exact B
 .obtain⟨Y,T2,O,C,k,o2,r,B,nw,ap,rfl⟩:=p;rw[cz,lf,gj]at r B;exact⟨_,rfl,q D d k H2 Y T2 ab ff r B nw ap⟩
def IA(F:Fun K "alike_sets" "alike_sets" vW f fd):FnOk P w K mg base cZ 1 f fd ["words","rooms"] EE:=by
 refine F.ok IR (λvs H Q E h=>?_) (λaa A I s H vs Q E T h=>?_)
 .obtain⟨D,p,o,j,n,U,x,rfl,_⟩:=h;rfl
 obtain⟨D,p,o,j,n,U,x,rfl,k,r,Y,hx,few,q⟩:=h;have hu:=T.units;have d:=hR T;refine⟨_,(cS (dH (gI (CompSc.to (N:=["words","rooms"]) (osc:=cU vW) (vs:=["other"]) {}) rfl rfl (C1 (pv 0)) (λ_ _ _ _=>oo (PW.pt (pi (lP (pH d (pv 0) (lF d (pv 1) (pv 2) (λ_ _=>rfl)))) (pV (lP (pH d (pv 2) (lF d (pv 1) (pv 0) (λ_ _=>rfl)))))))) (λ_ _ _ _=>(pv 0))))),?_⟩;refine⟨_,rfl,D,_,n,rfl,vi r.len,.inr ⟨o,k⟩,λo' v fz=>?_⟩;have e2:o'=o/\v=H:=by
  rcases fz with⟨e,rfl⟩|⟨e,_⟩
  .rw[k]at e;injection e with e
   injection e with e _
   exact⟨e.symm,rfl⟩
  .rw[k]at e;cases e
 obtain⟨rfl,rfl⟩:=e2;have rd:Rd v D (.dT (fE n U)):= .inr ⟨_,k⟩;refine Ke (vi r.len) (λi g B=>B=v/\ ∃c,g=c.map V.ref/\c.length<=i/\TupsAt v c ((n.take i).filter λy=>eF j x y&&eF j y x)) (by rw[dC];lia) ⟨rfl,[],rfl,cM _,rfl,λi b u e=>by simp at e⟩ (λi g B _ l=>?_) (λi a t g B et J l=>?_) (λg B l C m=>?_)
 .obtain⟨rfl,c,rfl,e,_⟩:=l;exact⟨k,by rw[cz];exact e⟩
 .obtain⟨rfl,c,rfl,e,G⟩:=l;have z:=wY (f:=λy=>eF j x y&&eF j y x) G et J;obtain⟨W,ws,as,dg,wa,tt,_⟩:=r.get rd hx Y;obtain⟨o1,d1,s1⟩:=zo wa tt J;have ht:=cW et;obtain⟨W2,ab,ae,L,M,O,_⟩:=r.get rd ht J;obtain⟨o2,d2,s2⟩:=zo M O Y;refine⟨hI,_,rfl,_,rfl,_,rfl,D,_,rfl,dg,W,o1,rfl,d1,_,rfl,?_⟩;rw[s1];cases C:eF j x t with
  |false=>
   rw[C,vZ,wA (by decide)]at z;exact fj (fj ⟨rfl,c,rfl,by lia,z⟩)
  | true=>
   rw[C,sF]at z;refine fm ⟨_,rfl,_,rfl,_,rfl,D,_,rfl,L,W2,o2,rfl,d2,_,rfl,?_⟩;rw[s2];cases c2:eF j t x with
   |true=>
    rw[c2,wB rfl]at z;exact fm ⟨_,rfl,rfl,c++[a],by simp,by simp;exact e,z⟩
   |false=>
    rw[c2,wA (by decide)]at z;exact fj ⟨rfl,c,rfl,by lia,z⟩
 .obtain⟨rfl,c,rfl,_,G⟩:=l;rw[gj]at G;have kc:=cL m (.lst (c.map V.ref));exact q C c _ kc m cC (G.same kc)
structure LsAt(H:Hp)(as:As)(cs:gP):Prop where
 len:as.length=cs.length
 is: ∀(i:Nat) (a:Ad) (c:LN),as[i]? =some a->cs[i]? =some c-> ∃bs:As,H a=some (.lst (bs.map .ref))/\TupsAt H bs c
def LsAt.same{H b:Hp}{d:As}{e:gP}(h:LsAt H d e)(g:Same H b):LsAt b d e:=⟨h.len,λi a c j k=>let⟨bs,l,m⟩:=h.is i a c j k;⟨bs,g _ _ l,m.same g⟩⟩
def LsAt.off{H:Hp}{l:Ad}{j:List V}{o:HO}{b:As}{d:gP}(h:LsAt H b d)(k:H l=some (.lst j))(no:l∉b):LsAt (cw H l o) b d:=⟨h.len,λi a c g m=>by
 obtain⟨bs,n,p⟩:=h.is i a c g m;refine⟨bs,?_,oi p k λ_ e=>nomatch e⟩;rw[cF λ(z:a=l)=>no (by rw[<-z];exact cW g)];exact n⟩
def LsAt.snoc{H:Hp}{j:As}{g:gP}{a:Ad}{c:LN}{bs:As}(h:LsAt H j g)(k:H a=some (.lst (bs.map .ref)))(T:TupsAt H bs c):LsAt H (j++[a]) (g++[c]):=by
 refine⟨by simp[h.len],λi b v e d=>?_⟩;have l:=h.len;by_cases m:i<g.length
 .rw[e8 (by lia)]at e d;exact h.is i b v e d
 .rw[eU (by lia)]at e d;have z:i-g.length=0:=by
   have:=(cK.mp d).1;simp at this;lia
  rw[l,z]at e;rw[z]at d;cases e;cases d;exact⟨bs,k,T⟩
def yG{ts a:LN}{x:cu}(b:x∈a):x∈df ts a x:=dJ.mpr ⟨b,by rw[cH.mpr (Rch.refl ts x)];rfl⟩
def B7:Sp:=λh H Q _=> ∃(D:Ad) (g b:LN) (d:List WE),h=[.ref D]/\H D=some (.dT (fE b d))/\WB H D g b d/\b.length<=32/\
 ∀l o e c,Same (cw H D (.frz o (.dT (fE b d)))) c->H l=none->c l=some (.lst (e.map .ref))->LsAt c e (db g b)->(∀a∈e,H a=none)->Q (.ref l) c
def Ko(F:Fun K "sets_of_levels" "sets_of_levels" yA f fd)(qN:dA P w K mg base "alike_sets" 1 ["words","rooms"] EE):FnOk P w K mg base cZ 3 f fd ["words"] B7:=by
 refine F.ok kG (λvs H Q E h=>?_) (λaj A aa s H vs Q E hr h=>?_)
 .obtain⟨D,g,d,m,rfl,_⟩:=h;rfl
 obtain⟨D,g,d,m,rfl,hD,wb,few,q⟩:=h;have hu:=hr.units;have ak:=hR hr;refine⟨_,(cN (dm (i:=1) kG.nd rfl (Or.inl rfl) (fM cI)) (cN (gK gk rfl (C1 (pv 0)) (eQ (i:=2) kG.nd rfl (Or.inl rfl)) (cN (dm (i:=3) kG.nd rfl (Or.inl rfl) (dD qN hr.m rfl (de (cB (pv 0) (cB (pv 2) c8 rfl) rfl)))) (cS (ge (gq (tz hu) (cX fS (pv 3) cV (λ_ _=>rfl)) (pv 2) (fT _)) (cS (hO (gb f' iN iA iM (pv 1) (cJ (pv 3) cI)))) gJ)))) (cS (dH (pv 1))))),?_⟩;refine⟨by show 0<=sizeLine;decide,λj n=>?_⟩;have kf:=cL n (.lst []);have L:=kf _ _ hD;have M:j≠D:=(dO hD n).symm;refine⟨_,rfl,D,_,d,rfl,vi wb.len,.inl L,λo H2 fz=>?_⟩;have e2:H2=cw (cw H j (.lst [])) D (.frz o (.dT (fE d m))):=by
  rcases fz with⟨e,_⟩|⟨_,e⟩
  .rw[L]at e;cases e
  .exact e
 have gz:Same (cw H D (.frz o (.dT (fE d m)))) H2:=λb u I=>by
  rw[e2];by_cases z:b=D
  .subst z;rw[cC]at I⊢;exact I
  .rw[cF z]at I⊢;exact kf _ _ I
 have wz:WB (cw H D (.frz o (.dT (fE d m)))) D g d m:=wb.off hD;have ab:H2 j=some (.lst []):=by rw[e2,cF M,cC]
 have ae:cw H D (.frz o (.dT (fE d m))) j=none:=by rw[cF M];exact n
 clear e2 fz
 let Pv:Nat->L2.St->Hp->Prop:=λi T U=>Same (cw H D (.frz o (.dT (fE d m)))) U/\ ∃k o2 o3,U j=some (.lst (k.map .ref))/\j∉k/\(∀a∈k,H a=none)/\k.length<=i/\LsAt U k (((d.take i).filter λx=>(df g d x).head? ==some x).map (df g d))/\T=[some (.ref D),some (.ref j),o2,o3]
 refine K8 (vi wb.len) Pv ⟨gz,[],none,none,ab,by simp,(λ_ h=>nomatch h),Nat.le_refl _,⟨rfl,λi a c e=>by simp at e⟩,rfl⟩ (λi T U _ p=>p.1 _ _ cC) (λi a x T H3 ex Y p=>?_) (λT H3 p=>?_)
 .obtain⟨B,k,o2,o3,r,C,t,af,N,rfl⟩:=p;have mx:=cW ex;refine⟨_,rfl,_,rfl,D,a,o,g,d,m,x,rfl,B _ _ cC,wz.same B,Y,mx,few,λl bs H4 J nl el Tl=>?_⟩;have lb:=Tl.len;have self:=yG (ts:=g) mx;obtain⟨y,rest,ea⟩: ∃y rest,df g d x=y::rest:=by
   cases z:df g d x with
   |nil=>rw[z]at self;cases self
   |cons y rest=>exact⟨y,rest,rfl⟩
  have b1:0<bs.length:=by
   rw[lb,ea];simp
  obtain⟨b,eb⟩: ∃b,bs[0]? =some b:=⟨_,cA b1⟩;have I:H4 b=some (.tup (y.map nv)):=Tl.is 0 b y eb (by rw[ea];rfl);have ag:iX (bs.map V.ref) ((0:Nat):Int)=some (.ref b):=gF (by rw[cQ,eb];rfl);have nx:((d.take (i+1)).filter λx=>(df g d x).head? ==some x).map (df g d)=((d.take i).filter λx=>(df g d x).head? ==some x).map (df g d)++(if y=x then[df g d x]else[]):=by
   rw[hG,ex,oC,eE];by_cases c:y=x
   .rw[wB c];simp[ea,c]
   .rw[wA c];simp[ea,c]
  refine⟨_,rfl,l,_,_,_,rfl,rfl,SqL.of el,ag,_,rfl,b,a,0,_,_,rfl,rfl,gu (SqT.of I),gu (SqT.of (J _ _ Y)),by decide,λc hc=>⟨_,rfl,?_⟩⟩;have v:=J _ _ r;have ah:l≠j:=(dO r nl).symm;have ai:H l=none:=by
   cases z:H l with
   |none=>rfl
   | some u=>
    by_cases e:l=D
    .have O:=B _ _ (cC (H:=H) (a:=D) (o:= .frz o (.dT (fE d m))));rw[<-e,nl]at O;cases O
    .have O:=B l u (by rw[cF e];exact z);rw[nl]at O;cases O
  by_cases e:y=x
  .have G:c=true:=hc.mpr (dy.mpr e);subst G;rw[wB e]at nx;refine fm ⟨_,rfl,.inl ⟨rfl,_,SqL.of v⟩,_,rfl,j,_,_,rfl,rfl,v,by rw[cz,dC];have:=(cK.mp ex).1;lia,?_⟩;have L4:=(N.same J).snoc el Tl;have na:j∉k++[l]:=λz=>(dw.mp z).elim C λz=>ah (dj.mp z).symm
   refine⟨fQ (B.trans J) ae,k++[l],_,_,by rw[cC,eE];rfl,na,(λa Y=>(dw.mp Y).elim (t a) λz=>by rw[dj.mp z];exact ai),by rw[dF];simp;lia,?_,rfl⟩;rw[nx];exact L4.off v na
  .have G:c=false:=by
    cases c with
    |false=>rfl
    |true=>exact wC (dy.mp (hc.mp rfl)) e
   subst G;rw[wA e,gV]at nx;refine fj ⟨B.trans J,k,_,_,v,C,t,by lia,?_,rfl⟩;rw[nx];exact N.same J
 .obtain⟨B,k,o2,o3,r,C,t,af,N,rfl⟩:=p;rw[gj]at N;exact⟨_,rfl,q j o k H3 B n r N t⟩
noncomputable def dq (ts:LN) (cs:gP) (c:LN):Bool:=cs.any λd=>decide (d≠c)&&eF ts (d.headD []) (c.headD [])
def xG{K:W.Frag}{H:Hp}{a:Ad}{bs:As}{c:LN}{n:Nat}(g:H a=some (.lst (bs.map .ref)))(T:TupsAt H bs c):Rep K H (n+2) (.lst (c.map λu=> .tup (fX u))) (.ref a):=by
 refine .lst (SqL.of g) (by rw[cz,cz,T.len]) λi d v b e=>?_;rw[cQ]at b e;obtain⟨p,h,rfl⟩:=eC.mp b;obtain⟨a,j,rfl⟩:=eC.mp e;exact gu (SqT.of (T.is i a p j h))
def BM{H:Hp}{bs:As}{c:LN}(T:TupsAt H bs c)(d:c≠[]): ∃b,iX (bs.map V.ref) 0=some (.ref b)/\H b=some (.tup ((c.headD []).map nv))/\c.headD []∈c:=by
 have e:=T.len;obtain⟨y,rest,g⟩: ∃y rest,c=y::rest:=by
  cases c with
  |nil=>exact wC rfl d
  |cons y rest=>exact⟨y,rest,rfl⟩
 subst g;obtain⟨b,a⟩: ∃b,bs[0]? =some b:=⟨_,cA (by rw[e];simp)⟩;have z:iX (bs.map V.ref) ((0:Nat):Int)=some (.ref b):=gF (by rw[cQ,a];rfl);exact⟨b,z,T.is 0 b y a rfl,dP ..⟩
def Fa:Sp:=λk H Q _=> ∃(D a l:Ad) (g e:LN) (h:List WE) (c:LN) (b:gP) (bs i:As),k=[.ref D,.ref a,.ref l]/\Rd H D (.dT (fE e h))/\WB H D g e h/\H a=some (.lst (bs.map .ref))/\TupsAt H bs c/\H l=some (.lst (i.map .ref))/\LsAt H i b/\c≠[]/\(∀d∈b,d≠[]/\ ∀x∈d,x∈e)/\b.length<=32/\
 ∀j,Same H j->Q (.bl (dq g b c)) j
def Li(F:Fun K "is_led_to" "is_led_to" vI f fd)(rQ:mg "any"=none):FnOk P w K mg base cZ 1 f fd ["words","sets","waiting"] Fa:=by
 refine F.ok Mb (λvs H Q E h=>?_) (λaa A r s H vs Q E M h=>?_)
 .obtain⟨D,a,l,g,xs,ys,c,j,bs,O,rfl,_⟩:=h;rfl
 obtain⟨D,a,l,g,xs,ys,c,j,bs,O,rfl,rd,wb,T,U,Y,L,cne,t,few,q⟩:=h;have hu:=M.units;have m:=hR M;have la:=L.len;obtain⟨b0,u,x,_⟩:=BM U cne;refine⟨_,(cS (dH (eZ (E8 rfl) rfl rQ boot_any (cJ (gI (CompSc.to (N:=["words","sets","waiting"]) (osc:=cU vI) (vs:=["other"]) {}) rfl rfl (gL (pv 2)) (λ_ _ _ _=>iu) (λ_ _ _ _=>(xS (ut (OpR.k (K:=K) (λK=>ow K true) (va hu) rfl) (pv 0) (pv 2) (fT _)) (wL (MF (pH m (cX (IxR.k (K:=K) mY fS rfl) (pv 2) cV (λ_ _=>rfl)) (lF m (pv 1) (cX (IxR.k (K:=K) mY fS rfl) (pv 0) cV (λ_ _=>rfl)) (λ_ _=>rfl)))))))) cI)))),?_⟩;refine⟨_,rfl,l,rfl,⟨_,SqL.of Y⟩,lB (xs:=O.map .ref) (λi b n=>n=H/\b=((j.take i).map λd=>decide (d≠c)&&eF g (d.headD []) (c.headD [])).map V.bl) (by rw[cz,dC];lia) ⟨rfl,rfl⟩ (λi b n hi p=>?_) (λi v b n hv p=>?_) (λb n p c1 y=>?_)⟩
 .obtain⟨rfl,rfl⟩:=p;exact⟨SqL.of Y,by simp;lia⟩
 .obtain⟨rfl,rfl⟩:=p;rw[cQ]at hv;obtain⟨e,ee,rfl⟩:=eC.mp hv;have li:=(cK.mp ee).1;obtain⟨d,B⟩: ∃d,j[i]? =some d:=⟨_,cA (by lia)⟩;obtain⟨ds,he,Td⟩:=L.is i e d ee B;obtain⟨C,dx⟩:=t d (cW B);obtain⟨b1,G,I,m1⟩:=BM Td C;have nx:((j.take (i+1)).map λd=>decide (d≠c)&&eF g (d.headD []) (c.headD [])).map V.bl=((j.take i).map λd=>decide (d≠c)&&eF g (d.headD []) (c.headD [])).map V.bl++[V.bl (decide (d≠c)&&eF g (d.headD []) (c.headD []))]:=by
   rw[hG,B,eE,eE];rfl
  refine⟨hI,jm ?_⟩;refine⟨_,rfl,_,rfl,e,a,1,_,_,rfl,rfl,xG he Td,xG T U,by decide,λJ hc=>?_⟩;by_cases o:d=c
  .have k:J=true:=hc.mpr (by rw[o]);subst k;refine⟨_,rfl,fj ⟨rfl,?_⟩⟩;rw[nx,fg (λz=>z o)];rfl
  .have k:J=false:=by
    cases J with
    |false=>rfl
    |true=>exact wC (FT (hc.mp rfl)) o
   subst k;obtain⟨W,ws,wa,dg,wt,tt,_⟩:=wb.get rd (dx _ m1) I;obtain⟨o1,d1,s1⟩:=zo wt tt x;refine⟨_,rfl,fm ⟨_,rfl,a,_,_,_,rfl,rfl,SqL.of T,u,_,rfl,_,rfl,e,_,_,_,rfl,rfl,SqL.of he,G,D,_,rfl,dg,W,o1,rfl,d1,rfl,?_⟩⟩;rw[nx,dX o,sF,s1]
 .obtain⟨rfl,rfl⟩:=p;rw[cz,la,gj];have e2:(j.map λd=>decide (d≠c)&&eF g (d.headD []) (c.headD [])).any id=dq g j c:=by
   unfold dq;rw[wK];rfl
  refine⟨c1,_,rfl,SqL.of cC,?_⟩
  try dsimp only
  rw[e2];exact q _ (cL y _)
inductive Ord (ts:LN):gP->List LN->Prop
 |nil:Ord ts [] []
 |cons {cs told:gP} {s:LN} (h:(cs.filter λc=> !dq ts cs c).head? =some s) (r:Ord ts (cs.filter λc=>decide (c≠s)) told):Ord ts cs (s::told)
def qg(a:LN)(b:gP):Prop:= ∀c∈b,∀d∈b,eF a (c.headD []) (d.headD [])=true->eF a (d.headD []) (c.headD [])=true->c=d
def CQ{a:Type}{xs:List a}{p q:a->Bool}(h: ∀z∈xs,p z=true->q z=true)(e: ∃z∈xs,q z=true/\p z=false):xs.countP p<xs.countP q:=by
 induction xs with
 |nil=>
  obtain⟨z,hz,_⟩:=e;cases hz
 | cons x xs d=>
  rw[yh,yh];have mono:xs.countP p<=xs.countP q:=List.countP_mono_left λz hz g=>h z (.tail _ hz) g;obtain⟨z,hz,b,c⟩:=e
  rcases dQ.mp hz with rfl|hz
  .rw[b,c];simp;lia
  .have:=d (λz hz=>h z (.tail _ hz)) ⟨z,hz,b,c⟩;have i:=h x (dP ..);cases j:p x with
   |true=>
    rw[i j];simp;lia
   |false=>
    simp;split<;>lia
theorem Ae{ts:LN}{cs:gP}(un:qg ts cs): ∀(k:Nat) (s:LN),s∈cs->cs.countP (λt=>eF ts (t.headD []) (s.headD []))<=k-> ∃s∈cs,dq ts cs s=false
 |0,s,a,g=>by
  have z:0<cs.countP (λt=>eF ts (t.headD []) (s.headD [])):=List.countP_pos_iff.mpr ⟨s,a,cH.mpr (Rch.refl ts _)⟩;lia
 | k+1,s,a,g=>by
  cases c:dq ts cs s with
  |false=>exact⟨s,a,c⟩
  | true=>
   obtain⟨d,b,e⟩:=wk.mp c;rw[jv,rf]at e;obtain⟨h,r⟩:=e;have lt:=CQ (xs:=cs) (p:=λt=>eF ts (t.headD []) (d.headD [])) (q:=λt=>eF ts (t.headD []) (s.headD [])) (λz _ i=>cH.mpr ((cH.mp i).trans (cH.mp r))) ⟨s,a,cH.mpr (Rch.refl ts _),by
    cases z:eF ts (s.headD []) (d.headD [])with
    |false=>rfl
    |true=>exact wC (un d b s a r z) h⟩
   exact Ae un k d b (by lia)
def FM{H:Hp}{d as:As}{b:gP}{f:LN->Bool}{i:Nat}{a:Ad}{c:LN}(L:LsAt H d ((b.take i).filter f))(g:b[i]? =some c){bs:As}(h:H a=some (.lst (bs.map .ref)))(T:TupsAt H bs c):if f c=true then LsAt H (d++[a]) ((b.take (i+1)).filter f)else LsAt H d ((b.take (i+1)).filter f):=by
 have e:(b.take (i+1)).filter f=(b.take i).filter f++(if f c=true then[c]else[]):=by
  rw[hG,g,oC];cases z:f c with
  |true=>simp[z]
  |false=>simp[z]
 by_cases z:f c=true
 .rw[wB z,e,wB z];exact L.snoc h T
 .rw[wA z,e,wA z,gV];exact L
def CG:Sp:=λm H Q _=> ∃(D l:Ad) (g h:LN) (k:List WE) (c:gP) (i:As),m=[.ref D,.ref l]/\Rd H D (.dT (fE h k))/\WB H D g h k/\H l=some (.lst (i.map .ref))/\LsAt H i c/\(∀d∈c,d≠[]/\ ∀x∈d,x∈h)/\qg g c/\c.length<=32/\
 ∀j b told e,Same H e->H j=none->e j=some (.lst (b.map .ref))->LsAt e b told->Ord g c told->told.length<=32->(∀d∈told,d∈c)->(∀a∈b,a∈i)->Q (.ref j) e
def Dr{H b:Hp}{a:Ad}{u:HO}(h:Rd H a u)(g:Same H b):Rd b a u:=h.elim (λe=> .inl (g _ _ e)) λ⟨o,e⟩=> .inr ⟨o,g _ _ e⟩
def MK(F:Fun K "levels_in_order" "levels_in_order" tQ f fd)(qX:dA P w K mg base "is_led_to" 1 ["words","sets","waiting"] Fa):FnOk P w K mg base cZ 3 f fd ["words","waiting"] CG:=by
 refine F.ok jZ (λvs H Q E h=>?_) (λaT A aJ s H vs Q E hr h=>?_)
 .obtain⟨D,l,J,xs,ys,n,u,rfl,_⟩:=h;rfl
 obtain⟨D,l0,J,xs,ys,aa,ab,rfl,rd,wb,av,L0,aK,un,few,q⟩:=h;have hu:=hr.units;have aU:=hR hr;refine⟨_,(cN (dm (i:=2) jZ.nd rfl (Or.inl rfl) (fM cI)) (cN (Ew gk (Ct (pv 1) (λ_=>rfl)) (cN (dm (i:=3) jZ.nd rfl (Or.inr rfl) (gI (CompSc.to (N:=["words","waiting","told","free"]) (osc:=cU tQ) (vs:=["sets"]) {}) rfl rfl (gL (pv 1)) (λ_ _ _ _=>oo (vF (pF (dD qX hr.m rfl (de (cB (pv 1) (cB (pv 0) (cB (pv 2) c8 rfl) rfl) rfl)))))) (λ_ _ _ _=>(pv 0)))) (cN (hO (gb f' iN iA iM (pv 2) (cJ (cX fS (pv 3) cV (λ_ _=>rfl)) cI))) (cS (dm (i:=1) jZ.nd rfl (Or.inr rfl) (gI (CompSc.to (N:=["words","waiting","told","free"]) (osc:=cU tQ) (vs:=["sets"]) {}) rfl rfl (gL (pv 1)) (λ_ _ _ _=>oo (gq (OpR.k (K:=K) (λK=>ow K true) (va hu) rfl) (pv 0) (cX (IxR.k (K:=K) mY fS rfl) (pv 4) cV (λ_ _=>rfl)) (fT _))) (λ_ _ _ _=>(pv 0)))))))) (cS (dH (pv 2))))),?_⟩;refine⟨by show 0<=sizeLine;decide,λt O=>?_⟩;have kf:=cL O (.lst []);have aw:t∉ab:=λz=>by
  obtain⟨j,ej⟩:=fy.mp z;have lj:=(cK.mp ej).1;obtain⟨bs,e,_⟩:=L0.is j t _ ej (cA (by rw[<-L0.len];exact lj));rw[O]at e;cases e
 let Wv:Nat->L2.St->Hp->Prop:=λm σ C=>Same H C/\ ∃l u n k told o3,C l=some (.lst (u.map .ref))/\LsAt C u n/\l≠t/\t∉u/\(∀c∈n,c∈aa)/\C t=some (.lst (k.map .ref))/\LsAt C k told/\t∉k/\(∀c∈told,c∈aa)/\told.length+n.length<=32/\(∀a∈u,a∈ab)/\(∀a∈k,a∈ab)/\(∀rest,Ord J n rest->Ord J aa (told++rest))/\m=n.length/\σ=[some (.ref D),some (.ref l),some (.ref t),o3]
 refine⟨Wv,⟨_,kf,l0,ab,aa,[],[],none,kf _ _ av,L0.same kf,dO av O,aw,λc h=>h,cC,⟨rfl,λi a c e=>by simp at e⟩,by simp,λc h=>(nomatch h),by simpa using few,(λ_ h=>h),(λ_ h=>nomatch h),λrest h=>h,rfl,rfl⟩,λm σ H1 p=>?_⟩;obtain⟨g1,l,u,n,k,told,o3,el,L,aL,ak,G,al,am,aM,ag,aV,ia,ax,ah,hm,rfl⟩:=p;have la:=L.len;have aW:=am.len;refine⟨_,rfl,!(u.map V.ref).isEmpty,.inl ⟨_,SqL.of el,rfl⟩,?_⟩;by_cases an:n=[]
 .subst an;have e:u=[]:=nX.mp la;subst e;rw[wA (by simp)];have od:=ah [] .nil;rw[gV]at od;exact⟨_,rfl,q t k told H1 g1 O al am od (by lia) ag ax⟩
 have ne:u≠[]:=λz=>an (nX.mp (by rw[<-la,z];rfl));have c1:(!(u.map V.ref).isEmpty)=true:=by
  cases u with
  |nil=>exact wC rfl ne
  |cons=>rfl
 rw[c1];refine fm ?_;refine⟨λay C=> ∃m',m'<m/\Wv m' ay C,λay C h=>h,?_⟩;have ai: ∀d∈n,d≠[]/\ ∀x∈d,x∈xs:=λd hd=>aK d (G d hd);have aN:qg J n:=λc hc d hd=>un c (G c hc) d (G d hd);have aO:=wb.same g1;have aP:=Dr rd g1;refine⟨_,rfl,l,rfl,⟨_,SqL.of el⟩,lB (xs:=u.map .ref) (λi B C=>Same H1 C/\ ∃r,B=r.map V.ref/\r.length<=i/\(∀e∈r,e∈u)/\LsAt C r ((n.take i).filter λc=> !dq J n c)) (by rw[cz,dC];lia) ⟨Same.refl _,[],rfl,cM _,λ_ h=>(nomatch h),⟨rfl,λi a c e=>by simp at e⟩⟩ (λi B C hi p=>?_) (λi v B C hv p=>?_) (λB H2 p fr ao=>?_)⟩
 .obtain⟨g,r,rfl,e,_⟩:=p;exact⟨SqL.of (g _ _ el),by rw[cz];exact e⟩
 .obtain⟨g,r,rfl,e,sb,Le⟩:=p;rw[cQ]at hv;obtain⟨a,ea,rfl⟩:=eC.mp hv;have li:=(cK.mp ea).1;obtain⟨c,ec⟩: ∃c,n[i]? =some c:=⟨_,cA (by lia)⟩;obtain⟨bs,ha,Ta⟩:=(L.same g).is i a c ea ec;have mc:=cW ec;refine⟨hI,_,rfl,_,rfl,_,rfl,D,a,l,J,xs,ys,c,n,bs,u,rfl,Dr aP g,aO.same g,ha,Ta,g _ _ el,L.same g,(ai c mc).1,ai,by lia,λH4 g4=>⟨_,rfl,?_⟩⟩;have z:=FM (as:=u) (f:=λc=> !dq J n c) (Le.same g4) ec (g4 _ _ ha) (Ta.same g4);cases c2:dq J n c with
  |false=>
   rw[c2,wB (show(!false)=true from rfl)]at z;refine fm ⟨_,rfl,g.trans g4,r++[a],by simp,by simp;exact e,λe' he=>?_,z⟩;exact(dw.mp he).elim (sb e') λh=>by rw[dj.mp h];exact cW ea
  |true=>
   rw[c2,wA (by decide)]at z;exact fj ⟨g.trans g4,r,rfl,by lia,sb,z⟩
 obtain⟨g2,r,rfl,_,sb,Le⟩:=p;rw[cz,la,gj]at Le;have k3:=cL ao (.lst (r.map V.ref));have ap:cw H2 fr (.lst (r.map V.ref)) fr=some (.lst (r.map V.ref)):=cC;have az:fr≠t:=(dO (g2 _ _ al) ao).symm;have aX:fr≠l:=(dO (g2 _ _ el) ao).symm;have M:=g2.trans k3;have aq:=Le.same k3;generalize cw H2 fr (.lst (r.map V.ref))=H3 at k3 ap M aq⊢;obtain⟨s0,aQ,aR⟩: ∃s∈n,dq J n s=false:=by
  cases n with
  |nil=>exact wC rfl an
  |cons c n=>exact Ae aN _ c (dP ..) (cM _)
 have mf:s0∈n.filter λc=> !dq J n c:=dJ.mpr ⟨aQ,by rw[aR];rfl⟩;obtain⟨s,hs⟩: ∃s,(n.filter λc=> !dq J n c).head? =some s:=by
  cases z:n.filter λc=> !dq J n c with
  |nil=>rw[z]at mf;cases mf
  |cons y ys=>exact⟨y,rfl⟩
 have ms:s∈n:=(dJ.mp (List.mem_of_mem_head? hs)).1;have aA:(n.filter λc=> !dq J n c)[0]? =some s:=by rw[<-List.head?_eq_getElem?];exact hs
 have le:=aq.len;obtain⟨a,ea⟩: ∃a,r[0]? =some a:=⟨_,cA (by rw[le];exact(cK.mp aA).1)⟩;have aB:iX (r.map V.ref) ((0:Nat):Int)=some (.ref a):=gF (by rw[cQ,ea];rfl);obtain⟨bs,ha,Ta⟩:=aq.is 0 a s ea aA;have aC:=sb a (cW ea);have aD:a≠t:=λz=>ak (z▸aC);have I:=M _ _ al;refine⟨_,rfl,.inl ⟨rfl,_,SqL.of I⟩,_,rfl,fr,_,_,_,rfl,rfl,SqL.of ap,aB,t,_,_,rfl,rfl,I,by rw[cz,dC];lia,?_⟩;have g4:Same H (cw H3 t (.lst (k.map V.ref++[.ref a]))):=fQ (g1.trans M) O;have aE:t∉k++[a]:=λz=>(dw.mp z).elim aM λz=>aD (dj.mp z).symm;have L4:=((am.same M).snoc ha Ta).off (o:= .lst (k.map V.ref++[.ref a])) I aE;have aF:=(L.same M).off (o:= .lst (k.map V.ref++[.ref a])) I ak;have T:cw H3 t (.lst (k.map V.ref++[.ref a])) t=some (.lst ((k++[a]).map V.ref)):=by rw[cC,eE];rfl
 have ar:cw H3 t (.lst (k.map V.ref++[.ref a])) l=some (.lst (u.map V.ref)):=by
  rw[cF aL];exact M _ _ el
 have aj:cw H3 t (.lst (k.map V.ref++[.ref a])) fr=some (.lst (r.map V.ref)):=by
  rw[cF az];exact ap
 have aG:cw H3 t (.lst (k.map V.ref++[.ref a])) a=some (.lst (bs.map V.ref)):=by
  rw[cF aD];exact ha
 have aH:TupsAt (cw H3 t (.lst (k.map V.ref++[.ref a]))) bs s:=oi Ta I λ_ e=>nomatch e;generalize cw H3 t (.lst (k.map V.ref++[.ref a]))=H4 at g4 L4 aF T ar aj aG aH⊢;refine⟨_,rfl,l,rfl,⟨_,SqL.of ar⟩,lB (xs:=u.map .ref) (λi B C=>C=H4/\ ∃r,B=r.map V.ref/\r.length<=i/\(∀e∈r,e∈u)/\LsAt H4 r ((n.take i).filter λc=>decide (c≠s))) (by rw[cz,dC];lia) ⟨rfl,[],rfl,cM _,λ_ h=>(nomatch h),⟨rfl,λi a c e=>by simp at e⟩⟩ (λi B C hi p=>?_) (λi v B C hv p=>?_) (λB H5 p wl aI=>?_)⟩
 .obtain⟨rfl,r,rfl,e,_⟩:=p;exact⟨SqL.of ar,by rw[cz];exact e⟩
 .obtain⟨rfl,U,rfl,e,Y,ae⟩:=p;rw[cQ]at hv;obtain⟨b,eb,rfl⟩:=eC.mp hv;have li:=(cK.mp eb).1;obtain⟨c,ec⟩: ∃c,n[i]? =some c:=⟨_,cA (by lia)⟩;obtain⟨ds,hb,Tb⟩:=aF.is i b c eb ec;have z:=FM (as:=u) (f:=λc=>decide (c≠s)) ae ec hb Tb;refine⟨hI,_,rfl,_,rfl,fr,_,_,_,rfl,rfl,SqL.of aj,aB,b,a,1,_,_,rfl,rfl,xG hb Tb,xG aG aH,by decide,λcc hc=>⟨_,rfl,?_⟩⟩;by_cases af:c=s
  .have au:cc=true:=hc.mpr (by rw[af]);subst au;rw[fg (λz=>z af),wA (by decide)]at z;exact fj ⟨rfl,U,rfl,by lia,Y,z⟩
  .have au:cc=false:=by
    cases cc with
    |false=>rfl
    |true=>exact wC (FT (hc.mp rfl)) af
   subst au;rw[dX af,wB rfl]at z;refine fm ⟨_,rfl,rfl,U++[b],by simp,by simp;exact e,λe' he=>?_,z⟩;exact(dw.mp he).elim (Y e') λh=>by rw[dj.mp h];exact cW eb
 obtain⟨rfl,U,rfl,_,Y,ae⟩:=p;rw[cz,la,gj]at ae;have k5:=cL aI (.lst (U.map V.ref));have less:(n.filter λc=>decide (c≠s)).length<n.length:=by
  rw[<-zu];have z:=CQ (xs:=n) (p:=λc=>decide (c≠s)) (q:=λ_=>true) (λ_ _ _=>rfl) ⟨s,ms,rfl,fg λz=>z rfl⟩;rw[List.countP_true]at z;exact z
 refine⟨(n.filter λc=>decide (c≠s)).length,by lia,g4.trans k5,wl,U,n.filter λc=>decide (c≠s),k++[a],told++[s],_,cC,ae.same k5,(dO T aI).symm,λz=>ak (Y _ z),λc hc=>G c (dJ.mp hc).1,k5 _ _ T,L4.same k5,aE,λc hc=>(dw.mp hc).elim (ag c) λh=>by rw[dj.mp h];exact G s ms,by rw[dF];simp only[List.length_singleton];lia,(λb hb=>ia b (Y b hb)),(λb hb=>(List.mem_append.mp hb).elim (ax b) λz=>by rw[List.mem_singleton.mp z];exact ia a aC),λrest aS=>?_,rfl,rfl⟩;rw[fh];exact ah _ (.cons hs aS)
def IY{H b:Hp}{a:Ad}{u:HO}(h:Rd H a u)(no: ∀c,u≠ .tbl c)(g:Keeps H b):Rd b a u:=h.elim (λe=> .inl (g _ _ (nP e no))) λ⟨o,e⟩=> .inr ⟨o,g _ _ (nU e)⟩
def nt{H a:Hp}{bs:As}{c:LN}(T:TupsAt H bs c)(g:Keeps H a):TupsAt a bs c:=⟨T.len,λi b u d e=>g _ _ (nU (T.is i b u d e))⟩
def LsAt.keeps{H b:Hp}{d:As}{e:gP}(h:LsAt H d e)(g:Keeps H b):LsAt b d e:=⟨h.len,λi a c j k=>let⟨bs,l,m⟩:=h.is i a c j k;⟨bs,g _ _ (nU l),nt m g⟩⟩
def WB.off2{H:Hp}{D l:Ad}{d e:LN}{ys:List WE}{n:List V}{o:HO}(h:WB H D d e ys)(q:H l=some (.lst n))(no: ∀y∈ys,l∉y.2.2):WB (cw H l o) D d e ys:=by
 refine⟨h.len,λi x y r g=>?_,h.nd⟩;obtain⟨a,b,c⟩:=h.each i x y r g;refine⟨⟨a.len,by rw[cF (nE a.dict q)];exact a.dict,λj k p m s=>?_⟩,b,c⟩;rw[cF λ(z:k=l)=>no y (cW g) (by rw[<-z];exact cW m)];exact a.list j k p m s
def gh{ts b:LN}{c:LN}(h:c∈db ts b):c≠[]/\c=df ts b (c.headD [])/\c.headD []∈b/\ ∀x∈c,x∈b/\Rch ts (c.headD []) x/\Rch ts x (c.headD []):=by
 obtain⟨x,i,rfl⟩:=c7.mp h;obtain⟨g,j⟩:=dJ.mp i;have e:(df ts b x).headD []=x:=by
  have z:(df ts b x).head? =some x:=eq_of_beq j;cases y:df ts b x with
  |nil=>rw[y]at z;cases z
  |cons a m=>
   rw[y]at z;injection z with z
 refine⟨λz=>?_,by rw[e],by rw[e];exact g,λy k=>?_⟩
 .have s:=yG (ts:=ts) g;rw[z]at s;cases s
 .obtain⟨l,d⟩:=dJ.mp k;rw[jv]at d;rw[e];exact⟨l,cH.mp d.1,cH.mp d.2⟩
def Ca(e j:LN):qg e (db e j):=λc k d l g i=>by
 obtain⟨_,m,_⟩:=gh k;obtain⟨_,n,_⟩:=gh l;rw[m,n];generalize c.headD []=x at g i;generalize d.headD []=y at g i;refine qz λz _=>?_;have go: ∀{x y:cu},eF e x y=true->eF e y x=true->(eF e x z&&eF e z x)=true->(eF e y z&&eF e z y)=true:=λ{x y} a b h=>by
  rw[jv]at h⊢;exact⟨cH.mpr ((cH.mp b).trans (cH.mp h.1)),cH.mpr ((cH.mp h.2).trans (cH.mp a))⟩
 rw[iZ];exact⟨go g i,go i g⟩
def LevAt(H:Hp)(l:Ad)(g e:LN)(j:LN)(m:List WE)(a:Ad)(c:LN):Prop:= ∃(s t v:Ad) (bs h d:As) (i:Nat) (y:WE),H a=some (.tup [.ref s,.ref t,.ref v])/\s≠l/\t≠l/\v≠l/\l∉d/\H s=some (.lst (bs.map .ref))/\TupsAt H bs c/\H t=some (.lst (h.map .ref))/\TupsAt H h (hA e (c.headD []))/\H v=some (.lst (d.map .ref))/\d.length=c.length/\j[i]? =some (c.headD [])/\m[i]? =some y/\Told (cE g) g.length (c.headD []) y.2.1/\
 (∀b∈d,b∈y.2.2)/\ ∀(k:Nat) (x:cu) (b:Ad),c[k]? =some x->d[k]? =some b-> ∃word,(x,word)∈y.2.1/\H b=some (.lst (word.map nv))
def LevAt.keeps{H r:Hp}{l:Ad}{u d z:LN}{ys:List WE}{a:Ad}{c:LN}(h:LevAt H l u d z ys a c)(g:Keeps H r):LevAt r l u d z ys a c:=by
 obtain⟨s,t,v,bs,A,B,i,y,C,D,E,G,I,J,L,M,N,e,j,m,n,o,p,q⟩:=h;refine⟨s,t,v,bs,A,B,i,y,g _ _ (nU C),D,E,G,I,g _ _ (nU J),nt L g,g _ _ (nU M),nt N g,g _ _ (nU e),j,m,n,o,p,λk x b O Q=>?_⟩;obtain⟨word,T,U⟩:=q k x b O Q;exact⟨word,T,g _ _ (nU U)⟩
def LevAt.off{H:Hp}{l:Ad}{A d B:LN}{C:List WE}{a:Ad}{c:LN}{M:List V}{o:HO}(h:LevAt H l A d B C a c)(g:H l=some (.lst M)):LevAt (cw H l o) l A d B C a c:=by
 obtain⟨s,t,v,bs,N,O,i,y,D,E,G,I,J,Q,T,U,Y,j,m,n,p,q,r,u⟩:=h;refine⟨s,t,v,bs,N,O,i,y,by rw[cF (nE D g)];exact D,E,G,I,J,by rw[cF E];exact Q,oi T g (λ_ e=>nomatch e),by rw[cF G];exact U,oi Y g (λ_ e=>nomatch e),by rw[cF I];exact j,m,n,p,q,r,λk x b e1 L=>?_⟩;obtain⟨word,z1,z2⟩:=u k x b e1 L;refine⟨word,z1,?_⟩;rw[cF λ(z:b=l)=>J (by rw[<-z];exact cW L)];exact z2
structure LevsAt(H:Hp)(l:Ad)(ts fam xs:LN)(ys:List WE)(as:As)(told:gP):Prop where
 len:as.length=told.length
 is: ∀(i:Nat) (a:Ad) (c:LN),as[i]? =some a->told[i]? =some c->LevAt H l ts fam xs ys a c
def BJ(H b:Hp)(a:Ad):Prop:= ∃s t v,b a=some (.tup [.ref s,.ref t,.ref v])/\L2.noT H s=none/\L2.noT H t=none/\L2.noT H v=none
def AN(T:Ad)(pos:Pos):Sp:=λj H Q _=> ∃(m:Ad) (e:LN) (n:Nat),j=[.ref m]/\Mach H m e n/\Tabs H/\
 ∀l h told d i g,Keeps H g->Tabs g->L2.noT H l=none->g l=some (.lst (h.map .ref))->FamOf e n d->Ord e (db e (big d)) told->(∀c∈told,c∈db e (big d))->told.length<=32->LevsAt g l e d (big d) i h told->(∀y∈i,∀b∈y.2.2,L2.noT H b=none)->i.Pairwise (λp q=> ∀b∈p.2.2,b∉q.2.2)->(∀a∈h,BJ H g a)->Q (.ref l) g
def Ma{T:Ad}(F:Fun K "levels" "levels" xN f fd)(kP:dA P w K mg base "words_between" 16 ["machine"] (Fx T (⟨49,40,49,93⟩:Pos)))(kL:dA P w K mg base "sets_of_levels" 3 ["words"] B7)(kH:dA P w K mg base "levels_in_order" 3 ["words","waiting"] CG)(rR:dA P w K mg base "tiles" 16 ["machine","rooms"] (F3 T (⟨49,40,49,93⟩:Pos))):FnOk P w K mg base cZ 18 f fd ["machine"] (AN T (⟨49,40,49,93⟩:Pos)):=by
 refine F.ok qG (λvs H Q E h=>?_) (λbj A aV s H vs Q E hr h=>?_)
 .obtain⟨m,O,n,rfl,_⟩:=h;rfl
 obtain⟨m,O,n,rfl,M,hT,q⟩:=h;have hu:=hr.units;have aB:=hR hr;refine⟨_,(cN (dm (i:=1) qG.nd rfl (Or.inr rfl) (dD kP hr.m rfl (cJ (pv 0) cI))) (cN (dm (i:=2) qG.nd rfl (Or.inl rfl) (fM cI)) (cN (gK gk rfl (gL (dD kH hr.m rfl (de (cB (pv 1) (cB (dD kL hr.m rfl (cJ (pv 1) cI)) c8 rfl) rfl)))) (eQ (i:=3) qG.nd rfl (Or.inl rfl)) (cN (dm (i:=4) qG.nd rfl (Or.inr rfl) (cX fS (pv 3) cV (λ_ _=>rfl))) (cN (Cy (CompSc.to (N:=["machine","words","told","sets","face","ways"]) (osc:=cU xN) (vs:=["rooms"]) {}) rfl rfl qG.nd (j:=5) rfl rfl (gL (pv 3)) (λ_ _ _ _=>iu) (λ_ _ _ _=>(lF aB (lF aB (pv 2) (pv 5) (λ_ _=>rfl)) (pv 0) (λ_ _=>rfl)))) (cS (hO (gb f' iN iA iM (pv 2) (cJ (iT (de (cB (pv 3) (cB (dD rR hr.m rfl (de (cB (pv 0) (cB (pv 4) c8 rfl) rfl))) (cB (pv 5) c8 rfl) rfl) rfl))) cI))))))) (cS (dH (pv 2)))))),?_⟩;refine⟨_,rfl,m,O,n,rfl,M,hT,λD l ys H1 k1 T1 nD ff eD wb nw ap=>?_⟩;have few:=ff.few M;have U:(big l).length<=32:=dE (gZ _ _) few;refine⟨by show 0<=sizeLine;decide,λto ag=>?_⟩;have kt:=cL ag (.lst []);have aC: ∀y∈ys,to∉y.2.2:=λy hy r=>by
  obtain⟨j,ej⟩:=fy.mp hy;have lj:=(cK.mp ej).1;have hl:=wb.len;obtain⟨x',aW⟩: ∃x',(big l)[j]? =some x':=⟨_,cA (by lia)⟩;obtain⟨a',_⟩:=wb.each j x' y aW ej;obtain⟨j2,aD⟩:=fy.mp r;have aX:=(cK.mp aD).1;have Y:=a'.list j2 to _ aD (cA (by rw[<-a'.len];exact aX));rw[ag]at Y;cases Y
 have aY:to≠D:=(dO eD ag).symm;have au:=kt _ _ eD;refine⟨_,rfl,_,rfl,D,O,big l,ys,rfl,au,wb.same kt,U,λwl o as H3 g3 bk aZ Lw aE=>?_⟩;have aF:H3 D=some (.frz o (.dT (fE (big l) ys))):=g3 _ _ cC;have aG:WB H3 D O (big l) ys:=((wb.same kt).off au).same g3;have av: ∀{b:Ad} {u:HO},b≠D->cw H1 to (.lst []) b=some u->H3 b=some u:=λnb r=>g3 _ _ (by rw[cF nb];exact r);have aa:H3 to=some (.lst []):=av aY cC;have a0: ∀{b:Ad} {u:HO},L2.noT H b=some u->b≠D:=λr z=>by
  subst z;rw[nD]at r;cases r
 have a1:Keeps H H3:=λb u r=>av (a0 r) (kt _ _ (k1 _ _ r));have T3:Tabs H3:=(T1.same kt).most λb u nd _ r=>av (iE r au λe=>nd _ e) r;have a2: ∀d∈db O (big l),d≠[]/\ ∀x∈d,x∈big l:=λd hd=>⟨(gh hd).1,λx hx=>((gh hd).2.2.2 x hx).1⟩;have aH:(db O (big l)).length<=32:=by
  unfold db;rw[cz];exact dE (gZ _ _) U
 refine⟨D,wl,O,big l,ys,_,as,rfl,.inr ⟨o,aF⟩,aG,aZ,Lw,a2,Ca O _,aH,λol ah told H4 g4 a3 aI Lo od a4 sub a5=>?_⟩;have lo:=Lo.len;have aJ:ol≠to:=(dO aa a3).symm;have ao:to∉ah:=λz=>by
  obtain⟨j,ej⟩:=fy.mp z;have lj:=(cK.mp ej).1;obtain⟨bs,e,_⟩:=Lo.is j to _ ej (cA (by rw[<-lo];exact lj));have ec:=i7 (show j<told.length by lia);have C:=g4 _ _ aa;rw[e]at C;injection C with C
  injection C with C
  have Y:bs=[]:=List.map_eq_nil_iff.mp C;obtain⟨a6,e',a7⟩:=Lo.is j to _ ej (cA (by lia));rw[e]at e';injection e' with e'
  injection e' with e'
  rw[Y]at e';have z3:a6=[]:=List.map_eq_nil_iff.mp e'.symm;have z4:=a7.len;rw[z3]at z4;exact(gh (sub _ ec)).1 (nX.mp z4.symm)
 have a8:Keeps H H4:=a1.trans g4.keeps;have T4:=T3.same g4;have aK:=g4 _ _ aa;have aL:L2.noT H to=none:=by
  cases z:L2.noT H to with
  |none=>rfl
  |some u=>
   have Y:=k1 _ _ z;rw[ag]at Y;cases Y
 let Pv:Nat->L2.St->Hp->Prop:=λi σ t=>Keeps H t/\Tabs t/\t ol=some (.lst (ah.map .ref))/\LsAt t ah told/\Rd t D (.dT (fE (big l) ys))/\WB t D O (big l) ys/\ ∃ls o3 o4 o5,t to=some (.lst (ls.map .ref))/\LevsAt t to O l (big l) ys ls (told.take i)/\(∀a∈ls,BJ H t a)/\σ=[some (.ref m),some (.ref D),some (.ref to),o3,o4,o5]
 refine⟨ol,rfl,⟨_,SqL.of aI⟩,mv (xs:=ah.map .ref) Pv ⟨a8,T4,aI,Lo,.inr ⟨o,g4 _ _ aF⟩,aG.same g4,[],none,none,none,aK,⟨rfl,λi a c e=>by simp at e⟩,(λ_ h=>nomatch h),rfl⟩ (λi σ t _ p=>SqL.of p.2.2.1) (λi v σ H5 hv p=>?_) (λσ H5 p=>?_)⟩
 .obtain⟨k5,T5,aq,aw,ax,ay,ls,o3,o4,o5,I,ab,az,rfl⟩:=p;rw[cQ]at hv;obtain⟨a,ea,rfl⟩:=eC.mp hv;have li:=(cK.mp ea).1;obtain⟨c,ec⟩: ∃c,told[i]? =some c:=⟨_,cA (by lia)⟩;obtain⟨bs,ha,Ta⟩:=aw.is i a c ea ec;obtain⟨cne,_,cx,call⟩:=gh (sub c (cW ec));obtain⟨b0,a9,aM,m0⟩:=BM Ta cne;have bl:=Ta.len;have bm:c.length<=32:=by
   rw[(gh (sub c (cW ec))).2.1];exact dE (gZ _ _) U
  have ba:a≠to:=λz=>ao (z▸cW ea);obtain⟨W,ws,wa,dg,wt,tt,ix,ex,ey⟩:=ay.get ax cx aM;refine⟨_,rfl,a,_,_,_,rfl,rfl,SqL.of ha,a9,?_⟩;refine⟨_,rfl,a,rfl,⟨_,SqL.of ha⟩,lB (xs:=bs.map .ref) (λj ai t=>t=H5/\ ∃G:As,ai=G.map V.ref/\G.length=j/\(∀b∈G,b∈wa)/\ ∀(k:Nat) (x:cu) (b:Ad),c[k]? =some x->G[k]? =some b-> ∃word,(x,word)∈ws/\H5 b=some (.lst (word.map nv))) (by rw[cz,dC];lia) ⟨rfl,[],rfl,rfl,λ_ h=>(nomatch h),λk x b _ e=>by simp at e⟩ (λj ai t hi p=>?_) (λj v ai t hv p=>?_) (λai t p J aj=>?_)⟩
  .obtain⟨rfl,G,rfl,e,_⟩:=p;exact⟨SqL.of ha,by rw[cz];lia⟩
  .obtain⟨rfl,G,rfl,e,sb,al⟩:=p;rw[cQ]at hv;obtain⟨b,eb,rfl⟩:=eC.mp hv;have lj:=(cK.mp eb).1;obtain⟨x,aA⟩: ∃x,c[j]? =some x:=⟨_,cA (by lia)⟩;have r:=Ta.is j b x eb aA;obtain⟨_,r1,_⟩:=call x (cW aA);obtain⟨⟨x',u⟩,hp,e'⟩:=c7.mp ((zA tt x).mpr r1);have B:x'=x:=e';subst B;obtain⟨aN,v1,v2⟩:=wt.word tt.keys hp;have bb:DGet t W (.ref b) (some (.ref aN)):= .inr ⟨_,nk x',b,.inl wt.dict,rfl,by rw[ip];exact r,v1.symm⟩;refine⟨hI,jm ⟨_,rfl,_,rfl,D,_,rfl,dg,_,rfl,W,_,rfl,bb,rfl,G++[aN],by simp,by simp[e],λb' ak=>?_,λk x b' L B=>?_⟩⟩
   .exact(dw.mp ak).elim (sb b') λh=>by rw[dj.mp h];exact JQ v1
   .by_cases hk:k<G.length
    .rw[e8 hk]at B;exact al k x b' L B
    .rw[eU (by lia)]at B;have z:k-G.length=0:=by
      have:=(cK.mp B).1;simp at this;lia
     rw[z]at B;cases B;have kj:k=j:=by lia
     subst kj;rw[aA]at L;cases L;exact⟨u,hp,v2⟩
  .obtain⟨rfl,G,rfl,bc,sb,al⟩:=p;rw[cz]at bc;have kw:=cL aj (.lst (G.map V.ref));have aO:J≠to:=(dO I aj).symm;have aP:cw t J (.lst (G.map V.ref)) J=some (.lst (G.map V.ref)):=cC;generalize cw t J (.lst (G.map V.ref))=H6 at kw aP⊢;have ae:=kw _ _ I;refine⟨_,rfl,.inl ⟨rfl,_,SqL.of ae⟩,_,rfl,_,rfl,_,rfl,m,b0,O,n,c.headD [],rfl,(M.keeps k5).same kw,kw _ _ aM,T5.same kw,λtl ds us aQ H7 k7 T7 am bd Td be bf=>?_⟩;have ef:aQ=l:=be.uniq ff;subst ef;subst bf;have aR:=k7 _ _ (nU ae);have aS:tl≠to:=λz=>by
    subst z;rw[nU ae]at am;cases am
   refine⟨_,rfl,by show 3<=sizeLine;decide,λlv bg=>?_⟩;have kl:=cL bg (.tup [.ref a,.ref tl,.ref J]);have an:cw H7 lv (.tup [.ref a,.ref tl,.ref J]) lv=some (.tup [.ref a,.ref tl,.ref J]):=cC;have kk:Keeps t (cw H7 lv (.tup [.ref a,.ref tl,.ref J])):=(kw.keeps.trans k7).trans kl.keeps;have aT:Keeps H6 (cw H7 lv (.tup [.ref a,.ref tl,.ref J])):=k7.trans kl.keeps;have ar:=kl _ _ bd;have aU:=Td.same kl;have T8:=T7.same kl;have g:=kl _ _ aR;generalize cw H7 lv (.tup [.ref a,.ref tl,.ref J])=H8 at kl an kk aT ar aU T8 g⊢;have bh:=ab.len;rw[fK]at bh;refine⟨to,_,_,rfl,rfl,g,by rw[cz,dC];lia,?_⟩;have af: ∀{b:Ad} {u:HO},t b=some u->(∀ps,u≠ .tbl ps)->H8 b=some u:=λr no=>kk _ _ (nP r no)
   refine⟨λb u r=>?_,?_,?_,?_,?_,?_,ls++[lv],_,_,_,by rw[cC,eE];rfl,⟨?_,λj a' c' L B=>?_⟩,λa' bi=>?_,rfl⟩
   .rw[cF λ(z:b=to)=>by subst z;rw[aL]at r;cases r];exact(k5.trans kk) _ _ r
   .exact T8.most λb' u _ nl ak=>by rw[cF (iE ak g λe=>nl _ e)];exact ak
   .rw[cF aJ];exact af aq λ_ e=>nomatch e
   .exact(aw.keeps kk).off g ao
   .rcases IY ax (λ_ e=>nomatch e) kk with z|⟨o',z⟩
    .exact .inl (by rw[cF (nE z g)];exact z)
    .exact .inr ⟨o',by rw[cF (nE z g)];exact z⟩
   .exact(ay.keeps kk).off2 g aC
   .rw[dF,fK];simp only[List.length_singleton];lia
   .have lt':told.take (i+1)=told.take i++[c]:=by rw[hG,ec];rfl
    rw[lt']at B;by_cases hj:j<ls.length
    .rw[e8 hj]at L;rw[e8 (by rw[fK];lia)]at B;exact((ab.is j a' c' L B).keeps kk).off g
    .rw[eU (by lia)]at L;rw[eU (by rw[fK];lia)]at B;have z:j-ls.length=0:=by
      have:=(cK.mp L).1;simp at this;lia
     have z':j-(told.take i).length=0:=by rw[fK];lia
     rw[z]at L;rw[z']at B;cases L;cases B;refine LevAt.off ⟨a,tl,J,bs,ds,G,ix,(W,ws,wa),an,ba,aS,aO,λz=>aC _ (cW ey) (sb _ z),af ha (λ_ e=>nomatch e),nt Ta kk,ar,aU,aT _ _ (nU aP),by lia,ex,ey,tt,sb,λk x b L B=>?_⟩ g;obtain⟨word,C,Y⟩:=al k x b L B;exact⟨word,C,af Y λ_ e=>nomatch e⟩
   .rcases dw.mp bi with z|z
    .obtain⟨s',t',v',C,Y⟩:=az a' z;exact⟨s',t',v',(by rw[cF (nE (af C λ_ e=>nomatch e) g)];exact af C λ_ e=>nomatch e),Y⟩
    .rw[dj.mp z];refine⟨a,tl,J,by rw[cF (nE an g)];exact an,?_,?_,?_⟩
     .have C:=aE a (a5 a (cW ea));cases y:L2.noT H a with
      |none=>rfl
      |some u=>
       rw[kt _ _ (k1 _ _ y)]at C;cases C
     .cases y:L2.noT H tl with
      |none=>rfl
      |some u=>
       have C:=kw _ _ (k5 _ _ y);rw[nP C (su y).2]at am;cases am
     .cases y:L2.noT H J with
      |none=>rfl
      |some u=>
       rw[k5 _ _ y]at aj;cases aj
 .obtain⟨k5,T5,aq,aw,ax,ay,ls,o3,o4,o5,I,ab,az,rfl⟩:=p;rw[cz,lo,gj]at ab;exact⟨_,rfl,q to ls told l ys H5 k5 T5 aL I ff od sub a4 ab nw ap az⟩
def cR{x y:cu}:sub x y=true↔ ∀r∈x,r∈y:=by
 unfold sub;rw[oW];exact⟨λh r a=>fY.mp (h r a),λh r a=>fY.mpr (h r a)⟩
def FO{n:Nat}{u v:cu}(d:u∈dW n)(g:v∈dW n)(h:sub u v=true)(j:u≠v):u.length<v.length:=by
 obtain⟨a,_⟩:=cD.mp d;obtain⟨b,_⟩:=cD.mp g;have s:=cR.mp h;have e: ∃z∈List.range 5,u.contains z=false/\v.contains z=true:=by
  refine x8 λno=>j ?_;rw[<-a,<-b];unfold fb;refine qz λz k=>?_;rw[iZ];constructor
  .exact λq=>fY.mpr (s z (fY.mp q))
  .intro q;cases c:u.contains z with
   |true=>rfl
   |false=>exact wC ⟨z,k,c,q⟩ no
 have z:=Ax (xs:=List.range 5) (p:=λi=>u.contains i) (q:=λi=>v.contains i) (λz _ q=>fY.mpr (s z (fY.mp q))) e;rw[zu,zu]at z;unfold fb at a b;rw[a,b]at z;exact z
structure TileFacts(fam:LN)(x:cu)(us:LN):Prop where
 mem: ∀u∈us,u∈fam/\u≠x/\sub u x=true
 apart: ∀u∈us,∀v∈us,u≠v->sub u v=false
 up:us.Pairwise λa b=>fN gl a b=true
 all: ∀u∈fam,u≠x->sub u x=true-> ∃t∈us,sub u t=true
 few:us.length<=32
 few2:fam.length<=32
 l5: ∀u∈fam,u.length<=5
def nL{H:Hp}{m:Ad}{y:LN}{n:Nat}{a:LN}(M:Mach H m y n)(k:FamOf y n a)(x:cu):TileFacts a x (hA a x):=by
 have few:=k.few M;have b: ∀u,u∈gW a x↔u∈a/\u≠x/\sub u x=true:=λu=>by
  unfold gW;rw[dJ,jv,rf]
 have l: ∀u,j7 (gW a x) u=true↔ ∃v∈gW a x,v≠u/\sub u v=true:=λu=>by
  unfold j7;rw[wk];constructor
  .rintro⟨v,i,e⟩;rw[jv,rf]at e;exact⟨v,i,e⟩
  .rintro⟨v,i,e⟩;exact⟨v,i,by rw[jv,rf];exact e⟩
 have g: ∀u,u∈hA a x↔u∈gW a x/\j7 (gW a x) u=false:=λu=>by
  unfold hA;rw[dJ];refine and_congr Iff.rfl ?_;cases j7 (gW a x) u<;>simp
 have A: ∀u∈a,u.length<=5:=λu h=>dE (oO M.n5 (k.inU M h)) M.n5;have o: ∀(d:Nat) (u:cu),u∈gW a x->5-u.length<=d-> ∃t∈hA a x,sub u t=true:=by
  intro d
  induction d with
  | zero=>
   intro u j B;cases c:j7 (gW a x) u with
   |false=>exact⟨u,(g u).mpr ⟨j,c⟩,cR.mpr λr q=>q⟩
   |true=>
    obtain⟨v,p,i,e⟩:=(l u).mp c;have:=FO (k.inU M ((b u).mp j).1) (k.inU M ((b v).mp p).1) e (eJ i)
    have:=A v ((b v).mp p).1;lia
  | succ d C=>
   intro u j B;cases c:j7 (gW a x) u with
   |false=>exact⟨u,(g u).mpr ⟨j,c⟩,cR.mpr λr q=>q⟩
   |true=>
    obtain⟨v,p,i,e⟩:=(l u).mp c;have:=FO (k.inU M ((b u).mp j).1) (k.inU M ((b v).mp p).1) e (eJ i)
    obtain⟨t,ht,s⟩:=C v p (by lia);exact⟨t,ht,cR.mpr λr q=>cR.mp s r (cR.mp e r q)⟩
 refine⟨λu j=>(b u).mp ((g u).mp j).1,λu j v p D=>?_,?_,λu i e s=>o 5 u ((b u).mpr ⟨i,e,s⟩) (by lia),?_,few,A⟩
 .cases c:sub u v with
  |false=>rfl
  |true=>
   have z:=(l u).mpr ⟨v,((g v).mp p).1,eJ D,c⟩;rw[((g u).mp j).2]at z;cases z
 .exact(k.up.filter _).filter _
 .exact dE (gZ _ _) (dE (gZ _ _) few)
def CD(x:cu):fN gl x x=false:=(lM gl [x]).irr x
def qu{K:W.Frag}{H:Hp}{fs:As}{b:LN}{n:Nat}(T:TupsAt H fs b)(i:Nat)(d:Dt)(v:V)(c:(b.map λu=>Dt.tup (fX u))[i]? =some d)(e:(fs.map V.ref)[i]? =some v):Rep K H (n+1) d v:=by
 rw[cQ]at c e;obtain⟨p,g,rfl⟩:=eC.mp c;obtain⟨a,h,rfl⟩:=eC.mp e;exact gu (SqT.of (T.is i a p h g))
def HJ{u:cu}{a:LN}:Dt.tup (fX u)∈a.map (λu=>Dt.tup (fX u))↔u∈a:=by
 rw[c7];constructor
 .rintro⟨v,c,b⟩;injection b with b
  rw[<-yQ b];exact c
 .exact λh=>⟨u,h,rfl⟩
def iW(f:Nat->Nat):Nat->Nat->Nat
 |0,r=>r
 |k+1,r=>iW f k (f r)
theorem yO(f:Nat->Nat): ∀(a b r:Nat),iW f (a+b) r=iW f b (iW f a r)
 |0,b,r=>by rw[pX];rfl
 |a+1,b,r=>by
  rw[Nat.add_right_comm];exact yO f a b (f r)
theorem sm{f:Nat->Nat}{d r:Nat}(h:iW f d r=r): ∀k,iW f (d * k) r=r
 |0=>rfl
 |k+1=>by rw[Nat.mul_succ,yO,sm h k,h]
def AF(a:LN)(r:Nat)(u v:cu):eG a r (u++v)=eG a (eG a r u) v:=by
 unfold eG;rw[nZ]
def nK(u:cu):Nat->List Nat
 |0=>[]
 |k+1=>u++nK u k
theorem EZ(a:LN)(u:cu): ∀(k r:Nat),eG a r (nK u k)=iW (λr=>eG a r u) k r
 |0,_=>rfl
 |k+1,r=>by
  show eG a r (u++nK u k)=_;rw[AF,EZ a u k];rfl
theorem F7{u:cu}{l:Nat}: ∀{k:Nat},l∈nK u k->l∈u
 |0,h=>nomatch h
 |k+1,h=>(dw.mp h).elim id F7
def wr(a:LN)(x u v:cu):di (cE a) x (u++v)=di (cE a) (di (cE a) x u) v:=by
 unfold di;rw[nZ]
def v4{n:Nat}{x y:cu}(a:x∈dW n)(b:y∈dW n)(h: ∀r,r∈x↔r∈y):x=y:=by
 rw[<-(cD.mp a).1,<-(cD.mp b).1];exact B4 h
def yy{n:Nat}{x:cu}(a:x∈dW n):x.Nodup:=by
 rw[<-(cD.mp a).1];unfold fb;exact List.Nodup.sublist oN List.nodup_range
def jw{H:Hp}{m:Ad}{b:LN}{n:Nat}(M:Mach H m b n){x word:cu}(d:x∈dW n)(hw: ∀l∈word,l<b.length){r:Nat}:r∈di (cE b) x word↔ ∃a∈x,eG b a word=r:=by
 have g:=M.n5;rw[xx M word x d hw];constructor
 .intro h;obtain⟨a,c,e⟩:=c7.mp (vT h);exact⟨a,c,e⟩
 .rintro⟨a,c,rfl⟩;have:=lK M word a ((cD.mp d).2 a c) hw;exact Cd (c7.mpr ⟨a,c,rfl⟩) (by lia)
def lN{H:Hp}{m:Ad}{a:LN}{n:Nat}(M:Mach H m a n){x word:cu}(b:x∈dW n)(hw: ∀l∈word,l<a.length):di (cE a) x word∈dW n:=qo b (λy c l d=>sj M c d) word hw
structure Bij(ts:LN)(x y w p:cu):Prop where
 to:di (cE ts) x w=y
 fro:di (cE ts) y p=x
 lw: ∀l∈w,l<ts.length
 lp: ∀l∈p,l<ts.length
 here: ∀r∈x,eG ts (eG ts r w) p=r
 there: ∀r∈y,eG ts (eG ts r p) w=r
def Bij.symm{a:LN}{x y w p:cu}(b:Bij a x y w p):Bij a y x p w:=⟨b.fro,b.to,b.lp,b.lw,b.there,b.here⟩
def KD{x:cu}{f:Nat->Nat}(nd:x.Nodup)(j: ∀r∈x,∃c∈x,f c=r): ∀a∈x,∀b∈x,f a=f b->a=b:=λa d b k e=>by
 by_cases g:a=b
 .exact g
 have z:=sf (l₂:=(x.erase a).map f) nd λr l=>by
  obtain⟨c,m,h⟩:=j r l;by_cases i:c=a
  .exact c7.mpr ⟨b,(vQ (eJ g)).mpr k,by rw[<-e,<-i,h]⟩
  .exact c7.mpr ⟨c,(vQ i).mpr m,h⟩
 rw[cz,yu d]at z;have:=vk d;lia
theorem yi{x:cu}{f:Nat->Nat}(a: ∀r∈x,f r∈x): ∀(k r:Nat),r∈x->iW f k r∈x
 |0,_,h=>h
 |k+1,r,h=>yi a k (f r) (a r h)
theorem D5{x:cu}{f:Nat->Nat}(c: ∀r∈x,f r∈x)(inj: ∀a∈x,∀b∈x,f a=f b->a=b): ∀(k:Nat),∀a∈x,∀b∈x,iW f k a=iW f k b->a=b
 |0,_,_,_,_,e=>e
 |k+1,a,d,b,g,e=>inj a d b g (D5 c inj k (f a) (c a d) (f b) (c b g) e)
def tM{x:cu}{f:Nat->Nat}(p:x.length<=5)(g: ∀r∈x,f r∈x)(inj: ∀a∈x,∀b∈x,f a=f b->a=b)(r:Nat)(k:r∈x):iW f 60 r=r:=by
 have: ∃d,1<=d/\d<=5/\iW f d r=r:=by
  by_cases h: ∃i j,i<j/\j<=5/\iW f i r=iW f j r
  .obtain⟨i,j,l,m,c⟩:=h;refine⟨j-i,by lia,by lia,?_⟩;have e:j=(j-i)+i:=by lia
   rw[e,yO]at c;exact(D5 g inj i r k _ (yi g (j-i) r k) c).symm
  .have nd:((List.range 6).map λi=>iW f i r).Nodup:=by
    rw[FD,si];refine zG ?_ List.pairwise_lt_range;intro i j q n lt e;exact h ⟨i,j,lt,by have:=fq.mp n;lia,e⟩
   have z:=sf (l₂:=x) nd λy o=>by
    obtain⟨i,_,rfl⟩:=c7.mp o;exact yi g i r k
   rw[cz,iY]at z;lia
 obtain⟨d,l,m,c⟩:=this;have:d=1∨d=2∨d=3∨d=4∨d=5:=by lia
 rcases this with rfl|rfl|rfl|rfl|rfl
 .exact sm c 60
 .exact sm c 30
 .exact sm c 20
 .exact sm c 15
 .exact sm c 12
def zF{H:Hp}{m:Ad}{a:LN}{n:Nat}(M:Mach H m a n){x y w:cu}(b:x∈dW n)(i: ∀l∈w,l<a.length)(e:di (cE a) x w=y)(back:Rch a y x): ∃p,Bij a x y w p:=by
 obtain⟨v,s,B⟩:=back;have t:y∈dW n:=by rw[<-e];exact lN M b i
 have d: ∀l∈w++v,l<a.length:=λl o=>(dw.mp o).elim (i l) (s l);have u:di (cE a) x (w++v)=x:=by rw[wr,e,B]
 have C: ∀r∈x,eG a r (w++v)∈x:=λr c=>by
  have z:=(jw M b d).mpr ⟨r,c,rfl⟩;rw[u]at z;exact z
 have D: ∀r∈x,∃j∈x,eG a j (w++v)=r:=λr c=>(jw M b d).mp (by rw[u];exact c);have inj:=KD (yy b) D;have E:=tM (f:=λr=>eG a r (w++v)) (dE (oO M.n5 b) M.n5) C inj;have here: ∀r∈x,eG a (eG a r w) (v++nK (w++v) 59)=r:=λr c=>by
  rw[<-AF,<-fh,AF,EZ];exact E r c
 have q: ∀l∈v++nK (w++v) 59,l<a.length:=λl o=>(dw.mp o).elim (s l) λh=>d l (F7 h);have g: ∀r∈y,eG a (eG a r (v++nK (w++v) 59)) w=r:=λr c=>by
  rw[<-e]at c;obtain⟨j,k,rfl⟩:=(jw M b i).mp c;rw[here j k]
 refine⟨v++nK (w++v) 59,e,v4 (lN M t q) b λr=>?_,i,q,here,g⟩;rw[jw M t q];constructor
 .rintro⟨j,k,rfl⟩;rw[<-e]at k;obtain⟨G,A,rfl⟩:=(jw M b i).mp k;rw[here G A];exact A
 .intro h;exact⟨eG a r w,by rw[<-e];exact(jw M b i).mpr ⟨r,h,rfl⟩,here r h⟩
def Bij.back{H:Hp}{m:Ad}{a:LN}{n:Nat}(M:Mach H m a n){x y w p u:cu}(b:Bij a x y w p)(c:u∈dW n)(s:sub u x=true):di (cE a) (di (cE a) u w) p=u:=by
 have d:=cR.mp s;have e:=lN M c b.lw;refine v4 (lN M e b.lp) c λr=>?_;rw[jw M e b.lp];constructor
 .rintro⟨j,i,rfl⟩;obtain⟨g,h,rfl⟩:=(jw M c b.lw).mp i;rw[b.here g (d g h)];exact h
 .intro z;exact⟨eG a r w,(jw M c b.lw).mpr ⟨r,z,rfl⟩,b.here r (d r z)⟩
def uL{H:Hp}{m:Ad}{a:LN}{n:Nat}(M:Mach H m a n){u v w:cu}(d:u∈dW n)(e:v∈dW n)(b: ∀l∈w,l<a.length)(s:sub u v=true):sub (di (cE a) u w) (di (cE a) v w)=true:=by
 refine cR.mpr λr g=>?_;obtain⟨c,h,rfl⟩:=(jw M d b).mp g;exact(jw M e b).mpr ⟨c,cR.mp s c h,rfl⟩
def zd{H:Hp}{m:Ad}{b:LN}{n:Nat}{a:LN}(M:Mach H m b n)(g:FamOf b n a){u w:cu}(h:u∈a)(c: ∀l∈w,l<b.length):di (cE b) u w∈a:=by
 have d:=M.n5;refine(g.mem _).mpr ?_
 rcases (g.mem u).mp h with⟨i,j,k⟩|⟨r,e,rfl⟩
 .refine .inl ⟨i++w,λl o=>(dw.mp o).elim (j l) (c l),?_⟩;rw[wr,k]
 .have lt:=lK M w r e c;refine .inr ⟨eG b r w,lt,v4 (lN M (sQ d e) c) (sQ d lt) λq=>?_⟩;rw[jw M (sQ d e) c];constructor
  .rintro⟨s,p,rfl⟩;rw[dj.mp p];exact dj.mpr rfl
  .intro z;exact⟨r,dj.mpr rfl,(dj.mp z).symm⟩
def DC{n:Nat}{u v:cu}(c:u∈dW n)(d:v∈dW n)(a:sub u v=true)(b:sub v u=true):u=v:=v4 c d λr=>⟨cR.mp a r,cR.mp b r⟩
def Ay{u v w:cu}(a:sub u v=true)(b:sub v w=true):sub u w=true:=cR.mpr λr c=>cR.mp b r (cR.mp a r c)
def nC{H:Hp}{m:Ad}{i:LN}{n:Nat}{a:LN}(M:Mach H m i n)(d:FamOf i n a){x u:cu}:u∈hA a x↔u∈a/\u≠x/\sub u x=true/\ ∀v∈a,v≠x->sub v x=true->sub u v=true->v=u:=by
 have b:=nL M d x;constructor
 .intro j;obtain⟨c,g,h⟩:=b.mem u j;refine⟨c,g,h,λv k o p l=>?_⟩;obtain⟨t,ht,st⟩:=b.all v k o p;have q:u=t:=by
   by_cases e:u=t
   .exact e
   .have z:=b.apart u j t ht e;rw[Ay l st]at z;cases z
  subst q;exact DC (d.inU M k) (d.inU M c) st l
 .rintro⟨c,g,h,r⟩;obtain⟨t,ht,st⟩:=b.all u c g h;obtain⟨s,y,A⟩:=b.mem t ht;rw[<-r t s y A st];exact ht
def rj{H:Hp}{m:Ad}{a:LN}{n:Nat}{c:LN}(M:Mach H m a n)(d:FamOf a n c){x y w p u:cu}(k:x∈dW n)(b:Bij a x y w p)(q:u∈hA c x):di (cE a) u w∈hA c y:=by
 obtain⟨l,r,i,s⟩:=(nC M d).mp q;have t:y∈dW n:=by rw[<-b.to];exact lN M k b.lw
 have g:=d.inU M l;have gU:=lN M g b.lw;have A:sub (di (cE a) u w) y=true:=by
  have z:=uL M g k b.lw i;rw[b.to]at z;exact z
 refine(nC M d).mpr ⟨zd M d l b.lw,λe=>r ?_,A,λv o B j C=>?_⟩
 .rw[<-b.back M g i,e,b.fro]
 .have h:=d.inU M o;have bs:=b.symm;have D:=zd M d o b.lp;have E:di (cE a) v p≠x:=λe=>B (by rw[<-bs.back M h j,e,b.to]);have G:sub (di (cE a) v p) x=true:=by
   have z:=uL M h t b.lp j;rw[b.fro]at z;exact z
  have I:sub u (di (cE a) v p)=true:=by
   have z:=uL M gU h b.lp C;rw[b.back M g i]at z;exact z
  rw[<-bs.back M h j,s _ D E G I]
def LvH(H:Hp)(a:Ad)(c h:LN)(d:LN):Prop:= ∃(s t v:Ad) (bs ds e:As),H a=some (.tup [.ref s,.ref t,.ref v])/\H s=some (.lst (bs.map .ref))/\TupsAt H bs c/\H t=some (.lst (ds.map .ref))/\TupsAt H ds h/\H v=some (.lst (e.map .ref))/\e.length=d.length/\ ∀(k:Nat) (b:Ad) (g:cu),e[k]? =some b->d[k]? =some g->H b=some (.lst (g.map nv))
def LvH.same{H e:Hp}{a:Ad}{c i d:LN}(h:LvH H a c i d)(g:Same H e):LvH e a c i d:=by
 obtain⟨s,t,v,bs,ds,j,l,m,n,o,p,q,r,u⟩:=h;exact⟨s,t,v,bs,ds,j,g _ _ l,g _ _ m,n.same g,g _ _ o,p.same g,g _ _ q,r,λk b x y z=>g _ _ (u k b x y z)⟩
structure LvP(ts fam:LN)(c us wds:LN):Prop where
 cls:c∈db ts (big fam)
 tl:us=hA fam (c.headD [])
 len:wds.length=c.length
 go: ∀(k:Nat) (x wd:cu),c[k]? =some x->wds[k]? =some wd->(∀l∈wd,l<ts.length)/\di (cE ts) (c.headD []) wd=x
def zW:Sp:=λh H Q _=> ∃(m a:Ad) (k j:Nat) (d:LN) (n:Nat) (c g b:LN) (u e:cu),h=[.ref m,.ref a,nv k,nv j]/\Mach H m d n/\LvH H a c g b/\g[j]? =some u/\b[k]? =some e/\u∈dW n/\(∀l∈e,l<d.length)/\rm H ((di (cE d) u e).map nv) Q
def BO:Sp:=λj H Q _=> ∃(m a:Ad) (k:Nat) (g:LN) (n:Nat) (c d b:LN) (h:cu),j=[.ref m,.ref a,nv k]/\Mach H m g n/\LvH H a c d b/\b[k]? =some h/\(∀u∈d,u∈dW n)/\d.length<=32/\(∀l∈h,l<g.length)/\
 ∀l i e,Same H e->e l=some (.lst (i.map .ref))->TupsAt e i (d.map λu=>di (cE g) u h)->Q (.ref l) e
def iH(a b:LN)(h c:cu)(l:Nat)(d:cu):Prop:=d.length=b.length/\ ∀(j:Nat) (u:cu) (e:Nat),b[j]? =some u->d[j]? =some e-> ∃g,b[e]? =some g/\di (cE a) g c=cE a (di (cE a) u h) l
def xI:Sp:=λr H Q _=> ∃(m a:Ad) (k l:Nat) (d:LN) (n:Nat) (g c i b:LN) (x j:cu),r=[.ref m,.ref a,nv k,nv l]/\Mach H m d n/\FamOf d n g/\LvH H a c i b/\LvP d g c i b/\c[k]? =some x/\b[k]? =some j/\l<d.length/\
 (cE d x l∉c-> ∀e,Same H e->Q .non e)/\ ∀(o:Nat) (h:cu),c[o]? =some (cE d x l)->b[o]? =some h-> ∀p q e,Same H e->e p=some (.tup (q.map nv))->iH d i j h l q->Q (.ref p) e
theorem Bq{b:Type}{d:b}: ∀{ds:List b},d∈ds-> ∃j:Nat,ds[j]? =some d/\ ∀i:Nat,i<j->ds[i]? ≠some d
 | [],h=>nomatch h
 | e::ds,h=>by
  by_cases z:e=d
  .exact⟨0,by rw[z];rfl,λi c=>wC c (pU i)⟩
  .obtain⟨j,g,k⟩:=Bq (ds:=ds) ((dQ.mp h).resolve_left λa=>z a.symm);refine⟨j+1,g,λi c=>?_⟩;cases i with
   |zero=>exact λa=>z (by injection a)
   |succ i=>exact k i (by lia)
def j9{u:cu}{a:LN}:Dt.tup (fX u)∈a.map (λu=>Dt.tup (fX u))↔u∈a:=HJ
def eB{u:cu}{a:LN}{j:Nat}:(a.map λu=>Dt.tup (fX u))[j]? =some (Dt.tup (fX u))↔a[j]? =some u:=by
 rw[cQ];constructor
 .intro h;obtain⟨v,c,b⟩:=eC.mp h;injection b with b
  rw[<-yQ b];exact c
 .intro h;rw[h];rfl
def LvP.bij{H:Hp}{m:Ad}{d:LN}{n:Nat}{a c i b:LN}(M:Mach H m d n)(j:FamOf d n a)(g:LvP d a c i b){k:Nat}{x e:cu}(h:c[k]? =some x)(l:b[k]? =some e): ∃p,Bij d (c.headD []) x e p:=by
 obtain⟨_,_,o,call⟩:=gh g.cls;obtain⟨q,r⟩:=g.go k x e h l;exact zF M (j.inU M (dJ.mp o).1) q r (call x (cW h)).2.2
def FS{H:Hp}{m:Ad}{a:LN}{n:Nat}{d c j e:LN}(M:Mach H m a n)(b:FamOf a n d)(g:LvP a d c j e){k t l:Nat}{x o h:cu}(v:c[k]? =some x)(E:e[k]? =some o)(G:l<a.length)(y:c[t]? =some (cE a x l))(q:e[t]? =some h){u:cu}(I:u∈j):cE a (di (cE a) u o) l∈j.map λu=>di (cE a) u h:=by
 obtain⟨_,_,J,call⟩:=gh g.cls;have L:=b.inU M (dJ.mp J).1;obtain⟨p,N⟩:=g.bij M b v E;obtain⟨p',A⟩:=g.bij M b y q;obtain⟨O,r,Q⟩:=call x (cW v);obtain⟨T,U,s⟩:=call _ (cW y);have B:=b.inU M (dJ.mp O).1;have Y:=b.inU M (dJ.mp T).1;obtain⟨p2,b2⟩:=zF M (w:=[l]) B (λz hz=>by rw[dj.mp hz];exact G) rfl (s.trans r);have i:=I;rw[g.tl]at i;have t1:=rj M b L N i;have C:cE a (di (cE a) u o) l∈hA d (cE a x l):=rj M b B b2 t1;obtain⟨f1,f2,f3,_⟩:=(nC M b).mp C;have D:=rj M b Y A.symm C;rw[<-g.tl]at D;exact c7.mpr ⟨_,D,A.symm.back M (b.inU M f1) f3⟩
def LvP.nd{i:LN}{n:Nat}{d c j g:LN}(k:FamOf i n d)(l:LvP i d c j g):c.Nodup:=by
 have h:d.Nodup:=k.up.imp λ{a b} z e=>by
  subst e;rw[(lM gl d).irr]at z;cases z
 rw[(gh l.cls).2.1];exact List.Nodup.sublist (oN.trans oN) h
def LvP.inU{H:Hp}{m:Ad}{b:LN}{n:Nat}{a c d e:LN}(M:Mach H m b n)(h:FamOf b n a)(i:LvP b a c d e):(∀u∈d,u∈dW n)/\d.length<=32:=by
 have g:=nL M h (c.headD []);rw[<-i.tl]at g;exact⟨λu j=>h.inU M (g.mem u j).1,g.few⟩
def IN(F:Fun K "tile" "tile" zP f fd)(G:dA P w K mg base "carried" 3 ["machine","rooms","word"] (sn K)):FnOk P w K mg base cZ 5 f fd ["machine","level","k","j"] zW:=by
 refine F.ok IJ (λI H Q E h=>?_) (λJ A g s H I Q E o h=>?_)
 .obtain⟨m,a,k,j,r,n,c,L,i,u,e,rfl,_⟩:=h;rfl
 obtain⟨m,a,k,j,r,n,c,L,i,u,e,rfl,M,N,t,v,l,x,q⟩:=h;have hu:=o.units;obtain⟨s',O,T,bs,U,Y,y,h2,h3,h4,z,h6,h7,h8⟩:=N;have l5:=z.len;have lj:=(cK.mp t).1;have lk:=(cK.mp v).1;obtain⟨d,B⟩: ∃d,U[j]? =some d:=⟨_,cA (by lia)⟩;obtain⟨b,C⟩: ∃b,Y[k]? =some b:=⟨_,cA (by lia)⟩;have hd:=z.is j d u B t;have hb:=h8 k b e C v;refine⟨_,(cS (dH (dD G o.m rfl (de (cB (pv 0) (cB (cX fS (cX dz (pv 1) cV (λ_ _=>rfl)) (pv 3) (λ_ _=>rfl)) (cB (cX fS (cX dz (pv 1) cV (λ_ _=>rfl)) (pv 2) (λ_ _=>rfl)) c8 rfl) rfl) rfl))))),?_⟩;refine⟨_,rfl,_,rfl,a,_,_,_,rfl,rfl,SqT.of y,rfl,_,rfl,O,_,_,_,rfl,rfl,SqL.of h4,gF (by rw[cQ,B];rfl),_,rfl,a,_,_,_,rfl,rfl,SqT.of y,rfl,_,rfl,T,_,_,_,rfl,rfl,SqL.of h6,gF (by rw[cQ,C];rfl),m,d,b,r,n,u,e,rfl,M,SqT.of hd,dE (oO M.n5 l) M.n5,(cD.mp l).2,SqL.of hb,x,λp H2 g2 D=>?_⟩;rw[<-xx M e u l x]at D;exact q p H2 g2 D
def L6(F:Fun K "tiles_of_set" "tiles_of_set" wW f fd)(L:dA P w K mg base "tile" 5 ["machine","level","k","j"] zW)(O:mg "len"=none)(T:mg "range"=none):FnOk P w K mg base cZ 7 f fd ["machine","level","k"] BO:=by
 refine F.ok Hu (λU H Q E h=>?_) (λY A v s H U Q E D h=>?_)
 .obtain⟨m,a,k,x,n,c,j,l,y,rfl,_⟩:=h;rfl
 obtain⟨m,a,k,x,n,c,j,l,y,rfl,M,G,ew,uU,few,lw,q⟩:=h;have hu:=D.units;obtain⟨s',t',v',bs,ds,cs,h1,h2,h3,h4,h5,h6,h7,h8⟩:=id G;have l5:=h5.len;refine⟨_,(cS (dH (gI (CompSc.to (N:=["machine","level","k"]) (osc:=cU wW) (vs:=["j"]) {}) rfl rfl (mK rfl T (cJ (eZ fZ rfl O fV (cJ (cX dz (pv 1) cV (λ_ _=>rfl)) cI)) cI)) (λ_ _ _ _=>iu) (λ_ _ _ _=>(dD L D.m rfl (de (cB (pv 1) (cB (pv 2) (cB (pv 3) (cB (pv 0) c8 rfl) rfl) rfl) rfl))))))),?_⟩;refine⟨_,rfl,a,_,_,_,rfl,rfl,SqT.of h1,rfl,t',_,rfl,.inl (SqL.of h4),(j.length:Int),by rw[cz,l5],by lia,by lia,t8 (λi o r=>Same H r/\ ∃d,o=d.map V.ref/\d.length=i/\TupsAt r d ((j.take i).map λu=>di (cE x) u y)) (by rw[hV];exact small (by lia)) ⟨Same.refl _,[],rfl,rfl,rfl,λi b u e=>by simp at e⟩ (λi o r _ p=>?_) (λi o r hi p=>?_) (λo H1 p sg z=>?_)⟩
 .obtain⟨_,d,rfl,e,_⟩:=p;rw[cz];lia
 .obtain⟨g,d,rfl,e,t⟩:=p;have e0:V.int (0+(i:Int))=nv i:=by show V.int (0+(i:Int))=V.int (i:Int);rw[rh]
  have B:i<j.length:=by simpa using hi
  obtain⟨u,C⟩: ∃u,j[i]? =some u:=⟨_,cA B⟩;rw[e0];refine⟨hI,jm ⟨_,rfl,_,rfl,_,rfl,_,rfl,m,a,k,i,x,n,c,j,l,u,y,rfl,M.same g,G.same g,C,ew,uU u (cW C),lw,λp H2 I e2=>?_⟩⟩;refine⟨g.trans I,d++[p],by simp,by simp[e],?_⟩;rw[hG,C,eE];exact qt (t.same I) e2
 obtain⟨g1,d,rfl,er,t⟩:=p;rw[hV,gj]at t;have J:=cL z (.lst (d.map V.ref));exact q sg d _ (g1.trans J) cC (t.same J)
def G9(F:Fun K "tiles_turned" "tiles_turned" v9 f fd)(jH:dA P w K mg base "carried" 3 ["machine","rooms","word"] (sn K))(jK:dA P w K mg base "tiles_of_set" 7 ["machine","level","k"] BO)(jC:mg "tuple"=none):FnOk P w K mg base cZ 9 f fd ["machine","level","k","letter"] xI:=by
 refine F.ok qD (λvs H Q E h=>?_) (λaz A ap s H vs Q E hr h=>?_)
 .obtain⟨m,a,k,l,o,n,ae,c,L,B,x,wd,rfl,_⟩:=h;rfl
 obtain⟨m,a,k,l,o,n,ae,c,L,B,x,wd,rfl,M,ff,lv,lp,ex,ew,ll,q1,q2⟩:=h;have hu:=hr.units;obtain⟨s',t',v',bs,ds,cs,h1,h2,h3,h4,h5,h6,h7,h8⟩:=id lv;obtain⟨cne,aA,cx,call⟩:=gh lp.cls;have lb:=h3.len;have lk:=(cK.mp ex).1;obtain⟨b,eb⟩: ∃b,bs[k]? =some b:=⟨_,cA (by lia)⟩;have hb:=h3.is k b x eb ex;have af: ∀y∈big ae,y∈dW n:=λy hy=>ff.inU M (dJ.mp hy).1;have mx:=cW ex;have hU:=af x (call x mx).1;refine⟨_,(cN (dm (i:=4) qD.nd rfl (Or.inl rfl) (dD jH hr.m rfl (de (cB (pv 0) (cB (cX fS (cX dz (pv 1) cV (λ_ _=>rfl)) (pv 2) (λ_ _=>rfl)) (cB (fM (cJ (pv 3) cI)) c8 rfl) rfl) rfl)))) (cN (ge (gq (GB hu) (pv 4) (cX dz (pv 1) cV (λ_ _=>rfl)) (by with_unfolding_all rfl)) (cS (dH qr)) gJ) (cN (dm (i:=5) qD.nd rfl (Or.inr rfl) (dD jK hr.m rfl (de (cB (pv 0) (cB (pv 1) (cB (gb f' qv qk (u5 hu) (cX dz (pv 1) cV (λ_ _=>rfl)) (cJ (pv 4) cI)) c8 rfl) rfl) rfl)))) (cS (dH (gY mo rfl jC jr (cJ (gI (CompSc.to (N:=["machine","level","k","letter","there","ends"]) (osc:=cU v9) (vs:=["part"]) {}) rfl rfl (gL (dD jK hr.m rfl (de (cB (pv 0) (cB (pv 1) (cB (pv 2) c8 rfl) rfl) rfl)))) (λ_ _ _ _=>iu) (λ_ _ _ _=>(GP (K:=K) Ci rfl (gb f' qv qk (u5 hu) (pv 6) (cJ (dD jH hr.m rfl (de (cB (pv 1) (cB (pv 0) (cB (fM (cJ (pv 4) cI)) c8 rfl) rfl) rfl))) cI))))) cI))))))),?_⟩;obtain⟨uU,few⟩:=lp.inU M ff;have ag:=(lp.go k x wd ex ew).1;have l1: ∀z∈[l],z<o.length:=λz hz=>by rw[dj.mp hz];exact ll
 refine⟨_,rfl,_,rfl,a,_,_,_,rfl,rfl,SqT.of h1,rfl,_,rfl,s',_,_,_,rfl,rfl,SqL.of h2,gF (by rw[cQ,eb];rfl),_,rfl,by show 1<=sizeLine;decide,λp1 O=>?_⟩;have I:=cL O (.lst [nv l]);refine⟨m,b,p1,o,n,x,[l],rfl,M.same I,SqT.of (I _ _ hb),dE (oO M.n5 hU) M.n5,(cD.mp hU).2,SqL.of cC,l1,λth H2 aq J=>?_⟩;have C:=I.trans aq;have T:H2 th=some (.tup ((cE o x l).map nv)):=J;generalize hy:cE o x l=y at T q1 q2;have U:=C _ _ h2;refine⟨_,rfl,_,rfl,a,_,_,_,rfl,rfl,SqT.of (C _ _ h1),rfl,s',1,.tup (fX y),c.map λu=>Dt.tup (fX u),_,rfl,SqL.of U,by rw[cz,cz,lb],gu (SqT.of T),qu (h3.same C),by decide,λcc hc=>⟨_,rfl,?_⟩⟩;by_cases my:y∈c
 .have Y:cc=true:=hc.mpr (j9.mpr my);subst Y;refine fj ?_;obtain⟨k',ey,no⟩:=Bq my;have ar:=(cK.mp ey).1;obtain⟨q,D⟩: ∃q,B[k']? =some q:=⟨_,cA (by rw[lp.len];exact ar)⟩;have ah:=(lp.go k' y q ey D).1;refine⟨_,rfl,_,rfl,_,rfl,a,_,_,_,rfl,rfl,SqT.of (C _ _ h1),rfl,.inl ⟨rfl,_,SqL.of U⟩,_,rfl,s',_,1,.tup (fX y),c.map λu=>Dt.tup (fX u),_,k',rfl,rfl,SqL.of U,by rw[cz,cz,lb],gu (SqT.of T),qu (h3.same C),by decide,eB.mpr ey,λi hi e=>no i hi (eB.mp e),?_⟩;refine⟨m,a,k',o,n,c,L,B,q,rfl,M.same C,lv.same C,D,uU,few,ah,λen es H3 as ai aj=>?_⟩;have g3:=C.trans as;have len:=aj.len;rw[cz]at len;refine⟨_,rfl,_,rfl,_,rfl,m,a,k,o,n,c,L,B,wd,rfl,M.same g3,lv.same g3,ew,uU,few,ag,λpl ps H4 aa ak am=>?_⟩;have g4:=g3.trans aa;have au:=am.len;rw[cz]at au;refine⟨pl,rfl,⟨_,SqL.of ak⟩,lB (xs:=ps.map .ref) (λi G H'=>Same H4 H'/\ ∃t:cu,G=t.map nv/\t.length=i/\ ∀(j:Nat) (u:cu) (j':Nat),L[j]? =some u->t[j]? =some j'-> ∃u',L[j']? =some u'/\di (cE o) u' q=cE o (di (cE o) u wd) l) (by rw[cz,dC];lia) ⟨Same.refl _,[],rfl,rfl,λj u j' _ e=>by simp at e⟩ (λi G H' hi p=>?_) (λi v G H' hv p=>?_) (λG H5 p tl av=>?_)⟩
  .obtain⟨g,t,rfl,e,_⟩:=p;exact⟨SqL.of (g _ _ ak),by rw[cz];lia⟩
  .obtain⟨g,t,rfl,e,al⟩:=p;rw[cQ]at hv;obtain⟨d,ed,rfl⟩:=eC.mp hv;have li:=(cK.mp ed).1;obtain⟨u,eu⟩: ∃u,L[i]? =some u:=⟨_,cA (by lia)⟩;have mu:=cW eu;have hd:=g _ _ (am.is i d _ ed (by rw[cQ,eu];rfl));have an:=lN M (uU u mu) ag;have gH:=g4.trans g;refine⟨hI,jm ⟨_,rfl,.inl ⟨rfl,_,SqL.of ((aa.trans g) _ _ ai)⟩,_,rfl,_,rfl,_,rfl,by show 1<=sizeLine;decide,λp1 O=>?_⟩⟩;have I:=cL O (.lst [nv l]);refine⟨m,d,p1,o,n,_,[l],rfl,M.same (gH.trans I),SqT.of (I _ _ hd),dE (oO M.n5 an) M.n5,(cD.mp an).2,SqL.of cC,l1,λca H6 ao e6=>?_⟩;have aw:H6 ca=some (.tup ((cE o (di (cE o) u wd) l).map nv)):=e6;have g6:=(aa.trans g).trans (I.trans ao);have mi:=FS M ff lp ex ew ll (by rw[hy];exact ey) D mu;obtain⟨j0,ab,ax⟩:=Bq mi;refine⟨en,_,1,.tup (fX (cE o (di (cE o) u wd) l)),(L.map λu=>di (cE o) u q).map λu=>Dt.tup (fX u),_,j0,rfl,rfl,SqL.of (g6 _ _ ai),by rw[cz,cz,cz,len],gu (SqT.of aw),qu (aj.same g6),by decide,eB.mpr ab,λi hi e=>ax i hi (eB.mp e),?_⟩;refine⟨g.trans (I.trans ao),t++[j0],by simp,by simp[e],λj u2 j' e1 J=>?_⟩;by_cases hj:j<t.length
   .rw[e8 hj]at J;exact al j u2 j' e1 J
   .rw[eU (by lia)]at J;have z:j-t.length=0:=by
     have:=(cK.mp J).1;simp at this;lia
    rw[z]at J;cases J;have ji:j=i:=by lia
    subst ji;rw[eu]at e1;cases e1;rw[cQ]at ab;obtain⟨u',f1,f2⟩:=eC.mp ab;exact⟨u',f1,f2⟩
  .obtain⟨g5,t,rfl,ej,al⟩:=p;rw[cz]at ej;have kt:=cL av (.lst (t.map nv));refine⟨tl,_,rfl,.inl ⟨SqL.of cC,λr ay=>?_⟩⟩;have kr:=cL ay (.tup (t.map nv));exact q2 k' q ey D r t _ (((g4.trans g5).trans kt).trans kr) cC ⟨by lia,al⟩
 .have Y:cc=false:=by
   cases cc with
   |false=>rfl
   |true=>exact wC (j9.mp (hc.mp rfl)) my
  subst Y;exact fm (q1 my H2 C)
def zp:(fe[0]'(by decide))∈fe:=i7 _
def yU:(fe[1]'(by decide))∈fe:=i7 _
def gR(t u:cu):cu:=fb (u.map λr=>t.getD r 0)
def ja{a:cu}{r:Nat}:r∈fb a↔r<5/\r∈a:=by
 unfold fb;rw[dJ,fq,fY]
def Jx{a b:cu}(h: ∀r,r∈a↔r∈b):fb a=fb b:=by
 unfold fb;refine qz λi _=>?_;rw[iZ,fY,fY];exact h i
def Gi{f:Nat->Nat}{n r:Nat}(h:r<n):((List.range n).map f).getD r 0=f r:=by
 rw[dY,cQ,mM h];rfl
def Gk{H:Hp}{m:Ad}{a:LN}{n:Nat}(M:Mach H m a n){u w:cu}(b:u∈dW n)(c: ∀l∈w,l<a.length):di (cE a) u w=gR (rz a n w) u:=by
 rw[xx M w u b c];unfold gR kv rz
 congr 1
 refine pC λr d=>?_;rw[Gi ((cD.mp b).2 r d)]
def Ic{H:Hp}{m:Ad}{a:LN}{n:Nat}(M:Mach H m a n){w:cu}(b: ∀l∈w,l<a.length):rz a n w∈jh n n:=by
 refine dB.mpr ⟨JP a n w,λr c=>?_⟩;obtain⟨x,d,rfl⟩:=c7.mp c;exact lK M w x (fq.mp d) b
def dG(a:LN)(x:cu):Nat:=a.findIdx λy=>decide (y=x)
def gO{a:LN}{x:cu}(h:x∈a):dG a x<a.length/\a[dG a x]? =some x:=by
 have l:dG a x<a.length:=List.findIdx_lt_length_of_exists ⟨x,h,dX rfl⟩;refine⟨l,?_⟩;rw[cA l];have z:decide (a[dG a x]=x)=true:=List.findIdx_getElem (p:=λy=>decide (y=x)) (w:=l);rw[gi z]
def rc{a:LN}{x:cu}{j:Nat}(nd:a.Nodup)(h:a[j]? =some x):dG a x=j:=by
 obtain⟨l,e⟩:=gO (cW h);exact(im l nd).mp (e.trans h.symm)
def se(a:LN)(t:cu):cu:=a.map λu=>dG a (gR t u)
def gU(a:LN)(n:Nat):LN:=((jh n n).filter λt=>a.all λu=>a.contains (gR t u)).map (se a)
def fG{a:LN}{n:Nat}{x:cu}:x∈gU a n↔ ∃t∈jh n n,(∀u∈a,gR t u∈a)/\x=se a t:=by
 unfold gU;rw[c7];constructor
 .rintro⟨t,ht,rfl⟩;obtain⟨b,c⟩:=dJ.mp ht;exact⟨t,b,λu d=>fY.mp (oW.mp c u d),rfl⟩
 .rintro⟨t,b,c,rfl⟩;exact⟨t,dJ.mpr ⟨b,oW.mpr λu d=>fY.mpr (c u d)⟩,rfl⟩
def CN{a:LN}{n:Nat}(h:n<=5):(gU a n).length<=4000:=by
 unfold gU;rw[cz];exact dE (gZ _ _) (Gb h)
def Aq{a:LN}{n:Nat}{x:cu}(h:x∈gU a n):x.length=a.length/\ ∀r∈x,r<a.length:=by
 obtain⟨t,_,g,rfl⟩:=fG.mp h;refine⟨by simp[se],λr b=>?_⟩;obtain⟨u,c,rfl⟩:=c7.mp b;exact(gO (g u c)).1
def Fy{a:LN}{n:Nat}(nd:a.Nodup)(d: ∀u∈a,u∈dW n):List.range a.length∈gU a n:=by
 have b: ∀u∈a,gR (List.range n) u=u:=λu c=>by
  obtain⟨e,g⟩:=cD.mp (d u c);unfold gR;have:u.map (λr=>(List.range n).getD r 0)=u.map id:=pC λr i=>by
   rw[dY,mM (g r i)];rfl
  rw[this,List.map_id,e]
 refine fG.mpr ⟨List.range n,Ix n,λu c=>by rw[b u c];exact c,?_⟩;refine l7 λj=>?_;unfold se;rw[cQ];by_cases h:j<a.length
 .rw[mM h,cA h];show some j=some (dG a (gR (List.range n) a[j]));rw[b _ (i7 h),rc nd (cA h)]
 .rw[ie (by simp;lia),List.getElem?_eq_none (by lia)];rfl
def Lu{n:Nat}{t b u:cu}(m:n<=5)(ht:t∈jh n n)(j:u∈dW n):gR b (gR t u)=gR (dU t b) u:=by
 obtain⟨g,k⟩:=dB.mp ht;obtain⟨_,h⟩:=cD.mp j;unfold gR;refine Jx λr=>?_;have e: ∀x∈u,(dU t b).getD x 0=b.getD (t.getD x 0) 0:=λx a=>by
  have i:x<t.length:=by rw[g];exact h x a
  unfold dU;rw[dY,cQ,cA i,dY (l:=t),cA i];rfl
 have c: ∀x∈u,t.getD x 0<5:=λx a=>by
  have:=sT k (by rw[g];exact h x a);lia
 rw[c7,c7];constructor
 .rintro⟨y,d,rfl⟩;obtain⟨_,d⟩:=ja.mp d;obtain⟨x,a,rfl⟩:=c7.mp d;exact⟨x,a,e x a⟩
 .rintro⟨x,a,rfl⟩;exact⟨t.getD x 0,ja.mpr ⟨c x a,c7.mpr ⟨x,a,rfl⟩⟩,(e x a).symm⟩
def Kc{n:Nat}{t a:cu}(h:t∈jh n n)(b:a∈jh n n):dU t a∈jh n n:=by
 obtain⟨c,d⟩:=dB.mp h;obtain⟨e,g⟩:=dB.mp b;refine dB.mpr ⟨by unfold dU;rw[List.length_map,c],λr i=>?_⟩;obtain⟨x,j,rfl⟩:=c7.mp i;exact sT g (by rw[e];exact d x j)
def Dn{a:LN}{n:Nat}{x y:cu}(h:n<=5)(i: ∀u∈a,u∈dW n)(j:x∈gU a n)(k:y∈gU a n):dU x y∈gU a n:=by
 obtain⟨t,d,g,rfl⟩:=fG.mp j;obtain⟨c,m,o,rfl⟩:=fG.mp k;have e: ∀u∈a,gR (dU t c) u=gR c (gR t u):=λu b=>(Lu h d (i u b)).symm;refine fG.mpr ⟨dU t c,Kc d m,λu b=>by rw[e u b];exact o _ (g u b),?_⟩;unfold se;show(a.map λu=>dG a (gR t u)).map (λx=>(a.map λu=>dG a (gR c u)).getD x 0)=_;rw[hZ];refine pC λu b=>?_;obtain⟨l,p⟩:=gO (g u b);show(a.map λu=>dG a (gR c u)).getD (dG a (gR t u)) 0=dG a (gR (dU t c) u);rw[dY,cQ,p,e u b];rfl
def xX{H:Hp}{m:Ad}{g:LN}{n:Nat}{d c i h:LN}(M:Mach H m g n)(k:FamOf g n d)(l:LvP g d c i h):i.Nodup:=by
 have j:=nL M k (c.headD []);rw[<-l.tl]at j;exact j.up.imp λ{a b} z e=>by
  subst e;rw[CD]at z;cases z
def KZ{H:Hp}{m:Ad}{d:LN}{n:Nat}{r c i o:LN}(M:Mach H m d n)(B:FamOf d n r)(s:LvP d r c i o){k E l:Nat}{x q t v:cu}(T:c[k]? =some x)(U:o[k]? =some q)(Y:l<d.length)(ey:c[E]? =some (cE d x l))(C:o[E]? =some t)(G:iH d i q t l v):
  v∈gU i n:=by
 obtain⟨I,_⟩:=s.inU M B;have nd:=xX M B s;have D:=(s.go k x q T U).1;obtain⟨p,b⟩:=s.bij M B ey C;have J:=nL M B (c.headD []);rw[<-s.tl]at J;have L: ∀z∈q++[l]++p,z<d.length:=λz hz=>by
  rcases dw.mp hz with h|h
  .rcases dw.mp h with h|h
   .exact D z h
   .rw[dj.mp h];exact Y
  .exact b.lp z h
 have y: ∀(j:Nat) (u:cu) (a:Nat),i[j]? =some u->v[j]? =some a->i[a]? =some (gR (rz d n (q++[l]++p)) u):=λj u a N g=>by
  obtain⟨O,Q,f2⟩:=G.2 j u a N g;have A:=cW Q;rw[<-Gk M (I u (cW N)) L,wr,wr];show i[a]? =some (di (cE d) (cE d (di (cE d) u q) l) p);rw[<-f2,b.back M (I O A) (J.mem O A).2.2];exact Q
 have lj:=G.1;refine fG.mpr ⟨_,Ic M L,λu hu=>?_,?_⟩
 .obtain⟨j,g⟩:=tK hu;obtain⟨a,e⟩: ∃a,v[j]? =some a:=⟨_,cA (by rw[lj];exact(cK.mp g).1)⟩;exact cW (y j u a g e)
 .refine l7 λj=>?_;unfold se;rw[cQ];cases g:i[j]? with
  |none=>
   have:=List.getElem?_eq_none_iff.mp g;rw[ie (by lia)];rfl
  |some u=>
   have:=(cK.mp g).1;obtain⟨a,e⟩: ∃a,v[j]? =some a:=⟨_,cA (by lia)⟩;rw[e];exact dL some (rc nd (y j u a g e)).symm
def GK{H:Hp}{m:Ad}{g:LN}{n:Nat}{h c r i:LN}(M:Mach H m g n)(s:FamOf g n h)(t:LvP g h c r i){D l:Nat}{y E d G k:cu}(Q:c[D]? =some y)(x:i[D]? =some d)(z:iH g r E d l G)(o:iH g r E d l k):G=k:=by
 obtain⟨I,_⟩:=t.inU M s;have nd:=xX M s t;obtain⟨p,b⟩:=t.bij M s Q x;have A:=nL M s (c.headD []);rw[<-t.tl]at A;refine vc (by rw[z.1,o.1]) λj a T J U=>?_;obtain⟨u,L⟩: ∃u,r[j]? =some u:=⟨_,cA (by rw[<-z.1];exact(cK.mp J).1)⟩;obtain⟨v,B,Y⟩:=z.2 j u a L J;obtain⟨C,N,g2⟩:=o.2 j u T L U;have O:=cW B;have q:=cW N;have e:v=C:=by
  rw[<-b.back M (I v O) (A.mem v O).2.2,<-b.back M (I C q) (A.mem C q).2.2,Y,g2]
 subst e;exact(im (cK.mp B).1 nd).mp (B.trans N.symm)
def EB{H:Hp}{m:Ad}{d:LN}{n:Nat}{b c j g:LN}(M:Mach H m d n)(h:FamOf d n b)(k:LvP d b c j g):0<j.length:=by
 obtain⟨_,_,o,_⟩:=gh k.cls;obtain⟨p,a⟩:=dJ.mp o;have i:=nL M h (c.headD []);rw[<-k.tl]at i;obtain⟨_,l⟩:=cD.mp (h.inU M p);cases e:c.headD []with
 |nil=>
  rw[e]at a;cases a
 | cons r s=>
  rw[e]at i l a;obtain⟨t,ht,_⟩:=i.all [r] ((h.mem [r]).mpr (.inr ⟨r,l r (dP ..),rfl⟩)) (λz=>by
   have q:=dL List.length z;have a:=gi a;rw[<-q]at a;simp at a) (by simp[sub])
  exact vk ht
structure Makers(ts c us wds mk:LN):Prop where
 mem: ∀t∈mk,∃(k l k':Nat) (x wd wd':cu),c[k]? =some x/\wds[k]? =some wd/\l<ts.length/\c[k']? =some (cE ts x l)/\wds[k']? =some wd'/\iH ts us wd wd' l t
 all: ∀(k l:Nat) (x wd:cu),c[k]? =some x->wds[k]? =some wd->l<ts.length->cE ts x l∈c-> ∃(k':Nat) (wd' t:cu),t∈mk/\c[k']? =some (cE ts x l)/\wds[k']? =some wd'/\iH ts us wd wd' l t
theorem Ev: ∀{ws:TW} {as:As},as.length=ws.length->(a3v ws as).map (·.1)=(ws.map (·.1)).map nk
 | [],[],_=>rfl
 |p::ws,a::as,h=>dL (nk p.1:: ·) (Ev (ws:=ws) (as:=as) (Nat.succ.inj h))
def j8(a:LN)(x:cu)(i:Nat):cu:=dU x (a.getD i [])
def Ex:Sp:=λk H Q _=> ∃(m a:Ad) (e:LN) (n:Nat) (d c h b:LN),k=[.ref m,.ref a]/\Mach H m e n/\FamOf e n d/\LvH H a c h b/\LvP e d c h b/\
 ∀l j i g,Same H g->g l=some (.lst (j.map .ref))->TupsAt g j i->Makers e c h b i->i.length<=200->Q (.ref l) g
def zf:Sp:=λo H Q _=> ∃(m a:Ad) (g:LN) (n:Nat) (d c h b:LN),o=[.ref m,.ref a]/\Mach H m g n/\FamOf g n d/\LvH H a c h b/\LvP g d c h b/\Tabs H/\
 ∀l bs i j k e,Keeps H e->Tabs e->L2.noT H l=none->e l=some (.lst (bs.map .ref))->TupsAt e bs i->i.Perm (k.map (·.1))->i.Pairwise (λx y=>eA x y=true)->Makers g c h b j->Told (j8 j) j.length (List.range h.length) k->Q (.ref l) e
def GW(F:Fun K "all_tiles_turned" "all_tiles_turned" Ag f fd)(jG:dA P w K mg base "tiles_turned" 9 ["machine","level","k","letter"] xI)(jB:mg "len"=none)(jD:mg "range"=none):FnOk P w K mg base cZ 11 f fd ["machine","level"] Ex:=by
 refine F.ok jO (λvs H Q E h=>?_) (λam A aj s H vs Q E hr h=>?_)
 .obtain⟨m,a,C,n,ab,c,us,v,rfl,_⟩:=h;rfl
 obtain⟨m,a,C,n,ab,c,us,v,rfl,M,ff,lv,lp,q⟩:=h;have hu:=hr.units;refine⟨_,(cN (dm (i:=2) jO.nd rfl (Or.inl rfl) (fM cI)) (cN (gK gk rfl (mK rfl jD (cJ (eZ fZ rfl jB fV (cJ (cX dz (pv 1) cV (λ_ _=>rfl)) cI)) cI)) (eQ (i:=3) jO.nd rfl (Or.inl rfl)) (cS (gK gk rfl (mK rfl jD (cJ (eZ fZ rfl jB fV (cJ (pv 0) cI)) cI)) (eQ (i:=4) jO.nd rfl (Or.inl rfl)) (cN (dm (i:=5) jO.nd rfl (Or.inl rfl) (dD jG hr.m rfl (de (cB (pv 0) (cB (pv 1) (cB (pv 3) (cB (pv 4) c8 rfl) rfl) rfl) rfl)))) (cS (ge (gq Ff (pv 5) qr (fT _)) (cS (hO (gb f' iN iA iM (pv 2) (cJ (pv 5) cI)))) gJ)))))) (cS (dH (pv 2))))),?_⟩;obtain⟨s',t',v',bs,ds,cs,h1,h2,h3,h4,h5,h6,h7,h8⟩:=id lv;have lb:=h3.len;have t1:=M.some1;have t4:=M.few;obtain⟨rs,hm,ak,_⟩:=M.refs;have an:c.length<=32:=by
  rw[(gh lp.cls).2.1];exact dE (gZ _ _) (dE (gZ _ _) (ff.few M))
 refine⟨by show 0<=sizeLine;decide,λfo ae=>?_⟩;have k0:=cL ae (.lst [])
 let Mk:Nat->Nat->List cu->Prop:=λk l g=>g.length<=4 * k+l/\(∀t∈g,∃(k l J:Nat) (x D o:cu),c[k]? =some x/\v[k]? =some D/\l<C.length/\c[J]? =some (cE C x l)/\v[J]? =some o/\iH C us D o l t)/\
  ∀(i j:Nat) (x D:cu),(i<k∨i=k/\j<l)->c[i]? =some x->v[i]? =some D->j<C.length->cE C x j∈c-> ∃(J:Nat) (o t:cu),t∈g/\c[J]? =some (cE C x j)/\v[J]? =some o/\iH C us D o j t
 let Pk:Nat->L2.St->Hp->Prop:=λk T U=>Same H U/\ ∃(B:As) (g:LN) (o3 Y o5:Option V),U fo=some (.lst (B.map .ref))/\TupsAt U B g/\Mk k 0 g/\T=[some (.ref m),some (.ref a),some (.ref fo),o3,Y,o5]
 refine⟨_,rfl,a,_,_,_,rfl,rfl,SqT.of (k0 _ _ h1),rfl,s',_,rfl,.inl (SqL.of (k0 _ _ h2)),(c.length:Int),by rw[cz,lb],by lia,by lia,vC Pk ⟨k0,[],[],none,none,none,cC,⟨rfl,λi b u e=>by simp at e⟩,⟨Nat.zero_le _,(λt ht=>nomatch ht),λi j x D aa=>by lia⟩,rfl⟩ (λk T H1 hk p=>?_) (λT H1 p=>?_)⟩
 .obtain⟨g1,B,g,o3,Y,o5,L,T1,K1,rfl⟩:=p;have af:k<c.length:=by simpa using hk
  have zk:V.int ((0:Int)+((k:Nat):Int))=nv k:=by show V.int (0+(k:Int))=V.int (k:Int);rw[rh]
  rw[zk];obtain⟨D,ew⟩: ∃D,v[k]? =some D:=⟨_,cA (by rw[lp.len];exact af)⟩;obtain⟨x,ex⟩: ∃x,c[k]? =some x:=⟨_,cA af⟩
  let Pl:Nat->L2.St->Hp->Prop:=λl T U=>Same H U/\ ∃(B:As) (g:LN) (Y o5:Option V),U fo=some (.lst (B.map .ref))/\TupsAt U B g/\Mk k l g/\T=[some (.ref m),some (.ref a),some (.ref fo),some (nv k),Y,o5]
  refine⟨_,rfl,m,_,rfl,.inr (SqT.of (g1 _ _ hm)),(C.length:Int),by rw[cz,ak],by lia,by lia,vC Pl ⟨g1,B,g,_,_,L,T1,K1,rfl⟩ (λl T H2 hl p=>?_) (λT H2 p=>?_)⟩
  .obtain⟨g2,B,g,Y,o5,N,T2,K2,rfl⟩:=p;have ag:l<C.length:=by simpa using hl
   have zl:V.int ((0:Int)+((l:Nat):Int))=nv l:=by show V.int (0+(l:Int))=V.int (l:Int);rw[rh]
   rw[zl];obtain⟨kz,km,O⟩:=K2;refine⟨_,rfl,_,rfl,_,rfl,_,rfl,m,a,k,l,C,n,ab,c,us,v,x,D,rfl,M.same g2,ff,lv.same g2,lp,ex,ew,ag,λmy H3 g3=>?_,λJ o ey ah tp js H3 g3 ai tb=>?_⟩
   .refine⟨_,rfl,rfl,_,rfl,fj ⟨g2.trans g3,B,g,_,_,g3 _ _ N,T2.same g3,⟨by lia,km,λi j x' r aa d y I G=>?_⟩,rfl⟩⟩;by_cases z:i=k/\j=l
    .obtain⟨rfl,rfl⟩:=z;rw[ex]at d;cases d;exact wC G my
    .exact O i j x' r (by lia) d y I G
   .refine⟨_,rfl,rfl,_,rfl,fm ?_⟩;have e3:=g3 _ _ N;have lq:=T2.len;refine⟨_,rfl,.inl ⟨rfl,_,SqL.of e3⟩,_,rfl,fo,_,_,rfl,rfl,e3,by rw[cz,dC];lia,?_⟩;refine⟨fQ (g2.trans g3) ae,B++[tp],g++[js],_,_,by rw[cC,eE];rfl,qt ⟨lq,λi b u L N=>?_⟩ ?_,⟨by rw[dF,ue];lia,λt ht=>?_,λi j x' r aa d y I G=>?_⟩,rfl⟩
    .have z:=(T2.same g3).is i b u L N;rw[cF (nE z e3)];exact z
    .rw[cF (nE ai e3)];exact ai
    .rcases dw.mp ht with z|z
     .exact km t z
     .rw[dj.mp z];exact⟨k,l,J,x,D,o,ex,ew,ag,ey,ah,tb⟩
    .by_cases z:i=k/\j=l
     .obtain⟨rfl,rfl⟩:=z;rw[ex]at d;cases d;rw[ew]at y;cases y;exact⟨J,o,js,dw.mpr (.inr (dj.mpr rfl)),ey,ah,tb⟩
     .obtain⟨k2,al,t,r1,r2⟩:=O i j x' r (by lia) d y I G;exact⟨k2,al,t,dw.mpr (.inl r1),r2⟩
  .obtain⟨g2,B,g,Y,o5,N,T2,⟨kz,km,O⟩,rfl⟩:=p;have el:(C.length:Int).toNat=C.length:=hV _;rw[el]at kz O;exact⟨g2,B,g,_,_,_,N,T2,⟨by lia,km,λi j x' r aa d y I G=>O i j x' r (by lia) d y I G⟩,rfl⟩
 .obtain⟨g1,B,g,o3,Y,o5,L,T1,⟨kz,km,O⟩,rfl⟩:=p;have el:(c.length:Int).toNat=c.length:=hV _;rw[el]at kz O;exact⟨_,rfl,q fo B g H1 g1 L T1 ⟨km,λk l x D L N e3 e4=>O k l x D (.inl (cK.mp L).1) L N e3 e4⟩ (by lia)⟩
def Er{J c I C:Ad}{oc:Obj}{z D:LN}{n:Nat}{L:As}{B:Hp}{pm M:Vl}{a:Arguments}{i:Expr}{d:Scope}{sx fx a1 a2:Expr}{kw N:List Keyword}{lp cp O rp:Pos}{s0:Stmt}(e:ik lV=[s0,.Return (some (.Call sx [.Call fx [a1,a2,.Lambda a i d lp] kw cp] N O)) rp])
  (kI:dA P w K mg base "behind" 1 ["one","other"] wj) (T:B I=some (.lst (L.map .ref))) (Tm:TupsAt B L z) (mU: ∀t∈z,t∈gU D n) (few:D.length<=32) (h1:B J=some (hE J (gD "level_group.<locals>.<lambda>" a i d "makers" c pm (.ref C) M))) (h2:B c=some (gf c I oc)) (h3:B C=some (i0 C "level_group.<locals>.<lambda>")):
  FnOk P w K mg base cZ 5 J (gD "level_group.<locals>.<lambda>" a i d "makers" c pm (.ref C) M) ["turn","number"] (oq (Same B) (gU D n) z.length (j8 z))/\Binds K (gD "level_group.<locals>.<lambda>" a i d "makers" c pm (.ref C) M) ["turn","number"] []:=by
 cases e;refine⟨D1 (k:=4) (m:=I) (oc:=oc) ⟨rfl,rfl,rfl,by decide+kernel,by decide+kernel,rfl,by decide+kernel⟩ (λvs H Q E h=>?_) (λvs H Q E h=>?_) (λA U s H vs Q E hr h=>?_),.all λD T=>match D,T with| [_,_],_=>rfl⟩
 .obtain⟨t,x,l,rfl,_⟩:=h;rfl
 .obtain⟨t,x,l,rfl,g,_⟩:=h;exact⟨g _ _ h1,g _ _ h2,g _ _ h3⟩
 .obtain⟨t,x,l,rfl,g,ht,hx,Y,q⟩:=h;refine⟨_,(dD kI hr.m rfl (de (cB (pv 0) (cB (cX fS (pv 2) (pv 1) (λ_ _=>rfl)) c8 rfl) rfl))),?_⟩;have hc:=g _ _ h2;have off: ∀{b:Ad} {u:HO},(∀φ,u≠ .ext φ)->H b=some u->(L2.drop H c) b=some u:=λnu hb=>by
   rw[dZ (iE hb hc λe=>nu _ e)];exact hb
  have ln:=Tm.len;obtain⟨r,er⟩: ∃r,L[l]? =some r:=⟨_,cA (by lia)⟩;have et:z[l]? =some (z.getD l []):=by rw[dY,cA Y];rfl
  have aa:=off (u:= .tup _) (λ_ e=>nomatch e) (g _ _ (Tm.is l r _ er et));have mt:=mU _ (cW et);obtain⟨x1,x2⟩:=Aq hx;obtain⟨y1,y2⟩:=Aq mt;refine⟨_,rfl,_,rfl,_,rfl,I,_,_,_,rfl,rfl,SqL.of (off (u:= .lst _) (λ_ e=>nomatch e) (g _ _ T)),gF (j:=l) (v:= .ref r) (by rw[cQ,er];rfl),t,r,x,z.getD l [],rfl,off (u:= .tup _) (λ_ e=>nomatch e) ht,aa,λy G=>by rw[y1];exact x2 y G,by lia,λp H3 g3 e3 free=>q p _ (λy o ho=>?_) ?_⟩
  .by_cases G:y=c
   .subst G;rw[hc]at ho;cases ho;exact cC
   .rw[cF G];exact g3 _ _ (by rw[dZ G];exact ho)
  .rw[cF (dO e3 free)];exact e3
def J6{cd T:Ad}(F:DefAt K "level_group" lV f fd .none (.ref cd))(hC:PySem.W.CodeHd base cd T)(bm:mD mg base)(hq:(("level_group.<locals>.<lambda>":Str),(⟨121,61,121,110⟩:Pos),T)∈fe)(kC:dA P w K mg base "all_tiles_turned" 11 ["machine","level"] Ex)(kQ:dA P w K mg base "still" 1 ["rooms"] wU)(kI:dA P w K mg base "behind" 1 ["one","other"] wj)
  (kW:wG P w K mg base "reached" 8 ["start","letters","step","most"] (uB P w K mg base) [.non]) (jB:mg "len"=none) (jT:mg "sorted"=none):FnOk P w K mg base cZ 13 f fd ["machine","level"] zf:=by
 refine F.fnOk rE (λvs H Q E h=>?_) (λA ao s H vs Q E h hr=>?_)
 .obtain⟨m,a,ts,n,af,c,us,ag,rfl,_⟩:=h;rfl
 obtain⟨m,a,ts,n,af,c,us,ag,rfl,M,ff,lv,lp,hT,q⟩:=h;refine⟨_,?_,(cN (dm (i:=2) rE.nd rfl (Or.inr rfl) (dD kC hr.m rfl (de (cB (pv 0) (cB (pv 1) c8 rfl) rfl)))) (cS (dH (eZ (JZ rfl) rfl jT wc (cJ (FE kW hr.m rfl (j:=2) rfl rfl rfl rfl (de (cB (dD kQ hr.m rfl (cJ (eZ fZ rfl jB fV (cJ (cX dz (pv 1) cV (λ_ _=>rfl)) cI)) cI)) (cB (eZ fZ rfl jB fV (cJ (pv 2) cI)) (cB (Fs (qual:="level_group.<locals>.<lambda>") rfl hC bm (λ_ _ _ _ _=>rfl) rfl rfl) c8 rfl) rfl) rfl))) cI)))))⟩;refine⟨_,rfl,_,rfl,m,a,ts,n,af,c,us,ag,rfl,M,ff,lv,lp,λlm rs mk H1 g1 ap Tm Mk an=>?_⟩;obtain⟨s',t',v',bs,ds,cs,h1,h2,h3,h4,h5,h6,h7,h8⟩:=id (lv.same g1);have l5:=h5.len;obtain⟨uU,few⟩:=lp.inU M ff;have n5:=M.n5;have nd:=xX M ff lp;have mU: ∀t∈mk,t∈gU us n:=λt ht=>by
  obtain⟨k,l,k',x,wd,ar,e1,e2,e3,e4,e5,e6⟩:=Mk.mem t ht;exact KZ M ff lp e1 e2 e3 e4 e5 e6
 refine⟨_,rfl,a,_,_,_,rfl,rfl,SqT.of h1,rfl,t',_,rfl,.inl (SqL.of h4),?_⟩
 try dsimp only
 rw[cz,l5];refine⟨us.length,rfl,by lia,λst H2 g2 e2=>?_⟩;have L:=g2 _ _ ap;have ab:=Tm.same g2;have T2:Tabs H2:=(hT.same g1).same g2;refine⟨_,rfl,lm,_,rfl,.inl (SqL.of L),?_⟩
 try dsimp only
 rw[cz,ab.len];have ah: ∀(B:Hp) (D:Ad) (ws:TW) (as:As),Keeps H B->Tabs B->WordsAt B D ws as->Told (j8 mk) mk.length (List.range us.length) ws->yw [.ref D] B Q:=λB D ws as k3 t3 W TT=>by
  have ai: ∀p∈ws,p.1∈gU us n:=λp hp=>by
   obtain⟨r1,r2⟩:=TT.run p hp;rw[<-r2];refine qo (Fy nd uU) (λx hx l hl=>Dn n5 uU hx ?_) p.2 r1;rw[dY,cA hl];exact mU _ (i7 hl)
  refine⟨D,_,ws.map (·.1),rfl,W.dict,?_,λt ht e=>?_,?_,λl bs gs hl Tb pm up=>?_⟩
  .exact Ev W.len
  .obtain⟨p,hp,rfl⟩:=c7.mp ht;have z:=(Aq (ai p hp)).1;rw[e]at z;have:=EB M ff lp
   simp at z;lia
  .refine dE (nV (U:=gU us n) TT.keys λx hx=>?_) (CN n5);obtain⟨p,hp,rfl⟩:=c7.mp hx;exact ai p hp
  .have gl:=cL hl (.lst (bs.map V.ref));refine q l bs gs mk ws _ (k3.trans gl.keeps) (t3.same gl) ?_ cC (Tb.same gl) pm up Mk TT;cases y:L2.noT H l with
   |none=>rfl
   |some o=>
    have z:=k3 _ _ y;rw[hl]at z;cases z
 have go: ∀(N G:Ad) (ct:Vl) (B:Hp) (aj:AV),H2 T=some (.tbl aj)->KeepsBut T H2 B->B T=some (.tbl (iV (⟨121,61,121,110⟩:Pos) G))->B G=some (i0 G "level_group.<locals>.<lambda>")-> ∀(d:Arguments) (C:Expr) (g:Scope) (pm:Vl) (I:Ad),B N=some (hE N (gD "level_group.<locals>.<lambda>" d C g "makers" I pm (.ref G) ct))->
   ∀O,B I=none->(FnOk P w K mg base cZ 5 N (gD "level_group.<locals>.<lambda>" d C g "makers" I pm (.ref G) ct) ["turn","number"] (oq (Same (cw B I (gf I lm O))) (gU us n) mk.length (j8 mk)))->Binds K (gD "level_group.<locals>.<lambda>" d C g "makers" I pm (.ref G) ct) ["turn","number"] []->
   uB P w K mg base [.ref st,nv mk.length,.ref N,.non] (cw B I (gf I lm O)) (λr H4=>H4 I=some (gf I lm O)/\yw [r] (L2.drop H4 I) Q) E0:=λN G ct B aj ak kb h1 h2 d C g pm I h3 O Y hF hB=>by
  have J:=kb.keeps ak;have v:=cL Y (gf I lm O);refine⟨st,N,_,_,List.range us.length,mk.length,gU us n,j8 mk,rfl,v _ _ (J _ _ (nU e2)),v _ _ h3,Fy nd uU,λx hx l hl=>Dn n5 uU hx ?_,CN n5,by lia,hF,hB,λD ws as H4 g4 W nw TT=>⟨g4 _ _ cC,ah _ D ws as (λb o hb=>?_) (T2.but hq ak (λb o nb hb=>?_) (.inr ⟨G,?_,?_⟩)) ⟨W.len,?_,λj a r e1 e2=>?_⟩ TT⟩⟩
  .rw[dY,cA hl];exact mU _ (i7 hl)
  .have z:=((g1.trans g2).keeps.trans J) b o hb;rw[dZ (dO z Y)];exact g4 _ _ (v _ _ z)
  .have z:=kb b o nb hb;rw[dZ (dO z Y)];exact g4 _ _ (v _ _ z)
  .rw[dZ (dO h1 Y)];exact g4 _ _ (v _ _ h1)
  .rw[dZ (dO h2 Y)];exact g4 _ _ (v _ _ h2)
  .rw[dZ (nE W.dict (g4 _ _ cC))];exact W.dict
  .have z:=W.list j a r e1 e2;rw[dZ (nE z (g4 _ _ cC))];exact z
 rcases T2 _ hq with u|⟨G,u,aa⟩
 .refine .inl ⟨u,λN G ct ae aa ne=>⟨lm,rfl,λO Y=>?_⟩⟩;obtain⟨J,aq,al⟩:=Fk (⟨121,61,121,110⟩:Pos) "level_group.<locals>.<lambda>" u ae aa ne _;have v:=cL Y (gf (s.heap.objs.size+1) lm O);have am:=J.keeps u;obtain⟨F1,F2⟩:=Er rfl kI (v _ _ (am _ _ (nU L))) ((nt ab am).same v) mU few (v _ _ cC) cC (v _ _ al);exact go N G ct _ _ u J aq al _ _ _ _ _ cC O Y F1 F2
 .refine .inr ⟨G,u,aa,λN ct ae=>⟨lm,rfl,λO Y=>?_⟩⟩;have J: ∀lo,Same H2 (cw H2 N lo):=λlo=>cL ae lo;have v:=cL Y (gf (s.heap.objs.size+1) lm O);obtain⟨F1,F2⟩:=Er rfl kI (v _ _ (J _ _ _ L)) ((ab.same (J _)).same v) mU few (v _ _ cC) cC (v _ _ (J _ _ _ aa));exact go N G ct _ _ u (λb o _ hb=>J _ _ _ hb) (J _ _ _ u) (J _ _ _ aa) _ _ _ _ _ cC O Y F1 F2
def G7{d:LN}{a told:gP}(o:Ord d a told):(∀c∈told,c∈a)/\told.Nodup:=by
 induction o with
 |nil=>exact⟨λ_ h=>h,List.nodup_nil⟩
 | @cons a told s h r g=>
  obtain⟨b,i⟩:=g;refine⟨λc j=>?_,jc.mpr ⟨λm=>?_,i⟩⟩
  .rcases dQ.mp j with e|e
   .rw[e];exact(dJ.mp (List.mem_of_head? h)).1
   .exact(dJ.mp (b c e)).1
  .have:=gi (dJ.mp (b s m)).2;exact this rfl
def Cv{b:LN}{a told:gP}(o:Ord b a told): ∀c∈a,c∈told:=by
 induction o with
 |nil=>exact λ_ h=>h
 | @cons a told s h r d=>
  intro c g;by_cases e:c=s
  .rw[e];exact dP ..
  .exact fc _ (d c (dJ.mpr ⟨g,dX e⟩))
def GL{b:LN}{n:Nat}{a:LN}(i:FamOf b n a):(db b (big a)).Pairwise λc d=>fN gl (c.headD []) (d.headD [])=true:=by
 unfold db;rw[si];refine zG ?_ (m6 (oN.trans oN) i.up);intro x y j k h;have g: ∀z,z∈(big a).filter (λx=>(df b (big a) x).head? ==some x)->(df b (big a) z).headD []=z:=λz l=>by
  have e:=eq_of_beq (dJ.mp l).2;rw[List.headD_eq_head?_getD,e];rfl
 rw[g x j,g y k];exact h
def vG{H:Hp}{m:Ad}{ts:LN}{n:Nat}(M:Mach H m ts n){x y:cu}(a:x∈dW n)(h:eF ts x y=true):y.length<=x.length:=by
 obtain⟨word,hw,rfl⟩:=cH.mp h;have z:=sf (l₂:=x.map λr=>eG ts r word) (yy (lN M a hw)) λr b=>by
  obtain⟨c,d,e⟩:=(jw M a hw).mp b;exact c7.mpr ⟨c,d,e⟩
 rw[cz]at z;exact z
def IV{x y:cu}(h:fN gl x y=true):y.length<=x.length:=by
 unfold fN pA gl at h;split at h
 .lia
 .have:=gi h;lia
def Hm{x y:cu}(h:fN gl x y=true)(e:x.length=y.length):eA y x=false:=by
 cases z:eA y x with
 |false=>rfl
 | true=>
  have b:fN gl y x=true:=by
   unfold fN pA gl;rw[wB (by rw[e])];exact z
  have a:=(lM gl [x,y]).trans _ _ _ h b;rw[(lM gl [x,y]).irr]at a;cases a
def DD{b:Type}{R:b->b->Prop}{a:List b}{s d:b}(up:a.Pairwise R)(h:a.head? =some s)(c:d∈a):d=s∨R s d:=by
 cases a with
 |nil=>cases h
 |cons x a=>
  injection h with h
  subst h
  rcases dQ.mp c with e|e
  .exact .inl e
  .exact .inr ((qC.mp up).1 d e)
structure Due(ts:LN)(rest:gP)(c:LN):Prop where
 most: ∀d∈rest,(d.headD []).length<=(c.headD []).length
 free: ∀d∈rest,d≠c->eF ts (d.headD []) (c.headD [])=false
 first: ∀d∈rest,(d.headD []).length=(c.headD []).length->(∀e∈rest,e≠d->(e.headD []).length=(d.headD []).length->eF ts (e.headD []) (d.headD [])=false)->eA (d.headD []) (c.headD [])=false
def Ji{i:LN}{g:gP}{s:LN}(un:qg i g)(up:g.Pairwise λc d=>fN gl (c.headD []) (d.headD [])=true)(x: ∀c∈g,∀d∈g,eF i (c.headD []) (d.headD [])=true->(d.headD []).length<=(c.headD []).length)(h:(g.filter λc=> !dq i g c).head? =some s):Due i g s:=by
 obtain⟨G,fs⟩:=dJ.mp (List.mem_of_head? h);have free: ∀{c:LN},c∈g->(∀e∈g,e≠c->eF i (e.headD []) (c.headD [])=false)->c∈g.filter λc=> !dq i g c:=λ{c} B f=>by
  refine dJ.mpr ⟨B,?_⟩;rw[Bool.not_eq_true',dq,vz];intro e j;by_cases z:e=c
  .rw[fg (λk=>k z),vZ];decide
  .rw[f e j z,Bool.and_false];decide
 have o:=m6 (oN (p:=λc=> !dq i g c)) up;have most: ∀d∈g,(d.headD []).length<=(s.headD []).length:=λd n=>by
  by_cases lt:(d.headD []).length<=(s.headD []).length
  .exact lt
  obtain⟨t,ht,y⟩:=Ae (ts:=i) (cs:=g.filter λe=>decide ((d.headD []).length<=(e.headD []).length)) (λa C b D=>un a (dJ.mp C).1 b (dJ.mp D).1) _ d (dJ.mpr ⟨n,dX (cM _)⟩) (cM _);obtain⟨A,u⟩:=dJ.mp ht;have u:=gi u;have v:t∈g.filter λc=> !dq i g c:=free A λe j q=>by
   cases r:eF i (e.headD []) (t.headD [])with
   |false=>rfl
   |true=>
    have l:=x e j t A r;have m:e∈g.filter λe=>decide ((d.headD []).length<=(e.headD []).length):=dJ.mpr ⟨j,dX (by lia)⟩
    rw[dq,vz]at y;exact wC (by rw[dX q,r];rfl) (y e m)
  rcases DD o h v with z|z
  .rw[<-z];exact u
  .have:=IV z;lia
 refine⟨most,λd n q=>?_,λd n E f=>?_⟩
 .rw[Bool.not_eq_true',dq,vz]at fs;have z:=fs d n;rw[dX q,sF]at z;exact oh.mpr z
 .have fd:d∈g.filter λc=> !dq i g c:=free n λe j q=>by
   cases r:eF i (e.headD []) (d.headD [])with
   |false=>rfl
   |true=>
    have l:=x e j d n r;have H:=most e j;have z:=f e j q (by lia);rw[r]at z;cases z
  rcases DD o h fd with z|z
  .rw[z];exact m9 _
  .exact Hm z E.symm
def KG{j:LN}{g told:gP}(o:Ord j g told)(un:qg j g)(up:g.Pairwise λc d=>fN gl (c.headD []) (d.headD [])=true)(n: ∀c∈g,∀d∈g,eF j (c.headD []) (d.headD [])=true->(d.headD []).length<=(c.headD []).length): ∀(k:Nat) (c:LN),told[k]? =some c->Due j (told.drop k) c:=by
 induction o with
 |nil=>exact λk c e=>by simp at e
 | @cons g told s h r p=>
  intro k c e;cases k with
  |zero=>
   injection e with e
   subst e;have d:=Ji un up n h;have all:=G7 (Ord.cons h r);have mem: ∀d,d∈s::told↔d∈g:=λd=>⟨all.1 d,Cv (Ord.cons h r) d⟩
   rw[List.drop_zero];exact⟨λx i=>d.most x ((mem x).mp i),λx i=>d.free x ((mem x).mp i),λx i q f=>d.first x ((mem x).mp i) q λe t=>f e ((mem e).mpr t)⟩
  |succ k=>
   have u:told[k]? =some c:=by simpa using e
   rw[List.drop_succ_cons];exact p (λa l b m=>un a (dJ.mp l).1 b (dJ.mp m).1) (m6 oN up) (λa l b m=>n a (dJ.mp l).1 b (dJ.mp m).1) k c u
section
variable{H:Hp}{m:Ad}{ts:LN}{n:Nat}{fam:LN}
def C4(M:Mach H m ts n)(a:FamOf ts n fam){c:LN}(b:c∈db ts (big fam)){x:cu}(d:x∈c):x.length=(c.headD []).length:=by
 obtain⟨_,_,e,call⟩:=gh b;obtain⟨g,h,i⟩:=call x d;have j:=vG M (a.inU M (dJ.mp e).1) (cH.mpr h);have k:=vG M (a.inU M (dJ.mp g).1) (cH.mpr i);lia
def G4{x t:cu}(c:x∈dW n)(ht:t∈dW n)(s:sub t x=true)(d:t≠x):t.length<x.length:=by
 have g: ∃r∈x,r∉t:=by
  apply x8;intro no;refine d (DC ht c s (cR.mpr λr a=>?_));apply x8;exact λz=>no ⟨r,a,z⟩
 obtain⟨r,a,h⟩:=g;have z:=sf (l₂:=x.erase r) (yy ht) λy b=>(vQ λ(e:y=r)=>h (e▸b)).mpr (cR.mp s y b);rw[yu a]at z;have:0<x.length:=vk a;lia
def L1{x:cu}(i:x∈big fam): ∃c∈db ts (big fam),x∈c:=by
 have self:=yG (ts:=ts) i;cases e:df ts (big fam) x with
 |nil=>rw[e]at self;cases self
 | cons y rest=>
  have j:y∈df ts (big fam) x:=by rw[e];exact dP ..
  obtain⟨k,d⟩:=dJ.mp j;rw[jv]at d;have g:=cH.mp d.1;have h:=cH.mp d.2;have same:df ts (big fam) y=df ts (big fam) x:=by
   unfold df;refine qz λz _=>?_;rw[iZ,jv,jv,cH,cH,cH,cH];exact⟨λ⟨a,b⟩=>⟨g.trans a,b.trans h⟩,λ⟨a,b⟩=>⟨h.trans a,b.trans g⟩⟩
  refine⟨df ts (big fam) y,c7.mpr ⟨y,dJ.mpr ⟨k,?_⟩,rfl⟩,by rw[same];exact self⟩;rw[same,e];simp
end
def JL{H:Hp}{m:Ad}{e:LN}{n:Nat}{a c l d:LN}(M:Mach H m e n)(b:FamOf e n a)(g:LvP e a c l d){k:Nat}{x o:cu}(p:c[k]? =some x)(q:d[k]? =some o)(y:cu):y∈(l.map λu=>di (cE e) u o)↔y∈hA a x:=by
 obtain⟨B,i⟩:=g.bij M b p q;obtain⟨_,_,r,call⟩:=gh g.cls;have s:=b.inU M (dJ.mp r).1;have t:=b.inU M (dJ.mp (call x (cW p)).1).1;constructor
 .intro h;obtain⟨u,j,rfl⟩:=c7.mp h;exact rj M b s i (by rw[<-g.tl];exact j)
 .intro h;have z:=rj M b t i.symm h;rw[<-g.tl]at z;obtain⟨v,C,A,_⟩:=(nC M b).mp h;exact c7.mpr ⟨_,z,i.symm.back M (b.inU M v) A⟩
def IG{H:Hp}{m:Ad}{d:LN}{n:Nat}{t c g y:LN}(M:Mach H m d n)(A:FamOf d n t)(L:LvP d t c g y){k k' l:Nat}{x r B:cu}{q:cu}(ex:c[k]? =some x)(ew:y[k]? =some r)(ll:l<d.length)(ey:c[k']? =some (cE d x l))(N:iH d g r B l q):q.Perm (List.range g.length):=by
 obtain⟨_,_,cx,call⟩:=gh L.cls;obtain⟨p,G⟩:=L.bij M A ex ew;obtain⟨xb,O,aa⟩:=call x (cW ex);obtain⟨yb,ae,Q⟩:=call _ (cW ey);have xU:=A.inU M (dJ.mp xb).1;have fU:=A.inU M (dJ.mp cx).1;obtain⟨p2,b2⟩:=zF M (w:=[l]) xU (λz hz=>by rw[dj.mp hz];exact ll) rfl (Q.trans O);have T:=nL M A (c.headD []);rw[<-L.tl]at T;have U:g.Nodup:=T.up.imp λ{a b} z e=>by
  subst e;rw[CD]at z;cases z
 obtain⟨lj,N⟩:=N;have back: ∀u∈g,di (cE d) (di (cE d) (cE d (di (cE d) u r) l) p2) p=u:=λu hu=>by
  obtain⟨h1,h2,h3⟩:=T.mem u hu;have Y:=A.inU M h1;have s1:sub (di (cE d) u r) x=true:=by
   have z:=uL M Y fU G.lw h3;rw[G.to]at z;exact z
  have z:di (cE d) (cE d (di (cE d) u r) l) p2=di (cE d) u r:=b2.back M (lN M Y G.lw) s1;rw[z];exact G.back M Y h3
 have s: ∀i:Nat,i<q.length-> ∃u o,g[i]? =some u/\q[i]? =some o/\o<g.length/\ ∃C,g[o]? =some C/\di (cE d) C B=cE d (di (cE d) u r) l:=λi I=>by
  obtain⟨u,D⟩: ∃u,g[i]? =some u:=⟨_,cA (by lia)⟩;obtain⟨o,E⟩: ∃o,q[i]? =some o:=⟨_,cA I⟩;obtain⟨C,J,f2⟩:=N i u o D E;exact⟨u,o,D,E,(cK.mp J).1,C,J,f2⟩
 have nd:q.Nodup:=by
  rw[FD,nJ];intro i j I hj ij e;obtain⟨u,a,D,ea,_,C,J,f2⟩:=s i I;obtain⟨v,b,ev,eb,_,v',g1,g2⟩:=s j hj;rw[cA I]at ea;rw[cA hj]at eb;have ab:a=b:=by
   have z1:=fB ea;have z2:=fB eb;rw[<-z1,<-z2];exact e
  subst ab;rw[J]at g1;cases g1;have uv:u=v:=by rw[<-back u (cW D),<-back v (cW ev),<-f2,<-g2]
  subst uv;have:=(im (by lia) U).mp (D.trans ev.symm);lia
 have sb: ∀a∈q,a<g.length:=λa ha=>by
  obtain⟨i,ei⟩:=fy.mp ha;obtain⟨_,o,_,E,lt,_⟩:=s i (cK.mp ei).1;rw[ei]at E;cases E;exact lt
 refine(List.perm_ext_iff_of_nodup nd List.nodup_range).mpr λa=>⟨λh=>fq.mpr (sb a h),λh=>?_⟩;by_cases z:a∈q
 .exact z
 .have le:=sf (l₂:=(List.range g.length).erase a) nd λb hb=>(vQ λ(e:b=a)=>z (by rw[<-e];exact hb)).mpr (fq.mpr (sb b hb));rw[yu h,iY]at le;have:=fq.mp h;lia
def LvH.keeps{H e:Hp}{a:Ad}{c i d:LN}(h:LvH H a c i d)(g:Keeps H e):LvH e a c i d:=by
 obtain⟨s,t,v,bs,ds,j,l,m,n,o,p,q,r,u⟩:=h;exact⟨s,t,v,bs,ds,j,g _ _ (nU l),g _ _ (nU m),nt n g,g _ _ (nU o),nt p g,g _ _ (nU q),r,λk b x y z=>g _ _ (nU (u k b x y z))⟩
def Bh{H c:Hp}{l:Ad}{o:HO}(g:Keeps H c)(n:L2.noT H l=none):Keeps H (cw c l o):=λb u a=>by
 rw[cF (λz=>by rw[z,n]at a;cases a)];exact g b u a
inductive Gen (S:cu->Prop) (N:Nat):cu->Prop
 |base:Gen S N (List.range N)
 |step {x m:cu}:Gen S N x->S m->Gen S N (dU x m)
def IW{a:LN}{N:Nat}: ∀(v x:cu),(∀i∈v,i<a.length)->Gen (· ∈a) N x->Gen (· ∈a) N (di (j8 a) x v):=by
 intro v
 induction v with
 |nil=>exact λx _ h=>h
 |cons i v d=>
  intro x b h;have c:=b i (dP ..);refine d (j8 a x i) (λl e=>b l (fc _ e)) ?_;show Gen _ _ (dU x (a.getD i []));rw[dY,cA c];exact .step h (i7 c)
def JY{a:LN}{N:Nat}{e:TW}(T:Told (j8 a) a.length (List.range N) e)(t:cu):t∈e.map (·.1)↔Gen (· ∈a) N t:=by
 constructor
 .intro h;obtain⟨p,b,rfl⟩:=c7.mp h;obtain⟨c,d⟩:=T.run p b;rw[<-d];exact IW p.2 _ c .base
 .intro h
  induction h with
  |base=>exact c7.mpr ⟨_,cW T.head,rfl⟩
  | @step x m _ k l=>
   obtain⟨i,g⟩:=tK k;have n:=(cK.mp g).1;obtain⟨p,b,rfl⟩:=c7.mp l;obtain⟨c,d⟩:=T.run p b;obtain⟨u,j,_⟩:=T.least _ (p.2++[i]) rfl λx o=>(dw.mp o).elim (c x) λz=>by rw[dj.mp z];exact n
   have q:di (j8 a) (List.range N) (p.2++[i])=dU p.1 m:=by
    have r:j8 a p.1 i=dU p.1 m:=by
     show dU _ (a.getD i [])=_;rw[dY,g];rfl
    rw[<-r,<-d];unfold di;rw[nZ];rfl
   rw[q]at j;exact c7.mpr ⟨_,j,rfl⟩
def Iy{S a:cu->Prop}{N:Nat}(h: ∀t,S t↔a t)(t:cu):Gen S N t↔Gen a N t:=by
 have e:S=a:=funext λt=>propext (h t);rw[e]
def oX(d c h a:LN)(t:cu):Prop:= ∃(k l e:Nat) (x g b:cu),c[k]? =some x/\a[k]? =some g/\l<d.length/\c[e]? =some (cE d x l)/\a[e]? =some b/\iH d h g b l t
def L5{H:Hp}{m:Ad}{b:LN}{n:Nat}{d c g a h:LN}(M:Mach H m b n)(i:FamOf b n d)(j:LvP b d c g a)(Mk:Makers b c g a h)(t:cu):t∈h↔oX b c g a t:=by
 refine⟨Mk.mem t,?_⟩;rintro⟨k,l,E,x,q,r,s,u,v,e,o,y⟩;obtain⟨G,z,I,A,B,p,C⟩:=Mk.all k l x q s u v (cW e);have D:=(im (cK.mp e).1 (j.nd i)).mp (e.trans B.symm);subst D;rw[o]at p;cases p;rw[GK M i j e o y C];exact A
def Kd{N:Nat}{x:cu}(h: ∀r∈x,r<N):dU x (List.range N)=x:=by
 unfold dU;have:x.map (λr=>(List.range N).getD r 0)=x.map id:=pC λr a=>by
  rw[dY,mM (h r a)];rfl
 rw[this,List.map_id]
def Iq{N:Nat}{t:cu}(h:t.length=N):dU (List.range N) t=t:=by
 subst h;refine l7 λj=>?_;unfold dU;rw[cQ];by_cases z:j<t.length
 .rw[mM z,cA z];show some (t.getD j 0)=_;rw[dY,cA z];rfl
 .rw[ie (by simp;lia),List.getElem?_eq_none (by lia)];rfl
section
variable{S:cu->Prop}{N:Nat}
def vj{t:cu}(h:t.Perm (List.range N)):t.length=N/\ ∀r∈t,r<N:=⟨by rw[h.length_eq,iY],λr a=>fq.mp (h.mem_iff.mp a)⟩
def Jc(a: ∀m,S m->m.Perm (List.range N)){t:cu}(h:Gen S N t):t.Perm (List.range N):=by
 induction h with
 |base=>exact List.Perm.refl _
 | @step x m _ b c=>
  have z:=c.map λr=>m.getD r 0;exact z.trans ((List.Perm.of_eq (Iq (vj (a m b)).1)).trans (a m b))
end
theorem F6: ∀(n k:Nat) (g:cu),g.Perm (List.range' k n)->fO g (List.range' k n)=none∨fO g (List.range' k n)=some false
 |0,k,g,h=>by
  rw[h.eq_nil];exact .inl rfl
 |n+1,k,[],h=>wC h.length_eq (by simp)
 | n+1,k,a::g,h=>by
  rw[List.range'_succ]at h⊢;have b:=h.mem_iff.mp (dP ..);show(if a=k then fO g (List.range' (k+1) n)else some (decide (a<k)))=none∨(if a=k then fO g (List.range' (k+1) n)else some (decide (a<k)))=some false;by_cases e:a=k
  .subst e;rw[wB rfl];exact F6 n (a+1) g (List.perm_cons a |>.mp h)
  .rw[wA e];refine .inr (dL some (fg ?_))
   rcases dQ.mp b with z|z
   .exact wC z e
   .have:=(List.mem_range'_1.mp z).1;lia
def KY{N:Nat}{a:LN}(pm: ∀t∈a,t.Perm (List.range N))(up:a.Pairwise λx y=>eA x y=true)(h:List.range N∈a):a[0]? =some (List.range N):=by
 cases a with
 |nil=>cases h
 | cons g a=>
  rcases dQ.mp h with e|e
  .rw[e];rfl
  .have z:=(qC.mp up).1 _ e;have p:=pm g (dP ..);rw[List.range_eq_range']at p z;have b:=p.length_eq;unfold eA at z
   rcases F6 N 0 g p with y|y
   .rw[y]at z;have:=gi z;lia
   .rw[y]at z;cases z
theorem CU{x u v:cu}: ∀{a:TW},(a.map (·.1)).Nodup->(x,u)∈a->(x,v)∈a->u=v
 | [],_,h,_=>nomatch h
 | p::a,nd,d,b=>by
  obtain⟨c,e⟩:=jc.mp nd
  rcases dQ.mp d with e1|e1
  .rcases dQ.mp b with e2|e2
   .rw[<-e1]at e2;injection e2 with _ e2
    exact e2.symm
   .exact wC (c7.mpr ⟨_,e2,by rw[<-e1]⟩) c
  .rcases dQ.mp b with e2|e2
   .exact wC (c7.mpr ⟨_,e1,by rw[<-e2]⟩) c
   .exact CU e e1 e2
def Wds(b c a:LN):Prop:=a.length=c.length/\ ∃d,Told (cE b) b.length (c.headD []) d/\ ∀(k:Nat) (x e:cu),c[k]? =some x->a[k]? =some e->(x,e)∈d
def Wds.uniq{j c e d:LN}(h:Wds j c e)(o:Wds j c d):e=d:=by
 obtain⟨s,t,T,a⟩:=h;obtain⟨u,p,q,b⟩:=o;cases T.uniq q;refine l7 λk=>?_;by_cases r:k<c.length
 .obtain⟨i,l⟩: ∃i,e[k]? =some i:=⟨_,cA (by lia)⟩;obtain⟨g,m⟩: ∃g,d[k]? =some g:=⟨_,cA (by lia)⟩;have n:=cA r;rw[l,m,CU T.keys (a k _ i n l) (b k _ g n m)]
 .rw[ie (by lia),ie (by lia)]
def Ord.uniq{b:LN}{c told a:gP}(h:Ord b c told)(d:Ord b c a):told=a:=by
 induction h generalizing a with
 |nil=>
  cases d with
  |nil=>rfl
  |cons h r=>cases h
 | cons h r g=>
  cases d with
  |nil=>cases h
  |cons e i=>
   rw[h]at e;cases e;rw[g i]
def LevAt.lvw{H:Hp}{l:Ad}{q d:LN}{I:List WE}{a:Ad}{c:LN}(h:LevAt H l q d (big d) I a c)(J:c∈db q (big d)): ∃e,LvH H a c (hA d (c.headD [])) e/\LvP q d c (hA d (c.headD [])) e/\Wds q c e:=by
 obtain⟨s,t,v,bs,L,z,i,y,M,h2,h3,h4,h5,N,O,Q,T,A,U,Y,aa,j,ab,B⟩:=h;obtain⟨e,C,D⟩:=AA (n:=c.length) (P:=λk g=> ∃x b,c[k]? =some x/\z[k]? =some b/\(x,g)∈y.2.1/\H b=some (.lst (g.map nv))) λk hk=>by
  obtain⟨x,E⟩: ∃x,c[k]? =some x:=⟨_,cA hk⟩;obtain⟨b,G⟩: ∃b,z[k]? =some b:=⟨_,cA (by lia)⟩;obtain⟨g,r,u⟩:=B k x b E G;exact⟨g,x,b,E,G,r,u⟩
 have m: ∀(k:Nat) (x g:cu),c[k]? =some x->e[k]? =some g->(x,g)∈y.2.1:=λk x g o p=>by
  obtain⟨x',b',r,_,z3,_⟩:=D k g p;rw[o]at r;cases r;exact z3
 refine⟨e,⟨s,t,v,bs,L,z,M,N,O,Q,T,A,by lia,λk b g o p=>?_⟩,⟨J,rfl,C,λk x g o p=>j.run _ (m k x g o p)⟩,C,y.2.1,j,m⟩;obtain⟨x',b',_,u,_,z4⟩:=D k g p;rw[o]at u;cases u;exact z4
def Et:Sp:=λa H Q _=> ∃i:Int,a=[.int i]/\Q (.bl true) H
def LB(F:Fun K "_law_whole" "_law_whole" yo f fd)(b:mg "isinstance"=none)(c:mg "int"=none)(d:mg "bool"=none):FnOk P w K mg base cZ 1 f fd ["_law_found"] Et:=by
 refine F.ok JK (λe H Q E h=>?_) (λg A a s H e Q E j h=>?_)
 .obtain⟨i,rfl,_⟩:=h;rfl
 obtain⟨i,rfl,q⟩:=h;refine⟨_,(cS (dH (xS (eZ y8 rfl b yV (de (cB (pv 0) (cB (z7 rfl c boot_int) c8 rfl) rfl))) (wL (Jt (eZ y8 rfl b yV (de (cB (pv 0) (cB (z7 rfl d boot_bool) c8 rfl) rfl)))))))),?_⟩;refine⟨_,rfl,_,_,_,_,rfl,.int i,Mo,_,rfl,fm ?_⟩;exact⟨_,rfl,_,_,_,_,rfl,.int i,MM,_,rfl,q⟩
def fH{K:W.Frag}:PySem.W.kitOne K (.type "tuple") (.type "tuple")=some true:=by rfl
def B9:Sp:=λd H Q _=> ∃(c:Ad) (a:cu),d=[.ref c]/\H c=some (.tup (a.map nv))/\a.length<=4000/\ ∀b,Same H b->Q (.bl true) b
def J7(F:Fun K "_law_is_row" "_law_is_row" xm f fd)(n:dA P w K mg base "_law_whole" 1 ["_law_found"] Et)(o:mg "isinstance"=none)(p:mg "tuple"=none):FnOk P w K mg base cZ 3 f fd ["_law_found"] B9:=by
 refine F.ok Kb (λr H Q E h=>?_) (λt A a s H r Q E i h=>?_)
 .obtain⟨c,b,rfl,_⟩:=h;rfl
 obtain⟨c,b,rfl,d,D,q⟩:=h;have u:=i.units;refine⟨_,(cS (dH (xS (eZ y8 rfl o yV (de (cB (pv 0) (cB (z7 rfl p jr) c8 rfl) rfl))) (wL (ut (tz u) (gI (CompSc.to (N:=["_law_found"]) (osc:=cU xm) (vs:=["_law_one"]) {}) rfl rfl (pK (pv 0)) (λ_ _ _ _=>oo (vF (pF (dD n i.m rfl (cJ (pv 0) cI))))) (λ_ _ _ _=>(pv 0))) (fM cI) (fT _)))))),?_⟩;refine⟨_,rfl,_,_,_,_,rfl,.tup d,fH,_,rfl,fm ?_⟩;refine⟨_,rfl,c,rfl,⟨_,SqT.of d⟩,E9 (f:=λ_=>false) (by rw[cz,dC];lia) (SqT.of d) (λv Q j q=>?_) (λv Q j q=>⟨_,rfl,q⟩) (λl y=>?_)⟩
 .obtain⟨x,G,rfl⟩:=c7.mp j;exact⟨_,rfl,(x:Int),rfl,_,rfl,q⟩
 have z:=cL y (.lst ((b.map nv).filter λ_=>false));refine⟨(by show 0<=sizeLine;decide),λk e=>?_⟩;have m:=cL e (.lst []);have B:(cw (cw H l (.lst ((b.map nv).filter λ_=>false))) k (.lst [])) l=some (.lst []):=by
  rw[m _ _ cC];simp
 refine⟨l,k,0,_,_,rfl,rfl,vP (is:=[]) (SqL.of B),vP (is:=[]) (SqL.of cC),by decide,λc C=>?_⟩;have g:c=true:=C.mpr rfl;subst g;exact q _ (z.trans m)
structure Lv where
 c:LN
 us:LN
 wds:LN
 gs:LN
structure GrpOf(ts c us wds gs:LN):Prop where
 up:gs.Pairwise λx y=>eA x y=true
 mem: ∀t,t∈gs↔Gen (oX ts c us wds) us.length t
def GrpOf.uniq{d c e a g b:LN}(h:GrpOf d c e a g)(i:GrpOf d c e a b):g=b:=AS m9 xu h.up i.up λt=>(h.mem t).trans (i.mem t).symm
def D2{H:Hp}{m:Ad}{b:LN}{n:Nat}{d c e a g h:LN}{i:TW}(M:Mach H m b n)(j:FamOf b n d)(k:LvP b d c e a)(pm:h.Perm (i.map (·.1)))(up:h.Pairwise (λx y=>eA x y=true))(Mk:Makers b c e a g)(TT:Told (j8 g) g.length (List.range e.length) i):GrpOf b c e a h:=
 ⟨up,λt=>by rw[pm.mem_iff,JY TT,Iy (L5 M j k Mk)]⟩
structure LvOk(ts fam:LN)(L:Lv):Prop where
 p:LvP ts fam L.c L.us L.wds
 w:Wds ts L.c L.wds
 g:GrpOf ts L.c L.us L.wds L.gs
def LvOk.uniq{ts a:LN}{L b:Lv}(h:LvOk ts a L)(d:LvOk ts a b)(e:L.c=b.c):L=b:=by
 obtain⟨c,j,k,n⟩:=L;obtain⟨o,g,i,l⟩:=b;cases e;have m:j=g:=h.p.tl.trans d.p.tl.symm;cases m;cases h.w.uniq d.w;cases h.g.uniq d.g;rfl
structure RowOf(ts:LN)(n:Nat)(fam:LN)(Ls:List Lv):Prop where
 ff:FamOf ts n fam
 od:Ord ts (db ts (big fam)) (Ls.map (·.c))
 few:Ls.length<=32
 ok: ∀L∈Ls,LvOk ts fam L
def RowOf.uniq{j:LN}{n:Nat}{c a:LN}{d b:List Lv}(h:RowOf j n c d)(g:RowOf j n a b):c=a/\d=b:=by
 cases h.ff.uniq g.ff;refine⟨rfl,?_⟩;have e:=h.od.uniq g.od;have len:d.length=b.length:=by rw[<-cz (f:=(·.c)),e,cz]
 refine vB len λi k m=>(h.ok _ (i7 k)).uniq (g.ok _ (i7 m)) ?_;have z:=dL (λl=>l[i]?) e;simpa[k,m]using z
section
variable{H:Hp}{m:Ad}{ts:LN}{n:Nat}{fam:LN}{L:Lv}
def LvOk.isPm(M:Mach H m ts n)(a:FamOf ts n fam)(ok:LvOk ts fam L): ∀t,oX ts L.c L.us L.wds t->t.Perm (List.range L.us.length):=λ_ ⟨_,_,_,_,_,_,b,c,d,e,_,g⟩=>IG M a ok.p b c d e g
def LvOk.pm(M:Mach H m ts n)(a:FamOf ts n fam)(ok:LvOk ts fam L){t:cu}(h:t∈L.gs):t.Perm (List.range L.us.length):=Jc (ok.isPm M a) ((ok.g.mem t).mp h)
def LvOk.nd(ok:LvOk ts fam L):L.gs.Nodup:=ok.g.up.imp λ{a b} z e=>by
 subst e;rw[m9]at z;cases z
def LvOk.first(M:Mach H m ts n)(a:FamOf ts n fam)(ok:LvOk ts fam L):L.gs[0]? =some (List.range L.us.length):=KY (λ_ ht=>ok.pm M a ht) ok.g.up ((ok.g.mem _).mpr .base)
end
def e7(a:LN)(b:As):List (List dr×V):=a3v (a.map λx=>(x,[])) b
def AW{a:LN}{b:As}(h:b.length=a.length):(e7 a b).length=a.length:=by
 unfold e7 L2.a3v;rw[List.length_zipWith,cz,h,wD]
def AT{b:LN}{c:As}{x:cu}{a:Ad}(h:c.length=b.length)(d:x∉b):io (e7 b c) (nk x) (.ref a)=e7 (b++[x]) (c++[a]):=by
 unfold e7;rw[zn _ (oI (by rw[tF];exact d)),eE];exact(yB (ws:=b.map λx=>(x,[])) (p:=(x,[])) (a:=a) (by rw[cz,h])).symm
def Ly{b:LN}{c:As}{x:cu}{a:Ad}{k:Nat}(nd:b.Nodup)(d:b[k]? =some x)(e:c[k]? =some a):gM (e7 b c) (nk x)=some (.ref a):=xR (p:=(x,[])) (by rw[tF];exact nd) (by rw[cQ,d];rfl) e
def Kf{a:LN}{b:As}{x:cu}(h:x∉a):gM (e7 a b) (nk x)=none:=oI (by rw[tF];exact h)
def m7{H:Hp}{D b a:Ad}{c:LN}{d:As}{x:cu}{k:Nat}(nd:c.Nodup)(e:H D=some (.dT (e7 c d)))(g:H b=some (.tup (x.map nv)))(h:c[k]? =some x)(i:d[k]? =some a):DGet H D (.ref b) (some (.ref a)):=
 .inr ⟨_,nk x,b,.inl e,rfl,by rw[ip];exact g,(Ly nd h i).symm⟩
def pR{H:Hp}{D b:Ad}{a:LN}{c:As}{x:cu}(d:H D=some (.dT (e7 a c)))(e:H b=some (.tup (x.map nv)))(h:x∉a):DGet H D (.ref b) none:=
 .inr ⟨_,nk x,b,.inl d,rfl,by rw[ip];exact e,(Kf h).symm⟩
def tl(a b:LN)(c:cu):LN:=b.map λu=>di (cE a) u c
def TiledAs(H:Hp)(e g b:LN)(h:As):Prop:= ∀(k:Nat) (c:cu) (a:Ad),b[k]? =some c->h[k]? =some a-> ∃d,H a=some (.lst (d.map .ref))/\TupsAt H d (tl e g c)
def TiledAt(H:Hp)(t:Ad)(d c e a:LN):Prop:= ∃b,H t=some (.dT (e7 c b))/\b.length=c.length/\TiledAs H d e a b
def TurnL(H:Hp)(b c i d:LN)(x j:cu)(e:List V):Prop:=e.length=b.length/\ ∀(l:Nat) (v:V),e[l]? =some v->(cE b x l∉c/\v= .non)∨ ∃(p:Ad) (g:cu) (h:Nat) (a:cu),v= .ref p/\H p=some (.tup (g.map nv))/\c[h]? =some (cE b x l)/\d[h]? =some a/\iH b i j a l g
def TurnsAs(H:Hp)(g c h b:LN)(i:As):Prop:= ∀(k:Nat) (x d:cu) (a:Ad),c[k]? =some x->b[k]? =some d->i[k]? =some a-> ∃e,H a=some (.lst e)/\TurnL H g c h b x d e
def TurnsAt(H:Hp)(t:Ad)(d c e a:LN):Prop:= ∃b,H t=some (.dT (e7 c b))/\b.length=c.length/\TurnsAs H d c e a b
def Stays(f:HO->Bool)(H a:Hp):Prop:= ∀b o,f o=false->H b=some o->a b=some o
def oQ:HO->Bool
 | .tbl _=>true
 |_=>false
def A3:HO->Bool
 | .tbl _=>true
 | .dT _=>true
 |_=>false
def mN:HO->Bool
 | .ins _ _ _=>true
 |_=>false
def tJ:HO->Bool
 | .lst _=>true
 |_=>false
abbrev py:=Stays A3
abbrev kh:=Stays tJ
def Stays.a{f:HO->Bool}{H H':Hp}{b:Ad}{o:HO}(g:Stays f H H')(h:H b=some o)(d:f o=false:=by rfl):H' b=some o:=g b o d h
def nz{H:Hp}{a:Ad}{o:HO}(h:H a=some o)(d:oQ o=false:=by rfl):L2.noT H a=some o:=nP h λb e=>by subst e;cases d
def zM{H a:Hp}(g:Keeps H a):Stays oQ H a:=λb o d h=>g b o (nz h d)
def nB{H a:Hp}(g:Same H a):py H a:=λb o _ h=>g b o h
def Stays.off{H:Hp}{D:Ad}{a:List (List dr×V)}{o:HO}(h:H D=some (.dT a)):py H (cw H D o):=λb u n c=>by
 rw[cF (iE c h λe=>by rw[e]at n;cases n)];exact c
def Stays.offL{H:Hp}{D:Ad}{c:List V}{o:HO}(h:H D=some (.lst c)):kh H (cw H D o):=λb u n a=>by
 rw[cF (iE a h λe=>by rw[e]at n;cases n)];exact a
def Stays.offI{H:Hp}{D C d:Ad}{fs:List (Str×V)}{o:HO}(h:H D=some (.ins C d fs)):Stays mN H (cw H D o):=λb u n a=>by
 rw[cF (iE a h λe=>by rw[e]at n;cases n)];exact a
section
variable{f:HO->Bool}{H H':Hp}{ts c us wds:LN}
def Stays.tups{bs:As}{us:LN}(g:Stays f H H')(T:TupsAt H bs us)(a: ∀d,f (.tup d)=false:=by intro;rfl):TupsAt H' bs us:=⟨T.len,λi b u e h=>g _ _ (a _) (T.is i b u e h)⟩
def TiledAs.lts{d:As}(h:TiledAs H ts us wds d)(g:Stays f H H')(e: ∀b,f (.lst b)=false:=by intro;rfl)(i: ∀b,f (.tup b)=false:=by intro;rfl):TiledAs H' ts us wds d:=λk j a l m=>let⟨n,o,p⟩:=h k j a l m;⟨n,g _ _ (e _) o,g.tups p i⟩
def TurnL.lts{x b:cu}{d:List V}(h:TurnL H ts c us wds x b d)(g:Stays f H H')(i: ∀j,f (.tup j)=false:=by intro;rfl):TurnL H' ts c us wds x b d:=⟨h.1,λl v e=>(h.2 l v e).imp id λ⟨p,k,m,a,n,o,q⟩=>⟨p,k,m,a,n,g _ _ (i _) o,q⟩⟩
def TurnsAs.lts{d:As}(h:TurnsAs H ts c us wds d)(g:Stays f H H')(e: ∀b,f (.lst b)=false:=by intro;rfl)(i: ∀b,f (.tup b)=false:=by intro;rfl):TurnsAs H' ts c us wds d:=λk x j a l m n=>let⟨o,p,q⟩:=h k x j a l m n;⟨o,g _ _ (e _) p,q.lts g i⟩
def TiledAt.keeps{t:Ad}(h:TiledAt H t ts c us wds)(g:Keeps H H'):TiledAt H' t ts c us wds:=let⟨a,b,d,e⟩:=h;⟨a,g _ _ (nz b),d,e.lts (zM g)⟩
def TurnsAt.keeps{t:Ad}(h:TurnsAt H t ts c us wds)(g:Keeps H H'):TurnsAt H' t ts c us wds:=let⟨a,b,d,e⟩:=h;⟨a,g _ _ (nz b),d,e.lts (zM g)⟩
end
def tW(m g t u:Ad)(k:Nat):List (Str×V):=[("machine",.ref m),("group",.ref g),("tiles",.ref t),("turns",.ref u),("tile_count",nv k)]
section
variable{m g t u:Ad}{k:Nat}
def uE:(tW m g t u k).lookup ("machine":Str)=some (.ref m):=by kernel_rfl
def ss:(tW m g t u k).lookup ("group":Str)=some (.ref g):=by kernel_rfl
def oj:(tW m g t u k).lookup ("tiles":Str)=some (.ref t):=by kernel_rfl
def sY:(tW m g t u k).lookup ("turns":Str)=some (.ref u):=by kernel_rfl
end
def StepAt(C:Ad)(H:Hp)(q m:Ad)(a:LN)(L:Lv):Prop:= ∃(c g t u:Ad) (b:As),H q=some (.ins C c (tW m g t u L.us.length))/\H g=some (.lst (b.map .ref))/\TupsAt H b L.gs/\TiledAt H t a L.c L.us L.wds/\TurnsAt H u a L.c L.us L.wds
def StepAt.keeps{C:Ad}{H a:Hp}{q m:Ad}{b:LN}{L:Lv}(h:StepAt C H q m b L)(k:Keeps H a):StepAt C a q m b L:=
 let⟨c,g,t,u,d,e,i,j,l,n⟩:=h;⟨c,g,t,u,d,k _ _ (nz e),k _ _ (nz i),nt j k,l.keeps k,n.keeps k⟩
structure StepsAt(C:Ad)(H:Hp)(qs:As)(m:Ad)(ts:LN)(Ls:List Lv):Prop where
 len:qs.length=Ls.length
 is: ∀(i:Nat) (q:Ad) (L:Lv),qs[i]? =some q->Ls[i]? =some L->StepAt C H q m ts L
def StepsAt.keeps{C:Ad}{H a:Hp}{b:As}{m:Ad}{c:LN}{d:List Lv}(h:StepsAt C H b m c d)(k:Keeps H a):StepsAt C a b m c d:=⟨h.len,λi q L e g=>(h.is i q L e g).keeps k⟩
def o0(r s:Ad):List (Str×V):=[("rooms",.ref r),("steps",.ref s)]
def ET{r s:Ad}:(o0 r s).lookup ("rooms":Str)=some (.ref r):=by kernel_rfl
def y4{r s:Ad}:(o0 r s).lookup ("steps":Str)=some (.ref s):=by kernel_rfl
def RowAt(b CR:Ad)(H:Hp)(p m:Ad)(c:LN)(n:Nat)(d:List Lv):Prop:= ∃(e r s:Ad) (a:As),H p=some (.ins CR e (o0 r s))/\H r=some (.tup ((List.range n).map nv))/\H s=some (.lst (a.map .ref))/\StepsAt b H a m c d
def RowAt.keeps{a CR:Ad}{H b:Hp}{p m:Ad}{c:LN}{n:Nat}{d:List Lv}(h:RowAt a CR H p m c n d)(k:Keeps H b):RowAt a CR b p m c n d:=
 let⟨e,r,s,g,i,j,l,o⟩:=h;⟨e,r,s,g,k _ _ (nz i),k _ _ (nz j),k _ _ (nz l),o.keeps k⟩
def Dm(C:Ad):Sp:=λk H Q _=> ∃(d:Hp) (p l m a:Ad) (e:LN) (n:Nat) (g c h b:LN),k=[.ref p,.ref m,.ref a]/\Same d H/\d p=none/\H p=some (.ins C l [])/\Mach d m e n/\FamOf e n g/\LvH d a c h b/\LvP e g c h b/\Tabs d/\
 ∀j i,Keeps d i->Tabs i->GrpOf e c h b j->StepAt C i p m e ⟨c,h,b,j⟩->Q .non i
def BY(g CR:Ad):Sp:=λh H Q _=> ∃(a:Hp) (p i m:Ad) (c:LN) (n:Nat),h=[.ref p,.ref m]/\Same a H/\a p=none/\H p=some (.ins CR i [])/\Mach a m c n/\Tabs a/\
 ∀d e b,Keeps a b->Tabs b->RowOf c n d e->RowAt g CR b p m c n e->Q .non b
def Tabs.offI{H:Hp}{p C a:Ad}{fs:List (Str×V)}{o:HO}(t:Tabs H)(h:H p=some (.ins C a fs)):Tabs (cw H p o):=λq d=>by
 have k: ∀{b:Ad} {u:HO},u≠ .ins C a fs->H b=some u->cw H p o b=some u:=λn c=>by
  rw[cF (iE c h n)];exact c
 rcases t q d with t|⟨g,i,j⟩
 .exact .inl (k (λe=>nomatch e) t)
 .exact .inr ⟨g,k (λe=>nomatch e) i,k (λe=>nomatch e) j⟩
def Tabs.offD{H:Hp}{D:Ad}{a:List (List dr×V)}{o:HO}(t:Tabs H)(h:H D=some (.dT a)):Tabs (cw H D o):=t.most λb u n _ c=>by
 rw[cF (iE c h λe=>n _ e)];exact c
def t5{H a:Hp}{l:Ad}{o:HO}(g:Keeps H a)(n:H l=none):Keeps H (cw a l o):=Bh g (AM n)
def Dj{H a:Hp}{l:Ad}(g:Keeps H a)(n:a l=none):L2.noT H l=none:=by
 cases y:L2.noT H l with
 |none=>rfl
 |some o=>
  rw[g _ _ y]at n;cases n
def StepAt.off{C j:Ad}{H:Hp}{q m p d:Ad}{b:LN}{L:Lv}{fs:List (Str×V)}{o:HO}(h:StepAt C H q m b L)(c:H p=some (.ins j d fs))(n:fs.length≠5):StepAt C (cw H p o) q m b L:=by
 obtain⟨k,g,t,u,l,i,r,s,⟨v,x,y,z⟩,a,A,B,D⟩:=h;have lo:Stays mN H (cw H p o):=Stays.offI c;refine⟨k,g,t,u,l,?_,lo.a r,lo.tups s,⟨v,lo.a x,y,z.lts lo⟩,a,lo.a A,B,D.lts lo⟩;rw[cF (iE i c λe=>by injection e with _ _ e;exact n (by rw[<-e];rfl))];exact i
def lU{b:Type}{P:Nat->b->Prop}{a:List b}{x:b}(h: ∀k y,a[k]? =some y->P k y)(c:P a.length x)(k:Nat)(y:b)(e:(a++[x])[k]? =some y):P k y:=by
 by_cases d:k<a.length
 .rw[e8 d]at e;exact h k y e
 .have lk:=(cK.mp e).1;rw[dF,ue]at lk;have g:k=a.length:=by lia
  subst g;rw[eU (cM _),lG]at e;cases e;exact c
def HZ{C:Ad}(F:Fun K "__init__" "LevelParts.__init__" xk f fd)(u_LevelParts:OwnC K C ["machine","group","tiles","turns","tile_count"])(jU:dA P w K mg base "level_group" 13 ["machine","level"] zf)(jK:dA P w K mg base "tiles_of_set" 7 ["machine","level","k"] BO)(jG:dA P w K mg base "tiles_turned" 9 ["machine","level","k","letter"] xI)(jI:mg "enumerate"=none)(jD:mg "range"=none)(jB:mg "len"=none):FnOk P w K mg base cZ 15 f fd ["self","machine","level"] (Dm C):=by
 refine F.ok kK (λvs H Q E h=>?_) (λaX A aN s H vs Q E hr h=>?_)
 .obtain⟨H0,p,d,m,a,B,n,an,c,U,y,rfl,_⟩:=h;rfl
 obtain⟨H0,p,d,m,a,B,n,an,c,U,y,rfl,g0,np,hp,M,ff,lv,lp,hT,q⟩:=h;have hu:=hr.units;have ax:=hR hr;obtain⟨s',t',v',bs,ds,cs,h1,h2,h3,h4,h5,h6,h7,h8⟩:=id lv;have lb:=h3.len;have l5:=h5.len;obtain⟨uU,few⟩:=lp.inU M ff;obtain⟨rs,hm,aO,_⟩:=M.refs;have t4:=M.few;have nd:=lp.nd ff;have aY:c.length<=32:=by
  rw[(gh lp.cls).2.1];exact dE (gZ _ _) (dE (gZ _ _) (ff.few M))
 refine⟨_,(cN (oY (pv 0) (pv 1) rfl) (cN (oY (pv 0) (dD jU hr.m rfl (de (cB (pv 1) (cB (pv 2) c8 rfl) rfl))) rfl) (cN (oY (pv 0) tX rfl) (cN (oY (pv 0) tX rfl) (cN (gK gk rfl (x4 rfl jI (cJ (cX dz (pv 2) cV (λ_ _=>rfl)) cI)) (mH rfl (gG (eQ (i:=3) kK.nd rfl (Or.inr rfl)) (gG (eQ (i:=4) kK.nd rfl (Or.inl rfl)) md))) (cN (qp ax (gX (pv 0) rfl) (pv 4) (dD jK hr.m rfl (de (cB (pv 1) (cB (pv 2) (cB (pv 3) c8 rfl) rfl) rfl))) rfl) (cS (qp ax (gX (pv 0) rfl) (pv 4) (gI (CompSc.to (N:=["self","machine","level","k","rooms"]) (osc:=cU xk) (vs:=["letter"]) {}) rfl rfl (mK rfl jD (cJ (eZ fZ rfl jB fV (cJ (pv 1) cI)) cI)) (λ_ _ _ _=>iu) (λ_ _ _ _=>(dD jG hr.m rfl (de (cB (pv 2) (cB (pv 3) (cB (pv 4) (cB (pv 0) c8 rfl) rfl) rfl) rfl))))) rfl)))) (cS (oY (pv 0) (eZ fZ rfl jB fV (cJ (cX dz (pv 2) cV (λ_ _=>rfl)) cI)) rfl))))))),?_⟩;refine⟨_,rfl,_,rfl,p,C,d,_,rfl,hp,u_LevelParts.cl,u_LevelParts.no,by show 0<1000;decide,?_⟩;have g1:Same H0 (cw H p (.ins C d (dM "machine" (.ref m) []))):=fQ g0 np;have p1:cw H p (.ins C d (dM "machine" (.ref m) [])) p=some (.ins C d (dM "machine" (.ref m) [])):=cC;generalize cw H p (.ins C d (dM "machine" (.ref m) []))=H1 at g1 p1⊢;refine⟨_,rfl,_,rfl,m,a,B,n,an,c,U,y,rfl,M.same g1,ff,lv.same g1,lp,hT.same g1,λg gr gs mk ws H2 k2 T2 ng eg Tg pm up Mk TT=>?_⟩;have G:=D2 M ff lp pm up Mk TT;have p2:=k2 _ _ (nz p1);refine⟨_,rfl,p,C,d,_,rfl,p2,u_LevelParts.cl,u_LevelParts.no,by show 1<1000;decide,?_⟩;have gp:g≠p:=nE eg p2;have k3:Keeps H0 (cw H2 p (.ins C d (dM "group" (.ref g) (dM "machine" (.ref m) [])))):=t5 (g1.keeps.trans k2) np;have T3:Tabs (cw H2 p (.ins C d (dM "group" (.ref g) (dM "machine" (.ref m) [])))):=T2.offI p2;have p3:cw H2 p (.ins C d (dM "group" (.ref g) (dM "machine" (.ref m) []))) p=some (.ins C d [("machine",.ref m),("group",.ref g)]):=by rw[cC];exact dL (λl=>some (HO.ins C d l)) (by kernel_rfl)
 have ao:cw H2 p (.ins C d (dM "group" (.ref g) (dM "machine" (.ref m) []))) g=some (.lst (gr.map .ref)):=by rw[cF gp];exact eg
 have ap:TupsAt (cw H2 p (.ins C d (dM "group" (.ref g) (dM "machine" (.ref m) [])))) gr gs:=oi Tg p2 λ_ e=>nomatch e;generalize cw H2 p (.ins C d (dM "group" (.ref g) (dM "machine" (.ref m) [])))=H3 at k3 T3 p3 ao ap⊢;intro t ht;have J:=cL ht (.dT []);have ay:p≠t:=dO p3 ht;have aP:=Dj k3 ht;refine⟨_,rfl,p,C,d,_,rfl,J _ _ p3,u_LevelParts.cl,u_LevelParts.no,by show 2<1000;decide,?_⟩;have k4:Keeps H0 (cw (cw H3 t (.dT [])) p (.ins C d (dM "tiles" (.ref t) [("machine",.ref m),("group",.ref g)]))):=t5 (k3.trans J.keeps) np;have T4:Tabs (cw (cw H3 t (.dT [])) p (.ins C d (dM "tiles" (.ref t) [("machine",.ref m),("group",.ref g)]))):=(T3.same J).offI (J _ _ p3);have p4:cw (cw H3 t (.dT [])) p (.ins C d (dM "tiles" (.ref t) [("machine",.ref m),("group",.ref g)])) p=some (.ins C d [("machine",.ref m),("group",.ref g),("tiles",.ref t)]):=by rw[cC];exact dL (λl=>some (HO.ins C d l)) (by kernel_rfl)
 have aq:cw (cw H3 t (.dT [])) p (.ins C d (dM "tiles" (.ref t) [("machine",.ref m),("group",.ref g)])) g=some (.lst (gr.map .ref)):=by rw[cF gp];exact J _ _ ao
 have ar:TupsAt (cw (cw H3 t (.dT [])) p (.ins C d (dM "tiles" (.ref t) [("machine",.ref m),("group",.ref g)]))) gr gs:=oi (ap.same J) (J _ _ p3) λ_ e=>nomatch e;have aj:cw (cw H3 t (.dT [])) p (.ins C d (dM "tiles" (.ref t) [("machine",.ref m),("group",.ref g)])) t=some (.dT []):=by rw[cF ay.symm];exact cC
 generalize cw (cw H3 t (.dT [])) p (.ins C d (dM "tiles" (.ref t) [("machine",.ref m),("group",.ref g)]))=H4 at k4 T4 p4 aq ar aj⊢;clear k3 T3 p3 ao ap J ht k2 T2 p2 eg Tg g1 p1 g0 hp;intro u af;have J:=cL af (.dT []);have aQ:p≠u:=dO p4 af;have az:t≠u:=dO aj af;refine⟨_,rfl,p,C,d,_,rfl,J _ _ p4,u_LevelParts.cl,u_LevelParts.no,by show 3<1000;decide,?_⟩;have k5:Keeps H0 (cw (cw H4 u (.dT [])) p (.ins C d (dM "turns" (.ref u) [("machine",.ref m),("group",.ref g),("tiles",.ref t)]))):=t5 (k4.trans J.keeps) np;have T5:Tabs (cw (cw H4 u (.dT [])) p (.ins C d (dM "turns" (.ref u) [("machine",.ref m),("group",.ref g),("tiles",.ref t)]))):=(T4.same J).offI (J _ _ p4);have p5:cw (cw H4 u (.dT [])) p (.ins C d (dM "turns" (.ref u) [("machine",.ref m),("group",.ref g),("tiles",.ref t)])) p=some (.ins C d [("machine",.ref m),("group",.ref g),("tiles",.ref t),("turns",.ref u)]):=by rw[cC];exact dL (λl=>some (HO.ins C d l)) (by kernel_rfl)
 have aA:cw (cw H4 u (.dT [])) p (.ins C d (dM "turns" (.ref u) [("machine",.ref m),("group",.ref g),("tiles",.ref t)])) g=some (.lst (gr.map .ref)):=by rw[cF gp];exact J _ _ aq
 have aB:TupsAt (cw (cw H4 u (.dT [])) p (.ins C d (dM "turns" (.ref u) [("machine",.ref m),("group",.ref g),("tiles",.ref t)]))) gr gs:=oi (ar.same J) (J _ _ p4) λ_ e=>nomatch e;have aC:cw (cw H4 u (.dT [])) p (.ins C d (dM "turns" (.ref u) [("machine",.ref m),("group",.ref g),("tiles",.ref t)])) t=some (.dT []):=by rw[cF ay.symm];exact J _ _ aj
 have aD:cw (cw H4 u (.dT [])) p (.ins C d (dM "turns" (.ref u) [("machine",.ref m),("group",.ref g),("tiles",.ref t)])) u=some (.dT []):=by rw[cF aQ.symm];exact cC
 have aR:=Dj k4 af;generalize cw (cw H4 u (.dT [])) p (.ins C d (dM "turns" (.ref u) [("machine",.ref m),("group",.ref g),("tiles",.ref t)]))=H5 at k5 T5 p5 aA aB aC aD⊢;clear k4 T4 p4 aq ar aj J af
 let Pv:Nat->L2.St->Hp->Prop:=λi σ D=>Keeps H0 D/\Tabs D/\D p=some (.ins C d [("machine",.ref m),("group",.ref g),("tiles",.ref t),("turns",.ref u)])/\D g=some (.lst (gr.map .ref))/\TupsAt D gr gs/\(∃z,D t=some (.dT (e7 (c.take i) z))/\z.length=i/\TiledAs D B U y z)/\(∃z,D u=some (.dT (e7 (c.take i) z))/\z.length=i/\TurnsAs D B c U y z)/\ ∃o3 o4,σ=[some (.ref p),some (.ref m),some (.ref a),o3,o4]
 have L:=λ{D:Hp} (k:Keeps H0 D)=>zM k;refine⟨_,rfl,a,_,_,_,rfl,rfl,SqT.of ((L k5).a h1),rfl,s',_,rfl,SqL.of ((L k5).a h2),Bp (xs:=bs.map .ref) Pv ⟨k5,T5,p5,aA,aB,⟨[],aC,rfl,λk I a _ e=>by simp at e⟩,⟨[],aD,rfl,λk x I a _ _ e=>by simp at e⟩,_,_,rfl⟩ (λi σ D _ p=>SqL.of ((L p.1).a h2)) (λi Tp v σ H6 hv nT pv=>?_) (λσ H6 pv=>?_)⟩
 .obtain⟨k6,T6,p6,au,av,⟨z,ab,la,ta⟩,⟨O,ag,ae,tb⟩,o3,o4,rfl⟩:=pv;rw[cQ]at hv;obtain⟨b,eb,rfl⟩:=eC.mp hv;have li:=(cK.mp eb).1;obtain⟨x,ex⟩: ∃x,c[i]? =some x:=⟨_,cA (by lia)⟩;obtain⟨I,ew⟩: ∃I,y[i]? =some I:=⟨_,cA (by rw[lp.len];lia)⟩;have aS:=(lp.go i x I ex ew).1;have tk:c.take (i+1)=c.take i++[x]:=by rw[hG,ex];rfl
  have xn:x∉c.take i:=λh=>by
   obtain⟨j,ej⟩:=fy.mp h;have lj:=(cK.mp ej).1;rw[fK]at lj;rw[ui (by lia)]at ej;have:=(im (by lia) nd).mp (ej.trans ex.symm)
   lia
  have lt:(c.take i).length=i:=by rw[fK];lia
  have kT:=cL nT (.tup [.int (i:Nat),.ref b]);have eT:cw H6 Tp (.tup [.int (i:Nat),.ref b]) Tp=some (.tup [.int (i:Nat),.ref b]):=cC;generalize cw H6 Tp (.tup [.int (i:Nat),.ref b])=H7 at kT eT⊢;have k7:=k6.trans kT.keeps;refine⟨Tp,_,rfl,SqT.of eT,rfl,_,_,rfl,_,_,rfl,rfl,?_⟩;refine⟨_,rfl,_,rfl,_,rfl,m,a,i,B,n,c,U,y,I,rfl,M.keeps k7,LvH.keeps lv k7,ew,uU,few,aS,λl es H8 g8 el aE=>?_⟩;have T:=kT.trans g8;have k8:=k6.trans T.keeps;have aF:=(L k8).a (h3.is i b x eb ex);refine⟨_,rfl,p,C,d,_,_,rfl,T _ _ p6,u_LevelParts.cl,u_LevelParts.no,(by kernel_rfl),_,rfl,t,_,rfl,DPut.t (T _ _ ab) (by rw[ip];exact aF) (by rw[AW (by lia),dC];lia),?_⟩;rw[AT (by lia) xn,<-tk];have ak:=T _ _ ab;have lo:py H6 (cw H8 t (.dT (e7 (c.take (i+1)) (z++[l])))):=λb o n hb=>Stays.off ak b o n (T _ _ hb);have aw:py H8 (cw H8 t (.dT (e7 (c.take (i+1)) (z++[l])))):=Stays.off ak;have k9:Keeps H0 (cw H8 t (.dT (e7 (c.take (i+1)) (z++[l])))):=Bh k8 aP;have T9:Tabs (cw H8 t (.dT (e7 (c.take (i+1)) (z++[l])))):=(T6.same T).offD ak;have aG:cw H8 t (.dT (e7 (c.take (i+1)) (z++[l]))) t=some (.dT (e7 (c.take (i+1)) (z++[l]))):=cC;have aH:cw H8 t (.dT (e7 (c.take (i+1)) (z++[l]))) u=some (.dT (e7 (c.take i) O)):=by rw[cF az.symm];exact T _ _ ag
  have aI:TiledAs (cw H8 t (.dT (e7 (c.take (i+1)) (z++[l])))) B U y (z++[l]):=λk r a' e1 e2=>lU (P:=λk a=> ∀I,y[k]? =some I-> ∃es,cw H8 t (.dT (e7 (c.take (i+1)) (z++[l]))) a=some (.lst (es.map .ref))/\TupsAt (cw H8 t (.dT (e7 (c.take (i+1)) (z++[l])))) es (tl B U I)) (λk a e I e'=>(ta.lts lo) k I a e' e) (λr e=>by
   rw[la,ew]at e;cases e;exact⟨es,aw.a el,aw.tups aE⟩) k a' e2 r e1
  have p9:=lo.a p6;have aJ:=lo.a au;have aK:=lo.tups av;have aL:=tb.lts lo;generalize cw H8 t (.dT (e7 (c.take (i+1)) (z++[l])))=H9 at k9 T9 aG aH aI p9 aJ aK aL⊢;clear lo aw T g8 k8 aF ak kT eT k7 el aE;refine⟨_,rfl,m,_,rfl,.inr (SqT.of ((L k9).a hm)),(B.length:Int),by rw[cz,aO],by lia,by lia,t8 (λj ys D=>Same H9 D/\ys.length=j/\ ∀(l:Nat) (v:V),ys[l]? =some v->(cE B x l∉c/\v= .non)∨ ∃(p:Ad) (js:cu) (k':Nat) (r:cu),v= .ref p/\D p=some (.tup (js.map nv))/\c[k']? =some (cE B x l)/\y[k']? =some r/\iH B U I r l js) (by rw[hV];exact small (by lia)) ⟨Same.refl _,rfl,λl v e=>by simp at e⟩ (λj ys D _ pv=>Nat.le_of_eq pv.2.1) (λj ys D hj pv=>?_) (λys D pv sg aT=>?_)⟩
  .obtain⟨g,ly,al⟩:=pv;have e0:V.int (0+(j:Int))=nv j:=by show V.int (0+(j:Int))=V.int (j:Int);rw[rh]
   have aU:j<B.length:=by simpa using hj
   rw[e0];have ah:=k9.trans g.keeps;refine⟨hI,jm ⟨_,rfl,_,rfl,_,rfl,_,rfl,m,a,i,j,B,n,an,c,U,y,x,I,rfl,M.keeps ah,ff,LvH.keeps lv ah,lp,ex,ew,aU,λno H2 g2=>?_,λk' r ey aV pp js H2 g2 ep aW=>?_⟩⟩
   .refine⟨g.trans g2,by rw[dF,ly];rfl,λl v e=>lU (P:=λl v=>(cE B x l∉c/\v=V.non)∨ ∃(p:Ad) (js:cu) (k':Nat) (r:cu),v= .ref p/\H2 p=some (.tup (js.map nv))/\c[k']? =some (cE B x l)/\y[k']? =some r/\iH B U I r l js) (λl v e=>(al l v e).imp id λ⟨p,js,k',r,z1,z2,z3⟩=>⟨p,js,k',r,z1,g2 _ _ z2,z3⟩) (.inl ⟨by rw[ly];exact no,rfl⟩) l v e⟩
   .refine⟨g.trans g2,by rw[dF,ly];rfl,λl v e=>lU (P:=λl v=>(cE B x l∉c/\v=V.non)∨ ∃(p:Ad) (js:cu) (k':Nat) (r:cu),v= .ref p/\H2 p=some (.tup (js.map nv))/\c[k']? =some (cE B x l)/\y[k']? =some r/\iH B U I r l js) (λl v e=>(al l v e).imp id λ⟨p,js,k',r,z1,z2,z3⟩=>⟨p,js,k',r,z1,g2 _ _ z2,z3⟩) (.inr ⟨pp,js,k',r,rfl,ep,by rw[ly];exact ey,aV,by rw[ly];exact aW⟩) l v e⟩
  .obtain⟨g,ly,al⟩:=pv;rw[hV]at ly;have ks:=cL aT (.lst ys);have es:cw D sg (.lst ys) sg=some (.lst ys):=cC;have Y:=g.trans ks;have TL:TurnL (cw D sg (.lst ys)) B c U y x I ys:=TurnL.lts ⟨ly,al⟩ (nB ks);generalize cw D sg (.lst ys)=ai at ks es Y TL⊢;have ah:=k9.trans Y.keeps;have aM:=(L ah).a (h3.is i b x eb ex);have aa:=Y _ _ aH;refine⟨_,rfl,p,C,d,_,_,rfl,Y _ _ p9,u_LevelParts.cl,u_LevelParts.no,(by kernel_rfl),_,rfl,u,_,rfl,DPut.t aa (by rw[ip];exact aM) (by rw[AW (by lia),dC];lia),?_⟩;rw[AT (by lia) xn,<-tk];have lo:py H9 (cw ai u (.dT (e7 (c.take (i+1)) (O++[sg])))):=λb o n hb=>Stays.off aa b o n (Y _ _ hb)
   have am:py ai (cw ai u (.dT (e7 (c.take (i+1)) (O++[sg])))):=Stays.off aa;refine⟨Bh ah aR,(T9.same Y).offD aa,lo.a p9,lo.a aJ,lo.tups aK,⟨z++[l],by rw[cF az];exact Y _ _ aG,by rw[dF,la];rfl,aI.lts lo⟩,⟨O++[sg],cC,by rw[dF,ae];rfl,λk x' r a' e1 e2 e3=>?_⟩,_,_,rfl⟩;refine lU (P:=λk a=> ∀x I,c[k]? =some x->y[k]? =some I-> ∃vs,cw ai u (.dT (e7 (c.take (i+1)) (O++[sg]))) a=some (.lst vs)/\TurnL (cw ai u (.dT (e7 (c.take (i+1)) (O++[sg])))) B c U y x I vs) (λk a e x I e1 e2=>(aL.lts lo) k x I a e1 e2 e) (λx' r e1 e2=>?_) k a' e3 x' r e1 e2;rw[ae,ex]at e1;rw[ae,ew]at e2;cases e1;cases e2;exact⟨ys,am.a es,TL.lts am⟩
 .obtain⟨k6,T6,p6,au,av,⟨z,ab,la,ta⟩,⟨O,ag,ae,tb⟩,o3,o4,rfl⟩:=pv;rw[cz,lb]at ab ag la ae;rw[gj]at ab ag;refine⟨_,rfl,a,_,_,_,rfl,rfl,SqT.of ((L k6).a h1),rfl,t',_,rfl,.inl (SqL.of ((L k6).a h4)),_,rfl,p,C,d,_,rfl,p6,u_LevelParts.cl,u_LevelParts.no,by show 4<1000;decide,?_⟩;rw[show((ds.map V.ref).length)=U.length by rw[cz,l5]];have lo:Stays mN H6 (cw H6 p (.ins C d (dM "tile_count" (nv U.length) [("machine",.ref m),("group",.ref g),("tiles",.ref t),("turns",.ref u)]))):=Stays.offI p6;refine q gs _ (t5 k6 np) (T6.offI p6) G ⟨d,g,t,u,gr,?_,lo.a au,lo.tups av,⟨z,lo.a ab,la,ta.lts lo⟩,O,lo.a ag,ae,tb.lts lo⟩;rw[cC];exact dL (λl=>some (HO.ins C d l)) (by kernel_rfl)
def Hx{D CR T:Ad}(F:Fun K "__init__" "Row.__init__" ww f fd)(u_Row:OwnC K CR ["rooms","steps"])(qP:vg P w K mg base "LevelParts" D 15 ["self","machine","level"] (Dm D))(qI:dA P w K mg base "levels" 18 ["machine"] (AN T (⟨49,40,49,93⟩:Pos)))(kQ:dA P w K mg base "still" 1 ["rooms"] wU)(jB:mg "len"=none):FnOk P w K mg base cZ 20 f fd ["self","machine"] (BY D CR):=by
 refine F.ok L9 (λI H Q E h=>?_) (λaq A af s H I Q E U h=>?_)
 .obtain⟨H0,p,a,m,J,n,rfl,_⟩:=h;rfl
 obtain⟨H0,p,a,m,J,n,rfl,g0,np,hp,M,hT,q⟩:=h;have hu:=U.units;have ar:=hR U;obtain⟨rs,r0,hm,au,ag,ah,ai,_⟩:=M.at (l:=0) M.some1;have n5:=M.n5;refine⟨_,(cN (oY (pv 0) (dD kQ U.m rfl (cJ (eZ fZ rfl jB fV (cJ (cX dz (pv 1) cV (λ_ _=>rfl)) cI)) cI)) rfl) (cS (oY (pv 0) (gI (CompSc.to (N:=["self","machine"]) (osc:=cU ww) (vs:=["level"]) {}) rfl rfl (gL (dD qI U.m rfl (cJ (pv 1) cI))) (λ_ _ _ _=>iu) (λ_ _ _ _=>(Dk qP U.m rfl (de (cB (pv 2) (cB (pv 0) c8 rfl) rfl))))) rfl))),?_⟩;refine⟨_,rfl,m,_,_,_,rfl,rfl,SqT.of (g0 _ _ hm),ag,r0,_,rfl,.inr (SqT.of (g0 _ _ ah)),?_⟩
 try dsimp only
 rw[cz,ai];refine⟨n,rfl,by lia,λr H1 g1 er=>?_⟩;have p1:=g1 _ _ hp;have aj:p≠r:=nE p1 er;refine⟨_,rfl,p,CR,a,_,rfl,p1,u_Row.cl,u_Row.no,by show 0<1000;decide,?_⟩;have g2:Same H0 (cw H1 p (.ins CR a (dM "rooms" (.ref r) []))):=fQ (g0.trans g1) np;have p2:cw H1 p (.ins CR a (dM "rooms" (.ref r) [])) p=some (.ins CR a [("rooms",.ref r)]):=cC;have Y:cw H1 p (.ins CR a (dM "rooms" (.ref r) [])) r=some (.tup ((List.range n).map nv)):=by rw[cF aj.symm];exact er
 generalize cw H1 p (.ins CR a (dM "rooms" (.ref r) []))=H2 at g2 p2 Y⊢;clear g1 er p1 g0 hp;refine⟨_,rfl,m,J,n,rfl,M.same g2,hT.same g2,λl as told d ys H3 k3 T3 nl el ff od sub ak LL nw ap av=>?_⟩;have aa:=g2.keeps.trans k3;have la:=LL.len;refine⟨l,rfl,⟨_,SqL.of el⟩,lB (xs:=as.map .ref) (λi I g=>Keeps H3 g/\Tabs g/\ ∃(k:As) (t:List Lv),I=k.map V.ref/\t.length=i/\t.map (·.c)=told.take i/\(∀L∈t,LvOk J d L)/\StepsAt D g k m J t) (by rw[cz];exact small (by lia)) ⟨Keeps.refl _,T3,[],[],rfl,rfl,rfl,(λL h=>nomatch h),rfl,λi q L e=>by simp at e⟩ (λi I g _ pv=>?_) (λi v I g hv pv=>?_) (λI g pv sg al=>?_)⟩
 .obtain⟨k4,_,k,t,rfl,O,_,_,S⟩:=pv;exact⟨SqL.of (k4 _ _ (nz el)),by rw[cz,S.len,O];exact cM _⟩
 .obtain⟨k4,T4,k,t,rfl,O,eL,y,S⟩:=pv;rw[cQ]at hv;obtain⟨lv,ab,rfl⟩:=eC.mp hv;have li:=(cK.mp ab).1;obtain⟨c,ec⟩: ∃c,told[i]? =some c:=⟨_,cA (by lia)⟩;obtain⟨B,am,lp,wd⟩:=(LL.is i lv c ab ec).lvw (sub c (cW ec));have an:=aa.trans k4;refine⟨hI,jm ⟨_,rfl,_,rfl,λx C nx ao aw=>?_⟩⟩;have gx:Same g (cw (cw g C (.own x)) x (.ins D C [])):=λb o hb=>by
   rw[cF (dO hb nx),cF (dO hb ao)];exact hb
  refine⟨g,x,C,m,lv,J,n,d,c,_,B,rfl,gx,nx,cC,M.keeps an,ff,LvH.keeps am k4,lp,T4,λgs H5 k5 T5 G St=>⟨rfl,k4.trans k5,T5,k++[x],t++[⟨c,hA d (c.headD []),B,gs⟩],by rw[eE];rfl,by rw[dF,O];rfl,?_,λL hL=>?_,⟨by rw[dF,dF,S.len];rfl,λj q' L e1 u=>?_⟩⟩⟩
  .rw[eE,eL,hG,ec];rfl
  .rcases dw.mp hL with z|z
   .exact y L z
   .rw[dj.mp z];exact⟨lp,wd,G⟩
  .refine lU (P:=λj q=> ∀L,(t++[⟨c,hA d (c.headD []),B,gs⟩])[j]? =some L->StepAt D H5 q m J L) (λj q e L u=>?_) (λL u=>?_) j q' e1 L u
   .have lj:=(cK.mp e).1;rw[e8 (by rw[<-S.len];exact lj)]at u;exact(S.is j q L e u).keeps k5
   .rw[S.len,eU (cM _),lG]at u;cases u;exact St
 .obtain⟨k4,T4,k,t,rfl,O,eL,y,S⟩:=pv;rw[cz]at O eL;rw[la,gj]at eL;have ks:=cL al (.lst (k.map V.ref));have ae:=(k3.trans k4).trans ks.keeps;have p5:=ae _ _ (nz p2);refine⟨_,rfl,p,CR,a,_,rfl,p5,u_Row.cl,u_Row.no,by show 1<1000;decide,?_⟩;have lo:Stays mN (cw g sg (.lst (k.map V.ref))) (cw (cw g sg (.lst (k.map V.ref))) p (.ins CR a (dM "steps" (.ref sg) [("rooms",.ref r)]))):=Stays.offI p5;refine q d t _ (t5 ((aa.trans k4).trans ks.keeps) np) ((T4.same ks).offI p5) ⟨ff,by rw[eL];exact od,by rw[O,la];exact ak,y⟩ ⟨a,r,sg,k,?_,lo.a (ae _ _ (nz Y)),lo.a cC,S.len,λi q' L e1 u=>((S.is i q' L e1 u).keeps ks.keeps).off p5 (by show ¬1=5;decide)⟩;rw[cC];exact dL (λl=>some (HO.ins CR a l)) (by kernel_rfl)
def iz(k:Nat)(L:Lv):List (Bool×Nat×Nat):=(if 1<L.gs.length then[(true,k,L.gs.length)]else[])++[(false,k,L.us.length)]
def iv(a:List Lv):Nat->List (Bool×Nat×Nat)
 |0=>[]
 |i+1=>iv a i++(match a[i]? with|some L=>iz i L|none=>[])
def iI(a:List Lv):List (Bool×Nat×Nat):=iv a a.length
def Jk(k:Nat)(L:Lv):(iz k L).length<=2:=by
 unfold iz;by_cases h:1<L.gs.length
 .rw[wB h];exact cM 2
 .rw[wA h];exact l6 1
theorem xM(a:List Lv): ∀i,(iv a i).length<=2 * i
 |0=>cM _
 | i+1=>by
  have z:=xM a i;unfold iv;rw[dF];cases e:a[i]? with
  |none=>
   simp only[List.length_nil];lia
  |some L=>
   have y:=Jk i L;simp only;lia
def vJ{a:List Lv}{i:Nat}{L:Lv}(e:a[i]? =some L):iv a (i+1)=iv a i++iz i L:=by
 show iv a i++_=_;rw[e]
def Ah:Bool->Str
 |true=>"turn"
 |false=>"bring"
structure PartsAt(H:Hp)(as:As)(ps:List (Bool×Nat×Nat)):Prop where
 len:as.length=ps.length
 is: ∀(i:Nat) (a:Ad) (p:Bool×Nat×Nat),as[i]? =some a->ps[i]? =some p->H a=some (.tup [.str (Ah p.1),nv p.2.1,nv p.2.2])
def PartsAt.st{f:HO->Bool}{H b:Hp}{c:As}{d:List (Bool×Nat×Nat)}(h:PartsAt H c d)(g:Stays f H b)(e: ∀xs,f (.tup xs)=false:=by intro;rfl):PartsAt b c d:=⟨h.len,λi a p j k=>g _ _ (e _) (h.is i a p j k)⟩
def PartsAt.snoc{H:Hp}{k:As}{j:List (Bool×Nat×Nat)}{a:Ad}{p:Bool×Nat×Nat}(h:PartsAt H k j)(e:H a=some (.tup [.str (Ah p.1),nv p.2.1,nv p.2.2])):PartsAt H (k++[a]) (j++[p]):=by
 refine⟨by rw[dF,dF,h.len];rfl,λi d b g c=>?_⟩;refine lU (P:=λi d=> ∀b,(j++[p])[i]? =some b->H d=some (.tup [.str (Ah b.1),nv b.2.1,nv b.2.2])) (λi d g b c=>?_) (λb c=>?_) i d g b c
 .rw[e8 (by rw[<-h.len];exact(cK.mp g).1)]at c;exact h.is i d b g c
 .rw[h.len,eU (cM _),lG]at c;cases c;exact e
def Au(C:Ad):Sp:=λa H Q _=> ∃(q m:Ad) (b:LN) (L:Lv),a=[.ref q]/\StepAt C H q m b L/\Q (.bl (decide (1<L.gs.length))) H
def Jf{C:Ad}(F:Fun K "is_turning" "LevelParts.is_turning" By f fd)(u_LevelParts:OwnC K C ["machine","group","tiles","turns","tile_count"])(b:mg "len"=none):FnOk P w K mg base cZ 1 f fd ["self"] (Au C):=by
 refine F.ok Ja (λc H Q E h=>?_) (λd A a s H c Q E p h=>?_)
 .obtain⟨q,m,e,L,rfl,_⟩:=h;rfl
 obtain⟨q,m,e,L,rfl,⟨i,g,t,u,j,l,n,o,_⟩,k⟩:=h;refine⟨_,(cS (dH (ut qi (eZ fZ rfl b fV (cJ (gX (pv 0) rfl) cI)) cV (fT _)))),?_⟩;refine⟨_,rfl,q,C,i,_,_,rfl,l,u_LevelParts.cl,u_LevelParts.no,ss,g,_,rfl,.inl (SqL.of n),_,_,rfl,rfl,?_⟩;show Q (.bl (decide ((1:Int)<(((j.map V.ref).length:Nat):Int)))) H;rw[cz,o.len,show decide ((1:Int)<((L.gs.length:Nat):Int))=decide (1<L.gs.length)from decide_eq_decide.mpr (by lia)];exact k
def PlanAt(H:Hp)(a m:Ad)(h:LN)(L:Lv):Prop:= ∃(d g b c:Ad) (e:As),H a=some (.tup [.ref d,.ref g,.ref b])/\TiledAt H d h L.c L.us L.wds/\H g=some (.lst (e.map .ref))/\TupsAt H e L.gs/\H b=some (.lst [.ref m,.ref c])/\LvH H c L.c L.us L.wds
def PlanAt.keeps{H b:Hp}{a m:Ad}{c:LN}{L:Lv}(h:PlanAt H a m c L)(k:Keeps H b):PlanAt b a m c L:=
 let⟨d,g,e,i,j,l,n,o,p,q,r⟩:=h;⟨d,g,e,i,j,k _ _ (nz l),n.keeps k,k _ _ (nz o),nt p k,k _ _ (nz q),LvH.keeps r k⟩
structure PlansAt(H:Hp)(as:As)(m:Ad)(ts:LN)(Ls:List Lv):Prop where
 len:as.length=Ls.length
 is: ∀(i:Nat) (a:Ad) (L:Lv),as[i]? =some a->Ls[i]? =some L->PlanAt H a m ts L
def PlansAt.keeps{H b:Hp}{c:As}{m:Ad}{d:LN}{e:List Lv}(h:PlansAt H c m d e)(k:Keeps H b):PlansAt b c m d e:=⟨h.len,λi a L g j=>(h.is i a L g j).keeps k⟩
def Cf:Sp:=λg H Q _=> ∃(m:Ad) (b:LN) (n:Nat),g=[.ref m]/\Mach H m b n/\Tabs H/\
 ∀l d c e a,Keeps H a->Tabs a->RowOf b n c e->a l=some (.lst (d.map .ref))->PlansAt a d m b e->Q (.ref l) a
def eX{H:Hp}{a:Ad}:Same (L2.drop H a) H:=λb o c=>by
 by_cases e:b=a
 .subst e;rw[lJ]at c;cases c
 .rw[dZ e]at c;exact c
def CP{H:Hp}{a:Ad}{o:HO}:L2.drop (cw H a o) a=L2.drop H a:=by
 funext b
 by_cases e:b=a
 .subst e;rw[lJ,lJ]
 .rw[dZ e,dZ e,cF e]
def LS{H c:Hp}{a:Ad}(k:Keeps H c):Keeps (L2.drop H a) (L2.drop c a):=λb o d=>by
 obtain⟨z,n⟩:=su d;by_cases e:b=a
 .subst e;rw[lJ]at z;cases z
 .rw[dZ e]at z⊢;exact k _ _ (nP z n)
def E3{H:Hp}{a b:Ad}{o:HO}(c:L2.noT H b=none)(d:H a=some o)(n:oQ o=false:=by rfl):b≠a:=λe=>by
 rw[e,nz d n]at c;cases c
def LevAt.drop{H n:Hp}{l d:Ad}{I g o:LN}{z:List WE}{a:Ad}{c:LN}{p M:List V}(h:LevAt H l I g o z a c)(N:H d=some (.lst p))(O:n d=some (.lst M))(Q:BJ n H a)(U: ∀y∈z,∀b∈y.2.2,L2.noT n b=none):LevAt (L2.drop H d) l I g o z a c:=by
 obtain⟨s,t,v,bs,Y,cs,i,y,J,h2,h3,h4,h5,h6,h7,h8,h9,A,B,C,j,D,m,E⟩:=h;obtain⟨s',t',v',e,n1,n2,n3⟩:=Q;rw[J]at e;cases e;have off: ∀{b:Ad} {u:HO},(∀o,u≠ .lst o)->H b=some u->(L2.drop H d) b=some u:=λnu q=>by
  rw[dZ (iE q N λe=>nu _ e)];exact q
 have offL: ∀{b:Ad} {u:HO},L2.noT n b=none->H b=some u->(L2.drop H d) b=some u:=λnb q=>by
  rw[dZ (E3 nb O rfl)];exact q
 have L: ∀{bs:As} {p:LN},TupsAt H bs p->TupsAt (L2.drop H d) bs p:=λT=>⟨T.len,λi b u G r=>off (λ_ e=>nomatch e) (T.is i b u G r)⟩;refine⟨s,t,v,bs,Y,cs,i,y,off (λ_ e=>nomatch e) J,h2,h3,h4,h5,offL n1 h6,L h7,offL n2 h8,L h9,offL n3 A,B,C,j,D,m,λk x b G r=>?_⟩;obtain⟨word,z1,z2⟩:=E k x b G r;exact⟨word,z1,offL (U y (cW j) b (m b (cW r))) z2⟩
def K9{T:Ad}(F:Fun K "_law_plan" "_law_plan" wJ f fd)(qI:dA P w K mg base "levels" 18 ["machine"] (AN T (⟨49,40,49,93⟩:Pos)))(rK:dA P w K mg base "tile" 5 ["machine","level","k","j"] zW)(jU:dA P w K mg base "level_group" 13 ["machine","level"] zf)(jI:mg "enumerate"=none)(jD:mg "range"=none)(jB:mg "len"=none):FnOk P w K mg base cZ 20 f fd ["_law_machine_here"] Cf:=by
 refine F.ok kU (λvs H Q E h=>?_) (λaO A aB s H vs Q E hr h=>?_)
 .obtain⟨m,U,n,rfl,_⟩:=h;rfl
 obtain⟨m,U,n,rfl,M,hT,q⟩:=h;have hu:=hr.units;have aC:=hR hr;refine⟨_,(cN (dm (i:=1) kU.nd rfl (Or.inl rfl) (fM cI)) (cN (gK gk rfl (gL (dD qI hr.m rfl (cJ (pv 0) cI))) (eQ (i:=2) kU.nd rfl (Or.inr rfl)) (cN (dm (i:=3) kU.nd rfl (Or.inl rfl) tX) (cN (gK gk rfl (x4 rfl jI (cJ (cX dz (pv 2) cV (λ_ _=>rfl)) cI)) (mH rfl (gG (eQ (i:=4) kU.nd rfl (Or.inr rfl)) (gG (eQ (i:=5) kU.nd rfl (Or.inl rfl)) md))) (cS (qp aC (pv 3) (pv 5) (gI (CompSc.to (N:=["_law_machine_here","_law_found","_law_level","_law_tiled","_law_k","_law_one"]) (osc:=cU wJ) (vs:=["_law_j"]) {}) rfl rfl (mK rfl jD (cJ (eZ fZ rfl jB fV (cJ (cX dz (pv 2) cV (λ_ _=>rfl)) cI)) cI)) (λ_ _ _ _=>iu) (λ_ _ _ _=>(dD rK hr.m rfl (de (cB (pv 1) (cB (pv 3) (cB (pv 5) (cB (pv 0) c8 rfl) rfl) rfl) rfl))))) rfl))) (cS (hO (gb f' iN iA iM (pv 1) (cJ (iT (de (cB (pv 3) (cB (dD jU hr.m rfl (de (cB (pv 0) (cB (pv 2) c8 rfl) rfl))) (cB (fM (de (cB (pv 0) (cB (pv 2) c8 rfl) rfl))) c8 rfl) rfl) rfl))) cI))))))) (cS (dH (pv 1))))),?_⟩;refine⟨by show 0<=sizeLine;decide,λt ao=>?_⟩;have k0:=cL ao (.lst []);have aD:=AM ao;refine⟨_,rfl,m,U,n,rfl,M.same k0,hT.same k0,λl as told aa ys H1 k1 T1 nl el ff od sub aE LL nw ap aF=>?_⟩;have aq:=k0.keeps.trans k1;have f1:=k1 _ _ (nz (cC:cw H t (.lst []) t=_));have la:=LL.len;have aG:l≠t:=λe=>by
  rw[e,nz (cC:cw H t (.lst []) t=_)]at nl;cases nl
 have M1:=M.keeps aq;have kB:Keeps H (L2.drop H1 t):=λb o hb=>by
  rw[dZ λe=>by rw[e,aD]at hb;cases hb];exact aq _ _ hb
 have aH:L2.drop H1 t l=some (.lst (as.map .ref)):=by rw[dZ aG];exact el
 let Pv:Nat->L2.St->Hp->Prop:=λi σ I=>Keeps (L2.drop H1 t) (L2.drop I t)/\Tabs I/\ ∃(fs:As) (Ls:List Lv) (o2 o3 o4 o5:Option V),I t=some (.lst (fs.map .ref))/\Ls.length=i/\Ls.map (·.c)=told.take i/\(∀L∈Ls,LvOk U aa L)/\PlansAt (L2.drop I t) fs m U Ls/\σ=[some (.ref m),some (.ref t),o2,o3,o4,o5]
 refine⟨l,rfl,⟨_,SqL.of el⟩,mv (xs:=as.map .ref) Pv ⟨Keeps.refl _,T1,[],[],none,none,none,none,f1,rfl,rfl,(λL h=>nomatch h),⟨rfl,λi a L e=>by simp at e⟩,rfl⟩ (λi σ I _ p=>SqL.of (eX _ _ (p.1 _ _ (nz aH)))) (λi v σ H2 hv pv=>?_) (λσ H2 pv=>?_)⟩
 .obtain⟨k2,T2,fs,Ls,o2,o3,o4,o5,f2,lL,eL,ae,PL,rfl⟩:=pv;rw[cQ]at hv;obtain⟨O,af,rfl⟩:=eC.mp hv;have li:=(cK.mp af).1;obtain⟨c,ec⟩: ∃c,told[i]? =some c:=⟨_,cA (by lia)⟩;obtain⟨C,ar,lp,ag⟩:=((LL.is i O c af ec).drop f1 cC (aF O (cW af)) nw).lvw (sub c (cW ec));have ah:=LvH.keeps ar k2;have ab:=ah.same eX;have au:Keeps H H2:=(kB.trans k2).trans eX.keeps;generalize aP:hA aa (c.headD [])=Y at ar lp ah ab;obtain⟨s',t',v',bs,ds,cs,h1,h2,h3,h4,h5,h6,h7,h8⟩:=id ab;have lb:=h3.len;have l5:=h5.len;obtain⟨uU,few⟩:=lp.inU M ff;have nd:=lp.nd ff;have aQ:c.length<=32:=by
   rw[(gh lp.cls).2.1];exact dE (gZ _ _) (dE (gZ _ _) (ff.few M))
  intro d hd;have kd:=cL hd (.dT [])
  let Pk:Nat->L2.St->Hp->Prop:=λk σ I=>Same H2 I/\ ∃(r:As) (o4 o5:Option V),I d=some (.dT (e7 (c.take k) r))/\r.length=k/\TiledAs I U Y C r/\(∀a∈r,H2 a=none)/\σ=[some (.ref m),some (.ref t),some (.ref O),some (.ref d),o4,o5]
  refine⟨_,rfl,O,_,_,_,rfl,rfl,SqT.of (kd _ _ h1),rfl,s',_,rfl,SqL.of (kd _ _ h2),Bp (xs:=bs.map .ref) Pk ⟨kd,[],_,_,cC,rfl,(λk D a _ e=>by simp at e),(λa h=>nomatch h),rfl⟩ (λk σ I _ p=>SqL.of (p.1 _ _ h2)) (λk Tp v σ H3 hv nT pv=>?_) (λσ H3 pv=>?_)⟩
  .obtain⟨g3,r,o4,o5,ed,l2,ti,ai,rfl⟩:=pv;rw[cQ]at hv;obtain⟨b,eb,rfl⟩:=eC.mp hv;have lk:=(cK.mp eb).1;obtain⟨x,ex⟩: ∃x,c[k]? =some x:=⟨_,cA (by lia)⟩;obtain⟨D,ew⟩: ∃D,C[k]? =some D:=⟨_,cA (by rw[lp.len];lia)⟩;have aI:=(lp.go k x D ex ew).1;have tk:c.take (k+1)=c.take k++[x]:=by rw[hG,ex];rfl
   have xn:x∉c.take k:=λh=>by
    obtain⟨j,ej⟩:=fy.mp h;have lj:=(cK.mp ej).1;rw[fK]at lj;rw[ui (by lia)]at ej;have:=(im (by lia) nd).mp (ej.trans ex.symm)
    lia
   have lt:(c.take k).length=k:=by rw[fK];lia
   have kT:=cL nT (.tup [.int (k:Nat),.ref b]);have eT:cw H3 Tp (.tup [.int (k:Nat),.ref b]) Tp=some (.tup [.int (k:Nat),.ref b]):=cC;generalize cw H3 Tp (.tup [.int (k:Nat),.ref b])=H4 at kT eT⊢;have g4:=g3.trans kT;refine⟨Tp,_,rfl,SqT.of eT,rfl,_,_,rfl,_,_,rfl,rfl,?_⟩;refine⟨_,rfl,O,_,_,_,rfl,rfl,SqT.of (g4 _ _ h1),rfl,t',_,rfl,.inl (SqL.of (g4 _ _ h4)),(Y.length:Int),by rw[cz,l5],by lia,by lia,t8 (λj ys I=>Same H4 I/\ ∃y,ys=y.map V.ref/\y.length=j/\TupsAt I y ((Y.take j).map λu=>di (cE U) u D)) (by rw[hV];exact small (by lia)) ⟨Same.refl _,[],rfl,rfl,rfl,λi b u e=>by simp at e⟩ (λj ys I _ p=>?_) (λj ys I hj p=>?_) (λys H5 p sg av=>?_)⟩
   .obtain⟨_,y,rfl,e,_⟩:=p;rw[cz];lia
   .obtain⟨g,y,rfl,e,T5⟩:=p;have e0:V.int (0+(j:Int))=nv j:=by show V.int (0+(j:Int))=V.int (j:Int);rw[rh]
    have aJ:j<Y.length:=by simpa using hj
    obtain⟨u,eu⟩: ∃u,Y[j]? =some u:=⟨_,cA aJ⟩;rw[e0];refine⟨hI,jm ⟨_,rfl,_,rfl,_,rfl,_,rfl,m,O,k,j,U,n,c,Y,C,u,D,rfl,(M.keeps au).same (g4.trans g),ab.same (g4.trans g),eu,ew,uU u (cW eu),aI,λp H6 g6 e6=>?_⟩⟩;refine⟨g.trans g6,y++[p],by simp,by simp[e],?_⟩;rw[hG,eu,eE];exact qt (T5.same g6) e6
   .obtain⟨g5,y,rfl,er,T5⟩:=p;rw[hV,gj]at T5;have ks:=cL av (.lst (y.map V.ref));have g6:=(g4.trans g5).trans ks;have aj:=(kT.trans g5).trans ks;have ak:=aj _ _ ed;have aw:=g6 _ _ (h3.is k b x eb ex);have T6:=T5.same ks;have ax:cw H5 sg (.lst (y.map V.ref)) sg=some (.lst (y.map .ref)):=cC;generalize cw H5 sg (.lst (y.map V.ref))=H6 at ks g6 aj ak aw T6 ax⊢;refine⟨_,rfl,_,rfl,d,_,rfl,DPut.t ak (by rw[ip];exact aw) (by rw[AW (by lia),dC];lia),?_⟩;rw[AT (by lia) xn,<-tk];have lo:py H6 (cw H6 d (.dT (e7 (c.take (k+1)) (r++[sg])))):=Stays.off ak;refine⟨fQ g6 hd,r++[sg],_,_,cC,by rw[dF,l2];rfl,λk' ay a' e1 B=>?_,λa' aK=>(dw.mp aK).elim (ai a') λz=>by rw[dj.mp z];exact(g4.trans g5).free av,rfl⟩;refine lU (P:=λk a=> ∀D,C[k]? =some D-> ∃y,cw H6 d (.dT (e7 (c.take (_+1)) (r++[sg]))) a=some (.lst (y.map .ref))/\TupsAt (cw H6 d (.dT (e7 (c.take (_+1)) (r++[sg])))) y (tl U Y D)) (λk' a e D e'=>((ti.lts (nB aj)).lts lo) k' D a e' e) (λay e=>?_) k' a' B ay e1;rw[l2,ew]at e;cases e;exact⟨y,lo.a ax,lo.tups T6⟩
  .obtain⟨g3,r,o4,o5,ed,l2,ti,ai,rfl⟩:=pv;rw[cz,lb]at ed l2;rw[gj]at ed;have f3:=g3 _ _ f2;have T3:=T2.same g3;have aL:=au.trans g3.keeps;refine⟨_,rfl,.inl ⟨rfl,_,SqL.of f3⟩,_,rfl,_,rfl,_,rfl,m,O,U,n,aa,c,Y,C,rfl,M.keeps aL,ff,ab.same g3,lp,T3,λg gr gs mk ws H5 k5 T5 ng eg Tg pm up Mk TT=>?_⟩;have G:=D2 M ff lp pm up Mk TT;refine⟨_,rfl,_,rfl,by show 2<=sizeLine;decide,λml az=>⟨by show 3<=sizeLine;decide,λtp aM=>?_⟩⟩;have km:=cL az (.lst [.ref m,.ref O]);have kt:=cL aM (.tup [.ref d,.ref g,.ref ml]);have f5:=k5 _ _ (nz f3);have aN:ml≠t:=(dO f5 az).symm;have em:cw (cw H5 ml (.lst [.ref m,.ref O])) tp (.tup [.ref d,.ref g,.ref ml]) ml=some (.lst [.ref m,.ref O]):=kt _ _ cC;have et:cw (cw H5 ml (.lst [.ref m,.ref O])) tp (.tup [.ref d,.ref g,.ref ml]) tp=some (.tup [.ref d,.ref g,.ref ml]):=cC;have J:=km.trans kt;generalize cw (cw H5 ml (.lst [.ref m,.ref O])) tp (.tup [.ref d,.ref g,.ref ml])=H7 at em et J⊢;have f7:=J _ _ f5;have al:=PL.len;refine⟨t,_,_,rfl,rfl,f7,by rw[cz,dC];lia,?_⟩;have am:Keeps (L2.drop H2 t) (L2.drop H7 t):=LS ((g3.keeps.trans k5).trans J.keeps);have T7:Tabs (cw H7 t (.lst (fs.map V.ref++[.ref tp]))):=(T5.same J).most λb u _ n2 hb=>by
    rw[cF (iE hb f7 λe=>n2 _ e)];exact hb
   have off: ∀{b:Ad} {u:HO},tJ u=false->H7 b=some u->(L2.drop H7 t) b=some u:=λnu hb=>by
    rw[dZ (iE hb f7 λe=>by rw[e]at nu;cases nu)];exact hb
   refine⟨by rw[CP];exact k2.trans am,T7,fs++[tp],Ls++[⟨c,Y,C,gs⟩],_,_,_,_,by rw[cC,eE];rfl,by rw[dF,lL];rfl,?_,λL hL=>?_,?_,rfl⟩
   .rw[eE,eL,hG,ec];rfl
   .rcases dw.mp hL with z|z
    .exact ae L z
    .rw[dj.mp z];exact⟨lp,ag,G⟩
   .rw[CP];refine⟨by rw[dF,dF,al];rfl,λj q' L e1 B=>?_⟩;refine lU (P:=λj q=> ∀L,(Ls++[⟨c,Y,C,gs⟩])[j]? =some L->PlanAt (L2.drop H7 t) q m U L) (λj q e L B=>?_) (λL B=>?_) j q' e1 L B
    .rw[e8 (by rw[<-al];exact(cK.mp e).1)]at B;exact(PL.is j q L e B).keeps am
    .rw[al,eU (cM _),lG]at B;cases B;have an:=k5.trans J.keeps;have aA: ∀(k:Nat) (D:cu) (a:Ad),C[k]? =some D->r[k]? =some a-> ∃y,(L2.drop H7 t) a=some (.lst (y.map .ref))/\TupsAt (L2.drop H7 t) y (tl U Y D):=λk D a e1 B=>by
      obtain⟨y,z1,z2⟩:=ti k D a e1 B;refine⟨y,?_,⟨z2.len,λi b u e1 B=>off rfl (an _ _ (nz (z2.is i b u e1 B)))⟩⟩;rw[dZ (dO f2 (ai a (cW B))).symm];exact an _ _ (nz z1)
     refine⟨d,g,ml,O,gr,off rfl et,⟨r,off rfl (an _ _ (nz ed)),l2,aA⟩,?_,⟨Tg.len,λi b u e1 B=>off rfl (J _ _ (Tg.is i b u e1 B))⟩,?_,LvH.keeps ah am⟩
     .rw[dZ (E3 ng f3 rfl)];exact J _ _ eg
     .rw[dZ aN];exact em
 .obtain⟨k2,T2,fs,Ls,o2,o3,o4,o5,f2,lL,eL,ae,PL,rfl⟩:=pv;rw[cz]at lL eL;rw[la,gj]at eL;exact⟨_,rfl,q t fs aa Ls H2 ((kB.trans k2).trans eX.keeps) T2 ⟨ff,by rw[eL];exact od,by rw[lL,la];exact aE,ae⟩ f2 ⟨PL.len,λi a L e1 B=>(PL.is i a L e1 B).keeps eX.keeps⟩⟩
def fF(a:List Lv)(i:Nat):Nat:=(iv a i).length
def fv(b:List Lv)(a:cu)(i:Nat)(L:Lv):Nat×Nat:=if 1<L.gs.length then(a.getD (fF b i) 0,a.getD (fF b i+1) 0)else(0,a.getD (fF b i) 0)
def jy(b:List Lv)(a:cu):Nat->List (Nat×Nat)
 |0=>[]
 |i+1=>jy b a i++(match b[i]? with|some L=>[fv b a i L]|none=>[])
def gS(b:List Lv)(a:cu):List (Nat×Nat):=jy b a b.length
structure RowIn(Ls:List Lv)(row:cu):Prop where
 len:row.length=(iI Ls).length
 lt: ∀(j:Nat) (p:Bool×Nat×Nat) (r:Nat),(iI Ls)[j]? =some p->row[j]? =some r->r<p.2.2
def xO{b:List Lv}{a:cu}{i:Nat}{L:Lv}(e:b[i]? =some L):jy b a (i+1)=jy b a i++[fv b a i L]:=by
 show jy b a i++_=_;rw[e]
theorem mF{b:List Lv}{a:cu}: ∀{i:Nat},i<=b.length->(jy b a i).length=i
 |0,_=>rfl
 |i+1,h=>by
  rw[xO (cA h),dF,mF (fR h)];rfl
theorem xA{b:Type}{t:Nat->List b}(h: ∀i,∃r,t (i+1)=t i++r): ∀{i j:Nat},i<=j-> ∃r,t j=t i++r
 |i,0,a=>⟨[],by rw[Nat.le_zero.mp a,gV]⟩
 | i,j+1,a=>by
  by_cases e:i=j+1
  .exact⟨[],by rw[e,gV]⟩
  .obtain⟨r,z⟩:=xA h (show i<=j by lia);obtain⟨c,d⟩:=h j;exact⟨r++c,by rw[d,z,fh]⟩
def DS(a:List Lv){i j:Nat}(h:i<=j): ∃r,iv a j=iv a i++r:=xA (t:=iv a) (λi=>⟨_,rfl⟩) h
def K'(b:List Lv)(a:cu){i j:Nat}(h:i<=j): ∃r,jy b a j=jy b a i++r:=xA (t:=jy b a) (λi=>⟨_,rfl⟩) h
def Bu{a:List Lv}{i:Nat}{L:Lv}(e:a[i]? =some L):fF a (i+1)=fF a i+(if 1<L.gs.length then 2 else 1):=by
 unfold fF;rw[vJ e,dF];unfold iz;by_cases h:1<L.gs.length
 .rw[wB h,wB h];rfl
 .rw[wA h,wA h];rfl
def Il{b:List Lv}{a:cu}{i:Nat}{L:Lv}(e:b[i]? =some L):(gS b a)[i]? =some (fv b a i L):=by
 have c:=(cK.mp e).1;obtain⟨r,z⟩:=K' b a (show i+1<=b.length from c);unfold gS;rw[z,xO e,fh,eU (by rw[mF (fR c)];exact cM _),mF (fR c),lG];rfl
def zT{a:List Lv}{i j:Nat}{L:Lv}{p:Bool×Nat×Nat}(e:a[i]? =some L)(b:(iz i L)[j]? =some p):(iI a)[fF a i+j]? =some p:=by
 have c:=(cK.mp e).1;obtain⟨r,z⟩:=DS a (show i+1<=a.length from c);unfold iI fF;rw[z,vJ e,fh,eU (lI _ _),sV,e8 (cK.mp b).1];exact b
def z8{a:List Lv}{i:Nat}{L:Lv}(e:a[i]? =some L):fF a i+(if 1<L.gs.length then 1 else 0)<(iI a).length:=by
 have b:=(cK.mp e).1;obtain⟨r,z⟩:=DS a (show i+1<=a.length from b);have y:=Bu e;unfold iI;rw[z,dF];unfold fF at y⊢;by_cases h:1<L.gs.length
 .rw[wB h]at y⊢;lia
 .rw[wA h]at y⊢;lia
structure PairOk(L:Lv)(p:Nat×Nat):Prop where
 g:p.1<L.gs.length
 t:p.2<L.us.length
def dn{a:cu}{j:Nat}(h:j<a.length):a[j]? =some (a.getD j 0):=by rw[dY,cA h];rfl
def RowIn.pair{b:List Lv}{a:cu}(R:RowIn b a){i:Nat}{L:Lv}(e:b[i]? =some L)(g0:0<L.gs.length):PairOk L (fv b a i L):=by
 have z:=z8 e;have len:=R.len;unfold fv;by_cases h:1<L.gs.length
 .rw[wB h]at z⊢;have c:(iz i L)[0]? =some (true,i,L.gs.length):=by unfold iz;rw[wB h];rfl
  have d:(iz i L)[1]? =some (false,i,L.us.length):=by unfold iz;rw[wB h];rfl
  exact⟨R.lt _ _ _ (zT e c) (dn (by lia)),R.lt _ _ _ (zT e d) (dn (by lia))⟩
 .rw[wA h]at z⊢;have c:(iz i L)[0]? =some (false,i,L.us.length):=by unfold iz;rw[wA h];rfl
  exact⟨g0,R.lt _ _ _ (zT e c) (dn (by lia))⟩
def iy(L:Lv)(p:Nat×Nat):Nat:=(L.gs.getD p.1 []).getD p.2 0
def fi(a:LN)(L:Lv)(here:cu)(p:Nat×Nat):cu:=if here∈L.c then(tl a L.us (L.wds.getD (dG L.c here) [])).getD (iy L p) []else here
def hX(a:LN)(n:Nat)(b:List Lv)(prs:List (Nat×Nat)):Nat->List Nat
 |0=>List.range n
 |i+1=>match b[i]?,prs[i]? with
  |some L,some p=>fi a L (hX a n b prs i) p
  |_,_=>hX a n b prs i
def Aa{ts:LN}{n:Nat}{a:List Lv}{prs:List (Nat×Nat)}{i:Nat}{L:Lv}{p:Nat×Nat}(b:a[i]? =some L)(c:prs[i]? =some p):hX ts n a prs (i+1)=fi ts L (hX ts n a prs i) p:=by
 show(match a[i]?,prs[i]? with|some L,some p=>fi ts L (hX ts n a prs i) p|_,_=>hX ts n a prs i)=_;rw[b,c]
structure WOk(L:Lv)(p:Nat×Nat):Prop where
 nd:L.c.Nodup
 wl:L.wds.length=L.c.length
 g1:p.1<L.gs.length
 g2:p.2<(L.gs.getD p.1 []).length
 g3:iy L p<L.us.length
section
variable{H:Hp}{m:Ad}{ts:LN}{n:Nat}{fam:LN}{L:Lv}
def LvOk.g0(M:Mach H m ts n)(a:FamOf ts n fam)(ok:LvOk ts fam L):0<L.gs.length:=(cK.mp (ok.first M a)).1
def eV{a:LN}{k:Nat}(h:k<a.length):a[k]? =some (a.getD k []):=by rw[dY,cA h];rfl
def LvOk.wok(M:Mach H m ts n)(a:FamOf ts n fam)(ok:LvOk ts fam L){p:Nat×Nat}(po:PairOk L p):WOk L p:=by
 have pm:=ok.pm M a (cW (eV po.g));have l:(L.gs.getD p.1 []).length=L.us.length:=by rw[pm.length_eq,iY]
 refine⟨ok.p.nd a,ok.p.len,po.g,by rw[l];exact po.t,?_⟩;exact fq.mp (pm.mem_iff.mp (cW (dn (by rw[l];exact po.t))))
def LvOk.wthn_in(M:Mach H m ts n)(a:FamOf ts n fam)(ok:LvOk ts fam L){here:cu}(c:here∈L.c){p:Nat×Nat}(po:PairOk L p):fi ts L here p∈hA fam here:=by
 have w:=ok.wok M a po;obtain⟨l,e⟩:=gO c;unfold fi tl;rw[wB c,dY,cQ];have d:L.us[iy L p]? =some (L.us.getD (iy L p) []):=eV w.g3;rw[d];have h:L.wds[dG L.c here]? =some (L.wds.getD (dG L.c here) []):=eV (by rw[w.wl];exact l);obtain⟨b,i⟩:=ok.p.bij M a e h;have g:=cW d;rw[ok.p.tl]at g;have:=rj M a (a.inU M (dJ.mp (gh ok.p.cls).2.2.1).1) i g;rw[<-ok.p.tl]at this;exact this
def LvOk.wthn_fam(M:Mach H m ts n)(a:FamOf ts n fam)(ok:LvOk ts fam L){here:cu}(b:here∈fam){p:Nat×Nat}(po:PairOk L p):fi ts L here p∈fam:=by
 by_cases h:here∈L.c
 .exact((nC M a).mp (ok.wthn_in M a h po)).1
 .unfold fi;rw[wA h];exact b
def yJ(a:FamOf ts n fam):List.range n∈fam:=(a.mem _).mpr (.inl ⟨[],(λ_ h=>nomatch h),rfl⟩)
def RowIn.po(M:Mach H m ts n){b:List Lv}(R:RowOf ts n fam b){a:cu}(e:RowIn b a)(i:Nat)(L:Lv)(p:Nat×Nat)(c:b[i]? =some L)(d:(gS b a)[i]? =some p):PairOk L p:=by
 rw[Il c]at d;cases d;exact e.pair c ((R.ok L (cW c)).g0 M R.ff)
end
def D4:Sp:=λe H Q _=> ∃(d m:Ad) (a:As) (g:LN) (c:List Lv),e=[.ref d]/\H d=some (.lst (a.map .ref))/\PlansAt H a m g c/\c.length<=32/\
 ∀l a b,Same H b->H l=none->b l=some (.lst (a.map .ref))->PartsAt b a (iI c)->Q (.ref l) b
def LI(F:Fun K "_law_parts" "_law_parts" Ba f fd)(jI:mg "enumerate"=none)(jB:mg "len"=none):FnOk P w K mg base cZ 3 f fd ["_law_plan_here"] D4:=by
 refine F.ok qK (λvs H Q E h=>?_) (λab A aa s H vs Q E hr h=>?_)
 .obtain⟨J,m,y,ts,B,rfl,_⟩:=h;rfl
 obtain⟨J,m,y,ts,B,rfl,C,S,few,q⟩:=h;have hu:=hr.units;refine⟨_,(cN (dm (i:=1) qK.nd rfl (Or.inl rfl) (fM cI)) (cN (gK gk rfl (x4 rfl jI (cJ (pv 0) cI)) (mH rfl (gG (eQ (i:=2) qK.nd rfl (Or.inl rfl)) (gG (eQ (i:=3) qK.nd rfl (Or.inl rfl)) md))) (cN (px (ge (gq qi (eZ fZ rfl jB fV (cJ (cX dz (pv 3) cV (λ_ _=>rfl)) cI)) cV (fT _)) (cS (hO (gb f' iN iA iM (pv 1) (cJ (iT (de (cB B0 (cB (pv 2) (cB (eZ fZ rfl jB fV (cJ (cX dz (pv 3) cV (λ_ _=>rfl)) cI)) c8 rfl) rfl) rfl))) cI)))) gJ)) (cS (hO (gb f' iN iA iM (pv 1) (cJ (iT (de (cB B0 (cB (pv 2) (cB (eZ fZ rfl jB fV (cJ (cX dz (cX fS (cX dz (pv 3) cV (λ_ _=>rfl)) cV (λ_ _=>rfl)) cV (λ_ _=>rfl)) cI)) c8 rfl) rfl) rfl))) cI)))))) (cS (dH (pv 1))))),?_⟩;refine⟨by show 0<=sizeLine;decide,λn o=>?_⟩;have k0:=cL o (.lst []);have lq:=S.len
 let Pv:Nat->L2.St->Hp->Prop:=λi M l=>Same H l/\ ∃(u:As) (o2 o3:Option V),l n=some (.lst (u.map .ref))/\PartsAt l u (iv B i)/\M=[some (.ref J),some (.ref n),o2,o3]
 refine⟨_,rfl,J,_,rfl,SqL.of (k0 _ _ C),Bp (xs:=y.map .ref) Pv ⟨k0,[],_,_,cC,⟨rfl,λi a p e=>by simp at e⟩,rfl⟩ (λi M l _ p=>SqL.of (p.1 _ _ C)) (λi N v M O hv nT pv=>?_) (λM O pv=>?_)⟩
 .obtain⟨g1,u,o2,o3,ef,j,rfl⟩:=pv;rw[cQ]at hv;obtain⟨b,eb,rfl⟩:=eC.mp hv;have li:=(cK.mp eb).1;obtain⟨L,eL⟩: ∃L,B[i]? =some L:=⟨_,cA (by lia)⟩;have D:=cL nT (.tup [.int (i:Nat),.ref b]);have eT:cw O N (.tup [.int (i:Nat),.ref b]) N=some (.tup [.int (i:Nat),.ref b]):=cC;generalize cw O N (.tup [.int (i:Nat),.ref b])=H2 at D eT⊢;have g2:=g1.trans D;obtain⟨d,g,ml,lv,gr,T,s2,s3,U,s5,s6⟩:=(S.is i b L eb eL).keeps g2.keeps;refine⟨N,_,rfl,SqT.of eT,rfl,_,_,rfl,_,_,rfl,rfl,?_⟩;have Y:=D _ _ ef;have lz:=xM B i;have la:=j.len;refine⟨λG l=>Same H l/\ ∃k,l n=some (.lst (k.map .ref))/\PartsAt l k (iv B i++(if 1<L.gs.length then[(true,i,L.gs.length)]else[]))/\G=[some (.ref J),some (.ref n),some (nv i),some (.ref b)],⟨_,rfl,b,_,_,_,rfl,rfl,SqT.of T,rfl,g,_,rfl,.inl (SqL.of s3),_,_,rfl,rfl,_,rfl,ju (λc=>?_) (λc=>?_)⟩,λG l z=>?_⟩
  .have c1:1<L.gs.length:=by
    have z:=gi c;rw[cz,U.len]at z;lia
   refine⟨_,rfl,.inl ⟨rfl,_,SqL.of Y⟩,_,rfl,_,rfl,b,_,_,_,rfl,rfl,SqT.of T,rfl,g,_,rfl,.inl (SqL.of s3),by show 3<=sizeLine;decide,λr x=>?_⟩;rw[show(gr.map V.ref).length=L.gs.length by rw[cz,U.len]];have t:=cL x (.tup [.str "turn",nv i,nv L.gs.length]);refine⟨n,_,_,rfl,rfl,t _ _ Y,by rw[cz,dC];lia,?_⟩;have lo:kh (cw H2 r (.tup [.str "turn",nv i,nv L.gs.length])) (cw (cw H2 r (.tup [.str "turn",nv i,nv L.gs.length])) n (.lst (u.map V.ref++[.ref r]))):=Stays.offL (t _ _ Y);rw[wB c1];exact⟨fQ (g2.trans t) o,u++[r],by rw[cC,eE];rfl,((j.st (nB (D.trans t))).st lo).snoc (lo.a cC),rfl⟩
  .have c1: ¬1<L.gs.length:=by
    have z:=ql (oh.mpr c);rw[cz,U.len]at z;lia
   rw[wA c1,gV];exact⟨g2,u,Y,j.st (nB D),rfl⟩
  .obtain⟨g3,k,f3,I,rfl⟩:=z;obtain⟨d,g,ml,lv,gr,T,s2,s3,U,s5,s6⟩:=(S.is i b L eb eL).keeps g3.keeps;obtain⟨s',t',v',bs,ds,cs,h1,h2,h3,h4,h5,_⟩:=id s6;have ae:k.length<=2 * i+2:=by
    rw[I.len,dF];have:(if 1<L.gs.length then[(true,i,L.gs.length)]else[]).length<=2:=by
     by_cases h:1<L.gs.length
     .rw[wB h];exact l6 1
     .rw[wA h];exact hJ 2
    lia
   refine⟨_,rfl,.inl ⟨rfl,_,SqL.of f3⟩,_,rfl,_,rfl,b,_,_,_,rfl,rfl,SqT.of T,rfl,ml,_,_,_,rfl,rfl,SqL.of s5,rfl,lv,_,_,_,rfl,rfl,SqT.of h1,rfl,t',_,rfl,.inl (SqL.of h4),by show 3<=sizeLine;decide,λr x=>?_⟩;rw[show(ds.map V.ref).length=L.us.length by rw[cz,h5.len]];have t:=cL x (.tup [.str "bring",nv i,nv L.us.length]);refine⟨n,_,_,rfl,rfl,t _ _ f3,by rw[cz,dC];lia,?_⟩;have lo:kh (cw l r (.tup [.str "bring",nv i,nv L.us.length])) (cw (cw l r (.tup [.str "bring",nv i,nv L.us.length])) n (.lst (k.map V.ref++[.ref r]))):=Stays.offL (t _ _ f3);refine⟨fQ (g3.trans t) o,k++[r],_,_,by rw[cC,eE];rfl,?_,rfl⟩;rw[vJ eL];unfold iz;rw[<-fh];exact((I.st (nB t)).st lo).snoc (lo.a cC)
 .obtain⟨g1,u,o2,o3,ef,j,rfl⟩:=pv;rw[cz,lq]at j;exact⟨_,rfl,q n u O g1 o ef j⟩
def Ez(C:Ad):Sp:=λd H Q _=> ∃(q h b m:Ad) (c:LN) (L:Lv) (here:cu) (p:Nat×Nat),d=[.ref q,.ref h,.ref b]/\StepAt C H q m c L/\H h=some (.tup (here.map nv))/\H b=some (.tup [nv p.1,nv p.2])/\WOk L p/\
 ∀a,H a=some (.tup ((fi c L here p).map nv))->Q (.ref a) H
def Jb{C:Ad}(F:Fun K "within" "LevelParts.within" Ab f fd)(u_LevelParts:OwnC K C ["machine","group","tiles","turns","tile_count"]):FnOk P w K mg base cZ 1 f fd ["self","here","pair"] (Ez C):=by
 refine F.ok Ln (λY H Q E h=>?_) (λaa A x s H Y Q E G h=>?_)
 .obtain⟨q,h,y,m,z,L,here,p,rfl,_⟩:=h;rfl
 obtain⟨q,h,y,m,z,L,here,p,rfl,⟨l,g,t,u,gr,n,h2,I,⟨as,J,t2,t3⟩,_⟩,B,M,a,k⟩:=h;have hu:=G.units;have d:=hR G;refine⟨_,(cN (ge (lP (xf d (pv 1) (gX (pv 0) rfl))) (cS (dH (pv 1))) gJ) (cS (dH (cX fS (lF d (gX (pv 0) rfl) (pv 1) (λ_ _=>rfl)) (cX dz (cX fS (gX (pv 0) rfl) (cX dz (pv 2) cV (λ_ _=>rfl)) (λ_ _=>rfl)) (cX dz (pv 2) cV (λ_ _=>rfl)) (λ_ _=>rfl)) (λ_ _=>rfl))))),?_⟩;by_cases c:here∈L.c
 .obtain⟨li,ei⟩:=gO c;obtain⟨b,N⟩: ∃b,as[dG L.c here]? =some b:=⟨_,cA (by lia)⟩;have ew:L.wds[dG L.c here]? =some (L.wds.getD (dG L.c here) []):=eV (by rw[a.wl];exact li);obtain⟨es,e1,O⟩:=t3 _ _ _ ew N;have o:=m7 a.nd J B ei N;have lg:=I.len;obtain⟨e,i⟩: ∃e,gr[p.1]? =some e:=⟨_,cA (by rw[lg];exact a.g1)⟩;have D:=I.is p.1 e _ i (eV a.g1);have T:(tl z L.us (L.wds.getD (dG L.c here) []))[iy L p]? =some (fi z L here p):=by
   unfold fi;rw[wB c];exact eV (by unfold tl;rw[List.length_map];exact a.g3)
  obtain⟨r,U⟩: ∃r,es[iy L p]? =some r:=⟨_,cA (by rw[O.len];exact(cK.mp T).1)⟩;refine⟨_,rfl,_,rfl,q,C,l,_,_,rfl,n,u_LevelParts.cl,u_LevelParts.no,oj,t,_,rfl,o,_,rfl,fj ?_⟩;refine⟨_,rfl,q,C,l,_,_,rfl,n,u_LevelParts.cl,u_LevelParts.no,oj,_,rfl,t,_,rfl,o,_,rfl,q,C,l,_,_,rfl,n,u_LevelParts.cl,u_LevelParts.no,ss,_,rfl,y,_,_,_,rfl,rfl,SqT.of M,rfl,g,_,_,_,rfl,rfl,SqL.of h2,gF (j:=p.1) (v:= .ref e) (by rw[cQ,i];rfl),_,rfl,y,_,_,_,rfl,rfl,SqT.of M,rfl,e,_,_,_,rfl,rfl,SqT.of D,lY a.g2,b,_,_,_,rfl,rfl,SqL.of e1,gF (j:=iy L p) (v:= .ref r) (by rw[cQ,U];rfl),?_⟩;exact k r (O.is _ r _ U T)
 .have o:=pR J B c;refine⟨_,rfl,_,rfl,q,C,l,_,_,rfl,n,u_LevelParts.cl,u_LevelParts.no,oj,t,_,rfl,o,_,rfl,fm ?_⟩;refine⟨_,rfl,k h ?_⟩;unfold fi;rw[wA c];exact B
structure PairsAt(H:Hp)(as:As)(ps:List (Nat×Nat)):Prop where
 len:as.length=ps.length
 is: ∀(i:Nat) (a:Ad) (p:Nat×Nat),as[i]? =some a->ps[i]? =some p->H a=some (.tup [nv p.1,nv p.2])
def PairsAt.st{f:HO->Bool}{H b:Hp}{c:As}{d:List (Nat×Nat)}(h:PairsAt H c d)(g:Stays f H b)(e: ∀xs,f (.tup xs)=false:=by intro;rfl):PairsAt b c d:=⟨h.len,λi a p j k=>g _ _ (e _) (h.is i a p j k)⟩
def PairsAt.snoc{H:Hp}{k:As}{j:List (Nat×Nat)}{a:Ad}{p:Nat×Nat}(h:PairsAt H k j)(e:H a=some (.tup [nv p.1,nv p.2])):PairsAt H (k++[a]) (j++[p]):=by
 refine⟨by rw[dF,dF,h.len];rfl,λi d b g c=>?_⟩;refine lU (P:=λi d=> ∀b,(j++[p])[i]? =some b->H d=some (.tup [nv b.1,nv b.2])) (λi d g b c=>?_) (λb c=>?_) i d g b c
 .rw[e8 (by rw[<-h.len];exact(cK.mp g).1)]at c;exact h.is i d b g c
 .rw[h.len,eU (cM _),lG]at c;cases c;exact e
def B6(g CR:Ad):Sp:=λh H Q _=> ∃(p d m:Ad) (i:LN) (n:Nat) (b:List Lv) (a:cu),h=[.ref p,.ref d]/\RowAt g CR H p m i n b/\b.length<=32/\H d=some (.tup (a.map nv))/\a.length=(iI b).length/\
 ∀l e c,Same H c->H l=none->c l=some (.lst (e.map .ref))->PairsAt c e (gS b a)->Q (.ref l) c
def Lg{N CR:Ad}(F:Fun K "paired" "Row.paired" zJ f fd)(u_LevelParts:OwnC K N ["machine","group","tiles","turns","tile_count"])(u_Row:OwnC K CR ["rooms","steps"])(jE:fL P w K mg base N "is_turning" 1 ["self"] (Au N)):FnOk P w K mg base cZ 3 f fd ["self","row"] (B6 N CR):=by
 refine F.ok jR (λvs H Q E h=>?_) (λag A aa s H vs Q E hr h=>?_)
 .obtain⟨p,D,m,ts,n,j,d,rfl,_⟩:=h;rfl
 obtain⟨p,D,m,ts,n,j,d,rfl,⟨dx,r,st,qs,h1,h2,h3,S⟩,few,G,lr,q⟩:=h;have hu:=hr.units;refine⟨_,(cN (dm (i:=2) jR.nd rfl (Or.inl rfl) (fM cI)) (cN (dm (i:=3) jR.nd rfl (Or.inl rfl) cV) (cN (gK gk rfl (gL (gX (pv 0) rfl)) (eQ (i:=4) jR.nd rfl (Or.inl rfl)) (cN (dm (i:=5) jR.nd rfl (Or.inl rfl) cV) (cN (px (ge (pF (DY (pv 4) u_LevelParts.cl jE hr.m)) (cN (dm (i:=5) jR.nd rfl (Or.inl rfl) (cX dz (pv 1) (pv 3) (λ_ _=>rfl))) (cS (Ck (i:=3) jR.nd rfl (Or.inl rfl) cV Es))) gJ)) (cN (hO (gb f' iN iA iM (pv 2) (cJ (iT (de (cB (pv 5) (cB (cX dz (pv 1) (pv 3) (λ_ _=>rfl)) c8 rfl) rfl))) cI))) (cS (Ck (i:=3) jR.nd rfl (Or.inl rfl) cV Es)))))) (cS (dH (pv 2)))))),?_⟩;refine⟨by show 0<=sizeLine;decide,λB x=>?_⟩;have k0:=cL x (.lst []);have lq:=S.len
 let Pv:Nat->L2.St->Hp->Prop:=λi O o=>Same H o/\ ∃(y:As) (o4 o5:Option V),o B=some (.lst (y.map .ref))/\PairsAt o y (jy j d i)/\O=[some (.ref p),some (.ref D),some (.ref B),some (nv (fF j i)),o4,o5]
 refine⟨_,rfl,p,CR,dx,_,_,rfl,k0 _ _ h1,u_Row.cl,u_Row.no,y4,st,rfl,⟨_,SqL.of (k0 _ _ h3)⟩,mv (xs:=qs.map .ref) Pv ⟨k0,[],_,_,cC,⟨rfl,λi a p e=>by simp at e⟩,rfl⟩ (λi O o _ p=>SqL.of (p.1 _ _ h3)) (λi v O H1 hv pv=>?_) (λO H1 pv=>?_)⟩
 .obtain⟨C,y,o4,o5,I,l,rfl⟩:=pv;rw[cQ]at hv;obtain⟨b,eb,rfl⟩:=eC.mp hv;have li:=(cK.mp eb).1;obtain⟨L,T⟩: ∃L,j[i]? =some L:=⟨_,cA (by lia)⟩;have SA:=(S.is i b L eb T).keeps C.keeps;obtain⟨ab,g,t,u,gr,s1,s2,s3,s4⟩:=id SA;have pl:=z8 T;have pn:=Bu T;have la:=l.len;rw[mF (by lia)]at la;refine⟨λJ o=>o=H1/\J=[some (.ref p),some (.ref D),some (.ref B),some (nv (fF j i+if 1<L.gs.length then 1 else 0)),some (.ref b),some (nv (fv j d i L).1)],⟨_,rfl,b,ab,_,rfl,s1,(by kernel_rfl),b,m,ts,L,rfl,SA,_,rfl,ju (λc=>?_) (λc=>?_)⟩,λJ o z=>?_⟩
  .have M:1<L.gs.length:=gi c;rw[wB M]at pl⊢;refine⟨_,rfl,_,rfl,D,_,_,_,rfl,rfl,SqT.of (C _ _ G),lY (k:=fF j i) (by lia),?_⟩;unfold fv;rw[wB M];exact⟨_,rfl,_,_,rfl,rfl,rfl,rfl⟩
  .have M: ¬1<L.gs.length:=ql (oh.mpr c);rw[wA M]at pl⊢;unfold fv;rw[wA M];exact⟨rfl,rfl⟩
  .obtain⟨rfl,rfl⟩:=z;have ae:fF j i+(if 1<L.gs.length then 1 else 0)<d.length:=by rw[lr];exact pl
   refine⟨_,rfl,.inl ⟨rfl,_,SqL.of I⟩,_,rfl,_,rfl,_,rfl,D,_,_,_,rfl,rfl,SqT.of (C _ _ G),lY ae,by show 2<=sizeLine;decide,λU af=>?_⟩;have e2:(fv j d i L).2=d.getD (fF j i+if 1<L.gs.length then 1 else 0) 0:=by
    unfold fv;by_cases c:1<L.gs.length
    .rw[wB c,wB c]
    .rw[wA c,wA c];rfl
   rw[<-e2];have Y:=cL af (.tup [nv (fv j d i L).1,nv (fv j d i L).2]);refine⟨B,_,_,rfl,rfl,Y _ _ I,by rw[cz,dC];lia,_,rfl,_,_,rfl,rfl,?_⟩;have lo:kh (cw o U (.tup [nv (fv j d i L).1,nv (fv j d i L).2])) (cw (cw o U (.tup [nv (fv j d i L).1,nv (fv j d i L).2])) B (.lst (y.map V.ref++[.ref U]))):=Stays.offL (Y _ _ I);refine⟨fQ (C.trans Y) x,y++[U],some (.ref b),some (nv (fv j d i L).1),by rw[cC,eE];rfl,?_,?_⟩
   .rw[xO T];exact((l.st (nB Y)).st lo).snoc (lo.a cC)
   .rw[pn];by_cases c:1<L.gs.length
    .rw[wB c,wB c];rfl
    .rw[wA c,wA c];rfl
 .obtain⟨C,y,o4,o5,I,l,rfl⟩:=pv;rw[cz,lq]at l;exact⟨_,rfl,q B y H1 C x I l⟩
def J5{i:Nat}{L:Lv}(h:0<L.us.length){p:Bool×Nat×Nat}(a:p∈iz i L):0<p.2.2:=by
 unfold iz at a
 rcases dw.mp a with z|z
 .by_cases c:1<L.gs.length
  .rw[wB c]at z;rw[dj.mp z];exact sP Nat.zero_lt_one c
  .rw[wA c]at z;cases z
 .rw[dj.mp z];exact h
theorem DJ{a:List Lv}(h: ∀L∈a,0<L.us.length): ∀(i:Nat) (p:Bool×Nat×Nat),p∈iv a i->0<p.2.2
 |0,_,b=>nomatch b
 | i+1,p,b=>by
  rcases dw.mp (show p∈iv a i++_ from b)with z|z
  .exact DJ h i p z
  .cases e:a[i]? with
   |none=>
    rw[e]at z;cases z
   |some L=>
    rw[e]at z;exact J5 (h L (cW e)) z
def RowOf.pos{H:Hp}{m:Ad}{b:LN}{n:Nat}{a:LN}{c:List Lv}(M:Mach H m b n)(R:RowOf b n a c){p:Bool×Nat×Nat}(d:p∈iI c):0<p.2.2:=DJ (λL e=>EB M R.ff (R.ok L e).p) _ p d
def fA{c:Int}{k:Nat}(h:0<k): ∃r:Nat,V.int (c%(k:Int))=nv r/\r<k:=by
 have a:=Int.emod_nonneg c (show((k:Nat):Int)≠0 by lia);have b:=Int.emod_lt_of_pos c (show(0:Int)<((k:Nat):Int) by lia);exact⟨(c%(k:Int)).toNat,by show V.int _=V.int _;rw[Int.toNat_of_nonneg a],by lia⟩
def BX(K:W.Frag):Sp:=λj H Q _=> ∃(g h m:Ad) (i:As) (b:LN) (n:Nat) (c:LN) (d:List Lv) (l:Zs) (k:Nat),j=[.ref g,.ref h,nv k]/\H g=some (.lst (i.map .ref))/\PlansAt H i m b d/\Mach H m b n/\RowOf b n c d/\SqL K H h (l.map V.int)/\
 ∀t a e,Same H e->e t=some (.tup (a.map nv))->RowIn d a->Q (.ref t) e
def DK:Sp:=λh H Q _=> ∃(e g m:Ad) (b:As) (i:LN) (c:List Lv) (a:cu),h=[.ref e,.ref g]/\H e=some (.lst (b.map .ref))/\PlansAt H b m i c/\c.length<=32/\H g=some (.tup (a.map nv))/\a.length=(iI c).length/\
 ∀l b d,Same H d->H l=none->d l=some (.lst (b.map .ref))->PairsAt d b (gS c a)->Q (.ref l) d
def Fg:Sp:=λd H Q _=> ∃(q h b m:Ad) (c:LN) (L:Lv) (here:cu) (p:Nat×Nat),d=[.ref q,.ref h,.ref b]/\PlanAt H q m c L/\H h=some (.tup (here.map nv))/\H b=some (.tup [nv p.1,nv p.2])/\WOk L p/\
 ∀a,H a=some (.tup ((fi c L here p).map nv))->Q (.ref a) H
def IH(F:Fun K "_law_row" "_law_row" Bb f fd)(qQ:dA P w K mg base "_law_parts" 3 ["_law_plan_here"] D4)(jF:dA P w K mg base "_law_cell_at" 1 ["_law_script","_law_k"] (yc K))(jB:mg "len"=none)(jC:mg "tuple"=none):FnOk P w K mg base cZ 5 f fd ["_law_plan_here","_law_script","_law_first"] (BX K):=by
 refine F.ok qV (λvs H Q E h=>?_) (λaf A G s H vs Q E I h=>?_)
 .obtain⟨J,L,m,as,ts,n,N,d,ns,k,rfl,_⟩:=h;rfl
 obtain⟨J,L,m,as,ts,n,N,d,ns,k,rfl,O,PL,M,R,T,q⟩:=h;have hu:=I.units;refine⟨_,(cN (dm (i:=3) qV.nd rfl (Or.inl rfl) (fM cI)) (cN (gK gk rfl (gL (dD qQ I.m rfl (cJ (pv 0) cI))) (mH rfl (gG (eQ (i:=4) qV.nd rfl (Or.inl rfl)) (gG (eQ (i:=5) qV.nd rfl (Or.inl rfl)) (gG (eQ (i:=6) qV.nd rfl (Or.inl rfl)) md)))) (cS (hO (gb f' iN iA iM (pv 3) (cJ (gC kS (dD jF I.m rfl (de (cB (pv 1) (cB (gC yg (pv 2) (eZ fZ rfl jB fV (cJ (pv 3) cI))) c8 rfl) rfl))) (pv 6)) cI))))) (cS (dH (gY mo rfl jC jr (cJ (pv 3) cI)))))),?_⟩;refine⟨by show 0<=sizeLine;decide,λa x=>?_⟩;have U:=cL x (.lst []);refine⟨_,rfl,J,m,as,ts,d,rfl,U _ _ O,PL.keeps U.keeps,R.few,λl Y H1 g1 nl el PS=>?_⟩;have aa:=PS.len;have lz:(iI d).length<=2 * d.length:=xM d d.length;have ag:=R.few;have f1:=g1 _ _ (cC:cw H a (.lst []) a=_);have ab:l≠a:=(dO (cC:cw H a (.lst []) a=_) nl).symm;have ae:=U.trans g1
 let Pv:Nat->L2.St->Hp->Prop:=λi C y=>Same H y/\y l=some (.lst (Y.map .ref))/\PartsAt y Y (iI d)/\ ∃(g:cu) (o4 o5 o6:Option V),y a=some (.lst (g.map nv))/\g.length=i/\(∀(j:Nat) (p:Bool×Nat×Nat) (r:Nat),(iI d)[j]? =some p->g[j]? =some r->r<p.2.2)/\C=[some (.ref J),some (.ref L),some (nv k),some (.ref a),o4,o5,o6]
 refine⟨l,rfl,⟨_,SqL.of el⟩,mv (xs:=Y.map .ref) Pv ⟨ae,el,PS,[],none,none,none,f1,rfl,(λj p r _ e=>by simp at e),rfl⟩ (λi C y _ p=>SqL.of p.2.1) (λi v C H2 hv pv=>?_) (λC H2 pv=>?_)⟩
 .obtain⟨D,z,o,g,o4,o5,o6,u,B,al,rfl⟩:=pv;rw[cQ]at hv;obtain⟨b,eb,rfl⟩:=eC.mp hv;have li:=(cK.mp eb).1;obtain⟨p,ep⟩: ∃p,(iI d)[i]? =some p:=⟨_,cA (by lia)⟩;have hb:=o.is i b p eb ep;refine⟨b,_,rfl,SqT.of hb,rfl,_,_,rfl,_,_,rfl,_,_,rfl,rfl,?_⟩;have pp:=R.pos M (cW ep);refine⟨_,rfl,.inl ⟨rfl,_,SqL.of u⟩,_,rfl,_,rfl,_,rfl,a,_,rfl,.inl (SqL.of u),_,_,rfl,rfl,L,ns,_,rfl,by lia,D.seq T,λc=>?_⟩;obtain⟨r,er,rl⟩:=fA (c:=c) pp;refine⟨_,rfl,_,_,rfl,rfl,(by show(0:Int)<((p.2.2:Nat):Int);lia),?_⟩
  try dsimp only
  rw[er];refine⟨a,_,_,rfl,rfl,u,by rw[cz,dC];lia,?_⟩;have lo:kh H2 (cw H2 a (.lst (g.map nv++[nv r]))):=Stays.offL u;refine⟨fQ D x,by rw[cF ab];exact z,o.st lo,g++[r],_,_,_,by rw[cC,eE];rfl,by rw[dF,B];rfl,λj p' r' e1 e2=>?_,rfl⟩;refine lU (P:=λj r=> ∀p,(iI d)[j]? =some p->r<p.2.2) (λj r e p e'=>al j p r e' e) (λp' e=>?_) j r' e2 p' e1;rw[B,ep]at e;cases e;exact rl
 .obtain⟨D,z,o,g,o4,o5,o6,u,B,al,rfl⟩:=pv;rw[cz,aa]at B;refine⟨_,rfl,a,_,rfl,.inl ⟨SqL.of u,λt ht=>?_⟩⟩;exact q t g _ (D.trans (cL ht _)) cC ⟨B,al⟩
def La(F:Fun K "_law_below" "_law_below" Bv f fd):FnOk P w K mg base cZ 1 f fd ["_law_step","_law_here","_law_pair"] Fg:=by
 refine F.ok Ka (λO H Q E h=>?_) (λT A o s H O Q E B h=>?_)
 .obtain⟨q,h,u,m,x,L,here,p,rfl,_⟩:=h;rfl
 obtain⟨q,h,u,m,x,L,here,p,rfl,⟨t,g,ml,lv,U,l,⟨Y,C,t2,t3⟩,h2,D,_⟩,y,G,a,k⟩:=h;have hu:=B.units;have d:=hR B;refine⟨_,(cN (ge (lP (xf d (pv 1) (cX dz (pv 0) cV (λ_ _=>rfl)))) (cS (dH (pv 1))) gJ) (cS (dH (cX fS (lF d (cX dz (pv 0) cV (λ_ _=>rfl)) (pv 1) (λ_ _=>rfl)) (cX dz (cX fS (cX dz (pv 0) cV (λ_ _=>rfl)) (cX dz (pv 2) cV (λ_ _=>rfl)) (λ_ _=>rfl)) (cX dz (pv 2) cV (λ_ _=>rfl)) (λ_ _=>rfl)) (λ_ _=>rfl))))),?_⟩;by_cases c:here∈L.c
 .obtain⟨li,ei⟩:=gO c;obtain⟨b,I⟩: ∃b,Y[dG L.c here]? =some b:=⟨_,cA (by lia)⟩;have ew:L.wds[dG L.c here]? =some (L.wds.getD (dG L.c here) []):=eV (by rw[a.wl];exact li);obtain⟨es,e1,J⟩:=t3 _ _ _ ew I;have n:=m7 a.nd C y ei I;have lg:=D.len;obtain⟨e,i⟩: ∃e,U[p.1]? =some e:=⟨_,cA (by rw[lg];exact a.g1)⟩;have z:=D.is p.1 e _ i (eV a.g1);have M:(tl x L.us (L.wds.getD (dG L.c here) []))[iy L p]? =some (fi x L here p):=by
   unfold fi;rw[wB c];exact eV (by unfold tl;rw[List.length_map];exact a.g3)
  obtain⟨r,N⟩: ∃r,es[iy L p]? =some r:=⟨_,cA (by rw[J.len];exact(cK.mp M).1)⟩;refine⟨_,rfl,_,rfl,q,_,_,_,rfl,rfl,SqT.of l,rfl,t,_,rfl,n,_,rfl,fj ?_⟩;refine⟨_,rfl,q,_,_,_,rfl,rfl,SqT.of l,rfl,_,rfl,t,_,rfl,n,_,rfl,q,_,_,_,rfl,rfl,SqT.of l,rfl,_,rfl,u,_,_,_,rfl,rfl,SqT.of G,rfl,g,_,_,_,rfl,rfl,SqL.of h2,gF (j:=p.1) (v:= .ref e) (by rw[cQ,i];rfl),_,rfl,u,_,_,_,rfl,rfl,SqT.of G,rfl,e,_,_,_,rfl,rfl,SqT.of z,lY a.g2,b,_,_,_,rfl,rfl,SqL.of e1,gF (j:=iy L p) (v:= .ref r) (by rw[cQ,N];rfl),?_⟩;exact k r (J.is _ r _ N M)
 .have n:=pR C y c;refine⟨_,rfl,_,rfl,q,_,_,_,rfl,rfl,SqT.of l,rfl,t,_,rfl,n,_,rfl,fm ?_⟩;refine⟨_,rfl,k h ?_⟩;unfold fi;rw[wA c];exact y
def sJ{K:Nat}(h:0<K):seqIndex? 0 K=some 0:=xc (Int.le_refl 0) (by lia)
def JN(F:Fun K "_law_pairs" "_law_pairs" BH f fd)(qL:mg "list"=none)(jB:mg "len"=none):FnOk P w K mg base cZ 1 f fd ["_law_plan_here","_law_row_here"] DK:=by
 refine F.ok kJ (λvs H Q E h=>?_) (λah A ab s H vs Q E hr h=>?_)
 .obtain⟨pl,ra,m,u,ts,l,j,rfl,_⟩:=h;rfl
 obtain⟨pl,ra,m,ae,ts,l,j,rfl,J,S,few,af,lr,q⟩:=h;have hu:=hr.units;refine⟨_,(cN (dm (i:=2) kJ.nd rfl (Or.inl rfl) (fM cI)) (cN (dm (i:=3) kJ.nd rfl (Or.inl rfl) (gY LP rfl qL boot_list (cJ (pv 1) cI))) (cN (gK gk rfl (gL (pv 0)) (eQ (i:=4) kJ.nd rfl (Or.inl rfl)) (cN (dm (i:=5) kJ.nd rfl (Or.inl rfl) cV) (cN (px (ge (gq qi (eZ fZ rfl jB fV (cJ (cX dz (pv 4) cV (λ_ _=>rfl)) cI)) cV (fT _)) (cS (dm (i:=5) kJ.nd rfl (Or.inl rfl) (gb f' PySem.F.slot_list_pop PySem.F.type_list_pop CH (pv 3) (cJ cV cI)))) gJ)) (cS (hO (gb f' iN iA iM (pv 2) (cJ (iT (de (cB (pv 5) (cB (gb f' PySem.F.slot_list_pop PySem.F.type_list_pop CH (pv 3) (cJ cV cI)) c8 rfl) rfl))) cI))))))) (cS (dH (pv 2)))))),?_⟩;refine⟨by show 0<=sizeLine;decide,λr y=>?_⟩;have k0:=cL y (.lst []);have lq:=S.len;refine⟨_,rfl,ra,_,rfl,.inr (SqT.of (k0 _ _ af)),λo B=>?_⟩;have ks:=cL B (.lst (j.map nv));have C:r≠o:=dO (cC:cw H r (.lst []) r=_) B;have x:=k0.free B;have f0:=ks _ _ (cC:cw H r (.lst []) r=_)
 let Pv:Nat->L2.St->Hp->Prop:=λi σ n=>Same H n/\ ∃(u:As) (o4 o5:Option V),n r=some (.lst (u.map .ref))/\PairsAt n u (jy l j i)/\n o=some (.lst ((j.drop (fF l i)).map nv))/\σ=[some (.ref pl),some (.ref ra),some (.ref r),some (.ref o),o4,o5]
 refine⟨_,rfl,pl,rfl,⟨_,SqL.of ((k0.trans ks) _ _ J)⟩,mv (xs:=ae.map .ref) Pv ⟨k0.trans ks,[],_,_,f0,⟨rfl,λi a p e=>by simp at e⟩,cC,rfl⟩ (λi σ n _ p=>SqL.of (p.1 _ _ J)) (λi v σ H1 hv pv=>?_) (λσ H1 pv=>?_)⟩
 .obtain⟨M,u,o4,o5,ef,t,N,rfl⟩:=pv;rw[cQ]at hv;obtain⟨b,eb,rfl⟩:=eC.mp hv;have li:=(cK.mp eb).1;obtain⟨L,eL⟩: ∃L,l[i]? =some L:=⟨_,cA (by lia)⟩;obtain⟨d,g,ml,lv,gr,s1,s2,s3,s4,s5,s6⟩:=(S.is i b L eb eL).keeps M.keeps;have pz:=z8 eL;have pn:=Bu eL;have la:=t.len;rw[mF (by lia)]at la;have hd: ∀{k:Nat},k<j.length->((j.drop k).map nv)[0]? =some (nv (j.getD k 0))/\((j.drop k).map nv).eraseIdx 0=(j.drop (k+1)).map nv:=λ{k} h=>by
   rw[ve h,dY,cA h];exact⟨rfl,rfl⟩
  have dl: ∀{k:Nat},k<j.length->0<((j.drop k).map nv).length:=λ{k} h=>by rw[cz,oB];lia
  refine⟨λO n=>Same H n/\n r=some (.lst (u.map .ref))/\PairsAt n u (jy l j i)/\n o=some (.lst ((j.drop (fF l i+if 1<L.gs.length then 1 else 0)).map nv))/\O=[some (.ref pl),some (.ref ra),some (.ref r),some (.ref o),some (.ref b),some (nv (fv l j i L).1)],⟨_,rfl,b,_,_,_,rfl,rfl,SqT.of s1,rfl,g,_,rfl,.inl (SqL.of s3),_,_,rfl,rfl,_,rfl,ju (λc=>?_) (λc=>?_)⟩,λO n z=>?_⟩
  .have T:1<L.gs.length:=by
    have z:=gi c;rw[cz,s4.len]at z;lia
   rw[wB T]at pz⊢;have lp:fF l i<j.length:=by lia
   obtain⟨d1,d2⟩:=hd lp;refine⟨_,rfl,.inl ⟨rfl,_,SqL.of N⟩,o,_,_,0,_,rfl,rfl,N,by decide,by decide,sJ (dl lp),d1,?_⟩;have lo:kh H1 (cw H1 o (.lst (((j.drop (fF l i)).map nv).eraseIdx 0))):=Stays.offL N;refine⟨fQ M x,by rw[cF C];exact ef,t.st lo,by rw[cC,d2],?_⟩;unfold fv;rw[wB T];rfl
  .have T: ¬1<L.gs.length:=by
    have z:=ql (oh.mpr c);rw[cz,s4.len]at z;lia
   rw[wA T]at pz⊢;unfold fv;rw[wA T];exact⟨M,ef,t,N,rfl⟩
  .obtain⟨g2,U,ag,D,rfl⟩:=z;have Y:fF l i+(if 1<L.gs.length then 1 else 0)<j.length:=by rw[lr];exact pz
   obtain⟨d1,d2⟩:=hd Y;refine⟨_,rfl,.inl ⟨rfl,_,SqL.of U⟩,_,rfl,_,rfl,.inl ⟨rfl,_,SqL.of D⟩,o,_,_,0,_,rfl,rfl,D,by decide,by decide,sJ (dl Y),d1,by show 2<=sizeLine;decide,λtp G=>?_⟩;have e2:(fv l j i L).2=j.getD (fF l i+if 1<L.gs.length then 1 else 0) 0:=by
    unfold fv;by_cases c:1<L.gs.length
    .rw[wB c,wB c]
    .rw[wA c,wA c];rfl
   rw[<-e2];rw[d2]at G⊢;have tT:kh n (cw n o (.lst ((j.drop (fF l i+(if 1<L.gs.length then 1 else 0)+1)).map nv))):=Stays.offL D;have I:cw n o (.lst ((j.drop (fF l i+(if 1<L.gs.length then 1 else 0)+1)).map nv)) r=some (.lst (u.map .ref)):=by rw[cF C];exact U
   have aa:cw n o (.lst ((j.drop (fF l i+(if 1<L.gs.length then 1 else 0)+1)).map nv)) o=some (.lst ((j.drop (fF l i+(if 1<L.gs.length then 1 else 0)+1)).map nv)):=cC;have g3:Same H (cw n o (.lst ((j.drop (fF l i+(if 1<L.gs.length then 1 else 0)+1)).map nv))):=fQ g2 x;generalize cw n o (.lst ((j.drop (fF l i+(if 1<L.gs.length then 1 else 0)+1)).map nv))=H3 at G tT I aa g3⊢;have kt:=cL G (.tup [nv (fv l j i L).1,nv (fv l j i L).2]);refine⟨r,_,_,rfl,rfl,kt _ _ I,by rw[cz,dC];lia,?_⟩;have lo:kh (cw H3 tp (.tup [nv (fv l j i L).1,nv (fv l j i L).2])) (cw (cw H3 tp (.tup [nv (fv l j i L).1,nv (fv l j i L).2])) r (.lst (u.map V.ref++[.ref tp]))):=Stays.offL (kt _ _ I);refine⟨fQ (g3.trans kt) y,u++[tp],some (.ref b),some (nv (fv l j i L).1),by rw[cC,eE];rfl,?_,?_,rfl⟩
   .rw[xO eL];exact(((ag.st tT).st (nB kt)).st lo).snoc (lo.a cC)
   .rw[cF C.symm,kt _ _ aa,pn];by_cases c:1<L.gs.length
    .rw[wB c,wB c]
    .rw[wA c,wA c]
 .obtain⟨M,u,o4,o5,ef,t,N,rfl⟩:=pv;rw[cz,lq]at t;exact⟨_,rfl,q r u H1 M y ef t⟩
def pT(a:List Lv)(i:Nat)(x:cu):Prop:= ∀(j:Nat) (L:Lv),j<i->a[j]? =some L->x∉L.c
section
variable{H:Hp}{m:Ad}{ts:LN}{n:Nat}{fam:LN}{Ls:List Lv}
def RowOf.due(M:Mach H m ts n)(R:RowOf ts n fam Ls){i:Nat}{L:Lv}(e:Ls[i]? =some L):Due ts ((Ls.map (·.c)).drop i) L.c:=by
 refine KG R.od (Ca ts _) (GL R.ff) (λc a d b r=>?_) i L.c (by rw[cQ,e];rfl);exact vG M (R.ff.inU M (dJ.mp (gh a).2.2.1).1) r
def RowOf.in_drop{i j:Nat}{L:Lv}(h:i<=j)(e:Ls[j]? =some L):L.c∈(Ls.map (·.c)).drop i:=by
 refine cW (i:=j-i) ?_;rw[ud,cQ,show i+(j-i)=j by lia,e];rfl
def RowOf.len_le(M:Mach H m ts n)(R:RowOf ts n fam Ls){i j:Nat}{L a:Lv}(h:i<=j)(e:Ls[i]? =some L)(b:Ls[j]? =some a){x y:cu}(c:x∈L.c)(d:y∈a.c):y.length<=x.length:=by
 rw[C4 M R.ff (R.ok L (cW e)).p.cls c,C4 M R.ff (R.ok a (cW b)).p.cls d];exact(R.due M e).most _ (RowOf.in_drop h b)
def DW(M:Mach H m ts n)(R:RowOf ts n fam Ls){i:Nat}{L:Lv}(e:Ls[i]? =some L){here:cu}(g:here∈fam)(h:pT Ls i here){p:Nat×Nat}(po:PairOk L p):pT Ls (i+1) (fi ts L here p):=by
 by_cases c:here∈L.c
 .have ok:=R.ok L (cW e);obtain⟨k,l,o,_⟩:=(nC M R.ff).mp (ok.wthn_in M R.ff c po);have lt:=G4 (R.ff.inU M g) (R.ff.inU M k) o l;intro j d q a b;have:=R.len_le M (show j<=i by lia) a e b c;lia
 .have r:fi ts L here p=here:=by unfold fi;rw[wA c]
  rw[r];intro j d q a b;by_cases z:j=i
  .subst z;rw[e]at a;cases a;exact c b
  .exact h j d (by lia) a b
def dR(ts:LN)(L:Lv)(here:cu):LN:=tl ts L.us (L.wds.getD (dG L.c here) [])
def LvOk.tls_iff(M:Mach H m ts n)(a:FamOf ts n fam){L:Lv}(ok:LvOk ts fam L){here:cu}(c:here∈L.c)(y:cu):y∈dR ts L here↔y∈hA fam here:=by
 obtain⟨b,d⟩:=gO c;exact JL M a ok.p d (eV (by rw[ok.p.len];exact b)) y
def zQ{L:Lv}{here:cu}(c:here∈L.c)(p:Nat×Nat):fi ts L here p=(dR ts L here).getD (iy L p) []:=by
 unfold fi;rw[wB c];rfl
def nW{L:Lv}{here:cu}:(dR ts L here).length=L.us.length:=by unfold dR tl;rw[List.length_map]
def gt(b:LN)(a:cu):Nat:=(b.map (sub a)).idxOf true
def BQ{b:LN}{a:cu}(h: ∃t∈b,sub a t=true):true∈b.map (sub a)/\gt b a<b.length/\sub a (b.getD (gt b a) [])=true:=by
 obtain⟨t,ht,st⟩:=h;have e:true∈b.map (sub a):=c7.mpr ⟨t,ht,st⟩;have c:gt b a<(b.map (sub a)).length:=pQ.mpr e;have d:gt b a<b.length:=by rw[cz]at c;exact c
 have z:(b.map (sub a))[gt b a]? =some true:=by rw[cA c];exact dL some (pM c)
 refine⟨e,d,?_⟩;rw[cQ,cA d]at z;rw[dY,cA d];exact fB z
def LvOk.has_tile(M:Mach H m ts n)(a:FamOf ts n fam){L:Lv}(ok:LvOk ts fam L){here u:cu}(c:here∈L.c)(b:u∈fam)(d:u≠here)(s:sub u here=true): ∃t∈dR ts L here,sub u t=true:=by
 obtain⟨t,ht,st⟩:=(nL M a here).all u b d s;exact⟨t,(ok.tls_iff M a c t).mpr ht,st⟩
def LvOk.big_len{L:Lv}(ok:LvOk ts fam L){here:cu}(c:here∈L.c):1<here.length/\here∈fam:=by
 obtain⟨a,b⟩:=dJ.mp ((gh ok.p.cls).2.2.2 here c).1;exact⟨gi b,a⟩
end
structure Al(ps:List (Bool×Nat×Nat))(rs:cu):Prop where
 len:rs.length=ps.length
 lt: ∀(j:Nat) (p:Bool×Nat×Nat) (r:Nat),ps[j]? =some p->rs[j]? =some r->r<p.2.2
def Al.app{g a:List (Bool×Nat×Nat)}{i b:cu}(h:Al g i)(k:Al a b):Al (g++a) (i++b):=by
 refine⟨by rw[dF,dF,h.len,k.len],λj p r d e=>?_⟩;by_cases c:j<g.length
 .rw[e8 c]at d;rw[e8 (by rw[h.len];exact c)]at e;exact h.lt j p r d e
 .rw[eU (by lia)]at d;rw[eU (by rw[h.len];lia),h.len]at e;exact k.lt _ p r d e
theorem Al.one{p:Bool×Nat×Nat}{r:Nat}(h:r<p.2.2):Al [p] [r]:=⟨rfl,λj c d a b=>by
 cases j with
 |zero=>cases a;cases b;exact h
 |succ j=>cases a⟩
def nG(L:Lv)(p:Nat×Nat):cu:=(if 1<L.gs.length then[p.1]else[])++[p.2]
def iL(a:List Lv)(prs:List (Nat×Nat)):Nat->List Nat
 |0=>[]
 |i+1=>iL a prs i++(match a[i]?,prs[i]? with|some L,some p=>nG L p|_,_=>[])
def ym(a:List Lv)(prs:List (Nat×Nat)):cu:=iL a prs a.length
def Bo{a:List Lv}{prs:List (Nat×Nat)}{i:Nat}{L:Lv}{p:Nat×Nat}(b:a[i]? =some L)(c:prs[i]? =some p):iL a prs (i+1)=iL a prs i++nG L p:=by
 show iL a prs i++_=_;rw[b,c]
def Kx{i:Nat}{L:Lv}{p:Nat×Nat}(po:PairOk L p):Al (iz i L) (nG L p):=by
 unfold iz nG;refine Al.app ?_ (Al.one po.t);by_cases c:1<L.gs.length
 .rw[wB c,wB c];exact Al.one po.g
 .rw[wA c,wA c];exact⟨rfl,λj p r e=>by simp at e⟩
theorem Dg{a:List Lv}{prs:List (Nat×Nat)}(d:prs.length=a.length)(po: ∀(i:Nat) (L:Lv) (p:Nat×Nat),a[i]? =some L->prs[i]? =some p->PairOk L p): ∀i,i<=a.length->Al (iv a i) (iL a prs i)
 |0,_=>⟨rfl,λj p r e=>by simp[iv]at e⟩
 |i+1,h=>by
  have b:=cA (show i<a.length from h);have c:=cA (show i<prs.length by lia);rw[vJ b,Bo b c];exact(Dg d po i (fR h)).app (Kx (po i _ _ b c))
def K6{a:List Lv}{prs:List (Nat×Nat)}(b:prs.length=a.length)(po: ∀(i:Nat) (L:Lv) (p:Nat×Nat),a[i]? =some L->prs[i]? =some p->PairOk L p):RowIn a (ym a prs):=let z:=Dg b po a.length (cM _);⟨z.len,z.lt⟩
def xp{H:Hp}{m:Ad}{a:LN}{n:Nat}(M:Mach H m a n){x:cu}(h:x∈dW n):x.length<=5:=dE (oO M.n5 h) M.n5
def CT(C:Ad):Sp:=λe H Q _=> ∃(q h c m:Ad) (b:LN) (L:Lv) (here a:cu),e=[.ref q,.ref h,.ref c]/\StepAt C H q m b L/\H h=some (.tup (here.map nv))/\H c=some (.tup (a.map nv))/\here∈L.c/\L.c.Nodup/\L.wds.length=L.c.length/\L.us.length<=32/\a.length<=5/\(∃t∈dR b L here,sub a t=true)/\
 ∀d,Same H d->Q (nv (gt (dR b L here) a)) d
def CA(d CR:Ad):Sp:=λe H Q _=> ∃(p l m:Ad) (c:As) (g:LN) (n:Nat) (a:List Lv) (prs:List (Nat×Nat)),e=[.ref p,.ref l]/\RowAt d CR H p m g n a/\a.length<=32/\H l=some (.lst (c.map .ref))/\PairsAt H c prs/\prs.length=a.length/\
 ∀t b,Same H b->b t=some (.tup ((ym a prs).map nv))->Q (.ref t) b
def Gy{C:Ad}(F:Fun K "least_tile" "LevelParts.least_tile" xj f fd)(u_LevelParts:OwnC K C ["machine","group","tiles","turns","tile_count"])(U:dA P w K mg base "lies_in" 1 ["one","other"] xL):FnOk P w K mg base cZ 3 f fd ["self","here","rooms"] (CT C):=by
 refine F.ok Gj (λY H Q E h=>?_) (λaa A o s H Y Q E r h=>?_)
 .obtain⟨q,h,B,m,e,L,here,a,rfl,_⟩:=h;rfl
 obtain⟨q,h,B,m,e,L,here,a,rfl,⟨dx,g,t,u,gr,h1,h2,h3,⟨as,t1,t2,t3⟩,_⟩,hh,x,c,nd,wl,few,r5,ex,k⟩:=h;have hu:=r.units;have y:=hR r;refine⟨_,(cS (dH (gb f' qv qk HA (gI (CompSc.to (N:=["self","here","rooms"]) (osc:=cU xj) (vs:=["part"]) {}) rfl rfl (gL (lF y (gX (pv 0) rfl) (pv 1) (λ_ _=>rfl))) (λ_ _ _ _=>iu) (λ_ _ _ _=>(dD U r.m rfl (de (cB (pv 3) (cB (pv 0) c8 rfl) rfl))))) (cJ yf cI)))),?_⟩;obtain⟨li,ei⟩:=gO c;obtain⟨b,D⟩: ∃b,as[dG L.c here]? =some b:=⟨_,cA (by lia)⟩;have ew:L.wds[dG L.c here]? =some (L.wds.getD (dG L.c here) []):=eV (by rw[wl];exact li);obtain⟨G,I,J⟩:=t3 _ _ _ ew D;have dg:=m7 nd t1 hh ei D;have le:=J.len;have lt:(dR e L here).length=L.us.length:=nW;have j:G.length=L.us.length:=by rw[le];exact lt
 refine⟨_,rfl,q,C,dx,_,_,rfl,h1,u_LevelParts.cl,u_LevelParts.no,oj,_,rfl,t,_,rfl,dg,b,rfl,⟨_,SqL.of I⟩,lB (xs:=G.map .ref) (λi l n=>Same H n/\l=(((dR e L here).take i).map (sub a)).map V.bl) (by rw[cz];exact small (by lia)) ⟨Same.refl _,rfl⟩ (λi l n _ p=>?_) (λi v l n M p=>?_) (λl n p sg z=>?_)⟩
 .obtain⟨g,rfl⟩:=p;refine⟨SqL.of (g _ _ I),?_⟩;rw[cz,cz,fK];exact Nat.min_le_left _ _
 .obtain⟨g,rfl⟩:=p;rw[cQ]at M;obtain⟨d,O,rfl⟩:=eC.mp M;obtain⟨u,T⟩: ∃u,(dR e L here)[i]? =some u:=⟨_,cA (by rw[lt,<-j];exact(cK.mp O).1)⟩;refine⟨hI,jm ⟨_,rfl,_,rfl,B,d,a,u,rfl,g _ _ x,g _ _ (J.is i d u O T),r5,λH2 g2=>⟨g.trans g2,?_⟩⟩⟩;rw[hG,T,eE,eE];rfl
 .obtain⟨g,rfl⟩:=p;rw[cz,j,<-lt,gj];obtain⟨m1,_,_⟩:=BQ ex;have ks:=cL z (.lst (((dR e L here).map (sub a)).map V.bl));refine⟨.inl ⟨rfl,_,SqL.of cC⟩,sg,_,rfl,rfl,SqL.of cC,m1,k _ (g.trans ks)⟩
def K0{G CR:Ad}(F:Fun K "unpaired" "Row.unpaired" y6 f fd)(u_LevelParts:OwnC K G ["machine","group","tiles","turns","tile_count"])(u_Row:OwnC K CR ["rooms","steps"])(jE:fL P w K mg base G "is_turning" 1 ["self"] (Au G))(rH:mg "zip"=none)(jC:mg "tuple"=none):FnOk P w K mg base cZ 3 f fd ["self","pairs"] (CA G CR):=by
 refine F.ok kM (λvs H Q E h=>?_) (λae A T s H vs Q E hr h=>?_)
 .obtain⟨p,l,m,U,ts,n,a,prs,rfl,_⟩:=h;rfl
 obtain⟨p,l,m,U,ts,n,a,prs,rfl,⟨dx,r,st,qs,h1,h2,h3,S⟩,few,el,PA,lp,q⟩:=h;have hu:=hr.units;have lq:=S.len;have la:=PA.len;refine⟨_,(cN (dm (i:=2) kM.nd rfl (Or.inl rfl) (fM cI)) (cN (gK gk rfl (zi rfl rH (de (cB (gX (pv 0) rfl) (cB (pv 1) c8 rfl) rfl))) (mH rfl (gG (eQ (i:=3) kM.nd rfl (Or.inl rfl)) (gG (eQ (i:=4) kM.nd rfl (Or.inl rfl)) md))) (cN (px (ge (pF (DY (pv 3) u_LevelParts.cl jE hr.m)) (cS (hO (gb f' iN iA iM (pv 2) (cJ (cX dz (pv 4) cV (λ_ _=>rfl)) cI)))) gJ)) (cS (hO (gb f' iN iA iM (pv 2) (cJ (cX dz (pv 4) cV (λ_ _=>rfl)) cI)))))) (cS (dH (gY mo rfl jC jr (cJ (pv 2) cI)))))),?_⟩;refine⟨by show 0<=sizeLine;decide,λj k=>?_⟩;have I:=cL k (.lst [])
 let Pv:Nat->L2.St->Hp->Prop:=λi J o=>Same H o/\ ∃(Y o4:Option V),o j=some (.lst ((iL a prs i).map nv))/\(iL a prs i).length<=2 * i/\J=[some (.ref p),some (.ref l),some (.ref j),Y,o4]
 refine⟨_,rfl,p,CR,dx,_,_,rfl,I _ _ h1,u_Row.cl,u_Row.no,y4,_,rfl,st,l,_,_,rfl,SqL.of (I _ _ h3),SqL.of (I _ _ el),zL (xs:=qs.map .ref) (ys:=U.map .ref) Pv ⟨I,_,_,cC,cM _,rfl⟩ (λi J o p=>⟨SqL.of (p.1 _ _ h3),SqL.of (p.1 _ _ el)⟩) (λi x y M J H1 hx hy nT pv=>?_) (λJ H1 pv=>?_)⟩
 .obtain⟨g1,Y,o4,N,l2,rfl⟩:=pv;rw[cQ]at hx hy;obtain⟨b,eb,rfl⟩:=eC.mp hx;obtain⟨d,B,rfl⟩:=eC.mp hy;have li:=(cK.mp eb).1;obtain⟨L,eL⟩: ∃L,a[i]? =some L:=⟨_,cA (by lia)⟩;obtain⟨e,v⟩: ∃e,prs[i]? =some e:=⟨_,cA (by lia)⟩;have kT:=cL nT (.tup [.ref b,.ref d]);have eT:cw H1 M (.tup [.ref b,.ref d]) M=some (.tup [.ref b,.ref d]):=cC;generalize cw H1 M (.tup [.ref b,.ref d])=H2 at kT eT⊢;have O:=g1.trans kT;have f2:=kT _ _ N;have SA:=(S.is i b L eb eL).keeps O.keeps;obtain⟨aa,g,t,u,gr,s1,s2⟩:=id SA;have ab:=O _ _ (PA.is i d e B v);refine⟨M,_,rfl,SqT.of eT,rfl,_,_,rfl,_,_,rfl,rfl,?_⟩;refine⟨λC o=>Same H o/\o j=some (.lst ((iL a prs i++(if 1<L.gs.length then[e.1]else[])).map nv))/\C=[some (.ref p),some (.ref l),some (.ref j),some (.ref b),some (.ref d)],⟨_,rfl,b,aa,_,rfl,s1,(by kernel_rfl),b,m,ts,L,rfl,SA,_,rfl,ju (λc=>?_) (λc=>?_)⟩,λC o z=>?_⟩
  .have c1:1<L.gs.length:=gi c;rw[wB c1];refine⟨_,rfl,.inl ⟨rfl,_,SqL.of f2⟩,_,rfl,d,_,_,_,rfl,rfl,SqT.of ab,rfl,j,_,_,rfl,rfl,f2,by rw[cz,dC];lia,?_⟩;exact⟨fQ O k,by rw[cC,eE];rfl,rfl⟩
  .have c1: ¬1<L.gs.length:=ql (oh.mpr c);rw[wA c1,gV];exact⟨O,f2,rfl⟩
  .obtain⟨g3,f3,rfl⟩:=z;have D:=g3 _ _ (PA.is i d e B v);have l3:(iL a prs i++(if 1<L.gs.length then[e.1]else[])).length<=2 * i+1:=by
    rw[dF];by_cases h:1<L.gs.length
    .rw[wB h];exact xa l2 1
    .rw[wA h];exact dE l2 (l6 _)
   refine⟨_,rfl,.inl ⟨rfl,_,SqL.of f3⟩,_,rfl,d,_,_,_,rfl,rfl,SqT.of D,rfl,j,_,_,rfl,rfl,f3,by rw[cz,dC];lia,?_⟩;have eu:iL a prs (i+1)=iL a prs i++(if 1<L.gs.length then[e.1]else[])++[e.2]:=by rw[Bo eL v,fh];rfl
   refine⟨fQ g3 k,_,_,by rw[cC,eu,eE (l₂:=[e.2])];rfl,?_,rfl⟩;rw[eu,dF];exact dE (xa l3 1) (by lia)
 .obtain⟨g1,Y,o4,N,l2,rfl⟩:=pv;have lm:min (qs.map V.ref).length (U.map V.ref).length=a.length:=by rw[cz,cz,lq,la,lp,wD]
  rw[lm]at N;refine⟨_,rfl,j,_,rfl,.inl ⟨SqL.of N,λt ht=>?_⟩⟩;exact q t _ (g1.trans (cL ht _)) cC
def eW(a:LN)(L:Lv)(here:cu)(l:Nat):cu:=(dR a L here).map λu=>dG (dR a L (cE a here l)) (cE a u l)
def eI(b:LN)(L:Lv)(here a:cu)(l:Nat):cu×Option Nat:=
 if a∈L.c then(if here∈L.c/\cE b here l=a then(eW b L here l,none)else(List.range L.us.length,some (gt (dR b L a) (cE b here l))))else(List.range L.us.length,none)
def ki(L:Lv)(d:cu×Option Nat)(a:Nat):Nat:=L.gs.idxOf (dU (L.gs.getD a []) d.1)
def CC(L:Lv)(d:cu×Option Nat)(a b:Nat):Nat:=match d.2 with
 |none=>b
 |some j=>(L.gs.getD a []).idxOf j
def iw(L:Lv)(d:cu×Option Nat)(p:Nat×Nat):Nat×Nat:=(ki L d p.1,CC L d p.1 p.2)
section
variable{H:Hp}{m:Ad}{ts:LN}{n:Nat}{fam:LN}{Ls:List Lv}{L:Lv}
def xT{l:Nat}(a:l<ts.length): ∀z∈[l],z<ts.length:=λz b=>by rw[dj.mp b];exact a
def LvOk.tls_nd(M:Mach H m ts n)(d:FamOf ts n fam)(ok:LvOk ts fam L){here:cu}(c:here∈L.c):(dR ts L here).Nodup:=by
 obtain⟨j,k⟩:=gO c;obtain⟨p,g⟩:=ok.p.bij M d k (eV (by rw[ok.p.len];exact j));unfold dR tl;rw[List.Nodup,si];refine zG (λ{a b} h i l e=>l ?_) (xX M d ok.p);rw[ok.p.tl]at h i;obtain⟨o,_,q,_⟩:=(nC M d).mp h;obtain⟨r,_,s,_⟩:=(nC M d).mp i;rw[<-g.back M (d.inU M o) q,<-g.back M (d.inU M r) s,e]
def sM{here:cu}{j:Nat}{u:cu}(e:L.us[j]? =some u):(dR ts L here)[j]? =some (di (cE ts) u (L.wds.getD (dG L.c here) [])):=by
 unfold dR tl;rw[cQ,e];rfl
def LvOk.trn_eq(M:Mach H m ts n)(d:FamOf ts n fam)(ok:LvOk ts fam L){here:cu}{l:Nat}(e:cE ts here l∈L.c){a:cu}(g:iH ts L.us (L.wds.getD (dG L.c here) []) (L.wds.getD (dG L.c (cE ts here l)) []) l a):a=eW ts L here l:=by
 obtain⟨p,h⟩:=g;refine l7 λj=>?_;by_cases i:j<L.us.length
 .have b:=cA i;have c:=cA (show j<a.length by lia);obtain⟨q,k,o⟩:=h j _ _ b c;unfold eW;rw[cQ,sM b,c];exact dL some (rc (ok.tls_nd M d e) (j:=a[j]) (by rw[sM k,o])).symm
 .have r:(eW ts L here l).length=L.us.length:=by unfold eW;rw[List.length_map,nW]
  rw[ie (by lia),ie (by lia)]
def LvOk.trn_by(M:Mach H m ts n)(d:FamOf ts n fam)(ok:LvOk ts fam L){here:cu}{l:Nat}(e:l<ts.length)(g:here∈L.c)(h:cE ts here l∈L.c):iH ts L.us (L.wds.getD (dG L.c here) []) (L.wds.getD (dG L.c (cE ts here l)) []) l (eW ts L here l):=by
 obtain⟨i,k⟩:=gO g;obtain⟨o,p⟩:=gO h;have q:=eV (show dG L.c here<L.wds.length by rw[ok.p.len];exact i);have r:=eV (show dG L.c (cE ts here l)<L.wds.length by rw[ok.p.len];exact o);refine⟨by unfold eW;rw[List.length_map,nW],λj u s c a=>?_⟩;unfold eW at a;rw[cQ,sM c]at a;have a:dG (dR ts L (cE ts here l)) (cE ts (di (cE ts) u (L.wds.getD (dG L.c here) [])) l)=s:=fB a;have t:cE ts (di (cE ts) u (L.wds.getD (dG L.c here) [])) l∈dR ts L (cE ts here l):=FS M d ok.p k q e p r (cW c);obtain⟨z,b⟩:=gO t;rw[a]at b;unfold dR tl at b;rw[cQ]at b;obtain⟨v,x,y⟩:=eC.mp b;exact⟨v,x,y⟩
def LvOk.trn_gs(M:Mach H m ts n)(d:FamOf ts n fam)(ok:LvOk ts fam L){here:cu}{l:Nat}(a:l<ts.length)(b:here∈L.c)(c:cE ts here l∈L.c){g:cu}(e:g∈L.gs):dU g (eW ts L here l)∈L.gs:=by
 obtain⟨h,i⟩:=gO b;obtain⟨j,k⟩:=gO c;exact(ok.g.mem _).mpr (.step ((ok.g.mem g).mp e) ⟨_,l,_,here,_,_,i,eV (by rw[ok.p.len];exact h),a,k,eV (by rw[ok.p.len];exact j),ok.trn_by M d a b c⟩)
def DM(M:Mach H m ts n)(a:FamOf ts n fam){x:cu}(b:x∈fam){l:Nat}(c:l<ts.length):cE ts x l∈fam:=zd M a (w:=[l]) b (xT c)
def vL{a:LN}{g:cu}(h:g∈a):a.idxOf g<a.length/\a.getD (a.idxOf g) []=g:=by
 have l:=pQ.mpr h;refine⟨l,?_⟩;rw[dY,cA l];exact pM l
def MI{a:cu}{g:Nat}(h:g∈a):a.idxOf g<a.length/\a.getD (a.idxOf g) 0=g:=by
 have l:=pQ.mpr h;refine⟨l,?_⟩;rw[dY,cA l];exact pM l
def LvOk.still(M:Mach H m ts n)(b:FamOf ts n fam)(ok:LvOk ts fam L){a:Nat}(h:a<L.gs.length):dU (L.gs.getD a []) (List.range L.us.length)=L.gs.getD a []:=Kd λr c=>fq.mp ((ok.pm M b (cW (eV h))).mem_iff.mp c)
def LvOk.idx_still(M:Mach H m ts n)(b:FamOf ts n fam)(ok:LvOk ts fam L){a:Nat}(h:a<L.gs.length):L.gs.idxOf (dU (L.gs.getD a []) (List.range L.us.length))=a:=by
 rw[ok.still M b h];obtain⟨l,e⟩:=vL (cW (eV h));exact(im l ok.nd).mp ((eV l).trans (by rw[e];exact(eV h).symm))
def Fi(M:Mach H m ts n)(R:RowOf ts n fam Ls){i:Nat}(e:Ls[i]? =some L){here:cu}{l:Nat}(q:l<ts.length)(g:here∈fam)(r:pT Ls i here)(h:cE ts here l∈L.c):here∈L.c:=by
 have ok:=R.ok L (cW e);have k:Rch ts here (cE ts here l):=⟨[l],xT q,rfl⟩;have x:=vG M (R.ff.inU M g) (cH.mpr k);have y:=(ok.big_len h).1;obtain⟨s,a,b⟩:=L1 (ts:=ts) (dJ.mpr ⟨g,dX (show 1<here.length by lia)⟩);obtain⟨c,t,rfl⟩:=c7.mp (Cv R.od s a);obtain⟨j,o⟩:=fy.mp t;by_cases d:j<i
 .exact wC b (r j c d o)
 .by_cases p:c.c=L.c
  .rw[<-p];exact b
  .have z:=(R.due M e).free c.c (RowOf.in_drop (by lia) o) p;have u:=((gh a).2.2.2 here b).2.1;have v:=((gh ok.p.cls).2.2.2 _ h).2.2;rw[cH.mpr ((u.trans k).trans v)]at z;cases z
def AC(M:Mach H m ts n)(R:RowOf ts n fam Ls){i:Nat}(e:Ls[i]? =some L){here a:cu}{l:Nat}(b:l<ts.length)(c:here∈fam)(g:pT Ls i here)(s:sub (cE ts here l) a=true)(d:a∈L.c)(no: ¬(here∈L.c/\cE ts here l=a)): ∃t∈dR ts L a,sub (cE ts here l) t=true:=by
 refine(R.ok L (cW e)).has_tile M R.ff d (DM M R.ff c b) (λz=>no ⟨?_,z⟩) s;exact Fi M R e b c g (by rw[z];exact d)
def LvOk.wthn_sub(M:Mach H m ts n)(a:FamOf ts n fam)(ok:LvOk ts fam L){here:cu}{p:Nat×Nat}(po:PairOk L p):sub (fi ts L here p) here=true:=by
 by_cases c:here∈L.c
 .exact((nC M a).mp (ok.wthn_in M a c po)).2.2.1
 .unfold fi;rw[wA c];exact cR.mpr λr b=>b
def x6(M:Mach H m ts n)(R:RowOf ts n fam Ls){i:Nat}(e:Ls[i]? =some L){here a:cu}{l:Nat}{p:Nat×Nat}(po:PairOk L p)(k:l<ts.length)(q:here∈fam)(B:pT Ls i here)(tf:a∈fam)(s:sub (cE ts here l) a=true):
  PairOk L (iw L (eI ts L here a l) p)/\sub (cE ts (fi ts L here p) l) (fi ts L a (iw L (eI ts L here a l) p))=true/\dU (L.gs.getD p.1 []) (eI ts L here a l).1∈L.gs/\(∀j,(eI ts L here a l).2=some j->j∈L.gs.getD p.1 []):=by
 have ok:=R.ok L (cW e);have C:=eV po.g;have mg:=cW C;have pm:=ok.pm M R.ff mg;have gl:(L.gs.getD p.1 []).length=L.us.length:=by rw[pm.length_eq,iY]
 have D:=ok.wthn_fam M R.ff q po;have mono:sub (cE ts (fi ts L here p) l) (cE ts here l)=true:=uL M (R.ff.inU M D) (R.ff.inU M q) (xT k) (ok.wthn_sub M R.ff po);by_cases b:a∈L.c
 .by_cases c:here∈L.c/\cE ts here l=a
  .obtain⟨c,t⟩:=c;have g:eI ts L here a l=(eW ts L here l,none):=by unfold eI;rw[wB b,wB ⟨c,t⟩]
   rw[g];have h:cE ts here l∈L.c:=by rw[t];exact b
   have u:=ok.trn_gs M R.ff k c h mg;obtain⟨E,G⟩:=vL u;refine⟨⟨E,po.t⟩,?_,u,λj z=>nomatch z⟩;have d:iy L (iw L (eW ts L here l,none) p)=(eW ts L here l).getD (iy L p) 0:=by
    show(L.gs.getD (L.gs.idxOf (dU (L.gs.getD p.1 []) (eW ts L here l))) []).getD p.2 0=_;rw[G];unfold dU;rw[dY,cQ,dn (by rw[gl];exact po.t)];rfl
   have w:=ok.wok M R.ff po;obtain⟨I,J⟩:=ok.trn_by M R.ff k c h;have v:=eV w.g3;have N:(eW ts L here l)[iy L p]? =some ((eW ts L here l).getD (iy L p) 0):=dn (by rw[I];exact w.g3);obtain⟨O,Q,T⟩:=J _ _ _ v N;have U:fi ts L here p=di (cE ts) (L.us.getD (iy L p) []) (L.wds.getD (dG L.c here) []):=by rw[zQ c,dY,sM v];rfl
   have Y:fi ts L a (iw L (eW ts L here l,none) p)=di (cE ts) O (L.wds.getD (dG L.c (cE ts here l)) []):=by rw[zQ b,d,dY,sM Q,t];rfl
   rw[U,Y,T];exact cR.mpr λr hr=>hr
  .have g:eI ts L here a l=(List.range L.us.length,some (gt (dR ts L a) (cE ts here l))):=by unfold eI;rw[wB b,wA c]
   rw[g];obtain⟨_,x,st⟩:=BQ (AC M R e k q B s b c);rw[nW]at x;have y:gt (dR ts L a) (cE ts here l)∈L.gs.getD p.1 []:=pm.mem_iff.mpr (fq.mpr x);obtain⟨A,j2⟩:=MI y;have o:ki L (List.range L.us.length,some (gt (dR ts L a) (cE ts here l))) p.1=p.1:=ok.idx_still M R.ff po.g;refine⟨⟨by show ki L _ p.1<_;rw[o];exact po.g,by rw[gl]at A;exact A⟩,?_,by show dU _ (List.range L.us.length)∈_;rw[ok.still M R.ff po.g];exact mg,λj z=>by cases z;exact y⟩;have d:iy L (iw L (List.range L.us.length,some (gt (dR ts L a) (cE ts here l))) p)=gt (dR ts L a) (cE ts here l):=by
    show(L.gs.getD (ki L _ p.1) []).getD ((L.gs.getD p.1 []).idxOf _) 0=_;rw[o,j2]
   rw[zQ b,d];exact Ay mono st
 .have g:eI ts L here a l=(List.range L.us.length,none):=by unfold eI;rw[wA b]
  rw[g];have o:ki L (List.range L.us.length,none) p.1=p.1:=ok.idx_still M R.ff po.g;have en:iw L (List.range L.us.length,none) p=p:=Prod.ext o rfl;rw[en];refine⟨po,?_,by show dU _ (List.range L.us.length)∈_;rw[ok.still M R.ff po.g];exact mg,λj z=>nomatch z⟩;have ew:fi ts L a p=a:=by unfold fi;rw[wA b]
  rw[ew];exact Ay mono s
end
def iO(a:LN)(n:Nat)(b:List Lv)(prs:List (Nat×Nat))(l:Nat):Nat->List Nat
 |0=>List.range n
 |i+1=>match b[i]?,prs[i]? with
  |some L,some p=>fi a L (iO a n b prs l i) (iw L (eI a L (hX a n b prs i) (iO a n b prs l i) l) p)
  |_,_=>iO a n b prs l i
def iJ(a:LN)(n:Nat)(b:List Lv)(prs:List (Nat×Nat))(l:Nat):Nat->List (Nat×Nat)
 |0=>[]
 |i+1=>iJ a n b prs l i++(match b[i]?,prs[i]? with
  |some L,some p=>[iw L (eI a L (hX a n b prs i) (iO a n b prs l i) l) p]
  |_,_=>[])
def vS(c:LN)(n:Nat)(a:List Lv)(b:cu)(l:Nat):cu:=ym a (iJ c n a (gS a b) l a.length)
section
variable{H:Hp}{m:Ad}{ts:LN}{n:Nat}{fam:LN}{Ls:List Lv}{prs:List (Nat×Nat)}{l i:Nat}{L:Lv}{p:Nat×Nat}
def AL(a:Ls[i]? =some L)(b:prs[i]? =some p):iO ts n Ls prs l (i+1)=fi ts L (iO ts n Ls prs l i) (iw L (eI ts L (hX ts n Ls prs i) (iO ts n Ls prs l i) l) p):=by
 show(match Ls[i]?,prs[i]? with|some L,some p=>_|_,_=>_)=_;rw[a,b]
def A0(a:Ls[i]? =some L)(b:prs[i]? =some p):iJ ts n Ls prs l (i+1)=iJ ts n Ls prs l i++[iw L (eI ts L (hX ts n Ls prs i) (iO ts n Ls prs l i) l) p]:=by
 show iJ ts n Ls prs l i++_=_;rw[a,b]
theorem qc(a:prs.length=Ls.length): ∀{i:Nat},i<=Ls.length->(iJ ts n Ls prs l i).length=i
 |0,_=>rfl
 |i+1,h=>by
  rw[A0 (cA h) (cA (show i<prs.length by lia)),dF,qc a (fR h)];rfl
def Fv(b:prs.length=Ls.length)(c:Ls[i]? =some L)(d:prs[i]? =some p):(iJ ts n Ls prs l Ls.length)[i]? =some (iw L (eI ts L (hX ts n Ls prs i) (iO ts n Ls prs l i) l) p):=by
 have a:=(cK.mp c).1;obtain⟨r,z⟩:=xA (t:=iJ ts n Ls prs l) (λi=>⟨_,rfl⟩) (show i+1<=Ls.length from a);rw[z,A0 c d,fh,eU (by rw[qc b (fR a)];exact cM _),qc b (fR a),lG];rfl
structure Both(ts fam:LN)(Ls:List Lv)(l i:Nat)(here there:cu):Prop where
 hf:here∈fam
 hp:pT Ls i here
 tf:there∈fam
 tp:pT Ls i there
 s:sub (cE ts here l) there=true
theorem wX(M:Mach H m ts n)(R:RowOf ts n fam Ls)(o:prs.length=Ls.length)(po: ∀(i:Nat) (L:Lv) (p:Nat×Nat),Ls[i]? =some L->prs[i]? =some p->PairOk L p)(c:l<ts.length): ∀i,i<=Ls.length->Both ts fam Ls l i (hX ts n Ls prs i) (iO ts n Ls prs l i)
 |0,_=>by
  refine⟨yJ R.ff,λj L d=>wC d (pU j),yJ R.ff,λj L d=>wC d (pU j),?_⟩;exact cR.mpr λr q=>fq.mpr ((cD.mp (R.ff.inU M (DM M R.ff (yJ R.ff) c))).2 r q)
 |i+1,h=>by
  have b:=wX M R o po c i (fR h);have a:=cA (show i<Ls.length from h);have e:=cA (show i<prs.length by lia);have g:=po i _ _ a e;obtain⟨k,s,_,_⟩:=x6 M R a g c b.hf b.hp b.tf b.s;have ok:=R.ok _ (cW a);rw[Aa a e,AL a e];exact⟨ok.wthn_fam M R.ff b.hf g,DW M R a b.hf b.hp g,ok.wthn_fam M R.ff b.tf k,DW M R a b.tf b.tp k,s⟩
def Ms(M:Mach H m ts n)(R:RowOf ts n fam Ls)(c:prs.length=Ls.length)(po: ∀(i:Nat) (L:Lv) (p:Nat×Nat),Ls[i]? =some L->prs[i]? =some p->PairOk L p)(d:l<ts.length)(i:Nat)(L:Lv)(q:Nat×Nat)(a:Ls[i]? =some L)(e:(iJ ts n Ls prs l Ls.length)[i]? =some q):PairOk L q:=by
 have h:=(cK.mp a).1;have g:=cA (show i<prs.length by lia);rw[Fv c a g]at e;cases e;have b:=wX M R c po d i (fR h);exact(x6 M R a (po i _ _ a g) d b.hf b.hp b.tf b.s).1
def K5(M:Mach H m ts n)(R:RowOf ts n fam Ls){a:cu}(b:RowIn Ls a)(c:l<ts.length):RowIn Ls (vS ts n Ls a l):=K6 (qc (mF (cM _)) (cM _)) (Ms M R (mF (cM _)) (b.po M R) c)
end
def zN(x:cu):Zs:=x.map λr=>((r:Nat):Int)
def Gx{x:cu}{i:Int}:i∈zN x↔ ∃r∈x,((r:Nat):Int)=i:=c7
def ku{x:cu}{r:Nat}:((r:Nat):Int)∈zN x↔r∈x:=by
 rw[Gx];exact⟨λ⟨a,h,e⟩=>by rwa[<-uQ e],λh=>⟨r,h,rfl⟩⟩
theorem BF{r:Nat}: ∀{x:cu},(zN x).idxOf ((r:Nat):Int)=x.idxOf r
 | []=>rfl
 | a::x=>by
  show(((a:Nat):Int)::zN x).idxOf ((r:Nat):Int)=_;rw[List.idxOf_cons,List.idxOf_cons,BF];have e:(((a:Nat):Int)==((r:Nat):Int))=(a==r):=by
   rw[iZ,lZ,lZ];exact⟨λh=>by lia,λh=>by lia⟩
  rw[e]
def DeedAt(H:Hp)(r:Ad)(d:cu×Option Nat):Prop:= ∃(a:Ad) (v:V),H r=some (.tup [.ref a,v])/\H a=some (.tup (d.1.map nv))/\v=(match d.2 with|none=> .non|some j=>nv j)
def DeedAt.same{H b:Hp}{r:Ad}{d:cu×Option Nat}(h:DeedAt H r d)(g:Same H b):DeedAt b r d:=let⟨a,v,c,e,i⟩:=h;⟨a,v,g _ _ c,g _ _ e,i⟩
def Cs(C:Ad)(K:W.Frag):Sp:=λe H Q _=> ∃(q h t m:Ad) (b:LN) (n:Nat) (c:LN) (L:Lv) (here a:cu) (l:Nat),e=[.ref q,.ref h,.ref t,nv l]/\StepAt C H q m b L/\Mach H m b n/\FamOf b n c/\LvOk b c L/\H h=some (.tup (here.map nv))/\H t=some (.tup (a.map nv))/\here∈c/\l<b.length/\(a∈L.c-> ¬(here∈L.c/\cE b here l=a)-> ∃t∈dR b L a,sub (cE b here l) t=true)/\
 ∀r d,Same H d->DeedAt d r (eI b L here a l)->Q (.ref r) d
def Fo(C:Ad):Sp:=λe H Q _=> ∃(q b m:Ad) (g:LN) (L:Lv) (d:cu×Option Nat) (a:Nat),e=[.ref q,.ref b,nv a]/\StepAt C H q m g L/\DeedAt H b d/\a<L.gs.length/\(∀x∈L.gs.getD a [],x<d.1.length)/\(L.gs.getD a []).length<=1000/\dU (L.gs.getD a []) d.1∈L.gs/\ ∀c,Same H c->Q (nv (ki L d a)) c
def Co(C:Ad):Sp:=λe H Q _=> ∃(q c m:Ad) (g:LN) (L:Lv) (d:cu×Option Nat) (a b:Nat),e=[.ref q,.ref c,nv a,nv b]/\StepAt C H q m g L/\DeedAt H c d/\a<L.gs.length/\(∀j,d.2=some j->j∈L.gs.getD a [])/\Q (nv (CC L d a b)) H
def Ds(C:Ad):Sp:=λe H Q _=> ∃(q b c m:Ad) (g:LN) (L:Lv) (d:cu×Option Nat) (p:Nat×Nat),e=[.ref q,.ref b,.ref c]/\StepAt C H q m g L/\DeedAt H b d/\H c=some (.tup [nv p.1,nv p.2])/\p.1<L.gs.length/\(∀x∈L.gs.getD p.1 [],x<d.1.length)/\(L.gs.getD p.1 []).length<=1000/\dU (L.gs.getD p.1 []) d.1∈L.gs/\(∀j,d.2=some j->j∈L.gs.getD p.1 [])/\
 ∀t a,Same H a->a t=some (.tup [nv (iw L d p).1,nv (iw L d p).2])->Q (.ref t) a
def zc{a:LN}{g:cu}: ∀i,i<a.idxOf g->a[i]? ≠some g:=λi b e=>by
 have y:=zH (p:=(· ==g)) (xs:=a) (i:=i) b;obtain⟨d,c⟩:=cK.mp e;rw[c,sE]at y;cases y
def Kp{C:Ad}(F:Fun K "deed_of" "LevelParts.deed_of" AQ f fd)(u_LevelParts:OwnC K C ["machine","group","tiles","turns","tile_count"])(jH:dA P w K mg base "carried" 3 ["machine","rooms","word"] (sn K))(jQ:fL P w K mg base C "least_tile" 3 ["self","here","rooms"] (CT C)):FnOk P w K mg base cZ 5 f fd ["self","here","there","letter"] (Cs C K):=by
 refine F.ok kA (λvs H Q E h=>?_) (λam A aa s H vs Q E hr h=>?_)
 .obtain⟨q,h,t,m,c,n,ab,L,here,a,l,rfl,_⟩:=h;rfl
 obtain⟨q,h,th,m,c,n,ab,L,here,a,l,rfl,SA,M,J,ok,hh,ht,hf,hl,ext,k⟩:=h;have hu:=hr.units;have B:=hR hr;obtain⟨x,g,t,u,gr,y,h2,h3,⟨as,t1,t2,t3⟩,ae,u1,u2,u3⟩:=id SA;have nd:=ok.p.nd J;have e0:=ok.first M J;obtain⟨g0,N⟩: ∃g0,gr[0]? =some g0:=⟨_,cA (by rw[h3.len];exact(cK.mp e0).1)⟩;have D:=h3.is 0 g0 _ N e0;have hU:=J.inU M hf;have x5:=xp M hU;have xn:=(cD.mp hU).2;refine⟨_,(cN (dm (i:=4) kA.nd rfl (Or.inl rfl) (cX fS (gX (pv 0) rfl) cV (λ_ _=>rfl))) (cN (ge (lP (xf B (pv 2) (gX (pv 0) rfl))) (cS (dH (iT (de (cB (pv 4) (cB qr c8 rfl) rfl))))) gJ) (cN (dm (i:=5) kA.nd rfl (Or.inl rfl) (dD jH hr.m rfl (de (cB (gX (pv 0) rfl) (cB (pv 1) (cB (fM (cJ (pv 3) cI)) c8 rfl) rfl) rfl)))) (cN (ge (PW.pt (pi (lP (pH B (pv 1) (gX (pv 0) rfl))) (pV (gq (tz hu) (pv 5) (pv 2) (fT _))))) (cS (dH (iT (de (cB (cX fS (lF B (gX (pv 0) rfl) (pv 1) (λ_ _=>rfl)) (pv 3) (λ_ _=>rfl)) (cB qr c8 rfl) rfl))))) gJ) (cS (dH (iT (de (cB (pv 4) (cB (ke (pv 0) u_LevelParts.cl jQ hr.m (de (cB (pv 2) (cB (pv 5) c8 rfl) rfl))) c8 rfl) rfl))))))))),?_⟩;refine⟨_,rfl,q,C,x,_,_,rfl,y,u_LevelParts.cl,u_LevelParts.no,ss,g,_,_,_,rfl,rfl,SqL.of h2,(gF (j:=0) (v:= .ref g0) (by rw[cQ,N];rfl):iX _ ((0:Nat):Int)=_),?_⟩;by_cases o:a∈L.c
 .obtain⟨li,ei⟩:=gO o;obtain⟨b,eb⟩: ∃b,as[dG L.c a]? =some b:=⟨_,cA (by lia)⟩;refine⟨_,rfl,_,rfl,q,C,x,_,_,rfl,y,u_LevelParts.cl,u_LevelParts.no,oj,t,_,rfl,m7 nd t1 ht ei eb,_,rfl,fj ?_⟩;refine⟨_,rfl,q,C,x,_,_,rfl,y,u_LevelParts.cl,u_LevelParts.no,uE,_,rfl,_,rfl,by show 1<=sizeLine;decide,λp1 af=>?_⟩;have kp:=cL af (.lst [nv l]);refine⟨m,h,p1,c,n,here,[l],rfl,M.same kp,SqT.of (kp _ _ hh),x5,xn,SqL.of cC,xT hl,λen H2 O e2=>?_⟩;have d:=kp.trans O;have G:H2 en=some (.tup ((cE c here l).map nv)):=e2;clear e2 O kp;by_cases T:here∈L.c
  .obtain⟨lh,eh⟩:=gO T;obtain⟨bh,ag⟩: ∃b,as[dG L.c here]? =some b:=⟨_,cA (by lia)⟩;refine⟨_,rfl,_,rfl,q,C,x,_,_,rfl,d _ _ y,u_LevelParts.cl,u_LevelParts.no,oj,t,_,rfl,m7 nd (d _ _ t1) (d _ _ hh) eh ag,_,rfl,fm ?_⟩;refine⟨_,rfl,_,rfl,en,th,0,_,_,rfl,rfl,gu (SqT.of G),gu (SqT.of (d _ _ ht)),by decide,λcc hc=>⟨_,rfl,?_⟩⟩;have ah:cc=decide (cE c here l=a):=by
    rw[iZ,rf,<-dy];exact hc
   subst ah;by_cases I:cE c here l=a
   .rw[dX I];refine fm ?_;obtain⟨b2,U⟩: ∃b,ae[dG L.c here]? =some b:=⟨_,cA (by lia)⟩;have ew:=eV (show dG L.c here<L.wds.length by rw[ok.p.len];exact lh);obtain⟨vs,v1,v2,v3⟩:=u3 _ _ _ _ eh ew U;obtain⟨v,ev⟩: ∃v,vs[l]? =some v:=⟨_,cA (by lia)⟩
    rcases v3 l v ev with⟨no,_⟩|⟨pj,js,k',ai,rfl,ep,ek,aj,tb⟩
    .exact wC (by rw[I];exact o) no
    have ak:k'=dG L.c (cE c here l):=(rc nd ek).symm;subst ak;have al:ai=L.wds.getD (dG L.c (cE c here l)) []:=by rw[dY,aj];rfl
    subst al;have ej:=ok.trn_eq M J (by rw[I];exact o) tb;subst ej;refine⟨_,rfl,q,C,x,_,_,rfl,d _ _ y,u_LevelParts.cl,u_LevelParts.no,sY,_,rfl,u,_,rfl,m7 nd (d _ _ u1) (d _ _ hh) eh U,_,rfl,b2,_,_,_,rfl,rfl,SqL.of (d _ _ v1),gF ev,by show 2<=sizeLine;decide,λr e=>?_⟩;have p:=cL e (.tup [.ref pj,.non]);refine k r _ (d.trans p) ⟨pj,.non,cC,?_,?_⟩
    .rw[p _ _ (d _ _ ep)];unfold eI;rw[wB o,wB ⟨T,I⟩]
    .unfold eI;rw[wB o,wB ⟨T,I⟩]
   .rw[fg I];refine fj ?_;have no: ¬(here∈L.c/\cE c here l=a):=λz=>I z.2
    have ed:eI c L here a l=(List.range L.us.length,some (gt (dR c L a) (cE c here l))):=by unfold eI;rw[wB o,wA no]
    refine⟨_,rfl,_,rfl,q,x,_,rfl,d _ _ y,(by kernel_rfl),_,rfl,_,rfl,q,th,en,m,c,L,a,cE c here l,rfl,SA.keeps d.keeps,d _ _ ht,G,o,nd,ok.p.len,(ok.p.inU M J).2,xp M (sj M hU hl),ext o no,λH3 Y=>⟨by show 2<=sizeLine;decide,λr e=>?_⟩⟩;have p:=cL e (.tup [.ref g0,nv (gt (dR c L a) (cE c here l))]);rw[ed]at k;exact k r _ ((d.trans Y).trans p) ⟨g0,_,cC,p _ _ ((d.trans Y) _ _ D),rfl⟩
  .refine⟨_,rfl,_,rfl,q,C,x,_,_,rfl,d _ _ y,u_LevelParts.cl,u_LevelParts.no,oj,t,_,rfl,pR (d _ _ t1) (d _ _ hh) T,_,rfl,fj (fj ?_)⟩
   .have no: ¬(here∈L.c/\cE c here l=a):=λz=>T z.1;have ed:eI c L here a l=(List.range L.us.length,some (gt (dR c L a) (cE c here l))):=by unfold eI;rw[wB o,wA no]
    refine⟨_,rfl,_,rfl,q,x,_,rfl,d _ _ y,(by kernel_rfl),_,rfl,_,rfl,q,th,en,m,c,L,a,cE c here l,rfl,SA.keeps d.keeps,d _ _ ht,G,o,nd,ok.p.len,(ok.p.inU M J).2,xp M (sj M hU hl),ext o no,λH3 Y=>⟨by show 2<=sizeLine;decide,λr e=>?_⟩⟩;have p:=cL e (.tup [.ref g0,nv (gt (dR c L a) (cE c here l))]);rw[ed]at k;exact k r _ ((d.trans Y).trans p) ⟨g0,_,cC,p _ _ ((d.trans Y) _ _ D),rfl⟩
 .refine⟨_,rfl,_,rfl,q,C,x,_,_,rfl,y,u_LevelParts.cl,u_LevelParts.no,oj,t,_,rfl,pR t1 ht o,_,rfl,fm ?_⟩;refine⟨_,rfl,by show 2<=sizeLine;decide,λr e=>?_⟩;have p:=cL e (.tup [.ref g0,.non]);refine k r _ p ⟨g0,.non,cC,?_,?_⟩
  .rw[p _ _ D];unfold eI;rw[wA o]
  .unfold eI;rw[wA o]
def HN{C:Ad}(F:Fun K "turned" "LevelParts.turned" yS f fd)(u_LevelParts:OwnC K C ["machine","group","tiles","turns","tile_count"])(J:dA P w K mg base "behind" 1 ["one","other"] wj):FnOk P w K mg base cZ 3 f fd ["self","deed","turning"] (Fo C):=by
 refine F.ok GF (λM H Q E h=>?_) (λN A n s H M Q E y h=>?_)
 .obtain⟨q,z,m,O,L,d,a,rfl,_⟩:=h;rfl
 obtain⟨q,z,m,O,L,d,a,rfl,⟨B,g,t,u,T,D,o,l,_⟩,⟨U,v,Y,d2,_⟩,G,lt,lz,mem,k⟩:=h;have hu:=y.units;obtain⟨b,c⟩: ∃b,T[a]? =some b:=⟨_,cA (by rw[l.len];exact G)⟩;have p:=l.is a b _ c (eV G);refine⟨_,(cS (dH (gb f' qv qk (u5 hu) (gX (pv 0) rfl) (cJ (dD J y.m rfl (de (cB (cX fS (gX (pv 0) rfl) (pv 2) (λ_ _=>rfl)) (cB (cX dz (pv 1) cV (λ_ _=>rfl)) c8 rfl) rfl))) cI)))),?_⟩;refine⟨_,rfl,q,C,B,_,_,rfl,D,u_LevelParts.cl,u_LevelParts.no,ss,.inl ⟨rfl,_,SqL.of o⟩,_,rfl,q,C,B,_,_,rfl,D,u_LevelParts.cl,u_LevelParts.no,ss,_,rfl,g,_,_,_,rfl,rfl,SqL.of o,gF (j:=a) (v:= .ref b) (by rw[cQ,c];rfl),_,rfl,z,_,_,_,rfl,rfl,SqT.of Y,rfl,b,U,_,_,rfl,p,d2,lt,lz,λr H2 x e2=>?_⟩;obtain⟨I,_⟩:=vL mem;refine⟨g,_,1,.tup (fX (dU (L.gs.getD a []) d.1)),L.gs.map λu=>Dt.tup (fX u),_,L.gs.idxOf (dU (L.gs.getD a []) d.1),rfl,rfl,SqL.of (x _ _ o),by rw[cz,cz,l.len],gu (SqT.of e2),qu (l.same x),by decide,eB.mpr (by rw[cA I];exact dL some (pM I)),λi hi e=>zc i hi (eB.mp e),?_⟩;exact k H2 x
def Ge{C:Ad}(F:Fun K "brought" "LevelParts.brought" BC f fd)(u_LevelParts:OwnC K C ["machine","group","tiles","turns","tile_count"]):FnOk P w K mg base cZ 1 f fd ["self","deed","turning","bringing"] (Co C):=by
 refine F.ok Lh (λy H Q E h=>?_) (λz A o s H y Q E B h=>?_)
 .obtain⟨q,n,m,D,L,d,a,b,rfl,_⟩:=h;rfl
 obtain⟨q,n,m,D,L,⟨T,G⟩,a,b,rfl,⟨I,g,t,u,J,M,N,r,_⟩,⟨U,v,p,Y,rfl⟩,x,mem,k⟩:=h;have hu:=B.units;obtain⟨c,e⟩: ∃c,J[a]? =some c:=⟨_,cA (by rw[r.len];exact x)⟩;have i:=r.is a c _ e (eV x);refine⟨_,(cN (ge (gq HF (cX dz (pv 1) cV (λ_ _=>rfl)) qr (fT _)) (cS (dH (pv 3))) gJ) (cS (dH (CS PySem.F.slot_tuple_index PySem.F.type_tuple_index FP (cX fS (gX (pv 0) rfl) (pv 2) (λ_ _=>rfl)) (cJ (cX dz (pv 1) cV (λ_ _=>rfl)) cI))))),?_⟩;cases G with
 |none=>
  exact⟨_,rfl,n,_,_,_,rfl,rfl,SqT.of p,rfl,rfl,_,rfl,fm ⟨_,rfl,k⟩⟩
 |some j=>
  refine⟨_,rfl,n,_,_,_,rfl,rfl,SqT.of p,rfl,rfl,_,rfl,fj ?_⟩;refine⟨_,rfl,q,C,I,_,_,rfl,M,u_LevelParts.cl,u_LevelParts.no,ss,_,rfl,g,_,_,_,rfl,rfl,SqL.of N,gF (j:=a) (v:= .ref c) (by rw[cQ,e];rfl),?_⟩;have O:(L.gs.getD a []).map nv=(zN (L.gs.getD a [])).map V.int:=by unfold zN;rw[List.map_map];rfl
  have l:=i;rw[O]at l;refine⟨⟨c,_,rfl,i⟩,_,rfl,n,_,_,_,rfl,rfl,SqT.of p,rfl,c,zN (L.gs.getD a []),_,rfl,rfl,SqT.of l,ku.mpr (mem j rfl),?_⟩;rw[BF];exact k
def IQ{C:Ad}(F:Fun K "pair_behind" "LevelParts.pair_behind" zq f fd)(u_LevelParts:OwnC K C ["machine","group","tiles","turns","tile_count"])(B:fL P w K mg base C "turned" 3 ["self","deed","turning"] (Fo C))(D:fL P w K mg base C "brought" 1 ["self","deed","turning","bringing"] (Co C)):FnOk P w K mg base cZ 5 f fd ["self","deed","pair"] (Ds C):=by
 refine F.ok KE (λG H Q E h=>?_) (λI A c s H G Q E o h=>?_)
 .obtain⟨q,e,b,m,i,L,d,p,rfl,_⟩:=h;rfl
 obtain⟨q,e,b,m,i,L,d,p,rfl,j,v,l,x,lt,J,mem,M,k⟩:=h;obtain⟨y,g,t,u,N,z,_⟩:=id j;refine⟨_,(cS (dH (iT (de (cB (ke (pv 0) u_LevelParts.cl B o.m (de (cB (pv 1) (cB (cX dz (pv 2) cV (λ_ _=>rfl)) c8 rfl) rfl))) (cB (ke (pv 0) u_LevelParts.cl D o.m (de (cB (pv 1) (cB (cX dz (pv 2) cV (λ_ _=>rfl)) (cB (cX dz (pv 2) cV (λ_ _=>rfl)) c8 rfl) rfl) rfl))) c8 rfl) rfl))))),?_⟩;refine⟨_,rfl,q,y,_,rfl,z,(by kernel_rfl),_,rfl,_,rfl,b,_,_,_,rfl,rfl,SqT.of l,rfl,q,e,m,i,L,d,p.1,rfl,j,v,x,lt,J,mem,λO a=>?_⟩;refine⟨_,rfl,q,y,_,rfl,a _ _ z,(by kernel_rfl),_,rfl,_,rfl,b,_,_,_,rfl,rfl,SqT.of (a _ _ l),rfl,_,rfl,b,_,_,_,rfl,rfl,SqT.of (a _ _ l),rfl,q,e,m,i,L,d,p.1,p.2,rfl,j.keeps a.keeps,v.same a,x,M,by show 2<=sizeLine;decide,λr n=>?_⟩;exact k r _ (a.trans (cL n _)) cC
def Dh(o CR:Ad):Sp:=λq H Q _=> ∃(p l m:Ad) (e:As) (b:LN) (n:Nat) (d:LN) (a:List Lv) (prs:List (Nat×Nat)) (lt k:Nat),q=[.ref p,.ref l,nv lt]/\RowAt o CR H p m b n a/\Mach H m b n/\RowOf b n d a/\H l=some (.lst (e.map .ref))/\PairsAt H e (prs.take k)/\prs.length=a.length/\k<=a.length/\(∀(i:Nat) (L:Lv) (p:Nat×Nat),a[i]? =some L->prs[i]? =some p->PairOk L p)/\lt<b.length/\
 ∀r h t g j c,Same H c->c r=some (.tup [.ref h,.ref t,.ref g])->c h=some (.tup ((hX b n a prs k).map nv))->c t=some (.tup ((iO b n a prs lt k).map nv))->c g=some (.lst (j.map .ref))->PairsAt c j (iJ b n a prs lt k)->Q (.ref r) c
def Ej(h CR:Ad):Sp:=λi H Q _=> ∃(p g m:Ad) (b:LN) (n:Nat) (d:LN) (c:List Lv) (a:cu) (lt:Nat),i=[.ref p,.ref g,nv lt]/\RowAt h CR H p m b n c/\Mach H m b n/\RowOf b n d c/\H g=some (.tup (a.map nv))/\RowIn c a/\lt<b.length/\
 ∀t e,Same H e->e t=some (.tup ((vS b n c a lt).map nv))->Q (.ref t) e
def Kl{D CR:Ad}(F:Fun K "walked" "Row.walked" Am f fd)(u_LevelParts:OwnC K D ["machine","group","tiles","turns","tile_count"])(u_Row:OwnC K CR ["rooms","steps"])(jW:fL P w K mg base D "deed_of" 5 ["self","here","there","letter"] (Cs D K))(jM:fL P w K mg base D "pair_behind" 5 ["self","deed","pair"] (Ds D))(jN:fL P w K mg base D "within" 1 ["self","here","pair"] (Ez D))(rH:mg "zip"=none):FnOk P w K mg base cZ 7 f fd ["self","pairs","letter"] (Dh D CR):=by
 refine F.ok jL (λvs H Q E h=>?_) (λao A aj s H vs Q E hr h=>?_)
 .obtain⟨p,l,m,as,c,n,aa,v,prs,lt,k,rfl,_⟩:=h;rfl
 obtain⟨p,l,m,as,c,n,aa,v,prs,lt,k,rfl,RA,M,R,el,PA,hl,kl,po,ll,q⟩:=h;have hu:=hr.units;obtain⟨dx,r,st,qs,h1,h2,h3,S⟩:=id RA;have lq:=S.len;have ap:=R.few;have la:as.length=k:=by rw[PA.len,fK];lia
 refine⟨_,(cN (dm (i:=3) jL.nd rfl (Or.inl rfl) (gX (pv 0) rfl)) (cN (dm (i:=4) jL.nd rfl (Or.inl rfl) (gX (pv 0) rfl)) (cN (dm (i:=5) jL.nd rfl (Or.inl rfl) (fM cI)) (cN (gK gk rfl (zi rfl rH (de (cB (gX (pv 0) rfl) (cB (pv 1) c8 rfl) rfl))) (mH rfl (gG (eQ (i:=6) jL.nd rfl (Or.inl rfl)) (gG (eQ (i:=7) jL.nd rfl (Or.inl rfl)) md))) (cN (dm (i:=8) jL.nd rfl (Or.inl rfl) (ke (pv 6) u_LevelParts.cl jM hr.m (de (cB (ke (pv 6) u_LevelParts.cl jW hr.m (de (cB (pv 3) (cB (pv 4) (cB (pv 2) c8 rfl) rfl) rfl))) (cB (pv 7) c8 rfl) rfl)))) (cN (dm (i:=3) jL.nd rfl (Or.inl rfl) (ke (pv 6) u_LevelParts.cl jN hr.m (de (cB (pv 3) (cB (pv 7) c8 rfl) rfl)))) (cN (dm (i:=4) jL.nd rfl (Or.inl rfl) (ke (pv 6) u_LevelParts.cl jN hr.m (de (cB (pv 4) (cB (pv 8) c8 rfl) rfl)))) (cS (hO (gb f' iN iA iM (pv 5) (cJ (pv 8) cI)))))))) (cS (dH (iT (de (cB (pv 3) (cB (pv 4) (cB (pv 5) c8 rfl) rfl) rfl))))))))),?_⟩;refine⟨_,rfl,p,CR,dx,_,_,rfl,h1,u_Row.cl,u_Row.no,ET,?_⟩;refine⟨_,rfl,p,CR,dx,_,_,rfl,h1,u_Row.cl,u_Row.no,ET,?_⟩;refine⟨by show 0<=sizeLine;decide,λT ab=>?_⟩;have U:=cL ab (.lst [])
 let Pv:Nat->L2.St->Hp->Prop:=λi σ Y=>Same H Y/\ ∃(h t:Ad) (N:As) (o6 o7 o8:Option V),Y h=some (.tup ((hX c n v prs i).map nv))/\Y t=some (.tup ((iO c n v prs lt i).map nv))/\Y T=some (.lst (N.map .ref))/\PairsAt Y N (iJ c n v prs lt i)/\σ=[some (.ref p),some (.ref l),some (nv lt),some (.ref h),some (.ref t),some (.ref T),o6,o7,o8]
 refine⟨_,rfl,p,CR,dx,_,_,rfl,U _ _ h1,u_Row.cl,u_Row.no,y4,_,rfl,st,l,_,_,rfl,SqL.of (U _ _ h3),SqL.of (U _ _ el),zL (xs:=qs.map .ref) (ys:=as.map .ref) Pv ⟨U,r,r,[],_,_,_,U _ _ h2,U _ _ h2,cC,⟨rfl,λi a p e=>by simp at e⟩,rfl⟩ (λi σ Y p=>⟨SqL.of (p.1 _ _ h3),SqL.of (p.1 _ _ el)⟩) (λi x y Tp σ H1 hx hy nT pv=>?_) (λσ H1 pv=>?_)⟩
 .obtain⟨g1,h,t,N,o6,o7,o8,eh,et,ef,d,rfl⟩:=pv;rw[cQ]at hx hy;obtain⟨b,eb,rfl⟩:=eC.mp hx;obtain⟨G,ae,rfl⟩:=eC.mp hy;have li:=(cK.mp eb).1;have lk:=(cK.mp ae).1;obtain⟨L,I⟩: ∃L,v[i]? =some L:=⟨_,cA (by lia)⟩;obtain⟨o,j⟩: ∃o,prs[i]? =some o:=⟨_,cA (by lia)⟩;have ok:=R.ok L (cW I);have J:=wX M R hl po ll i (by lia);have pk:=po i L o I j;obtain⟨n1,n2,n3,n4⟩:=x6 M R I pk ll J.hf J.hp J.tf J.s;have le:=d.len;rw[qc hl (by lia)]at le;have kT:=cL nT (.tup [.ref b,.ref G]);have eT:cw H1 Tp (.tup [.ref b,.ref G]) Tp=some (.tup [.ref b,.ref G]):=cC;generalize cw H1 Tp (.tup [.ref b,.ref G])=H2 at kT eT⊢;have g2:=g1.trans kT;have SA:=(S.is i b L eb I).keeps g2.keeps;obtain⟨z,g,tt,u,gr,s1,_⟩:=id SA;have af:H G=some (.tup [nv o.1,nv o.2]):=PA.is i G o ae (by rw[ui (by lia)];exact j);have pm:=ok.pm M R.ff (cW (eV pk.g));have gl:(L.gs.getD o.1 []).length=L.us.length:=by rw[pm.length_eq,iY]
  have few:=(ok.p.inU M R.ff).2;refine⟨Tp,_,rfl,SqT.of eT,rfl,_,_,rfl,_,_,rfl,rfl,?_⟩;refine⟨_,rfl,b,z,_,rfl,s1,(by kernel_rfl),_,rfl,b,z,_,rfl,s1,(by kernel_rfl),_,rfl,_,rfl,_,rfl,b,h,t,m,c,n,aa,L,_,_,lt,rfl,SA,M.same g2,R.ff,ok,kT _ _ eh,kT _ _ et,J.hf,ll,λct no=>AC M R I ll J.hf J.hp J.s ct no,λda H3 B DA=>?_⟩;have g3:=kT.trans B;have ak:=g1.trans g3;have ag:=SA.keeps B.keeps;have dl: ∀x∈L.gs.getD o.1 [],x<(eI c L (hX c n v prs i) (iO c n v prs lt i) lt).1.length:=λx hx=>by
   have xl:x<L.us.length:=fq.mp (pm.mem_iff.mp hx);have ed:(eI c L (hX c n v prs i) (iO c n v prs lt i) lt).1.length=L.us.length:=by
    unfold eI;split
    .split
     .show(eW _ _ _ _).length=_;unfold eW;rw[cz,nW]
     .exact iY
    .exact iY
   rw[ed];exact xl
  refine⟨_,rfl,b,da,G,m,c,L,_,o,rfl,ag,DA,ak _ _ af,pk.g,dl,by lia,n3,n4,λen H4 C e4=>?_⟩;have g4:=g3.trans C;have ah:=g1.trans g4;have ai:=ag.keeps C.keeps;refine⟨_,rfl,b,z,_,rfl,(B.trans C) _ _ s1,(by kernel_rfl),_,rfl,_,rfl,b,h,G,m,c,L,_,o,rfl,ai,g4 _ _ eh,ah _ _ af,ok.wok M R.ff pk,λh' al=>?_⟩;refine⟨_,rfl,b,z,_,rfl,(B.trans C) _ _ s1,(by kernel_rfl),_,rfl,_,rfl,b,t,en,m,c,L,_,_,rfl,ai,g4 _ _ et,e4,ok.wok M R.ff n1,λt' am=>?_⟩;have O:=g4 _ _ ef;refine⟨_,rfl,.inl ⟨rfl,_,SqL.of O⟩,_,rfl,T,_,_,rfl,rfl,O,by rw[cz,dC];lia,?_⟩;have lo:kh H4 (cw H4 T (.lst (N.map V.ref++[.ref en]))):=Stays.offL O;refine⟨fQ ah ab,h',t',N++[en],_,_,_,?_,?_,by rw[cC,eE];rfl,?_,rfl⟩
  .rw[Aa I j];exact lo.a al
  .rw[AL I j];exact lo.a am
  .rw[A0 I j];exact((d.st (nB g4)).st lo).snoc (lo.a e4)
 .obtain⟨g1,h,t,N,o6,o7,o8,eh,et,ef,d,rfl⟩:=pv;have lm:min (qs.map V.ref).length (as.map V.ref).length=k:=by rw[cz,cz,lq,la];lia
  rw[lm]at eh et d;refine⟨_,rfl,_,rfl,_,rfl,by show 3<=sizeLine;decide,λrr an=>?_⟩;have kr:=cL an (.tup [.ref h,.ref t,.ref T]);exact q rr h t T N _ (g1.trans kr) cC (kr _ _ eh) (kr _ _ et) (kr _ _ ef) (d.st (nB kr))
def JF{d CR:Ad}(F:Fun K "moved" "Row.moved" Aj f fd)(u_Row:OwnC K CR ["rooms","steps"])(C:fL P w K mg base CR "paired" 3 ["self","row"] (B6 d CR))(D:fL P w K mg base CR "walked" 7 ["self","pairs","letter"] (Dh d CR))(G:fL P w K mg base CR "unpaired" 3 ["self","pairs"] (CA d CR)):FnOk P w K mg base cZ 9 f fd ["self","row","letter"] (Ej d CR):=by
 refine F.ok KI (λI H Q E h=>?_) (λJ A j s H I Q E k h=>?_)
 .obtain⟨p,y,m,e,n,c,b,a,lt,rfl,_⟩:=h;rfl
 obtain⟨p,y,m,e,n,c,b,a,lt,rfl,g,M,R,o,z,L,q⟩:=h;obtain⟨u,r,st,qs,v,_⟩:=id g;have x:(gS b a).length=b.length:=mF (cM _);refine⟨_,(cS (dH (ke (pv 0) u_Row.cl G k.m (cJ (cX dz (ke (pv 0) u_Row.cl D k.m (de (cB (ke (pv 0) u_Row.cl C k.m (cJ (pv 1) cI)) (cB (pv 2) c8 rfl) rfl))) cV (λ_ _=>rfl)) cI)))),?_⟩;refine⟨_,rfl,p,u,_,rfl,v,(by kernel_rfl),_,rfl,p,u,_,rfl,v,(by kernel_rfl),_,rfl,p,u,_,rfl,v,(by kernel_rfl),_,rfl,p,y,m,e,n,b,a,rfl,g,R.few,o,z.len,λl N H1 i nl O PA=>?_⟩;refine⟨_,rfl,p,l,m,N,e,n,c,b,gS b a,lt,b.length,rfl,g.keeps i.keeps,M.same i,R,O,by rw[<-x,gj];exact PA,x,cM _,z.po M R,L,λT h t U Y H2 B er eh et ef PE=>?_⟩;refine⟨T,_,_,_,rfl,rfl,SqT.of er,rfl,p,U,m,Y,e,n,b,_,rfl,g.keeps (i.trans B).keeps,R.few,ef,PE,qc x (cM _),λtt H3 g3 e3=>?_⟩;exact q tt H3 ((i.trans B).trans g3) e3
def Dq(K:W.Frag):Sp:=λc H Q _=> ∃(m p:Ad) (b:LN) (n l:Nat) (a:cu),c=[.ref m,.ref p,nv l]/\Mach H m b n/\H p=some (.tup (a.map nv))/\a∈dW n/\l<b.length/\rm H ((cE b a l).map nv) Q
def Ik(F:Fun K "_law_carried" "_law_carried" vA f fd)(B:mg "tuple"=none)(C:mg "sorted"=none)(D:mg "set"=none):FnOk P w K mg base cZ 1 f fd ["_law_machine_here","_law_rooms","_law_letter"] (Dq K):=by
 refine F.ok F8 (λG H Q E h=>?_) (λI A g s H G Q E hr h=>?_)
 .obtain⟨m,p,d,n,l,c,rfl,_⟩:=h;rfl
 obtain⟨m,p,d,n,l,c,rfl,M,k,J,u,q⟩:=h;refine⟨_,(cS (dH (gY mo rfl B jr (cJ (eZ (DL rfl) rfl C wc (cJ (gY (Cj rfl) rfl D PyProof.Rows.boot_set (cJ (gI (CompSc.to (N:=["_law_machine_here","_law_rooms","_law_letter"]) (osc:=cU vA) (vs:=["_law_room"]) {}) rfl rfl (pK (pv 1)) (λ_ _ _ _=>iu) (λ_ _ _ _=>(cX (IxR.k (K:=K) ux dz rfl) (cX (IxR.k (K:=K) ux dz rfl) (pv 1) (pv 3) (λ_ _=>rfl)) (pv 0) (λ_ _=>rfl)))) cI)) cI)) cI)))),?_⟩;have n5:=M.n5;obtain⟨L,y⟩:=cD.mp J;obtain⟨rs,O,T,k2,U,k4,Y,k6⟩:=M.at u;refine⟨_,rfl,p,rfl,⟨_,SqT.of k⟩,uj (f:=λv=>match v with| .int i=>nv (eG d i.toNat [l])|v=>v) (by rw[cz,<-L];exact small (by have:=FJ c;lia)) (SqT.of k) (λv Q hv q=>?_) (λa ha=>?_)⟩
 .obtain⟨r,j,rfl⟩:=c7.mp hv;exact⟨_,rfl,_,rfl,m,_,_,_,rfl,rfl,SqT.of T,U,_,rfl,O,_,_,_,rfl,rfl,SqT.of k4,lY (by rw[Y];exact y r j),q⟩
 .have e:(c.map nv).map (λv=>match v with| .int i=>nv (eG d i.toNat [l])|v=>v)=(kv d c [l]).map nv:=by
   unfold kv;rw[hZ,hZ];rfl
  try dsimp only
  rw[e];have g1:=cL ha (.lst ((kv d c [l]).map nv));refine⟨a,_,rfl,SqL.of cC,λx hx=>?_,λb hb=>⟨b,_,rfl,cC,λo ho=>?_⟩⟩
  .obtain⟨r,j,rfl⟩:=c7.mp hx;have:=lK M [l] r (y r j) λz hz=>by rw[dj.mp hz];exact u
   lia
  .try dsimp only
   rw[yR];exact⟨o,_,rfl,.inl ⟨SqL.of cC,λt ht=>q t _ (g1.trans ((cL hb _).trans ((cL ho _).trans (cL ht _)))) cC⟩⟩
def SqL.keeps{K:W.Frag}{H b:Hp}{a:Ad}{xs:List V}(h:SqL K H a xs)(g:Keeps H b):SqL K b a xs:=by
 rcases h with(h|⟨o,h⟩)|h
 .exact .inl (.inl (g _ _ (nU h)))
 .exact .inl (.inr ⟨o,g _ _ (nU h)⟩)
 .exact .inr h
def Ib{a:LN}{f:cu->Bool}(h:true∈a.map f):((List.range a.length).filter λj=>f (a.getD j []))[0]? =some ((a.map f).idxOf true):=by
 have d:(a.map f).idxOf true<(a.map f).length:=pQ.mpr h;have e:(a.map f).idxOf true<a.length:=by rw[cz]at d;exact d
 rw[<-List.head?_eq_getElem?,List.head?_filter,List.find?_range_eq_some];have b: ∀{j:Nat} (c:j<a.length),f (a.getD j [])=(a.map f)[j]'(by rw[cz];exact c):=λ{j} c=>by rw[dY,cA c,oA];rfl
 refine⟨by rw[b e];exact pM d,fq.mpr e,λj c=>?_⟩;have y:=zH (p:=(· ==true)) (xs:=a.map f) (i:=j) c;rw[b (by lia)]
 revert y
 cases(a.map f)[j]'(by rw[cz];lia)with
 |true=>intro y;cases y
 |false=>intro _;rfl
def xH(K:W.Frag):Sp:=λc H Q _=> ∃(a:Ad) (b:Zs),c=[.ref a]/\SqL K H a (b.map V.int)/\b.length<=63/\Tabs H/\ ∀d,Q (.bl true) d
def Fn:Sp:=λe H Q _=> ∃(q d h m:Ad) (a:LN) (n:Nat) (b:LN) (L:Lv) (here:cu) (p:Nat×Nat) (l:Nat),e=[.ref q,.ref d,.ref h,nv l]/\PlanAt H q m a L/\Mach H m a n/\FamOf a n b/\LvOk a b L/\H d=some (.tup [nv p.1,nv p.2])/\H h=some (.tup (here.map nv))/\PairOk L p/\here∈L.c/\cE a here l∈L.c/\l<a.length/\
 ∀t c,Same H c->c t=some (.tup [nv (L.gs.idxOf (dU (L.gs.getD p.1 []) (eW a L here l))),nv p.2])->Q (.ref t) c
def Fp:Sp:=λi H Q _=> ∃(q h t e m:Ad) (b:LN) (n:Nat) (c:LN) (L:Lv) (a d:cu) (p:Nat×Nat),i=[.ref q,.ref h,.ref t,.ref e]/\PlanAt H q m b L/\Mach H m b n/\FamOf b n c/\LvOk b c L/\H h=some (.tup [nv p.1,nv p.2])/\H t=some (.tup (a.map nv))/\H e=some (.tup (d.map nv))/\d.length<=5/\PairOk L p/\a∈L.c/\(∃t∈dR b L a,sub d t=true)/\
 ∀t g,Same H g->g t=some (.tup [nv p.1,nv ((L.gs.getD p.1 []).idxOf (gt (dR b L a) d))])->Q (.ref t) g
def El:Sp:=λj H Q _=> ∃(g h m:Ad) (i:As) (b:LN) (n:Nat) (d:LN) (c:List Lv) (a:cu) (l:Nat),j=[.ref m,.ref g,.ref h,nv l]/\H g=some (.lst (i.map .ref))/\PlansAt H i m b c/\Mach H m b n/\RowOf b n d c/\H h=some (.tup (a.map nv))/\RowIn c a/\l<b.length/\
 ∀t e,Same H e->e t=some (.tup ((vS b n c a l).map nv))->Q (.ref t) e
def IP(F:Fun K "_law_turned" "_law_turned" vw f fd)(jG:dA P w K mg base "tiles_turned" 9 ["machine","level","k","letter"] xI)(jC:mg "tuple"=none):FnOk P w K mg base cZ 11 f fd ["_law_step","_law_pair","_law_here","_law_letter"] Fn:=by
 refine F.ok kO (λvs H Q E h=>?_) (λak A I s H vs Q E hr h=>?_)
 .obtain⟨q,J,h,m,a,n,t,L,here,p,l,rfl,_⟩:=h;rfl
 obtain⟨q,J,h,m,a,n,t,L,here,p,l,rfl,PA,M,o,ok,hp,hh,po,O,C,hl,k⟩:=h;have hu:=hr.units;obtain⟨d,g,ml,lv,gr,T,s2,U,D,s5,s6⟩:=id PA;obtain⟨s',t',v',bs,ds,cs,h1,h2,Y,h4,h5,h6,h7,h8⟩:=id s6;have nd:=ok.p.nd o;refine⟨_,(cN (uS (cX dz (pv 0) cV (λ_ _=>rfl)) (KP rfl (gG (eQ (i:=4) kO.nd rfl (Or.inl rfl)) (gG (eQ (i:=5) kO.nd rfl (Or.inl rfl)) md)))) (cN (dm (i:=6) kO.nd rfl (Or.inr rfl) (dD jG hr.m rfl (de (cB (pv 4) (cB (pv 5) (cB (gb f' qv qk (u5 hu) (cX dz (pv 5) cV (λ_ _=>rfl)) (cJ (pv 2) cI)) (cB (pv 3) c8 rfl) rfl) rfl) rfl)))) (cN (dm (i:=7) kO.nd rfl (Or.inl rfl) (gY mo rfl jC jr (cJ (gI (CompSc.to (N:=["_law_step","_law_pair","_law_here","_law_letter","_law_machine_here","_law_level","_law_turn_here","_law_new"]) (osc:=cU vw) (vs:=["_law_place"]) {}) rfl rfl (pK (cX fS (cX dz (pv 0) cV (λ_ _=>rfl)) (cX dz (pv 1) cV (λ_ _=>rfl)) (λ_ _=>rfl))) (λ_ _ _ _=>iu) (λ_ _ _ _=>(cX (IxR.k (K:=K) ux dz rfl) (pv 7) (pv 0) (λ_ _=>rfl)))) cI))) (cS (dH (iT (de (cB (gb f' qv qk (u5 hu) (cX dz (pv 0) cV (λ_ _=>rfl)) (cJ (pv 7) cI)) (cB (cX dz (pv 1) cV (λ_ _=>rfl)) c8 rfl) rfl)))))))),?_⟩;obtain⟨lh,eh⟩:=gO O;obtain⟨lt,et⟩:=gO C;have w1:=eV (show dG L.c here<L.wds.length by rw[ok.p.len];exact lh);have w2:=eV (show dG L.c (cE a here l)<L.wds.length by rw[ok.p.len];exact lt);have ix:L.c.idxOf here=dG L.c here:=((rc nd (by rw[cA (pQ.mpr O)];exact dL some (pM _))).symm);refine⟨_,rfl,q,_,_,_,rfl,rfl,SqT.of T,rfl,ml,_,_,rfl,SqL.of s5,_,_,rfl,_,_,rfl,rfl,?_⟩;obtain⟨ib,al⟩: ∃ib,bs[dG L.c here]? =some ib:=⟨_,cA (by rw[Y.len];exact lh)⟩;refine⟨_,rfl,_,rfl,_,rfl,lv,_,_,_,rfl,rfl,SqT.of h1,rfl,.inl ⟨rfl,_,SqL.of h2⟩,_,rfl,s',_,1,.tup (fX here),L.c.map λu=>Dt.tup (fX u),_,dG L.c here,rfl,rfl,SqL.of h2,by rw[cz,cz,Y.len],gu (SqT.of hh),qu Y,by decide,eB.mpr eh,λi G e=>?_,?_⟩
 .rw[<-ix]at G;exact zc i G (eB.mp e)
 refine⟨_,rfl,m,lv,dG L.c here,l,a,n,t,L.c,L.us,L.wds,here,_,rfl,M,o,s6,ok.p,eh,w1,hl,λno H2 b=>wC C no,λk' aa ek ew tp js H2 b ab tb=>?_⟩;have ae:k'=dG L.c (cE a here l):=(rc nd ek).symm;subst ae;have af:aa=L.wds.getD (dG L.c (cE a here l)) []:=by rw[dY,ew];rfl
 subst af;have ej:=ok.trn_eq M o C tb;subst ej;obtain⟨y,z⟩: ∃y,gr[p.1]? =some y:=⟨_,cA (by rw[D.len];exact po.g)⟩;have B:=D.is p.1 y _ z (eV po.g);have pm:=ok.pm M o (cW (eV po.g));have gl:(L.gs.getD p.1 []).length=L.us.length:=by rw[pm.length_eq,iY]
 have ag:(eW a L here l).length=L.us.length:=by unfold eW;rw[List.length_map,nW]
 have few:=(ok.p.inU M o).2;refine⟨_,rfl,q,_,_,_,rfl,rfl,SqT.of (b _ _ T),rfl,_,rfl,J,_,_,_,rfl,rfl,SqT.of (b _ _ hp),rfl,g,_,_,_,rfl,rfl,SqL.of (b _ _ U),gF (j:=p.1) (v:= .ref y) (by rw[cQ,z];rfl),y,rfl,⟨_,SqT.of (b _ _ B)⟩,?_⟩;refine uj (f:=λv=>match v with| .int i=>nv ((eW a L here l).getD i.toNat 0)|v=>v) (by rw[cz];exact small (by lia)) (SqT.of (b _ _ B)) (λv Q hv q=>?_) (λr ah=>?_)
 .obtain⟨x,hx,rfl⟩:=c7.mp hv;exact⟨_,rfl,_,rfl,tp,_,_,_,rfl,rfl,SqT.of ab,lY (by rw[ag];exact fq.mp (pm.mem_iff.mp hx)),q⟩
 have em:((L.gs.getD p.1 []).map nv).map (λv=>match v with| .int i=>nv ((eW a L here l).getD i.toNat 0)|v=>v)=(dU (L.gs.getD p.1 []) (eW a L here l)).map nv:=by
  unfold dU;rw[hZ,hZ];rfl
 rw[em];have k1:=cL ah (.lst ((dU (L.gs.getD p.1 []) (eW a L here l)).map nv));refine⟨r,_,rfl,.inl ⟨SqL.of cC,λr2 ai=>?_⟩⟩;have k2:=cL ai (.tup ((dU (L.gs.getD p.1 []) (eW a L here l)).map nv));have c:=(b.trans k1).trans k2;have e4:cw (cw H2 r (.lst ((dU (L.gs.getD p.1 []) (eW a L here l)).map nv))) r2 (.tup ((dU (L.gs.getD p.1 []) (eW a L here l)).map nv)) r2=some (.tup ((dU (L.gs.getD p.1 []) (eW a L here l)).map nv)):=cC;generalize cw (cw H2 r (.lst ((dU (L.gs.getD p.1 []) (eW a L here l)).map nv))) r2 (.tup ((dU (L.gs.getD p.1 []) (eW a L here l)).map nv))=H4 at c e4⊢;have mem:=ok.trn_gs M o hl O C (cW (eV po.g));obtain⟨l1,_⟩:=vL mem;refine⟨_,rfl,q,_,_,_,rfl,rfl,SqT.of (c _ _ T),rfl,.inl ⟨rfl,_,SqL.of (c _ _ U)⟩,_,rfl,g,_,1,.tup (fX (dU (L.gs.getD p.1 []) (eW a L here l))),L.gs.map λu=>Dt.tup (fX u),_,L.gs.idxOf (dU (L.gs.getD p.1 []) (eW a L here l)),rfl,rfl,SqL.of (c _ _ U),by rw[cz,cz,D.len],gu (SqT.of e4),qu (D.same c),by decide,eB.mpr (by rw[cA l1];exact dL some (pM l1)),λi G e=>zc i G (eB.mp e),?_⟩;refine⟨_,rfl,J,_,_,_,rfl,rfl,SqT.of (c _ _ hp),rfl,by show 2<=sizeLine;decide,λr3 aj=>?_⟩;exact k r3 _ (c.trans (cL aj _)) cC
def Lm(F:Fun K "_law_brought" "_law_brought" vf f fd)(jI:mg "enumerate"=none):FnOk P w K mg base cZ 1 f fd ["_law_step","_law_pair","_law_there","_law_goes"] Fp:=by
 refine F.ok rF (λvs H Q E h=>?_) (λap A ag s H vs Q E hr h=>?_)
 .obtain⟨q,pa,t,e,m,y,n,ah,L,b,o,p,rfl,_⟩:=h;rfl
 obtain⟨q,pa,th,ea,m,y,n,ah,L,b,o,p,rfl,PA,M,ff,ok,hp,ht,he,aq,po,ct,ext,k⟩:=h;have hu:=hr.units;have ai:=hR hr;obtain⟨t,g,ml,lv,gr,s1,⟨aj,t1,t2,t3⟩,s3,s4,s5,s6⟩:=id PA;have nd:=ok.p.nd ff;have few:=(ok.p.inU M ff).2;obtain⟨l1,ei⟩:=gO ct;obtain⟨a,J⟩: ∃a,aj[dG L.c b]? =some a:=⟨_,cA (by lia)⟩;have dg:=m7 nd t1 ht ei J;have ew:L.wds[dG L.c b]? =some (L.wds.getD (dG L.c b) []):=eV (by rw[ok.p.len];exact l1);obtain⟨O,e1,e2⟩:=t3 _ _ _ ew J;have lt:(dR y L b).length=L.us.length:=nW;have U:O.length=L.us.length:=by rw[e2.len];exact lt
 refine⟨_,(cN (Mi (CompSc1.to (N:=["_law_step","_law_pair","_law_there","_law_goes","_law_fit"]) (osc:=cU vf) (vs:=["_law_j","_law_one"]) (x:="_law_one") ⟨rfl,by decide+kernel,by decide+kernel,by decide+kernel,by decide+kernel,by decide+kernel,by decide+kernel,by decide+kernel⟩) rfl rF.nd (j:=4) rfl rfl (x4 rfl jI (cJ (lF ai (cX dz (pv 0) cV (λ_ _=>rfl)) (pv 2) (λ_ _=>rfl)) cI)) (JM (CompSc1.to (N:=["_law_step","_law_pair","_law_there","_law_goes","_law_fit"]) (osc:=cU vf) (vs:=["_law_j","_law_one"]) (x:="_law_one") ⟨rfl,by decide+kernel,by decide+kernel,by decide+kernel,by decide+kernel,by decide+kernel,by decide+kernel,by decide+kernel⟩) rfl rfl) (λ_ _ _ _=>oo (gq (OpR.k (K:=K) (λK=>ow K false) (tz hu) rfl) (gI (CompSc.toN (N:=["_law_j","_law_one","_law_step","_law_pair","_law_there","_law_goes","_law_fit"]) (vs:=["_law_room"]) rfl rfl (by decide+kernel) (by decide+kernel) (by decide+kernel) (by decide+kernel) (by decide+kernel) (by kernel_rfl)) rfl rfl (Gq (K:=K) (pv 5) rfl) (λ_ _ _ _=>oo (gq (OpR.k (K:=K) (λK=>vq K true) HW rfl) (pv 0) (pv 2) (by with_unfolding_all rfl))) (λ_ _ _ _=>(pv 0))) (fM cI) (fT _))) (λ_ _ _ _=>(pv 0))) (cS (dH (iT (de (cB (cX dz (pv 1) cV (λ_ _=>rfl)) (cB (CS PySem.F.slot_tuple_index PySem.F.type_tuple_index FP (cX fS (cX dz (pv 0) cV (λ_ _=>rfl)) (cX dz (pv 1) cV (λ_ _=>rfl)) (λ_ _=>rfl)) (cJ (cX fS (pv 4) cV (λ_ _=>rfl)) cI)) c8 rfl) rfl)))))),?_⟩;refine⟨_,rfl,q,_,_,_,rfl,rfl,SqT.of s1,rfl,_,rfl,t,_,rfl,dg,a,_,rfl,SqL.of e1,JR (xs:=O.map .ref) (λj ys H'=>Same H H'/\ys=((List.range j).filter λj=>sub o ((dR y L b).getD j [])).map nv) (by rw[cz];exact small (by lia)) ⟨Same.refl _,rfl⟩ (λj ys H' _ p=>?_) (λj T v ys Y hv nT p=>?_) (λys Y p sg ak=>?_)⟩
 .obtain⟨B,rfl⟩:=p;refine⟨SqL.of (B _ _ e1),?_⟩;rw[cz];exact dE (gZ _ _) (nH iY)
 .obtain⟨B,rfl⟩:=p;rw[cQ]at hv;obtain⟨d,ed,rfl⟩:=eC.mp hv;obtain⟨u,eu⟩: ∃u,(dR y L b)[j]? =some u:=⟨_,cA (by rw[lt,<-U];exact(cK.mp ed).1)⟩;have hd:=B _ _ (e2.is j d u ed eu);have kT:=cL nT (.tup [.int (j:Nat),.ref d]);have eT:cw Y T (.tup [.int (j:Nat),.ref d]) T=some (.tup [.int (j:Nat),.ref d]):=cC;generalize cw Y T (.tup [.int (j:Nat),.ref d])=H3 at kT eT⊢;have al:(dR y L b).getD j []=u:=by rw[dY,eu];rfl
  have e5:o.length<=sizeLine:=small (by lia);refine⟨T,_,rfl,SqT.of eT,rfl,_,_,rfl,_,_,rfl,rfl,FQ,_,rfl,ea,rfl,⟨_,SqT.of (kT _ _ (B _ _ he))⟩,E9 (f:=λv=>match v with| .int i=> !u.contains i.toNat|_=>false) (by rw[cz];exact e5) (SqT.of (kT _ _ (B _ _ he))) (λv Q hv q=>?_) (λv Q hv q=>⟨_,rfl,q⟩) (λl hl=>?_)⟩
  .obtain⟨r,h1,rfl⟩:=c7.mp hv;refine⟨_,rfl,_,rfl,d,_,rfl,.inr (SqT.of (kT _ _ hd)),rfl,EJ _,_,rfl,?_⟩;try dsimp only
   rw[DP];exact q
  .have e:(o.map nv).filter (λv=>match v with| .int i=> !u.contains i.toNat|_=>false)=(o.filter λr=> !u.contains r).map nv:=by
    rw[List.filter_map];rfl
   try dsimp only
   rw[e];refine⟨by show 0<=sizeLine;decide,λl2 am=>?_⟩;have k2:=cL am (.lst []);refine⟨l,l2,0,_,_,rfl,rfl,vP (SqL.of (k2 _ _ cC)),vP (is:=[]) (SqL.of cC),by decide,λc hc=>?_⟩;have e2:c=sub o u:=by
    rw[iZ,hc,cR];constructor
    .intro z r D;have z2:o.filter (λr=> !u.contains r)=[]:=i9.mp z;cases c2:u.contains r with
     |true=>exact fY.mp c2
     |false=>
      have m:r∈o.filter (λr=> !u.contains r):=dJ.mpr ⟨D,by rw[c2];rfl⟩;rw[z2]at m;cases m
    .intro z;refine i9.mpr ?_;rw[y7];intro r D z2;rw[fY.mpr (z r D)]at z2;cases z2
   have g4:=(B.trans kT).trans ((cL hl (.lst ((o.filter λr=> !u.contains r).map nv))).trans k2);rw[show(if false=true then !c else c)=sub o u from e2];try dsimp only
   rw[List.range_succ,oC,eE];have fs:[j].filter (λj=>sub o ((dR y L b).getD j []))=if sub o u=true then[j]else[]:=by
    rw[List.filter_cons,al];rfl
   rw[fs];refine⟨_,rfl,ju (λG=>?_) (λG=>?_)⟩
   .have G:sub o u=true:=G;rw[wB G];exact⟨_,rfl,g4,rfl⟩
   .have G: ¬sub o u=true:=G;rw[wA G];exact⟨g4,(gV _).symm⟩
 .obtain⟨B,rfl⟩:=p;obtain⟨m1,m2,m3⟩:=BQ ext;have ks:=cL ak (.lst (((List.range (O.map V.ref).length).filter λj=>sub o ((dR y L b).getD j [])).map nv));have aa:cw Y sg (.lst (((List.range (O.map V.ref).length).filter λj=>sub o ((dR y L b).getD j [])).map nv)) sg=some (.lst (((List.range (dR y L b).length).filter λj=>sub o ((dR y L b).getD j [])).map nv)):=by rw[cC,cz,U,lt]
  have C:=B.trans ks;generalize cw Y sg (.lst (((List.range (O.map V.ref).length).filter λj=>sub o ((dR y L b).getD j [])).map nv))=H3 at ks aa C⊢;have an:=Ib (f:=sub o) m1;rw[nW]at m2;obtain⟨I,ab⟩: ∃I,gr[p.1]? =some I:=⟨_,cA (by rw[s4.len];exact po.g)⟩;have ae:=s4.is p.1 I _ ab (eV po.g);have hz:(L.gs.getD p.1 []).map nv=(zN (L.gs.getD p.1 [])).map V.int:=by unfold zN;rw[List.map_map];rfl
  have af:=ae;rw[hz]at af;have pm:=ok.pm M ff (cW (eV po.g));have mj:gt (dR y L b) o∈L.gs.getD p.1 []:=pm.mem_iff.mpr (fq.mpr m2);refine⟨_,rfl,pa,_,_,_,rfl,rfl,SqT.of (C _ _ hp),rfl,_,rfl,q,_,_,_,rfl,rfl,SqT.of (C _ _ s1),rfl,_,rfl,pa,_,_,_,rfl,rfl,SqT.of (C _ _ hp),rfl,g,_,_,_,rfl,rfl,SqL.of (C _ _ s3),gF (j:=p.1) (v:= .ref I) (by rw[cQ,ab];rfl),⟨I,_,rfl,C _ _ ae⟩,_,rfl,sg,_,_,_,rfl,rfl,SqL.of aa,(gF (j:=0) (v:=nv (gt (dR y L b) o)) (by rw[cQ,an];rfl):iX _ ((0:Nat):Int)=_),I,zN (L.gs.getD p.1 []),_,rfl,rfl,SqT.of (C _ _ af),ku.mpr mj,?_⟩;rw[BF];refine⟨by show 2<=sizeLine;decide,λr3 ao=>?_⟩;exact k r3 _ (C.trans (cL ao _)) cC
def Gm(F:Fun K "_law_moved" "_law_moved" Bj f fd)(qT:dA P w K mg base "_law_pairs" 1 ["_law_plan_here","_law_row_here"] DK)(kR:dA P w K mg base "_law_below" 1 ["_law_step","_law_here","_law_pair"] Fg)(kZ:dA P w K mg base "_law_carried" 1 ["_law_machine_here","_law_rooms","_law_letter"] (Dq K))(qE:dA P w K mg base "_law_turned" 11 ["_law_step","_law_pair","_law_here","_law_letter"] Fn)(qA:dA P w K mg base "_law_brought" 1 ["_law_step","_law_pair","_law_there","_law_goes"] Fp)(rH:mg "zip"=none)(jC:mg "tuple"=none)(jD:mg "range"=none)(jB:mg "len"=none):FnOk P w K mg base cZ 13 f fd ["_law_machine_here","_law_plan_here","_law_row_here","_law_letter"] El:=by
 refine F.ok jJ (λvs H Q E h=>?_) (λa6 A aO s H vs Q E hr h=>?_)
 .obtain⟨pl,ra,m,as,k,n,ah,u,v,l,rfl,_⟩:=h;rfl
 obtain⟨pl,ra,m,aq,k,n,ah,u,v,lt,rfl,ar,S,M,R,aP,ri,ll,q⟩:=h;have hu:=hr.units;have au:=hR hr;have lq:=S.len;have a7:=R.few;have po:=ri.po M R;have hl:(gS u v).length=u.length:=mF (cM _);obtain⟨rs,r0,hm,a8,aQ,aR,aS,_⟩:=M.at (l:=0) M.some1;have n5:=M.n5;refine⟨_,(cN (dm (i:=4) jJ.nd rfl (Or.inl rfl) (gY (BS rfl) rfl jC jr (cJ (gY zx rfl jD boot_range (cJ (eZ fZ rfl jB fV (cJ (cX dz (pv 0) cV (λ_ _=>rfl)) cI)) cI)) cI))) (cN (dm (i:=5) jJ.nd rfl (Or.inl rfl) (pv 4)) (cN (dm (i:=6) jJ.nd rfl (Or.inl rfl) (fM cI)) (cN (gK gk rfl (zi rfl rH (de (cB (pv 1) (cB (dD qT hr.m rfl (de (cB (pv 1) (cB (pv 2) c8 rfl) rfl))) c8 rfl) rfl))) (mH rfl (gG (eQ (i:=7) jJ.nd rfl (Or.inl rfl)) (gG (eQ (i:=8) jJ.nd rfl (Or.inl rfl)) md))) (cN (dm (i:=9) jJ.nd rfl (Or.inl rfl) (dD kZ hr.m rfl (de (cB (pv 0) (cB (pv 4) (cB (pv 3) c8 rfl) rfl) rfl)))) (cN (dm (i:=10) jJ.nd rfl (Or.inl rfl) (pv 8)) (cN (px (ge (PW.pt (pi (lP (pH au (pv 5) (cX dz (pv 7) cV (λ_ _=>rfl)))) (pi (lP (pH au (pv 4) (cX dz (pv 7) cV (λ_ _=>rfl)))) (pV (gq (tz hu) (pv 9) (pv 5) (fT _)))))) (cS (dm (i:=10) jJ.nd rfl (Or.inl rfl) (dD qE hr.m rfl (de (cB (pv 7) (cB (pv 8) (cB (pv 4) (cB (pv 3) c8 rfl) rfl) rfl) rfl))))) (cS (ge (lP (pH au (pv 5) (cX dz (pv 7) cV (λ_ _=>rfl)))) (cS (dm (i:=10) jJ.nd rfl (Or.inl rfl) (dD qA hr.m rfl (de (cB (pv 7) (cB (pv 8) (cB (pv 5) (cB (pv 9) c8 rfl) rfl) rfl) rfl))))) gJ)))) (cN (px (ge (gq qi (eZ fZ rfl jB fV (cJ (cX dz (pv 7) cV (λ_ _=>rfl)) cI)) cV (fT _)) (cS (hO (gb f' iN iA iM (pv 6) (cJ (cX dz (pv 10) cV (λ_ _=>rfl)) cI)))) gJ)) (cN (hO (gb f' iN iA iM (pv 6) (cJ (cX dz (pv 10) cV (λ_ _=>rfl)) cI))) (cN (dm (i:=4) jJ.nd rfl (Or.inl rfl) (dD kR hr.m rfl (de (cB (pv 7) (cB (pv 4) (cB (pv 8) c8 rfl) rfl) rfl)))) (cS (dm (i:=5) jJ.nd rfl (Or.inl rfl) (dD kR hr.m rfl (de (cB (pv 7) (cB (pv 5) (cB (pv 10) c8 rfl) rfl) rfl)))))))))))) (cS (dH (gY mo rfl jC jr (cJ (pv 6) cI)))))))),?_⟩;refine⟨_,rfl,m,_,_,_,rfl,rfl,SqT.of hm,aQ,r0,_,rfl,.inr (SqT.of aR),(n:Int),by rw[cz,aS],λrg aT=>⟨rg,(n:Int),rfl,cC,by lia,by lia,λr aU=>?_⟩⟩;have g0:=(cL aT (.rng 0 (n:Int))).trans (cL aU (.tup (iD (n:Int).toNat)));have er:cw (cw H rg (.rng 0 (n:Int))) r (.tup (iD (n:Int).toNat)) r=some (.tup ((List.range n).map nv)):=cC;generalize cw (cw H rg (.rng 0 (n:Int))) r (.tup (iD (n:Int).toNat))=H0 at g0 er⊢;refine⟨_,rfl,by show 0<=sizeLine;decide,λB ai=>?_⟩;have k0:=cL ai (.lst []);have av:cw H0 B (.lst []) B=some (.lst []):=cC;have aa:=g0.trans k0;have aC:=k0 _ _ er;have aV:H B=none:=by
  cases z:H B with
  |none=>rfl
  |some o=>rw[g0 _ _ z]at ai;cases ai
 generalize cw H0 B (.lst [])=a9 at k0 av aa aC⊢;refine⟨_,rfl,_,rfl,_,rfl,pl,ra,m,aq,k,u,v,rfl,aa _ _ ar,S.keeps aa.keeps,R.few,aa _ _ aP,ri.len,λl as H1 g1 nl el PA=>?_⟩;have lp:as.length=u.length:=by rw[PA.len];exact hl
 have aD:=aa.trans g1;have an:=g1 _ _ av;have aW:l≠B:=(dO av nl).symm;have aw:L2.drop H1 B B=none:=lJ;have J:Same H (L2.drop H1 B):=λb o e=>by rw[dZ (dO e aV)];exact aD _ _ e
 have aE:L2.drop H1 B l=some (.lst (as.map .ref)):=by rw[dZ aW];exact el
 have ax:L2.drop H1 B r=some (.tup ((List.range n).map nv)):=by rw[dZ (dO er ai)];exact g1 _ _ aC
 have ay:PairsAt (L2.drop H1 B) as (gS u v):=⟨PA.len,λi a p e1 e2=>by
  have z:=PA.is i a p e1 e2;rw[dZ (λy=>by rw[y,an]at z;cases z)];exact z⟩
 have aj:Same (L2.drop H1 B) H1:=eX;generalize L2.drop H1 B=Hb at aw J aE ax ay aj
 let Pv:Nat->L2.St->Hp->Prop:=λi σ H'=>Same Hb H'/\ ∃(h t:Ad) (o7 o8 o9 az:Option V),H' h=some (.tup ((hX k n u (gS u v) i).map nv))/\H' t=some (.tup ((iO k n u (gS u v) lt i).map nv))/\H' B=some (.lst ((iL u (iJ k n u (gS u v) lt u.length) i).map nv))/\(iL u (iJ k n u (gS u v) lt u.length) i).length<=2 * i/\σ=[some (.ref m),some (.ref pl),some (.ref ra),some (nv lt),some (.ref h),some (.ref t),some (.ref B),o7,o8,o9,az]
 refine⟨pl,l,_,_,rfl,SqL.of (aD _ _ ar),SqL.of el,zL (xs:=aq.map .ref) (ys:=as.map .ref) Pv ⟨aj,r,r,_,_,_,_,aj _ _ ax,aj _ _ ax,an,cM _,rfl⟩ (λi σ H' p=>⟨SqL.of (p.1 _ _ (J _ _ ar)),SqL.of (p.1 _ _ aE)⟩) (λi x y Tp σ H2 hx hy nT pv=>?_) (λσ H2 pv=>?_)⟩
 .obtain⟨g2,h,t,o7,o8,o9,az,eh,et,ef,l2,rfl⟩:=pv;rw[cQ]at hx hy;obtain⟨b,eb,rfl⟩:=eC.mp hx;obtain⟨U,aF,rfl⟩:=eC.mp hy;have li:=(cK.mp eb).1;obtain⟨L,eL⟩: ∃L,u[i]? =some L:=⟨_,cA (by lia)⟩;obtain⟨C,Y⟩: ∃C,(gS u v)[i]? =some C:=⟨_,cA (by lia)⟩;have ok:=R.ok L (cW eL);have bt:=wX M R hl po ll i (by lia);have pk:=po i L C eL Y;obtain⟨n1,n2,n3,n4⟩:=x6 M R eL pk ll bt.hf bt.hp bt.tf bt.s;have ew:=Aa (ts:=k) (n:=n) eL Y;have ak:=AL (ts:=k) (n:=n) (l:=lt) eL Y;have ab:=Bo (prs:=iJ k n u (gS u v) lt u.length) eL (Fv hl eL Y);have dt:=λO no=>AC M R eL ll bt.hf bt.hp bt.s O no;have fl:=Fi M R eL ll bt.hf bt.hp;generalize hX k n u (gS u v) i=here at eh bt n1 n2 n3 n4 ew ak ab dt fl⊢;generalize iO k n u (gS u v) lt i=j at et bt n1 n2 n3 n4 ak ab dt⊢;have nd:=ok.p.nd R.ff;have kT:=cL nT (.tup [.ref b,.ref U]);have eT:cw H2 Tp (.tup [.ref b,.ref U]) Tp=some (.tup [.ref b,.ref U]):=cC;generalize cw H2 Tp (.tup [.ref b,.ref U])=H3 at kT eT⊢;have g3:=g2.trans kT;refine⟨Tp,_,rfl,SqT.of eT,rfl,_,_,rfl,_,_,rfl,rfl,?_⟩;refine⟨_,rfl,_,rfl,_,rfl,m,h,k,n,lt,here,rfl,M.same (J.trans g3),kT _ _ eh,R.ff.inU M bt.hf,ll,λgo H4 g4 aA=>?_⟩;have al:=g3.trans g4;have am:=g4 _ _ (kT _ _ eh);have N:=g4 _ _ (kT _ _ et);have aX:=g4 _ _ (kT _ _ ef);have ae:=al _ _ (ay.is i U C aF Y);have PL:=(S.is i b L eb eL).keeps (J.trans al).keeps;have M4:=M.same (J.trans al);have l5:=xp M (sj M (R.ff.inU M bt.hf) ll);obtain⟨d,g,ml,lv,gr,s1,⟨aG,t1,t2,t3⟩,s3,s4,s5,s6⟩:=id PL;refine⟨_,rfl,?_⟩;refine⟨λaf H'=>Same H4 H'/\ ∃I,H' I=some (.tup [nv (iw L (eI k L here j lt) C).1,nv (iw L (eI k L here j lt) C).2])/\af=[some (.ref m),some (.ref pl),some (.ref ra),some (nv lt),some (.ref h),some (.ref t),some (.ref B),some (.ref b),some (.ref U),some (.ref go),some (.ref I)],?_,λaf H' z=>?_⟩
  .by_cases O:j∈L.c
   .obtain⟨l1,ei⟩:=gO O;obtain⟨a,ea⟩: ∃a,aG[dG L.c j]? =some a:=⟨_,cA (by lia)⟩;have dg:=m7 nd t1 N ei ea;by_cases ch:here∈L.c
    .obtain⟨ba,aY⟩:=gO ch;obtain⟨a',aZ⟩: ∃a,aG[dG L.c here]? =some a:=⟨_,cA (by lia)⟩;refine⟨_,rfl,_,rfl,b,_,_,_,rfl,rfl,SqT.of s1,rfl,d,_,rfl,dg,_,rfl,fm ?_⟩;refine⟨_,rfl,_,rfl,b,_,_,_,rfl,rfl,SqT.of s1,rfl,d,_,rfl,m7 nd t1 am aY aZ,_,rfl,fm ?_⟩;refine⟨_,rfl,_,rfl,go,t,0,_,_,rfl,rfl,gu (SqT.of aA),gu (SqT.of N),by decide,λcc hc=>⟨_,rfl,?_⟩⟩;have a0:cc=decide (cE k here lt=j):=by
      rw[iZ,rf,<-dy];exact hc
     subst a0;by_cases ee:cE k here lt=j
     .rw[dX ee];have ed:eI k L here j lt=(eW k L here lt,none):=by unfold eI;rw[wB O,wB ⟨ch,ee⟩]
      rw[ed];exact fm ⟨_,rfl,_,rfl,_,rfl,_,rfl,b,U,h,m,k,n,ah,L,here,C,lt,rfl,PL,M4,R.ff,ok,ae,am,pk,ch,by rw[ee];exact O,ll,λI H5 T D=>⟨T,I,D,rfl⟩⟩
     .rw[fg ee];have no: ¬(here∈L.c/\cE k here lt=j):=λz=>ee z.2;have ed:eI k L here j lt=(List.range L.us.length,some (gt (dR k L j) (cE k here lt))):=by unfold eI;rw[wB O,wA no]
      have e1:ki L (List.range L.us.length,some (gt (dR k L j) (cE k here lt))) C.1=C.1:=ok.idx_still M R.ff pk.g;rw[ed];refine fj ⟨_,rfl,_,rfl,b,_,_,_,rfl,rfl,SqT.of s1,rfl,d,_,rfl,dg,_,rfl,fm ⟨_,rfl,_,rfl,_,rfl,_,rfl,b,U,t,go,m,k,n,ah,L,j,cE k here lt,C,rfl,PL,M4,R.ff,ok,ae,N,aA,l5,pk,O,dt O no,λI H5 T D=>⟨T,I,?_,rfl⟩⟩⟩;show H5 I=some (.tup [nv (ki L _ C.1),_])
      rw[e1];exact D
    .have no: ¬(here∈L.c/\cE k here lt=j):=λz=>ch z.1;have ed:eI k L here j lt=(List.range L.us.length,some (gt (dR k L j) (cE k here lt))):=by unfold eI;rw[wB O,wA no]
     have e1:ki L (List.range L.us.length,some (gt (dR k L j) (cE k here lt))) C.1=C.1:=ok.idx_still M R.ff pk.g;rw[ed];refine⟨_,rfl,_,rfl,b,_,_,_,rfl,rfl,SqT.of s1,rfl,d,_,rfl,dg,_,rfl,fm ?_⟩;refine⟨_,rfl,_,rfl,b,_,_,_,rfl,rfl,SqT.of s1,rfl,d,_,rfl,pR t1 am ch,_,rfl,fj (fj ?_)⟩;refine⟨_,rfl,_,rfl,b,_,_,_,rfl,rfl,SqT.of s1,rfl,d,_,rfl,dg,_,rfl,fm ⟨_,rfl,_,rfl,_,rfl,_,rfl,b,U,t,go,m,k,n,ah,L,j,cE k here lt,C,rfl,PL,M4,R.ff,ok,ae,N,aA,l5,pk,O,dt O no,λI H5 T D=>⟨T,I,?_,rfl⟩⟩⟩;show H5 I=some (.tup [nv (ki L _ C.1),_])
     rw[e1];exact D
   .have ed:eI k L here j lt=(List.range L.us.length,none):=by unfold eI;rw[wA O]
    have e1:ki L (List.range L.us.length,none) C.1=C.1:=ok.idx_still M R.ff pk.g;have en:iw L (List.range L.us.length,none) C=C:=Prod.ext e1 rfl;rw[ed,en];refine⟨_,rfl,_,rfl,b,_,_,_,rfl,rfl,SqT.of s1,rfl,d,_,rfl,pR t1 N O,_,rfl,fj (fj ?_)⟩;exact⟨_,rfl,_,rfl,b,_,_,_,rfl,rfl,SqT.of s1,rfl,d,_,rfl,pR t1 N O,_,rfl,fj ⟨Same.refl _,U,ae,rfl⟩⟩
  .obtain⟨T,I,D,rfl⟩:=z;have aH:=al.trans T;generalize iw L (eI k L here j lt) C=G at n1 n2 D ak ab⊢;have aI:=T _ _ am;have aJ:=T _ _ N;have ag:=T _ _ aX;generalize iL u (iJ k n u (gS u v) lt u.length) i=un at ag ab l2;have a5:=T _ _ ae;have bb:H' g=_:=T _ _ s3;refine⟨λaf H6=>Same Hb H6/\H6 h=some (.tup (here.map nv))/\H6 t=some (.tup (j.map nv))/\H6 I=some (.tup [nv G.1,nv G.2])/\H6 B=some (.lst ((un++(if 1<L.gs.length then[G.1]else[])).map nv))/\af=[some (.ref m),some (.ref pl),some (.ref ra),some (nv lt),some (.ref h),some (.ref t),some (.ref B),some (.ref b),some (.ref U),some (.ref go),some (.ref I)],⟨_,rfl,b,_,_,_,rfl,rfl,SqT.of (T _ _ s1),rfl,g,_,rfl,.inl (SqL.of (T _ _ s3)),_,_,rfl,rfl,_,rfl,ju (λc=>?_) (λc=>?_)⟩,λaf H6 z=>?_⟩
   .have c1:1<L.gs.length:=by
     have z:=gi c;rw[cz,s4.len]at z;lia
    rw[wB c1];refine⟨_,rfl,.inl ⟨rfl,_,SqL.of ag⟩,_,rfl,I,_,_,_,rfl,rfl,SqT.of D,rfl,B,_,_,rfl,rfl,ag,by rw[cz,dC];lia,?_⟩;have lo:kh _ (cw _ B (.lst (un.map nv++[nv G.1]))):=Stays.offL ag;exact⟨fQ aH aw,lo.a aI,lo.a aJ,lo.a D,by rw[cC,eE];rfl,rfl⟩
   .have c1: ¬1<L.gs.length:=by
     have z:=ql (oh.mpr c);rw[cz,s4.len]at z;lia
    rw[wA c1,gV];exact⟨aH,aI,aJ,D,ag,rfl⟩
   .obtain⟨g6,a1,a2,ao,aB,rfl⟩:=z;have l3:(un++(if 1<L.gs.length then[G.1]else[])).length<=2 * i+1:=by
     rw[dF];by_cases h:1<L.gs.length
     .rw[wB h];exact xa l2 1
     .rw[wA h];exact dE l2 (l6 _)
    refine⟨_,rfl,.inl ⟨rfl,_,SqL.of aB⟩,_,rfl,I,_,_,_,rfl,rfl,SqT.of ao,rfl,B,_,_,rfl,rfl,aB,by rw[cz,dC];lia,?_⟩;have eu:iL u (iJ k n u (gS u v) lt u.length) (i+1)=un++(if 1<L.gs.length then[G.1]else[])++[G.2]:=by rw[ab,fh];rfl
    have lo:kh _ (cw _ B (.lst ((un++(if 1<L.gs.length then[G.1]else[])).map nv++[nv G.2]))):=Stays.offL aB;have g7:Same Hb (cw H6 B (.lst ((un++(if 1<L.gs.length then[G.1]else[])).map nv++[nv G.2]))):=fQ g6 aw;have aK:cw H6 B (.lst ((un++(if 1<L.gs.length then[G.1]else[])).map nv++[nv G.2])) B=some (.lst ((un++(if 1<L.gs.length then[G.1]else[])++[G.2]).map nv)):=by rw[cC,eE (l₂:=[G.2])];rfl
    have aL:=lo.a a1;have aM:=lo.a a2;have ap:=lo.a ao;generalize cw H6 B (.lst ((un++(if 1<L.gs.length then[G.1]else[])).map nv++[nv G.2]))=H7 at g7 aK aL aM ap⊢;have aN:=(S.is i b L eb eL).keeps (J.trans g7).keeps;refine⟨_,rfl,_,rfl,_,rfl,b,h,U,m,k,L,here,C,rfl,aN,aL,g7 _ _ (ay.is i U C aF Y),ok.wok M R.ff pk,λh' a3=>?_⟩;refine⟨_,rfl,_,rfl,_,rfl,b,t,I,m,k,L,j,G,rfl,aN,aM,ap,ok.wok M R.ff n1,λt' a4=>?_⟩;refine⟨g7,h',t',_,_,_,_,by rw[ew];exact a3,by rw[ak];exact a4,by rw[eu];exact aK,?_,rfl⟩;rw[eu,dF];exact dE (xa l3 1) (by lia)
 .obtain⟨g2,h,t,o7,o8,o9,az,eh,et,ef,l2,rfl⟩:=pv;have lm:min (aq.map V.ref).length (as.map V.ref).length=u.length:=by rw[cz,cz,lq,lp,wD]
  rw[lm]at ef;refine⟨_,rfl,B,_,rfl,.inl ⟨SqL.of ef,λt ht=>?_⟩⟩;exact q t _ ((J.trans g2).trans (cL ht _)) cC
def IE{CL CR:Ad}(F:Fun K "law" "law" rb f fd)(u_Row:OwnC K CR ["rooms","steps"])(qB:dA P w K mg base "_law_machine" 3 ["_law_script"] (Dy K))(qY:dA P w K mg base "_law_plan" 20 ["_law_machine_here"] Cf)(jF:dA P w K mg base "_law_cell_at" 1 ["_law_script","_law_k"] (yc K))(uA:vg P w K mg base "Row" CR 20 ["self","machine"] (BY CL CR))(qZ:fL P w K mg base CR "moved" 9 ["self","row","letter"] (Ej CL CR))(rD:dA P w K mg base "_law_row" 5 ["_law_plan_here","_law_script","_law_first"] (BX K))(qU:dA P w K mg base "_law_moved" 13 ["_law_machine_here","_law_plan_here","_law_row_here","_law_letter"] El)(qF:dA P w K mg base "_law_is_row" 3 ["_law_found"] B9)(jB:mg "len"=none):FnOk P w K mg base cZ 22 f fd ["_law_script"] (xH K):=by
 refine F.ok rG (λvs H Q E h=>?_) (λaB A ai s H vs Q E k h=>?_)
 .obtain⟨a,e,rfl,_⟩:=h;rfl
 obtain⟨a,e,rfl,hS,aC,hT,q⟩:=h;have hu:=k.units;have aD:=hR k;refine⟨_,(cN (dm (i:=1) rG.nd rfl (Or.inl rfl) (dD qB k.m rfl (cJ (pv 0) cI))) (cN (dm (i:=2) rG.nd rfl (Or.inl rfl) (dD qY k.m rfl (cJ (pv 1) cI))) (cN (dm (i:=3) rG.nd rfl (Or.inl rfl) (Dk uA k.m rfl (cJ (pv 1) cI))) (cN (dm (i:=4) rG.nd rfl (Or.inl rfl) (dD rD k.m rfl (de (cB (pv 2) (cB (pv 0) (cB cV c8 rfl) rfl) rfl)))) (cN (gK gk rfl (gL (gC Bd (fM (cJ (dD jF k.m rfl (de (cB (pv 0) (cB cV c8 rfl) rfl))) cI)) (Kq GA (pv 0) (FF cV) (FF cV)))) (eQ (i:=5) rG.nd rfl (Or.inl rfl)) (cN (dm (i:=6) rG.nd rfl (Or.inl rfl) (gC kS (pv 5) (eZ fZ rfl jB fV (cJ (pv 1) cI)))) (cN (dm (i:=7) rG.nd rfl (Or.inl rfl) (ke (pv 3) u_Row.cl qZ k.m (de (cB (pv 4) (cB (pv 6) c8 rfl) rfl)))) (cN (ge (PW.pt (uR (vF (pF (dD qF k.m rfl (cJ (pv 7) cI)))) (Ig (gq (va hu) (pv 7) (dD qU k.m rfl (de (cB (pv 1) (cB (pv 2) (cB (pv 4) (cB (pv 6) c8 rfl) rfl) rfl) rfl))) (fT _))))) (cS (dH yf)) gJ) (cS (dm (i:=4) rG.nd rfl (Or.inl rfl) (pv 7))))))) (cS (dH yf))))))),?_⟩;refine⟨_,rfl,a,e,rfl,hS,λm u n H1 g1 M=>?_⟩;refine⟨_,rfl,m,u,n,rfl,M,hT.same g1,λpl as G l H2 k2 T2 R aj PL=>?_⟩;refine⟨_,rfl,λx dx nx ak aE=>?_⟩;have gx:Same H2 (cw (cw H2 dx (.own x)) x (.ins CR dx [])):=λb o hb=>by
  rw[cF (dO hb nx),cF (dO hb ak)];exact hb
 refine⟨H2,x,dx,m,u,n,rfl,gx,nx,cC,M.keeps k2,T2,λaA aF H4 k4 T4 R2 RA=>⟨rfl,?_⟩⟩;obtain⟨rfl,rfl⟩:=R.uniq R2;obtain⟨al,r,st,qs,r1,r2⟩:=id RA;have aa:=k2.trans k4;have M4:=M.keeps aa;have ab:=PL.keeps k4;have y:=k4 _ _ (nz aj);have I:SqL K H4 a (e.map V.int):=(SqL.keeps (g1.seq hS) aa);refine⟨_,rfl,_,rfl,pl,a,m,as,u,n,G,l,e,6,rfl,y,ab,M4,R,I,λra am H5 g5 an ri=>?_⟩;have aG:=R.few;have lz:(iI l).length<=2 * l.length:=xM l l.length;refine⟨_,rfl,a,e,5,rfl,by lia,g5.seq I,λc1=>⟨by show 1<=sizeLine;decide,λs2 ao=>?_⟩⟩;have J:=cL ao (.lst [V.int c1]);have ae:cw H5 s2 (.lst [V.int c1]) s2=some (.lst [V.int c1]):=cC;have g6:=g5.trans J;have z:=J _ _ an;generalize cw H5 s2 (.lst [V.int c1])=H6 at J ae g6 z⊢;refine⟨_,rfl,_,rfl,_,rfl,a,_,rfl,g6.seq I,λsl ap=>?_⟩;have af:=Fh (e.map V.int) (some 6) (some 66);obtain⟨B,aq⟩: ∃B:Zs,qe (e.map V.int) (some 6) (some 66)=B.map V.int:=by
  refine⟨(e.drop (HT.sIx (e.map V.int).length 0 (some 6))).take (HT.sIx (e.map V.int).length (e.map V.int).length (some 66)-HT.sIx (e.map V.int).length 0 (some 6)),?_⟩;unfold qe;rw[List.map_take,List.map_drop]
 rw[aq]at af⊢;rw[cz,cz]at af;have ks:=cL ap (.lst (B.map V.int));refine⟨s2,sl,_,_,rfl,rfl,SqL.of (ks _ _ ae),SqL.of cC,by rw[cz,dC];show 1+B.length<=_;lia,λce ar=>?_⟩;obtain⟨L,au⟩: ∃L:Zs,[V.int c1]++B.map V.int=L.map V.int:=⟨c1::B,rfl⟩;rw[au];have k3:=cL ar (.lst (L.map V.int));have N:cw (cw H6 sl (.lst (B.map V.int))) ce (.lst (L.map V.int)) ce=some (.lst (L.map V.int)):=cC;have g7:=g6.trans (ks.trans k3);have C:=(ks.trans k3) _ _ z;generalize cw (cw H6 sl (.lst (B.map V.int))) ce (.lst (L.map V.int))=H7 at N g7 C⊢
 let P2:Nat->L2.St->Hp->Prop:=λi σ H'=>Same H7 H'/\ ∃(g:Ad) (d:cu) (o5 o6 o7:Option V),H' g=some (.tup (d.map nv))/\RowIn l d/\σ=[some (.ref a),some (.ref m),some (.ref pl),some (.ref x),some (.ref g),o5,o6,o7]
 refine⟨ce,rfl,⟨_,SqL.of N⟩,mv (xs:=L.map V.int) P2 ⟨Same.refl _,ra,am,none,none,none,C,ri,rfl⟩ (λi σ H' _ p=>SqL.of (p.1 _ _ N)) (λi v σ H8 hv pv=>?_) (λσ H8 pv=>q _)⟩;obtain⟨g8,g,d,o5,o6,o7,D,O,rfl⟩:=pv;rw[cQ]at hv;obtain⟨c,ec,rfl⟩:=eC.mp hv;have t:=g7.trans g8;have M8:=M4.same t;obtain⟨aH,av,ag,_⟩:=M8.refs;have t1:=M.some1;obtain⟨lt,aw,eA⟩:=fA (c:=c) (show 0<u.length by lia);refine⟨_,rfl,_,rfl,m,_,rfl,.inr (SqT.of av),_,_,rfl,rfl,?_⟩
 try dsimp only
 rw[cz,ag];refine⟨(by show(0:Int)<((u.length:Nat):Int);lia),?_⟩;rw[aw];refine⟨_,rfl,x,al,_,rfl,t _ _ r1,(by kernel_rfl),_,rfl,_,rfl,x,g,m,u,n,G,l,d,lt,rfl,RA.keeps t.keeps,M8,R,D,O,eA,λrn H9 g9 e9=>?_⟩;have ah:=K5 M4 R O eA;have ax:(vS u n l d lt).length<=4000:=by rw[ah.len];lia
 refine⟨_,rfl,rn,_,rfl,e9,ax,λaI T=>⟨_,rfl,fj ?_⟩⟩;have U:=g9.trans T;have j:=t.trans U;refine⟨_,rfl,_,rfl,_,rfl,_,rfl,_,rfl,pl,g,m,as,u,n,G,l,d,lt,rfl,j _ _ y,ab.keeps j.keeps,M4.same j,R,U _ _ D,O,eA,λdu aJ Y ay=>?_⟩;refine⟨rn,du,0,_,_,rfl,rfl,gu (SqT.of (Y _ _ (T _ _ e9))),gu (SqT.of ay),by decide,λcc hc=>⟨_,rfl,?_⟩⟩;have az:cc=true:=hc.mpr rfl;subst az;refine fj ⟨_,rfl,(g8.trans U).trans Y,rn,_,_,_,_,Y _ _ (T _ _ e9),ah,rfl⟩
theorem i8{b:Type}{P:List b->Prop}(h: ∀a,P [a]): ∀c:List b,c.length=1->P c
 | [a],_=>h a
theorem iG{c:Type}{P:List c->Prop}(h: ∀a b,P [a,b]): ∀d:List c,d.length=2->P d
 | [a,b],_=>h a b
theorem i3{d:Type}{P:List d->Prop}(h: ∀a b c,P [a,b,c]): ∀e:List d,e.length=3->P e
 | [a,b,c],_=>h a b c
theorem pL{e:Type}{P:List e->Prop}(h: ∀a b c d,P [a,b,c,d]): ∀g:List e,g.length=4->P g
 | [a,b,c,d],_=>h a b c d
abbrev Rw(K:W.Frag)(x:Str)(st:Stmt)(f:Ad)(fd:Fd):Prop:=PySem.W.nsIn K mainGlobals x=some (some (.ref f))/\Fun K x x st f fd
def eR{K:W.Frag}{mg:SV}{x:Str}{k:Nat}{a:Ss}{e:Sp}{st:Stmt}{f:Ad}{fd:Fd}{h:Heap}(P:Pg)(w:World)(base:Heap)(X:K.In h)(G:h.Ns mainGlobals mg)(r:Rw K x st f fd)(o:FnOk P w K mg base cZ k f fd a e)
  (g: ∀(kV b pm:Vl) (i:Option Ad) (c j:Vl) (d:Vs),d.length=a.length->bindArgs (PySem.W.fnOf x x (jq st) (ik st) (cU st) .none kV b pm i c j) ⟨d,[]⟩=pure (a.zip d)):dA P w K mg base x k a e:=⟨f,fd,o,PySem.W.mg_of X G r.1,r.2.kp,r.2.binds g⟩
set_option maxHeartbeats 0 in
def e1e{l:W.OpenLaw}{w:World}{K:W.Frag}{h:Heap}{mg:SV}{fa f1 f2 f3 f4 f5 f6 f7 f8 f9 bi bj bk bl bm bn bo bp bq br bs bt bu bv bw bx ae bz bA bB bC bD bE bF bG bH bI bJ bK bL bM bN af Y O:Ad}{d1 d2 d3 d5 d6 d7 d8 bO bP bQ bR bS bT bU bV bW bX bY bZ b0 b1 b2 b3 b4 b5 b6 b7 b8 b9 ca cb cc cd ce cf cg ch ci:Fd}(X:K.In h)(G:h.Ns mainGlobals mg)(cj:mg "law"=some (.ref fa))
  {ck aw cl ax ay aj:Option Ad} {cm cn az:Array (Option Vl)} {co aA aB aC ag aD cp aE aF aG aH aI ak al am ao:Vl} {aJ:Obj} {cq:Nat}
  (r1:Rw K "_wall" uu f1 d1)
  (r2:Rw K "led" oR f2 d2)
  (r3:Rw K "refuse_more" y9 f3 d3)
  (a4:W.nsIn K mainGlobals "reached"=some (some (.ref f4))) (l4:K.lookup f4=some ⟨co,ck,.func (W.fnOf "reached" "reached" (jq ni) (ik ni) (cU ni) (.ref af) aA aB aC aw ag aD),cm⟩) (c4:W.codeIn K ag "reached"=true) (k4:W.keepIn K (.ref f4)=true)
  (lD4:K.lookup af=some aJ) (qD4:aJ.data= .seq ([.none]:Vs).toArray cq)
  (r5:Rw K "place_of" Az f5 d5)
  (r6:Rw K "in_order" Ao f6 d6)
  (r7:Rw K "lies_in" v0 f7 d7)
  (r8:Rw K "carried" wu f8 d8)
  (a9:W.nsIn K mainGlobals "sets_reached"=some (some (.ref f9))) (l9:K.lookup f9=some ⟨cp,cl,.func (W.fnOf "sets_reached" "sets_reached" (jq mq) (ik mq) (cU mq) .none aE aF aG ax (.ref Y) aH),cn⟩) (c9:W.codeIn K (.ref Y) "sets_reached"=true) (k9:W.keepIn K (.ref f9)=true)
  (hd9:W.codeHdIn K Y 101=true)
  (aK:Rw K "still" yk bi bO)
  (aL:Rw K "behind" xQ bj bP)
  (aM:Rw K "pictures" zE bk bQ)
  (aN:Rw K "family" rq bl bR)
  (aO:Rw K "is_covered" xt bm bS)
  (aP:Rw K "tiles" uw bn bT)
  (aQ:Rw K "words_between" Af bo bU)
  (aR:Rw K "alike_sets" vW bp bV)
  (aS:Rw K "sets_of_levels" yA bq bW)
  (aT:Rw K "is_led_to" vI br bX)
  (aU:Rw K "levels_in_order" tQ bs bY)
  (aV:Rw K "levels" xN bt bZ)
  (aW:Rw K "tile" zP bu b0)
  (aX:Rw K "tiles_of_set" wW bv b1)
  (aY:Rw K "tiles_turned" v9 bw b2)
  (aZ:Rw K "all_tiles_turned" Ag bx b3)
  (a26:W.nsIn K mainGlobals "level_group"=some (some (.ref ae))) (l26:K.lookup ae=some ⟨aI,ay,.func (W.fnOf "level_group" "level_group" (jq lV) (ik lV) (cU lV) .none ak al am aj (.ref O) ao),az⟩) (c26:W.codeIn K (.ref O) "level_group"=true) (k26:W.keepIn K (.ref ae)=true)
  (hd26:W.codeHdIn K O 200=true)
  (a0:Rw K "_law_cell_at" BN bz b4)
  (a1:Rw K "_law_turn" z6 bA b5)
  (a2:Rw K "_law_machine" vE bB b6)
  (a3:Rw K "_law_whole" yo bC b7)
  (a5:Rw K "_law_is_row" xm bD b8)
  (a6:Rw K "_law_plan" wJ bE b9)
  (a7:Rw K "_law_parts" Ba bF ca)
  (a8:Rw K "_law_row" Bb bG cb)
  (ba:Rw K "_law_pairs" BH bH cc)
  (bb:Rw K "_law_below" Bv bI cd)
  (bc:Rw K "_law_carried" vA bJ ce)
  (bd:Rw K "_law_turned" vw bK cf)
  (be:Rw K "_law_brought" vf bL cg)
  (bf:Rw K "_law_moved" Bj bM ch)
  (bg:Rw K "law" rb bN ci)
  {I:Ad} (n_LevelParts:W.nsIn K mainGlobals "LevelParts"=some (some (.ref I))) (u_LevelParts:OwnC K I ["machine","group","tiles","turns","tile_count"]) (mk_LevelParts:W.makesIn K I=true) (kp_LevelParts:W.keepIn K (.ref I)=true)
  {Q:Ad} (n_Row:W.nsIn K mainGlobals "Row"=some (some (.ref Q))) (u_Row:OwnC K Q ["rooms","steps"]) (mk_Row:W.makesIn K Q=true) (kp_Row:W.keepIn K (.ref Q)=true)
  {j:Ad} {k:Fd} (v_LevelParts___init__:jp K I "__init__" "LevelParts.__init__" xk j k)
  {c:Ad} {d:Fd} (v_LevelParts_is_turning:jp K I "is_turning" "LevelParts.is_turning" By c d)
  {q:Ad} {r:Fd} (v_LevelParts_within:jp K I "within" "LevelParts.within" Ab q r)
  {g:Ad} {i:Fd} (v_LevelParts_least_tile:jp K I "least_tile" "LevelParts.least_tile" xj g i)
  {m:Ad} {n:Fd} (v_LevelParts_deed_of:jp K I "deed_of" "LevelParts.deed_of" AQ m n)
  {t:Ad} {u:Fd} (v_LevelParts_turned:jp K I "turned" "LevelParts.turned" yS t u)
  {o:Ad} {p:Fd} (v_LevelParts_brought:jp K I "brought" "LevelParts.brought" BC o p)
  {a:Ad} {b:Fd} (v_LevelParts_pair_behind:jp K I "pair_behind" "LevelParts.pair_behind" zq a b)
  {x:Ad} {y:Fd} (v_Row___init__:jp K Q "__init__" "Row.__init__" ww x y)
  {B:Ad} {C:Fd} (v_Row_paired:jp K Q "paired" "Row.paired" zJ B C)
  {z:Ad} {A:Fd} (v_Row_unpaired:jp K Q "unpaired" "Row.unpaired" y6 z A)
  {D:Ad} {E:Fd} (v_Row_walked:jp K Q "walked" "Row.walked" Am D E)
  {J:Ad} {L:Fd} (v_Row_moved:jp K Q "moved" "Row.moved" Aj J L)
  (ap:W.nsIn K mainGlobals "len"=some none) (aa:W.nsIn K mainGlobals "range"=some none) (ab:W.nsIn K mainGlobals "tuple"=some none) (ah:W.nsIn K mainGlobals "list"=some none) (T:W.nsIn K mainGlobals "sorted"=some none) (aq:W.nsIn K mainGlobals "set"=some none) (ar:W.nsIn K mainGlobals "all"=some none) (as:W.nsIn K mainGlobals "any"=some none) (M:W.nsIn K mainGlobals "enumerate"=some none) (au:W.nsIn K mainGlobals "zip"=some none) (H:W.nsIn K mainGlobals "isinstance"=some none) (av:W.nsIn K mainGlobals "int"=some none) (ai:W.nsIn K mainGlobals "bool"=some none):
  ∃fd:Fd,(∀(s:Sh) (v:Vl),BindsTo s fd ⟨[v],[]⟩ [("_law_script",v)])/\ ∀base:Heap,K.In base->base.Ns mainGlobals mg->mD mg base->FnOk l.prog w K mg base cZ 22 fa fd ["_law_script"] (xH K):=by
 have e:=cj.symm.trans (W.mg_of X G bg.1);cases e;have F4:DefAt K "reached" ni f4 (W.fnOf "reached" "reached" (jq ni) (ik ni) (cU ni) (.ref af) aA aB aC aw ag aD) (.ref af) ag:=⟨c4,⟨_,_,_,_,_,rfl⟩,_,_,_,l4⟩;have F9:DefAt K "sets_reached" mq f9 (W.fnOf "sets_reached" "sets_reached" (jq mq) (ik mq) (cU mq) .none aE aF aG ax (.ref Y) aH) .none (.ref Y):=⟨c9,⟨_,_,_,_,_,rfl⟩,_,_,_,l9⟩;have cr:DefAt K "level_group" lV ae (W.fnOf "level_group" "level_group" (jq lV) (ik lV) (cU lV) .none ak al am aj (.ref O) ao) .none (.ref O):=⟨c26,⟨_,_,_,_,_,rfl⟩,_,_,_,l26⟩;have N:=jt X G ap;have jD:=jt X G aa;have U:=jt X G ab;have qL:=jt X G ah;have jT:=jt X G T;have rP:=jt X G aq;have rY:=jt X G ar;have rQ:=jt X G as;have jI:=jt X G M;have rH:=jt X G au;have jS:=jt X G H;have rZ:=jt X G av;have rT:=jt X G ai;have rL:=bg.2;obtain⟨_,_,kV,dc,pm,an,cv,ct,_,rfl,_,_⟩:=id rL.ex;refine⟨W.fnOf "law" "law" (jq rb) (ik rb) (cU rb) .none kV dc pm an cv ct,λs v=> .of_eq rfl,λbase KB _ bh=>?_⟩;have rM:=W.codeHd_of_K KB hd9;have rO:=W.codeHd_of_K KB hd26;have jF:=eR l.prog w base X G a0 (LH a0.2 N) λ_ _ _ _ _ _=>iG λ_ _=>rfl;have qW:=eR l.prog w base X G a1 (Lq a1.2 jD U qL) λ_ _ _ _ _ _=>iG λ_ _=>rfl;have qB:=eR l.prog w base X G a2 (Gr a2.2 jF qW jD U) λ_ _ _ _ _ _=>i8 λ_=>rfl;have rX:=eR l.prog w base X G r2 (L3 r2.2) λ_ _ _ _ _ _=>i3 λ_ _ _=>rfl;have rA:=eR l.prog w base X G r5 (Mv r5.2 N) λ_ _ _ _ _ _=>i8 λ_=>rfl;have rC:=eR l.prog w base X G r6 (Hy r6.2 rA jT) λ_ _ _ _ _ _=>i8 λ_=>rfl;have jH:=eR l.prog w base X G r8 (MA r8.2 rX U jT rP) λ_ _ _ _ _ _=>i3 λ_ _ _=>rfl;have kN:=eR l.prog w base X G r3 (KU r3.2 N) λ_ _ _ _ _ _=>iG λ_ _=>rfl;have kW:wG l.prog w K mg base "reached" _ _ _ [.non]:=⟨_,_,[.none],ML (P:=l.prog) (w:=w) (base:=base) F4 kN jD,W.mg_of X G a4,k4,(λs us KX hl=>by have cs:us.length=3:=(by simpa using hl);clear hl;revert us;exact i3 (λ_ _ _=>BindsTo.of_defaults rfl (KX _ _ lD4) qD4 rfl rfl)),.cons rfl .nil⟩;have jP:dA l.prog w K mg base "sets_reached" _ _ _:=⟨_,_,GJ (P:=l.prog) (w:=w) (base:=base) F9 rM bh zp jH kW N,W.mg_of X G a9,k9,.all (iG (λ_ _=>rfl))⟩;have kQ:=eR l.prog w base X G aK (JH aK.2 U jD) λ_ _ _ _ _ _=>i8 λ_=>rfl;have kI:=eR l.prog w base X G aL (J4 aL.2 U) λ_ _ _ _ _ _=>iG λ_ _=>rfl;have rB:=eR l.prog w base X G aM (Im aM.2 kQ jP N qL) λ_ _ _ _ _ _=>i8 λ_=>rfl;have qH:=eR l.prog w base X G aN (Iv aN.2 rB rC N jD) λ_ _ _ _ _ _=>i8 λ_=>rfl;have jX:=eR l.prog w base X G r7 (Ij r7.2 rY) λ_ _ _ _ _ _=>iG λ_ _=>rfl;have qM:=eR l.prog w base X G aO (K3 aO.2 jX rQ) λ_ _ _ _ _ _=>iG λ_ _=>rfl;have rR:=eR l.prog w base X G aP (Ha aP.2 qH jX qM) λ_ _ _ _ _ _=>iG λ_ _=>rfl;have kP:=eR l.prog w base X G aQ (JJ aQ.2 qH jP N) λ_ _ _ _ _ _=>i8 λ_=>rfl;have qN:=eR l.prog w base X G aR (IA aR.2) λ_ _ _ _ _ _=>iG λ_ _=>rfl;have kL:=eR l.prog w base X G aS (Ko aS.2 qN) λ_ _ _ _ _ _=>i8 λ_=>rfl;have qX:=eR l.prog w base X G aT (Li aT.2 rQ) λ_ _ _ _ _ _=>i3 λ_ _ _=>rfl;have kH:=eR l.prog w base X G aU (MK aU.2 qX) λ_ _ _ _ _ _=>iG λ_ _=>rfl;have qI:=eR l.prog w base X G aV (Ma aV.2 kP kL kH rR) λ_ _ _ _ _ _=>i8 λ_=>rfl;have rK:=eR l.prog w base X G aW (IN aW.2 jH) λ_ _ _ _ _ _=>pL λ_ _ _ _=>rfl;have jK:=eR l.prog w base X G aX (L6 aX.2 rK N jD) λ_ _ _ _ _ _=>i3 λ_ _ _=>rfl;have jG:=eR l.prog w base X G aY (G9 aY.2 jH jK U) λ_ _ _ _ _ _=>pL λ_ _ _ _=>rfl;have kC:=eR l.prog w base X G aZ (GW aZ.2 jG N jD) λ_ _ _ _ _ _=>iG λ_ _=>rfl;have jU:dA l.prog w K mg base "level_group" _ _ _:=⟨_,_,J6 (P:=l.prog) (w:=w) (base:=base) cr rO bh yU kC kQ kI kW N jT,W.mg_of X G a26,k26,.all (iG (λ_ _=>rfl))⟩;have qP:vg l.prog w K mg base "LevelParts" I _ _ _:=⟨_,_,HZ (P:=l.prog) (w:=w) (mg:=mg) (base:=base) v_LevelParts___init__.2.2 u_LevelParts jU jK jG jI jD N,⟨mk_LevelParts,v_LevelParts___init__.1,v_LevelParts___init__.2.1,kp_LevelParts⟩,W.mg_of X G n_LevelParts,v_LevelParts___init__.2.2.binds (ps:=["self","machine","level"]) λ_ _ _ _ _ _=>i3 (λ_ _ _=>rfl)⟩;have jE:fL l.prog w K mg base I "is_turning" _ _ _:=⟨_,_,Jf (P:=l.prog) (w:=w) (mg:=mg) (base:=base) v_LevelParts_is_turning.2.2 u_LevelParts N,⟨v_LevelParts_is_turning.1,v_LevelParts_is_turning.2.1,v_LevelParts_is_turning.2.2.kp⟩,v_LevelParts_is_turning.2.2.binds (ps:=["self"]) λ_ _ _ _ _ _=>i8 (λ_=>rfl)⟩;have jN:fL l.prog w K mg base I "within" _ _ _:=⟨_,_,Jb (P:=l.prog) (w:=w) (mg:=mg) (base:=base) v_LevelParts_within.2.2 u_LevelParts,⟨v_LevelParts_within.1,v_LevelParts_within.2.1,v_LevelParts_within.2.2.kp⟩,v_LevelParts_within.2.2.binds (ps:=["self","here","pair"]) λ_ _ _ _ _ _=>i3 (λ_ _ _=>rfl)⟩;have jQ:fL l.prog w K mg base I "least_tile" _ _ _:=⟨_,_,Gy (P:=l.prog) (w:=w) (mg:=mg) (base:=base) v_LevelParts_least_tile.2.2 u_LevelParts jX,⟨v_LevelParts_least_tile.1,v_LevelParts_least_tile.2.1,v_LevelParts_least_tile.2.2.kp⟩,v_LevelParts_least_tile.2.2.binds (ps:=["self","here","rooms"]) λ_ _ _ _ _ _=>i3 (λ_ _ _=>rfl)⟩;have jW:fL l.prog w K mg base I "deed_of" _ _ _:=⟨_,_,Kp (P:=l.prog) (w:=w) (mg:=mg) (base:=base) v_LevelParts_deed_of.2.2 u_LevelParts jH jQ,⟨v_LevelParts_deed_of.1,v_LevelParts_deed_of.2.1,v_LevelParts_deed_of.2.2.kp⟩,v_LevelParts_deed_of.2.2.binds (ps:=["self","here","there","letter"]) λ_ _ _ _ _ _=>pL (λ_ _ _ _=>rfl)⟩;have jY:fL l.prog w K mg base I "turned" _ _ _:=⟨_,_,HN (P:=l.prog) (w:=w) (mg:=mg) (base:=base) v_LevelParts_turned.2.2 u_LevelParts kI,⟨v_LevelParts_turned.1,v_LevelParts_turned.2.1,v_LevelParts_turned.2.2.kp⟩,v_LevelParts_turned.2.2.binds (ps:=["self","deed","turning"]) λ_ _ _ _ _ _=>i3 (λ_ _ _=>rfl)⟩;have jV:fL l.prog w K mg base I "brought" _ _ _:=⟨_,_,Ge (P:=l.prog) (w:=w) (mg:=mg) (base:=base) v_LevelParts_brought.2.2 u_LevelParts,⟨v_LevelParts_brought.1,v_LevelParts_brought.2.1,v_LevelParts_brought.2.2.kp⟩,v_LevelParts_brought.2.2.binds (ps:=["self","deed","turning","bringing"]) λ_ _ _ _ _ _=>pL (λ_ _ _ _=>rfl)⟩;have jM:fL l.prog w K mg base I "pair_behind" _ _ _:=⟨_,_,IQ (P:=l.prog) (w:=w) (mg:=mg) (base:=base) v_LevelParts_pair_behind.2.2 u_LevelParts jY jV,⟨v_LevelParts_pair_behind.1,v_LevelParts_pair_behind.2.1,v_LevelParts_pair_behind.2.2.kp⟩,v_LevelParts_pair_behind.2.2.binds (ps:=["self","deed","pair"]) λ_ _ _ _ _ _=>i3 (λ_ _ _=>rfl)⟩;have uA:vg l.prog w K mg base "Row" Q _ _ _:=⟨_,_,Hx (P:=l.prog) (w:=w) (mg:=mg) (base:=base) v_Row___init__.2.2 u_Row qP qI kQ N,⟨mk_Row,v_Row___init__.1,v_Row___init__.2.1,kp_Row⟩,W.mg_of X G n_Row,v_Row___init__.2.2.binds (ps:=["self","machine"]) λ_ _ _ _ _ _=>iG (λ_ _=>rfl)⟩;have qR:fL l.prog w K mg base Q "paired" _ _ _:=⟨_,_,Lg (P:=l.prog) (w:=w) (mg:=mg) (base:=base) v_Row_paired.2.2 u_LevelParts u_Row jE,⟨v_Row_paired.1,v_Row_paired.2.1,v_Row_paired.2.2.kp⟩,v_Row_paired.2.2.binds (ps:=["self","row"]) λ_ _ _ _ _ _=>iG (λ_ _=>rfl)⟩;have kY:fL l.prog w K mg base Q "unpaired" _ _ _:=⟨_,_,K0 (P:=l.prog) (w:=w) (mg:=mg) (base:=base) v_Row_unpaired.2.2 u_LevelParts u_Row jE rH U,⟨v_Row_unpaired.1,v_Row_unpaired.2.1,v_Row_unpaired.2.2.kp⟩,v_Row_unpaired.2.2.binds (ps:=["self","pairs"]) λ_ _ _ _ _ _=>iG (λ_ _=>rfl)⟩;have qS:fL l.prog w K mg base Q "walked" _ _ _:=⟨_,_,Kl (P:=l.prog) (w:=w) (mg:=mg) (base:=base) v_Row_walked.2.2 u_LevelParts u_Row jW jM jN rH,⟨v_Row_walked.1,v_Row_walked.2.1,v_Row_walked.2.2.kp⟩,v_Row_walked.2.2.binds (ps:=["self","pairs","letter"]) λ_ _ _ _ _ _=>i3 (λ_ _ _=>rfl)⟩;have qZ:fL l.prog w K mg base Q "moved" _ _ _:=⟨_,_,JF (P:=l.prog) (w:=w) (mg:=mg) (base:=base) v_Row_moved.2.2 u_Row qR qS kY,⟨v_Row_moved.1,v_Row_moved.2.1,v_Row_moved.2.2.kp⟩,v_Row_moved.2.2.binds (ps:=["self","row","letter"]) λ_ _ _ _ _ _=>i3 (λ_ _ _=>rfl)⟩;have qO:=eR l.prog w base X G a3 (LB a3.2 jS rZ rT) λ_ _ _ _ _ _=>i8 λ_=>rfl;have qF:=eR l.prog w base X G a5 (J7 a5.2 qO jS U) λ_ _ _ _ _ _=>i8 λ_=>rfl;have qY:=eR l.prog w base X G a6 (K9 a6.2 qI rK jU jI jD N) λ_ _ _ _ _ _=>i8 λ_=>rfl;have qQ:=eR l.prog w base X G a7 (LI a7.2 jI N) λ_ _ _ _ _ _=>i8 λ_=>rfl;have rD:=eR l.prog w base X G a8 (IH a8.2 qQ jF N U) λ_ _ _ _ _ _=>i3 λ_ _ _=>rfl;have qT:=eR l.prog w base X G ba (JN ba.2 qL N) λ_ _ _ _ _ _=>iG λ_ _=>rfl;have kR:=eR l.prog w base X G bb (La bb.2) λ_ _ _ _ _ _=>i3 λ_ _ _=>rfl;have kZ:=eR l.prog w base X G bc (Ik bc.2 U jT rP) λ_ _ _ _ _ _=>i3 λ_ _ _=>rfl;have qE:=eR l.prog w base X G bd (IP bd.2 jG U) λ_ _ _ _ _ _=>pL λ_ _ _ _=>rfl;have qA:=eR l.prog w base X G be (Lm be.2 jI) λ_ _ _ _ _ _=>pL λ_ _ _ _=>rfl;have qU:=eR l.prog w base X G bf (Gm bf.2 qT kR kZ qE qA rH U jD N) λ_ _ _ _ _ _=>pL λ_ _ _ _=>rfl;exact IE (P:=l.prog) (w:=w) (base:=base) rL u_Row qB qY jF uA qZ rD qU qF N
def tabsW:List (Str×Ad):=[("sets_reached",101),("level_group",200)]
def walk{l:PySem.W.OpenLaw}{q:Pg}{b:Ss}{m:SV->Heap->Prop}{j:World->Heap->Prop}{d:DefRec}{K:Params->W.Frag}(o:l.most=some 63)(g:d.params.defaults=[])
  (p: ∀(w:World) (h:Heap),j w h->(K w.params).In h) (hT: ∀w:World,∀t∈tabsW,(K w.params).lookup t.2=none/\(∃c,PySem.W.tabIn (K w.params) t.1=some (c,t.2))/\ ∃e,(recsOf q).find? (λr=>r.name==t.1)=some e)
  (F: ∀(w:World) (mg:SV) (fa:Ad) (h:Heap),(K w.params).In h->h.Ns mainGlobals mg->mg d.name=some (.ref fa)->
   ∃fd:Fd,(∀(s:Sh) (u:Vl),BindsTo s fd ⟨[u],[]⟩ [("_law_script",u)])/\ ∀base:Heap,(K w.params).In base->base.Ns mainGlobals mg->mD mg base->FnOk l.prog w (K w.params) mg base cZ 22 fa fd ["_law_script"] (xH (K w.params))):
  PySem.W.WalkO q b m j l.row.toRowW d [] (λf v=>PySem.call f v):=
 L2.d2p (n:=63) (k:=22) (x:="_law_script") (tabs:=tabsW) (sp:=λw=>xH (K w.params)) o (by decide) g ⟨rfl,by decide,by decide⟩ p hT F λw H a y A ht B=>⟨a,y,rfl,B,A,(λq C=>by
  have z:q.2.2∈tabsW.map (·.2):=(show fe.map (·.2.2)=tabsW.map (·.2)from rfl)▸List.mem_map_of_mem C;obtain⟨t,i,e⟩:=c7.mp z;rw[<-e];exact .inl (ht t i)),λ_=>rfl⟩
end My
namespace PySem.W.Fast
def tw3498911269320820746 := ()
theorem te3498911269320820746 : True := ⟨⟩
def tw15976692905928880287:=()
def tw18228794160029897819:=()
def tw15043755000844061464:=()
def tw17883872164114525419:=()
def tw2541355387696119771:=()
def tw2934258229707289838:=()
def tw992624993431616631:=()
def tw10156737664700938757:=()
def tw13476799401727913197:=()
def tw225811804878596132:=()
def tw5233230387235134453:=()
def tw7829394038663123550:=()
def tw5015253228486777091:=()
def tw2991199167497937343:=()
def tw16106641164176388862:=()
def tw6717081622804668751:=()
def tw295416340874854223:=()
def tw13517401682806333230:=()
def tw1799008433097531673:=()
def tw918327492259987046:=()
def tw18084564133706524482:=()
def tw1454922551525937752:=()
def tw901521503895984813:=()
def tw9510207910012854234:=()
def tw11978732149838944927:=()
def tw14627362088191591911:=()
def tw11615174974429089780:=()
def tw183169685547842804:=()
def tw17994253898568582284:=()
def tw6662219939488442074:=()
def tw17517556670466830207:=()
def tw18036397852996112695:=()
def tw17568690331910819768:=()
def tw14782396669562602353:=()
def tw11231797461995740218:=()
def tw11497446044516079004:=()
def tw1503450320150229735:=()
def tw9524957028112974929:=()
def tw14205650074347413012:=()
def tw2516055693329224243:=()
def tw5962923235114914982:=()
def tw14313570728683610082:=()
def tw812306276885219376:=()
def tw10299392777705940256:=()
def tw13310603971304829624:=()
def tw9803235717630603802:=()
def tw11793151951486277884:=()
def tw9339599206699457990:=()
def tw16907948639802306822:=()
def tw9658028459586773893:=()
def tw15789976050429598164:=()
def tw9986821919151821279:=()
def tw1102868898176563094:=()
def tw9483278012698239219:=()
def tw5948595331209150842:=()
def tw18359237000308534863:=()
def tw13329120679241343321:=()
def tw4455895334307192668:=()
def tw10950177379845040968:=()
def tw9046599492078571728:=()
def tw18298290680772631766:=()
def tw7532290435600977334:=()
def tw15677558618541449518:=()
def tw16133425043373521678:=()
def tw4389954183966899691:=()
def tw18164871875176755263:=()
def tw7824877310377160010:=()
def tw9699008380229268853:=()
def tw10774737495566697066:=()
def tw15334826956687858892:=()
def tw9650387417563984487:=()
def tw11094006985591276016:=()
def tw9254405412317737501:=()
def tw2762213138128117097:=()
def tw14874241974709728261:=()
def tw16097839502492694748:=()
def tw21232317034761011:=()
def tw413367884762501094:=()
def tw2715500207089038861:=()
def tw3383940901584577220:=()
def tw17073204130464080634:=()
def tw8996224543945078943:=()
def tw12463652583265993381:=()
def tw9699264624766673118:=()
def tw17972428807648590692:=()
def tw4929657933115230727:=()
def tw5884305079793305148:=()
def tw3129320103680262296:=()
def tw15355543315625376585:=()
def tw1924386372156185684:=()
def tw11138041857452659261:=()
def tw13123373187845120702:=()
def tw17571882469851966778:=()
def tw15148349794196635027:=()
def tw3494403047950009743:=()
def tw15325583922713392251:=()
def tw6591470980789208899:=()
def tw13354991410352402036:=()
def tw12672287346800234002:=()
def tw12265430349699794714:=()
def tw14052959798125067578:=()
def tw9521915500298093489:=()
def tw13222262934847117206:=()
def tw16837191287908470303:=()
def tw1191556345626331866:=()
def tw18029784395748723710:=()
def tw17432849374186435691:=()
def tw6811926302806084145:=()
def tw9266863796504284573:=()
def tw3467275342322820399:=()
def tw3757091870395170102:=()
def tw16125229436354747958:=()
def tw16940359688126728634:=()
def tw6069172652793669990:=()
def tw17998162209734146340:=()
def tw8074753883058818450:=()
def tw9213698477626918713:=()
def tw16368322476735425619:=()
def tw6376126217625686312:=()
def tw17472703127334353484:=()
def tw11963838161954353055:=()
def tw5492540692956681889:=()
def tw18428052436380673078:=()
def tw9824364691007931871:=()
def tw17676220550200997787:=()
def tw1723322242310762647:=()
def tw6575527759481090807:=()
def tw13312191189958183080:=()
def tw6067775664217094291:=()
def tw13816641423344811984:=()
end PySem.W.Fast
open PySem PySem.W PyProof.Rows
set_option maxRecDepth 100000 in
set_option maxHeartbeats 0 in
theorem PySem.Challenge.cw_cascade_k53_a_row_moved_holds : PySem.Challenge.rw_cascade_k53_a_row_moved.Holds := by
 w_on; o_law; k_head; (case hw => w_witness2)
 k_fill
 refine' My.walk (l := PySem.Challenge.rw_cascade_k53_a_row_moved) rfl rfl (fun w h Y => PySem.W.km_in_of Y) ?hT ?F
 case hT =>
  intro w t ht
  simp only [My.tabsW, List.mem_cons, List.not_mem_nil, or_false] at ht
  rcases ht with rfl | rfl
  ·exact ⟨by kernel_rfl, ⟨105, by kernel_rfl⟩, _, rfl⟩
  ·exact ⟨by kernel_rfl, ⟨204, by kernel_rfl⟩, _, rfl⟩
 case F =>
  intro w mg fa h KX G hmg
  refine' My.e1e KX G hmg ?_ ?_ ?_ ?a4 ?l4 ?c4 ?k4 ?lD4 ?qD4 ?_ ?_ ?_ ?_ ?a9 ?l9 ?c9 ?k9 ?hd9 ?_ ?_ ?_ ?_ ?_ ?_ ?_ ?_ ?_ ?_ ?_ ?_ ?_ ?_ ?_ ?_ ?a26 ?l26 ?c26 ?k26 ?hd26 ?_ ?_ ?_ ?_ ?_ ?_ ?_ ?_ ?_ ?_ ?_ ?_ ?_ ?_ ?_  ?n_LevelParts ?u_LevelParts ?mk_LevelParts ?kp_LevelParts ?n_Row ?u_Row ?mk_Row ?kp_Row ?v_LevelParts___init__ ?v_LevelParts_is_turning ?v_LevelParts_within ?v_LevelParts_least_tile ?v_LevelParts_deed_of ?v_LevelParts_turned ?v_LevelParts_brought ?v_LevelParts_pair_behind ?v_Row___init__ ?v_Row_paired ?v_Row_unpaired ?v_Row_walked ?v_Row_moved  ?_ ?_ ?_ ?_ ?_ ?_ ?_ ?_ ?_ ?_ ?_ ?_ ?_
  (case a4 => k_is); (case l4 => k_is); (case c4 => k_is); (case k4 => k_is)
  (case lD4 => k_is); (case qD4 => rfl)
  (case a9 => k_is); (case l9 => k_is); (case c9 => k_is); (case k9 => k_is)
  (case hd9 => kernel_rfl)
  (case a26 => k_is); (case l26 => k_is); (case c26 => k_is); (case k26 => k_is)
  (case hd26 => kernel_rfl)
  (case n_LevelParts => k_is); (case u_LevelParts => exact ⟨⟨by k_is, by k_is, by k_is, by k_is⟩, (.cons (by k_is) (.cons (by k_is) (.cons (by k_is) (.cons (by k_is) (.cons (by k_is) .nil)))))⟩); (case mk_LevelParts => k_is); (case kp_LevelParts => k_is)
  (case n_Row => k_is); (case u_Row => exact ⟨⟨by k_is, by k_is, by k_is, by k_is⟩, (.cons (by k_is) (.cons (by k_is) .nil))⟩); (case mk_Row => k_is); (case kp_Row => k_is)
  (case v_LevelParts___init__ => refine' ⟨?a, ?i, L2.a4x ?l ?c ?k⟩; (case a => k_is); (case i => k_is); (case l => k_is); (case c => k_is); (case k => k_is))
  (case v_LevelParts_is_turning => refine' ⟨?a, ?i, L2.a4x ?l ?c ?k⟩; (case a => k_is); (case i => k_is); (case l => k_is); (case c => k_is); (case k => k_is))
  (case v_LevelParts_within => refine' ⟨?a, ?i, L2.a4x ?l ?c ?k⟩; (case a => k_is); (case i => k_is); (case l => k_is); (case c => k_is); (case k => k_is))
  (case v_LevelParts_least_tile => refine' ⟨?a, ?i, L2.a4x ?l ?c ?k⟩; (case a => k_is); (case i => k_is); (case l => k_is); (case c => k_is); (case k => k_is))
  (case v_LevelParts_deed_of => refine' ⟨?a, ?i, L2.a4x ?l ?c ?k⟩; (case a => k_is); (case i => k_is); (case l => k_is); (case c => k_is); (case k => k_is))
  (case v_LevelParts_turned => refine' ⟨?a, ?i, L2.a4x ?l ?c ?k⟩; (case a => k_is); (case i => k_is); (case l => k_is); (case c => k_is); (case k => k_is))
  (case v_LevelParts_brought => refine' ⟨?a, ?i, L2.a4x ?l ?c ?k⟩; (case a => k_is); (case i => k_is); (case l => k_is); (case c => k_is); (case k => k_is))
  (case v_LevelParts_pair_behind => refine' ⟨?a, ?i, L2.a4x ?l ?c ?k⟩; (case a => k_is); (case i => k_is); (case l => k_is); (case c => k_is); (case k => k_is))
  (case v_Row___init__ => refine' ⟨?a, ?i, L2.a4x ?l ?c ?k⟩; (case a => k_is); (case i => k_is); (case l => k_is); (case c => k_is); (case k => k_is))
  (case v_Row_paired => refine' ⟨?a, ?i, L2.a4x ?l ?c ?k⟩; (case a => k_is); (case i => k_is); (case l => k_is); (case c => k_is); (case k => k_is))
  (case v_Row_unpaired => refine' ⟨?a, ?i, L2.a4x ?l ?c ?k⟩; (case a => k_is); (case i => k_is); (case l => k_is); (case c => k_is); (case k => k_is))
  (case v_Row_walked => refine' ⟨?a, ?i, L2.a4x ?l ?c ?k⟩; (case a => k_is); (case i => k_is); (case l => k_is); (case c => k_is); (case k => k_is))
  (case v_Row_moved => refine' ⟨?a, ?i, L2.a4x ?l ?c ?k⟩; (case a => k_is); (case i => k_is); (case l => k_is); (case c => k_is); (case k => k_is))
  any_goals (refine' ⟨?a, L2.a4x ?l ?c ?k⟩; (case a => k_is); (case l => k_is); (case c => k_is); (case k => k_is))
  any_goals k_is
