import PyProof.Rows.All
import Wide.All
import OpenK.AllK
import Wide.FinOn
import Lean
import PyProof.EqAt
import PyProof.EqKinds
import PyProof.TupleCall
import PyProof.NeKinds
import PySem.Challenge.RW_cascade_k63_own_turns_told
set_option maxHeartbeats 2000000
set_option Elab.async false
set_option linter.all false
set_option maxRecDepth 100000
local macro_rules|`(())=>`(by lia)
abbrev hV:=@List.getElem?_eq_getElem
abbrev f':=@PySem.wpAny_bind
abbrev ik:=@List.getElem?_eq_some_iff
abbrev hJ:=@List.length_map
abbrev hI:=@PySem.wpAny_pure
abbrev iG:=@PySem.Heap.get?_push_of_some
abbrev iB:=@List.getElem?_map
abbrev iE:=@List.mem_singleton
abbrev iV:=@List.mem_of_getElem?
abbrev ig:=@Nat.le_refl
abbrev i4:=@Array.length_toList
abbrev iu:=@PySem.Heap.lt_size
abbrev i7:=@List.mem_cons_self
abbrev ju:=@Option.map_eq_some_iff
abbrev j6:=@List.getD_eq_getElem?_getD
abbrev jj:=@List.mem_append_right
abbrev j5:=@List.getElem?_append_left
abbrev i8:=@List.size_toArray
abbrev jr:=@List.mem_cons_of_mem
abbrev iN:=@List.mem_append
abbrev ku:=@List.getElem?_append_right
abbrev jp:=@PySem.Heap.get?_push_size
abbrev jk:=@List.length_append
abbrev iM:=@List.mem_cons
abbrev iK:=@List.mem_map
abbrev i0:=@decide_eq_true
abbrev jy:=@Nat.lt_of_lt_of_le
abbrev kr:=@List.mem_iff_getElem?
abbrev io:=@PyProof.Rows.wpS_bind
abbrev i6:=@Nat.ne_of_lt
abbrev i5:=@Nat.le_trans
abbrev iR:=@PySem.sizeLine_eq
abbrev ni:=@Array.getElem?_eq_some_iff
abbrev nc:=@Array.getElem?_eq_getElem
abbrev iA:=@PyProof.Rows.wpS_pure
abbrev j9:=@decide_eq_false
abbrev mF:=@Array.getElem?_toList
abbrev mW:=@PySem.Heap.get?_update_other
abbrev mR:=@List.pairwise_append
abbrev kC:=@List.mem_filter
abbrev kS:=@List.map_append
abbrev mD:=@List.append_assoc
abbrev mV:=@Bool.false_ne_true
abbrev lW:=@Option.some.inj
abbrev og:=@List.length_filter_le
abbrev mT:=@of_decide_eq_true
abbrev mq:=@List.append_nil
abbrev pS:=@Array.perm_iff_toList_perm
abbrev mH:=@List.take_length
abbrev pT:=@List.pairwise_iff_getElem
abbrev sw:=@Nat.exists_eq_add_one_of_ne_zero
abbrev mS:=@List.length_take
abbrev oS:=@List.take_append_drop
abbrev lL:=@PySem.wpAny_holding
abbrev lH:=@List.map_cons
abbrev ng:=@List.lookup_cons
abbrev pJ:=@List.getElem?_eq_none
abbrev nA:=@PySem.wpAny_call_entry
abbrev ke:=@PySem.wpAny_mono
abbrev pA:=@List.mem_append_left
abbrev lU:=@PySem.F.called_set
abbrev ow:=@List.take_add_one
abbrev oF:=@PySem.wpAny_loadPart_at
abbrev nj:=@List.mem_range
abbrev oo:=@List.length_cons
abbrev pO:=@PySem.Around.under_plainId
abbrev oV:=@PySem.wpAny_setState_of
abbrev jv:=@congrArg
abbrev pI:=@PySem.wpAny_setField_rec
abbrev ud:=@Array.getD_eq_getD_getElem?
abbrev pV:=@Array.toList_append
abbrev mJ:=@List.map_map
abbrev pC:=@PySem.wpAny_newObj_type
abbrev oM:=@List.nodup_cons
abbrev ot:=@PySem.codeAny_builtin
abbrev rV:=@PySem.wpAny_callSpecial?_slot
abbrev sm:=@List.length_eq_zero_iff
abbrev sr:=@PyProof.Rows.F.plain_set_update_loop
abbrev r9:=@List.pairwise_singleton
abbrev qo:=@PySem.mem_of_lookup
abbrev mC:=@Nat.zero_le
abbrev vj:=@PySem.F.slot_dict_keyiterator_next
abbrev ji:=@PySem.W.mg_of
abbrev qq:=@PySem.wpAny_Call_Name_kw
abbrev jq:=@Ne.symm
abbrev nG:=@PySem.codeAny_mono
abbrev si:=@PySem.Heap.get?_update_self
abbrev oi:=@Nat.lt_irrefl
abbrev ui:=@PySem.F.plainAttrs_list
abbrev px:=@Bool.eq_iff_iff
abbrev rc:=@Int.toNat_natCast
abbrev qk:=@List.foldl_append
abbrev qt:=@List.length_range
abbrev nZ:=@Nat.le_of_lt
abbrev nP:=@PyProof.Rows.wpS_forRange
abbrev r4:=@Nat.add_sub_cancel'
abbrev pL:=@PySem.PassesOwn.never
abbrev qb:=@List.getElem_mem
abbrev rb:=@List.mem_reverse
abbrev uv:=@List.mem_of_mem_take
abbrev qm:=@PySem.W.kia_one
abbrev rn:=@Nat.lt_succ_self
abbrev ze:=@PySem.F.slot_dict_itemiterator_next
abbrev u3:=@beq_eq_false_iff_ne
abbrev u7:=@List.toList_toArray
abbrev ti:=@PySem.wpAny_truthy_bool
abbrev se:=@List.getElem?_inj
abbrev we:=@List.contains_iff_mem
abbrev xA:=@PySem.F.slot_list_append
abbrev xY:=@PySem.F.type_list_append
abbrev pN:=@PySem.plainId_quiet
abbrev xE:=@PyProof.Rows.F.entry_set_update_loop
abbrev rq:=@Nat.not_lt_zero
abbrev pH:=@Nat.ne_of_gt
abbrev tA:=@Bool.and_eq_true
abbrev rQ:=@PySem.wpAny_askSetting
abbrev tj:=@Nat.le_add_right
abbrev pE:=@PySem.W.mg_none_of
abbrev wD:=@PySem.F.plain_min_loop
abbrev uq:=@PySem.wpAny_pyIter_slot
abbrev vY:=@List.map_congr_left
abbrev zD:=@Nat.sub_lt_left_of_lt_add
abbrev AF:=@PySem.wpAny_typeNameOfWhole_itemiter
abbrev wI:=@List.Pairwise.sublist
abbrev tv:=@Array.size_push
abbrev tc:=@List.foldl_cons
abbrev wY:=@PyProof.Rows.boot_set
abbrev vI:=@List.filter_append
abbrev A6:=@PySem.wpAny_typeNameOfWhole_keyiter
abbrev xJ:=@PySem.lookup_relabel_local
abbrev x4:=@PySem.codeAny_call_builtin
abbrev rm:=@PySem.wpAny_attempt
abbrev BF:=@PySem.F.slot_dict_keyiterator_iter
abbrev wg:=@List.take_sublist
abbrev wn:=@Nat.lt_succ_of_lt
abbrev vC:=@PySem.wpAny_dictEntries
abbrev xT:=@PySem.W.hideAll_get
abbrev wT:=@List.getElem?_range
abbrev wu:=@PySem.wpAny_isSubtype_exc
abbrev mY:=@PySem.boot_len
abbrev py:=@PySem.wpAny_call
abbrev r3:=@PySem.Paired.length
abbrev xa:=@PySem.W.callWith_K
abbrev zF:=@List.length_singleton
abbrev zp:=@List.Perm.append_left
abbrev xS:=@decide_eq_true_iff
abbrev vh:=@PySem.Heap.size_push
abbrev Am:=@List.drop_eq_getElem_cons
abbrev t9:=@PySem.wpAny_fieldsOf
abbrev A3:=@Classical.byContradiction
abbrev Bx:=@List.extract_eq_take_drop
abbrev vL:=@PySem.wpAny_passesOwn
abbrev xz:=@PySem.wpAny_pyIter_list
abbrev vw:=@List.length_set
abbrev wm:=@List.range_succ
abbrev xt:=@Array.toList_push
abbrev yb:=@List.pairwise_map
abbrev vF:=@PySem.wpAny_updateSeq
abbrev x9:=@List.ext_getElem?
abbrev xI:=@PySem.PassesOwn.leaving
abbrev zB:=@Nat.add_le_add_left
abbrev rK:=@PySem.wpAny_field
abbrev zR:=@PySem.wpAny_raiseNew_none
abbrev zK:=@PySem.F.plain_extend_loop
abbrev n':=@PyProof.Rows.wpS_mono
abbrev A7:=@Nat.add_sub_cancel_left
abbrev wU:=@beq_self_eq_true
abbrev xi:=@List.ext_getElem
abbrev xu:=@List.cons_append
abbrev wJ:=@Nat.mod_eq_of_lt
abbrev qf:=@PySem.intKind_is
abbrev AT:=@PySem.wpAny_pyNext_list_item
abbrev Aw:=@List.take_of_length_le
abbrev AX:=@List.Perm.append_right
abbrev yO:=@Nat.lt_of_le_of_lt
abbrev yd:=@PySem.Code.quiet_builtin
abbrev zo:=@List.contains_cons
abbrev zJ:=@PySem.F.store_ValueError
abbrev ym:=@List.pairwise_cons
abbrev yl:=@Nat.lt_of_le_of_ne
abbrev yc:=@List.getElem?_drop
abbrev x5:=@PySem.wpAny_execs_nil
abbrev Ah:=@PySem.wpAny_pyNext_list_end
abbrev u4:=@Nat.le_of_eq
abbrev Ba:=@Classical.choose_spec
abbrev xU:=@PySem.wpAny_dictEpoch
abbrev t5:=@Nat.sub_self
abbrev wR:=@Nat.min_eq_left
abbrev AE:=@List.perm_append_comm
abbrev vg:=@Nat.zero_add
abbrev wZ:=@PyProof.Rows.get?_update_seq
abbrev vD:=@PySem.wpAny_standAt
abbrev rJ:=@PySem.wpAny_rule
abbrev yp:=@List.nodup_append
abbrev zE:=@Nat.le_succ_of_le
abbrev rD:=@PyProof.Rows.wpS_modify
abbrev Cr:=@Array.toList_setIfInBounds
abbrev zW:=@PySem.W.hideAll_none
abbrev Ak:=@PySem.Heap.get?_none_of_le
abbrev Bo:=@List.mem_of_mem_drop
abbrev Ab:=@Array.toList_extract
abbrev AR:=@List.getElem?_of_mem
abbrev zZ:=@Array.toList_reverse
abbrev Ek:=@PySem.Calls.call_function_entry
abbrev yU:=@List.length_drop
abbrev yI:=@List.getElem_map
abbrev BD:=@PySem.Heap.SameBut.update
abbrev BC:=@Nat.add_lt_add_left
abbrev D5:=@PySem.wpAny_comprehension_free
abbrev rT:=@Nat.mod_lt
abbrev BG:=@List.mem_filterMap
abbrev y4:=@List.of_mem_zip
abbrev x8:=@List.any_cons
abbrev AG:=@PySem.tupleKind_room_in1
abbrev yA:=@Int.emod_nonneg
abbrev Bu:=@Int.emod_lt_of_pos
abbrev yS:=@PySem.codeAny_of_tree
abbrev HU:=@List.findIdx?_eq_some_iff_getElem
abbrev xq:=@PySem.wpAny_newList
abbrev xb:=@PyProof.Rows.listUpdate_at
abbrev zq:=@PyProof.Rows.boot_isinstance
abbrev Hn:=@Array.all_eq_true_iff_forall_mem
abbrev CC:=@PySem.W.cellsFrom_some
abbrev ED:=@PySem.wpAny_isOneOf_itemiter
abbrev DX:=@Array.getElem?_eq_none
abbrev vq:=@PySem.wpAny_letGo
abbrev vp:=@Nat.le_succ
abbrev Bh:=@PySem.wpAny_storeSet_of
abbrev Hu:=@PySem.F.args_dict_itemiterator_next_1
abbrev BR:=@Nat.le_of_lt_succ
abbrev Ap:=@Array.size_append
abbrev ut:=@PyProof.Rows.boot_tuple
abbrev EF:=@List.length_replicate
abbrev GU:=@PyProof.Rows.callWith_builtin1
abbrev wP:=@Nat.lt_trans
abbrev Eg:=@PySem.weight_type_call_type
abbrev Hk:=@List.Nodup.length_le_of_subset
abbrev Im:=@PySem.F.entry_dict_itemiterator_next
abbrev Ik:=@PySem.F.args_dict_keyiterator_next_1
abbrev Gw:=@PySem.F.args_dict_keyiterator_iter_1
abbrev Ej:=@Array.mem_of_getElem?
abbrev BZ:=@List.filterMap_append
abbrev Bw:=@Nat.le_of_not_lt
abbrev BA:=@List.all_eq_true
abbrev G5:=@PySem.F.entry_dict_keyiterator_next
abbrev Iq:=@PySem.F.entry_dict_keyiterator_iter
abbrev A':=@Array.toList_map
abbrev A8:=@List.countP_cons
abbrev BY:=@List.getElem?_set_ne
abbrev Di:=@Array.mem_toList_iff
abbrev Eo:=@List.drop_eq_nil_iff
abbrev DK:=@Nat.le_sub_of_add_le
abbrev Hh:=@List.dropLast_concat_getLast
abbrev Hg:=@PyProof.Rows.callWith_type1
abbrev Ac:=@List.length_nil
abbrev A1:=@PySem.size_of_entries
abbrev Co:=@PySem.Heap.get?_update_ne
abbrev BP:=@List.head?_drop
abbrev wO:=@PySem.wpAny_of_eq
abbrev BQ:=@PySem.F.slot_set_iter
abbrev pZ:=@PyProof.Rows.wpS_get
abbrev Gz:=@PySem.Calls.Name_function_global
abbrev Il:=@PySem.wpAny_newFunctionEnv_cells
abbrev Fb:=@List.perm_append_singleton
abbrev C1:=@PySem.W.of_hideAll
abbrev zg:=@Nat.add_zero
abbrev Ew:=@PySem.Around.under_plain
abbrev DU:=@List.zip_cons_cons
abbrev DJ:=@Array.Perm.mem_iff
abbrev yK:=@Int.lt_trans
abbrev C7:=@List.getElem?_take
abbrev yF:=@Int.zero_add
abbrev AH:=@List.tail_drop
abbrev AW:=@PySem.wpAny_tryCatch
abbrev Db:=@PySem.wpAny_assign_Name
abbrev Er:=@Option.isSome_map
abbrev Dn:=@PySem.F.entry_type_call
abbrev vX:=@PyProof.Rows.boot_list
abbrev Ae:=@Bool.true_and
abbrev C2:=@List.getElem_inj
abbrev B7:=@PySem.wpAny_execs_cons
abbrev D4:=@PySem.F.typeCall_set_1
abbrev Eh:=@PySem.F.entry_set_init
abbrev Cw:=@PySem.check_set_init_1
abbrev CU:=@List.perm_middle
abbrev D2:=@Array.toList_inj
abbrev Ds:=@PySem.wpAny_loadPart'
abbrev DH:=@List.nil_append
abbrev Cy:=@PySem.wpAny_ite_split
abbrev CV:=@PyProof.Rows.entry_list_sort
abbrev Aq:=@List.any_map
abbrev ww:=@ite_congr
abbrev DZ:=@Array.Perm.refl
abbrev Bi:=@Nat.pow_succ
abbrev vJ:=@PyProof.Rows.wpS_lift
abbrev zX:=@PySem.wpAny_alloc
abbrev AY:=@PyProof.Rows.seqEpoch_at
abbrev zU:=@PyProof.Rows.boot_sorted
section
open PySem
abbrev oA:=List (List (List Nat))
abbrev LN:=List (List Nat)
abbrev g9:=List Nat
abbrev VP:=Value -> Shared -> Prop
abbrev AO:=List (Addr × Obj)
abbrev SV:=Str -> Option Value
abbrev As:=List Addr
abbrev Vs:=List Value
abbrev AV:=Array Value
abbrev Zs:=List Int
abbrev Ss:=List Str
abbrev Sh:=Shared
abbrev Vl:=Value
abbrev Pg:=Program
abbrev Fd:=FuncData
abbrev Ar:=Around
end
abbrev wA:=@if_neg
abbrev wB:=@if_pos
abbrev wC:=@absurd
abbrev wE:=@False.elim
open PySem in
abbrev Ad:=Addr
abbrev rZ:=@rfl
abbrev O0:=PySem.W.Frag
theorem Z'{α:Sort _}{a:α}{q:Prop}:a=a∨q:=.inl rfl
theorem Z0{α:Sort _}{a:α}{q:Prop}:q∨a=a:=.inr rfl
local macro_rules|`(#[$x,*])=>`(⟨$x,*⟩)
local macro_rules|`(#v[$x,*])=>`(List.toArray [$x,*])
namespace L2
open PySem PySem.Spec PyProof.Rows
abbrev iH:=Sum Int Str
def xr:iH->Vl->Bool
 |.inl k,v=>Value.isInt k v
 |.inr x,v=>Value.isStrOf x v
def CK(w:World):iH->Int
 |.inl k=>hashInt k
 |.inr x=>hashStr w x
theorem tu:∀{k:iH} {v:Vl},xr k v=true->(∃i t,k=Sum.inl i/\v=Value.int i t)\/(∃x t,k=Sum.inr x/\v=Value.str x t)
 |.inl i,v,h=>by
  obtain⟨t,e⟩:=Value.isInt_shape (k:=i) (v:=v) h;exact .inl #[i,t,rZ,e]
 |.inr x,v,h=>by
  obtain⟨t,e⟩:=Value.isStrOf_shape (x:=x) (v:=v) h;exact .inr #[x,t,rZ,e]
def JD(i:Int)(t:Tok):xr (.inl i) (.int i t)=true:=by simp[xr,Value.isInt]
def KL(x:Str)(t:Tok):xr (.inr x) (.str x t)=true:=by simp[xr,Value.isStrOf]
def J'(a b:Int):decide ((Sum.inl a:iH)=Sum.inl b)=(a==b):=by
 by_cases e:a=b
 .subst e;simp
 .have h: ¬(Sum.inl a:iH)=Sum.inl b:=λq=>e (Sum.inl.inj q);rw[j9 h];exact(u3.mpr e).symm
def Mz(a b:Str):decide ((Sum.inr a:iH)=Sum.inr b)=decide (a=b):=by
 by_cases e:a=b
 .subst e;simp
 .have h: ¬(Sum.inr a:iH)=Sum.inr b:=λq=>e (Sum.inr.inj q);rw[j9 h,j9 e]
def Lh(a:Int)(b:Str):decide ((Sum.inl a:iH)=Sum.inr b)=false:=j9 (λq=>nomatch q)
def MY(a:Str)(b:Int):decide ((Sum.inr a:iH)=Sum.inl b)=false:=j9 (λq=>nomatch q)
def oX(c:Pg)(w:World):PySem.KeyKind c w iH where
 is:=xr
 hash:=CK w
 inj:=λv a b l g=>by
  rcases tu l with⟨i,t,rfl,rfl⟩|⟨x,t,rfl,rfl⟩
  .rcases tu g with⟨j,u,rfl,e⟩|⟨y,u,rfl,e⟩
   .injection e with d _;rw[d]
   .exact nomatch e
  .rcases tu g with⟨j,u,rfl,e⟩|⟨y,u,rfl,e⟩
   .exact nomatch e
   .injection e with d _;rw[d]
 byValue:=λk v h=>by
  rcases tu h with⟨i,t,rfl,rfl⟩|⟨x,t,rfl,rfl⟩<;>rfl
 pyHash:=λf h=>by
  rcases tu f with⟨i,t,rfl,rfl⟩|⟨x,t,rfl,rfl⟩
  .exact wpAny_pyHash_int h
  .exact wpAny_pyHash_str h
 eqBool:=λm f h=>by
  rcases tu m with⟨i,t,rfl,rfl⟩|⟨x,t,rfl,rfl⟩
  .rcases tu f with⟨j,u,rfl,rfl⟩|⟨y,u,rfl,rfl⟩
   .rw[J']at h;exact wpAny_eqBool_int h
   .rw[Lh]at h;exact SeqAt.EqAt.int_str i t y u _ _ _ _ h
  .rcases tu f with⟨j,u,rfl,rfl⟩|⟨y,u,rfl,rfl⟩
   .rw[MY]at h;exact SeqAt.EqAt.str_int x t j u _ _ _ _ h
   .rw[Mz]at h;exact wpAny_eqBool_str h
 «strs»:=λk x t v h=>by
  rcases tu h with⟨i,u,rfl,e⟩|⟨y,u,rfl,e⟩
  .exact nomatch e
  .injection e with d _
   subst d;cases v<;>rfl
def JR(a:Pg)(w:World)(i:Int)(t:Tok):(oX a w).is (.inl i) (.int i t)=true:=JD i t
def LS(a:Pg)(w:World)(x:Str)(t:Tok):(oX a w).is (.inr x) (.str x t)=true:=KL x t
inductive V where
 |non|bl (b:Bool)|int (i:Int)|str (x:Str)|byt (b:Array UInt8)|flt (b:UInt64)|ref (a:Ad)|ty (n:String)
 deriving DecidableEq
def RelV:V->Vl->Prop
 |.non,u=>u=Value.none
 |.bl b,u=>u=Value.bool b
 |.int i,u=>∃t,u=Value.int i t
 |.str x,u=>∃t,u=Value.str x t
 |.byt b,u=>∃t,u=Value.bytes b t
 |.flt b,u=>∃t,u=Value.float b t
 |.ref a,u=>u=Value.ref a
 |.ty n,u=>u=Value.type n
abbrev Vals:List V->List Vl->Prop:=Paired RelV
def Vals.length{xs:List V}{a:Vs}(r:Vals xs a):xs.length=a.length:=r3 r
theorem Vals.get:∀{a:List V} {b:Vs} {i:Nat} {x:V},Vals a b->a[i]?=some x->∃u,b[i]?=some u/\RelV x u
 |_,_,_,_,.nil,e=>by simp at e
 |_,_,0,_,.cons r _,e=>by simp at e;subst e;exact#[_,rZ,r]
 |_,_,i+1,x,.cons _ t,e=>by
  obtain⟨u,c,d⟩:=Vals.get (i:=i) (x:=x) t (by simpa using e);exact#[u,by simpa using c,d]
theorem Vals.set{x:V}{u:Vl}(r:RelV x u):∀{xs:List V} {a:Vs} (i:Nat),Vals xs a->Vals (xs.set i x) (a.set i u)
 |_,_,_,.nil=> .nil
 |_,_,0,.cons _ t=> .cons r t
 |_,_,i+1,.cons q t=> .cons q (Vals.set r i t)
theorem Vals.append:∀{a b:List V} {c d:Vs},Vals a c->Vals b d->Vals (a++b) (c++d)
 |_,_,_,_,.nil,s=>s
 |_,_,_,_,.cons r t,s=> .cons r (Vals.append t s)
def RelO:Option V->Option Vl->Prop
 |some v,some u=>RelV v u
 |none,none=>True
 |_,_=>False
def KV{a:Type}:List (a×V)->List (a×Vl)->Prop:=Paired λ(p:a×V) (q:a×Vl)=>p.1=q.1/\RelV p.2 q.2
def kV:iH->V
 |.inl i=> .int i
 |.inr x=> .str x
inductive HO where
 |lst (xs:List V)
 |tup (xs:List V)
 |dK (kvs:List (iH×V))|dT (kvs:List (List iH×V))
 |set (S:Int->Bool) (n:Nat)
 |ins (C dx:Ad) (fs:List (Str×V))
 |own (x:Ad)
 |xd (fs:List (Str×V))
 |met (f x:Ad)
 |rng (lo hi:Int)
 |frz (o:Obj) (u:HO)
 |tbl (ps:AV)
 |ext (φ:Heap->Prop)
abbrev Hp:=Ad->Option HO
def hA(H:Hp)(a:Ad)(o:HO):Hp:=λb=>if b=a then some o else H b
def hO{H:Hp}{a:Ad}{o:HO}:hA H a o a=some o:=by unfold hA;rw[wB rZ]
def hK{H:Hp}{a b:Ad}{o:HO}(h:b≠a):hA H a o b=H b:=by unfold hA;rw[wA h]
def CF{H:Hp}{a:Ad}{o u:HO}:hA (hA H a o) a u=hA H a u:=by
 funext b;unfold hA;split<;>rfl
def u0{H:Hp}{a b:Ad}{o u:HO}(h:H a=some o)(c:H b=some u)(d:o≠u):a≠b:=by
 intro e;subst e;rw[h]at c;exact d (lW c)
def Gu:HO->Nat
 |.lst _=>0
 |.tup _=>1
 |.dK _=>2
 |.dT _=>3
 |.tbl _=>4
 |.ext _=>5
 |.rng _ _=>6
 |.frz _ _=>7
 |_=>8
def nE{H:Hp}{a b:Ad}{o u:HO}(h:H a=some o)(k:H b=some u)(d:(Gu o==Gu u)=false:=by rfl):a≠b:=u0 h k λe=>by rw[e,wU]at d;cases d
def jf{H:Hp}{a b:Ad}{o:HO}(h:H a=some o)(c:H b=none):a≠b:=by
 intro e;subst e;rw[h]at c;cases c
def TupD(h:Heap)(a:Ad)(b:AV):Prop:=∃o,h.get? a=some o/\o.cls=.type "tuple"/\∃n,o.data=.seq b n/\o.dict=none
def TupD.is{h:Heap}{a:Ad}{b:AV}(p:TupD h a b):IsTup h a b:=let⟨o,e,c,n,d,_⟩:=p;#[o,e,c,n,d]
def TupD.new(h:Heap)(a:AV):TupD (h.push {cls:= .type "tuple",data:= .seq a}) h.objs.size a:=#[_,jp _ rZ,rZ,_,rZ,rZ]
section
variable(P:Pg)(w:World)
def ObjOk(H:Hp)(h:Heap)(a:Ad):HO->Prop
 |.lst d=>d.length<=sizeLine/\∃(b:Vs) (n:Nat),Vals d b/\h.get? a=some {cls:= .type "list",data:= .seq b.toArray n}
 |.tup d=>d.length<=sizeLine/\∃b:Vs,Vals d b/\TupD h a b.toArray
 |.dK c=>c.length<=sizeLine/\(a==sysModules)=false/\∃j,KV c j/\h.DictOf (oX P w) a j
 |.dT c=>c.length<=sizeLine/\(a==sysModules)=false/\∃d:List (List iH×Ad×Vl),
   Paired (λ(p:List iH×V) (q:List iH×Ad×Vl)=>p.1=q.1/\H q.2.1=some (.tup (p.1.map kV))/\RelV p.2 q.2.2) c d/\
   ∃o k r,h.get? a=some o/\o.ExactDict/\o.data=.dict k r/\k.toList=d.map (entryOfKey (tupleKind (oX P w)))/\(d.map (·.1)).Nodup
 |.set S n=>h.SetOf (intKind P w) a S n
 |.ins C g fs=>H g=some (.own a)/\fs.length<=1000/\g≠a/\h.get? a=some (PySem.W.instObj C g)/\
   ∃e,h.Ns1 g e/\(∀f,RelO (fs.lookup f) (e f))/\PySem.Within e (fs.map (·.1))
 |.own _=>∃o,h.get? a=some o
 |.xd fs=>∃e,h.Ns1 a e/\∀f,RelO (fs.lookup f) (e f)
 |.rng lo s=>∃t u v,h.get? a=some {cls:= .type "range",data:= .fields #v[.int lo t,.int s u,.int 1 v]}
 |.frz o u=>h.get? a=some o/\ObjOk H h a u
 |.tbl y=>h.get? a=some {cls:= .none,data:= .fields y}
 |.met f x=>h.get? a=some (PySem.W.methodObj (.ref f) (.ref x))
 |.ext i=>i h/\(∃o,h.get? a=some o)/\∀l m:Heap,i l->(∀o,l.get? a=some o->m.get? a=some o)->i m
def HOk(H:Hp)(h:Heap):Prop:=∀a o,H a=some o->ObjOk P w H h a o
end
section
variable{P:Pg}{w:World}{H H':Hp}{h h':Heap}{a:Ad}{o:HO}
def ObjOk.lt(x:ObjOk P w H h a o):a<h.objs.size:=by
 cases o with
 |lst xs=>obtain⟨_,_,_,_,e⟩:=x;exact iu e
 |tup xs=>obtain⟨_,_,_,p⟩:=x;exact p.is.lt
 |dK b=>obtain⟨_,_,_,_,o,_,_,e,_⟩:=x;exact iu e
 |dT b=>obtain⟨_,_,_,_,o,_,_,e,_⟩:=x;exact iu e
 |set S n=>obtain⟨o,_,_,_,e,_⟩:=x;exact iu e
 |ins C c fs=>obtain⟨_,_,_,e,_⟩:=x;exact iu e
 |own y=>obtain⟨_,e⟩:=x;exact iu e
 |xd fs=>obtain⟨_,⟨_,_,_,e,_⟩,_⟩:=x;exact iu e
 |rng lo d=>obtain⟨_,_,_,e⟩:=x;exact iu e
 |frz g u=>obtain⟨e,_⟩:=x;exact iu e
 |tbl i=>exact iu (show h.get? a=some _ from x)
 |met f y=>exact iu (show h.get? a=some _ from x)
 |ext j=>obtain⟨_,⟨_,e⟩,_⟩:=x;exact iu e
theorem Paired.mapP{e g:Type}{F G:e->g->Prop}:∀{c:List e} {d:List g},Paired F c d->(∀a b,F a b->G a b)->Paired G c d
 |_,_,.nil,_=> .nil
 |_,_,.cons r t,f=> .cons (f _ _ r) (Paired.mapP t f)
def ObjOk.stay(x:ObjOk P w H h a o)(k:∀b u,(b=a\/H b=some (.own a))->h.get? b=some u->h'.get? b=some u)(E:∀b,H b=some (.own a)->H' b=some (.own a)) (ht:∀b m,H b=some (.tup m)->H' b=some (.tup m)):ObjOk P w H' h' a o:=by
 induction o with
 |lst m=>obtain⟨z,l,n,r,e⟩:=x;exact#[z,l,n,r,k _ _ (.inl rZ) e]
 |tup m=>obtain⟨z,l,r,g,e,c⟩:=x;exact#[z,l,r,g,k _ _ (.inl rZ) e,c]
 |dK s=>obtain⟨z,y,G,r,g,i,j,e,c⟩:=x;exact#[z,y,G,r,g,i,j,k _ _ (.inl rZ) e,c]
 |dT s=>
  obtain⟨z,y,m,r,g,i,j,e,c⟩:=x;exact#[z,y,m,Paired.mapP r λp q z=>#[z.1,ht _ _ z.2.1,z.2.2],g,i,j,k _ _ (.inl rZ) e,c]
 |set S n=>obtain⟨g,i,j,t,e,c⟩:=x;exact#[g,i,j,t,k _ _ (.inl rZ) e,c]
 |ins C M fs=>
  obtain⟨d,z,I,e,A,⟨B,i,j,J,c⟩,r⟩:=x;exact#[E _ d,z,I,k _ _ (.inl rZ) e,A,#[B,i,j,k _ _ (.inr d) J,c],r]
 |own y=>obtain⟨g,e⟩:=x;exact#[g,k _ _ (.inl rZ) e]
 |xd fs=>obtain⟨A,⟨B,i,j,e,c⟩,r⟩:=x;exact#[A,#[B,i,j,k _ _ (.inl rZ) e,c],r]
 |rng lo N=>obtain⟨t,u,v,e⟩:=x;exact#[t,u,v,k _ _ (.inl rZ) e]
 |frz g u L=>obtain⟨e,q⟩:=x;exact#[k _ _ (.inl rZ) e,L q]
 |tbl D=>
  have e:h.get? a=some {cls:= .none,data:= .fields D}:=x;show h'.get? a=some {cls:= .none,data:= .fields D};exact k a _ (.inl rZ) e
 |met f y=>
  have e:h.get? a=some (PySem.W.methodObj (.ref f) (.ref y)):=x;show h'.get? a=some (PySem.W.methodObj (.ref f) (.ref y));exact k a _ (.inl rZ) e
 |ext O=>obtain⟨p,⟨o,e⟩,st⟩:=x;exact#[st _ _ p λo q=>k _ _ (.inl rZ) q,#[o,k _ _ (.inl rZ) e],st]
def HOk.lt(x:HOk P w H h)(e:H a=some o):a<h.objs.size:=(x a o e).lt
def HOk.fresh(x:HOk P w H h)(e:h.objs.size<=a):H a=none:=by
 cases q:H a with
 |none=>rfl
 |some u=>exact wC (jy (x.lt q) e) (oi _)
def HOk.kept(x:HOk P w H h)(k:∀b u,h.get? b=some u->h'.get? b=some u):HOk P w H h':=λa o e=>
 (x a o e).stay (λb u _ q=>k b u q) (λ_ q=>q) λ_ _ q=>q
def HOk.laid(x:HOk P w H h)(k:∀b u,h.get? b=some u->h'.get? b=some u)(g:h.objs.size<=a)(new:ObjOk P w (hA H a o) h' a o):HOk P w (hA H a o) h':=λb u e=>by
 have d:=x.fresh g;by_cases f:b=a
 .subst f;rw[hO]at e;cases e;exact new
 .rw[hK f]at e;exact(x b u e).stay (λc v _ q=>k c v q) (λc q=>by rw[hK (jf q d)];exact q) λc i q=>by rw[hK (jf q d)];exact q
end
def Rd(H:Hp)(a:Ad)(u:HO):Prop:=H a=some u\/∃o,H a=some (.frz o u)
def Rd.ok{P:Pg}{w:World}{H:Hp}{h:Heap}{a:Ad}{u:HO}(r:Rd H a u)(x:HOk P w H h):ObjOk P w H h a u:=by
 rcases r with r|⟨o,r⟩
 .exact x a u r
 .obtain⟨_,q⟩:=x a _ r;exact q
def zv:Option HO->Prop
 |some (.lst _)=>True
 |some (.dK _)=>True
 |some (.dT _)=>True
 |some (.set _ _)=>True
 |some (.ins _ _ _)=>True
 |some (.ext _)=>True
 |_=>False
section
variable{P:Pg}{w:World}{H:Hp}{h h':Heap}{x e:Ad}{a:HO}
def HOk.write(ok:HOk P w H h)(i:zv (H x))(n:e=x\/H e=some (.own x))(k:∀b u,b≠e->h.get? b=some u->h'.get? b=some u)(m:∃u,h'.get? e=some u)(new:ObjOk P w (hA H x a) h' x a):HOk P w (hA H x a) h':=λb u q=>by
 have f:∀c y,H c=some (.own y)->c≠x:=λc y r z=>by subst z;rw[r]at i;exact i
 have g:∀c j,H c=some (.tup j)->c≠x:=λc j r z=>by subst z;rw[r]at i;exact i
 by_cases l:b=x
 .subst l;rw[hO]at q;cases q;exact new
 .rw[hK l]at q;by_cases d:b=e
  .have o:H b=some (.own x):=by
    rcases n with z|z
    .exact wC (d.trans z) l
    .rw[d];exact z
   rw[q]at o;cases o;obtain⟨v,p⟩:=m;exact#[v,by rw[d];exact p]
  .refine(ok b u q).stay (λc v hc r=>k c v ?_ r) (λc r=>by rw[hK (f c b r)];exact r) λc j r=>by rw[hK (g c j r)];exact r
   rcases hc with rfl|hc
   .exact d
   .rintro rfl
    rcases n with z|z
    .exact f c b hc z
    .rw[hc]at z;cases z;exact l rfl
end
structure Un(fs ex:As)(H H':Hp)(h h':Heap):Prop where
 keep:∀b o,h.get? b=some o->H b=none->b∉fs->b∉ex->h'.get? b=some o
 slot:∀b o,h.get? b=some o->H b=none->b∈fs->b∉ex->∃sl,h'.get? b=some {o with slots:=sl}
 free:∀b o,h.get? b=some o->H b=none->b∉ex->H' b=none
 there:∀b o,h.get? b=some o->b∉ex->∃o',h'.get? b=some o'
 tups:∀b xs,H b=some (.tup xs)->H' b=some (.tup xs)
 frzs:∀b o u,H b=some (.frz o u)->H' b=some (.frz o u)
 tbls:∀b ps,H b=some (.tbl ps)->∃more,H' b=some (.tbl (ps++more))
section
variable{fs f c g:As}{H i j:Hp}{h d l h':Heap}{a x e:Ad}{o:HO}
def Un.any(u:Un fs c H i h d){b:Ad}{ob:Obj}(q:h.get? b=some ob)(n:H b=none)(a:b∉c):∃sl,d.get? b=some {ob with slots:=sl}:=by
 by_cases e:b∈fs
 .exact u.slot b ob q n e a
 .exact#[ob.slots,u.keep b ob q n e a]
def Un.kept(k:∀b u,h.get? b=some u->h'.get? b=some u):Un fs c H H h h':=
 #[λb a q _ _ _=>k b a q,λb a q _ _ _=>#[a.slots,k b a q],λ_ _ _ n _=>n,λb a q _=>#[a,k b a q],λ_ _ q=>q,λ_ _ _ q=>q,λ_ d q=>#[#v[],by rw[q];simp]]
def Un.refl:Un fs c H H h h:=Un.kept λ_ _ q=>q
def Un.laid(k:∀b u,h.get? b=some u->h'.get? b=some u)(e:h.objs.size<=a)(d:H a=none):Un fs c H (hA H a o) h h' where
 keep:=λb u q _ _ _=>k b u q
 slot:=λb u q _ _ _=>#[u.slots,k b u q]
 free:=λb u q n _=>by rw[hK (i6 (jy (iu q) e))];exact n
 there:=λb u q _=>#[u,k b u q]
 tups:=λb f q=>by rw[hK (jf q d)];exact q
 frzs:=λb u f q=>by rw[hK (jf q d)];exact q
 tbls:=λb g q=>#[#v[],by rw[hK (jf q d),q];simp]
def Un.write(d:zv (H x))(l:e=x\/H e=some (.own x))(k:∀b u,b≠e->h.get? b=some u->h'.get? b=some u)(f:∃u,h'.get? e=some u):Un fs c H (hA H x o) h h':=by
 have i:∀b,H b=none->b≠x:=λb n z=>by subst z;rw[n]at d;exact d
 have j:∀b,H b=none->b≠e:=λb n z=>by
  subst z
  rcases l with r|r
  .exact i b n r
  .rw[n]at r;cases r
 have g:∀b u,H b=some u-> ¬zv (some u)->b≠x:=λb u q m z=>by subst z;rw[q]at d;exact m d
 refine#[λb u q n _ _=>k b u (j b n) q,λb u q n _ _=>#[u.slots,k b u (j b n) q],λb u q n _=>by rw[hK (i b n)];exact n,λb u q _=>?_,
  λb p q=>by rw[hK (g b _ q λz=>z)];exact q,λb u p q=>by rw[hK (g b _ q λz=>z)];exact q,λb s q=>#[#v[],by rw[hK (g b _ q λz=>z),q];simp]]
 by_cases a:b=e
 .subst a;exact f
 .exact#[u,k b u a q]
end
def Al(h:Heap)(H:Hp):As:=(List.range h.objs.size).filter λa=>(H a).isSome
def rP(h:Heap)(H:Hp):Heap:=PySem.W.hideAll h (Al h H)
def NX(h:Heap)(H:Hp):(rP h H).objs.size=h.objs.size:=PySem.W.hideAll_size _ _
def Dr{h:Heap}{H:Hp}{b:Ad}{o:Obj}(e:h.get? b=some o)(n:H b=none):(rP h H).get? b=some o:=
 xT _ e λa=>by
  have q:(H b).isSome=true:=(kC.mp a).2;rw[n]at q;simp at q
def JW{h:Heap}{H:Hp}{b:Ad}{o:Obj}(e:(rP h H).get? b=some o):h.get? b=some o/\H b=none:=by
 have a:h.get? b=some o:=C1 (Al h H) e;refine#[a,?_];cases q:H b with
 |none=>rfl
 |some x=>
  have c:b∈Al h H:=kC.mpr #[nj.mpr (iu a),by simp[q]];have z:(rP h H).get? b=none:=zW (Al h H) c;rw[z]at e;cases e
def Nk(g h:Heap)(L:Ad):AO:=(List.range h.objs.size).filterMap λa=>if a=L\/(g.get? a).isSome=true then none else(h.get? a).map λo=>(a,o)
def rest(g h:Heap)(L d:Ad):AO:=(Nk g h L).filter λp=>decide (p.1≠d)
structure Mod(K:O0)(mg:SV)(base:Heap):Prop where
 kin:K.In base
 glob:base.Ns mainGlobals mg
 blt:∃mb,base.Ns builtinsNs mb/\∀x:Str,x≠"__name__"->mb x=bootBuiltins x
 nolimit:base.NoLimit
structure Cx where
 prog:Pg
 w:World
 K:O0
 mg:SV
 base:Heap
 A:Ar
 N:Ss
 s₀:Sh
 H₀:Hp
 env:Env
 outer:List Env
 stack:List Env
 ex:As
 fn:Str->Bool
 calm:Bool
 pn:AO
 xe:VP
def iI(l:List Env):As:=l.filterMap (·.frame)
abbrev Cx.fs(X:Cx):As:=iI X.outer
def Dd(a:Scope)(x:Str):Prop:=a.names.lookup x=some .local\/a.names.lookup x=some .cell\/a.names.lookup x=some .free
def Az(a:Scope)(x:Str):Prop:=a.names.lookup x=some .local\/a.names.lookup x=some .cell
def Ed(a:Env)(h:Heap)(m:SV)(x:Str)(u:Vl):Prop:=
 (a.kindOf x=some .local/\m x=some u)\/((a.kindOf x=some .cell\/a.kindOf x=some .free)/\∃c,a.cells.lookup x=some c/\h.IsCell c (some u))
structure Cx.Ok(X:Cx):Prop where
 mod:Mod X.K X.mg X.base
 kind:X.env.scope.kind=.function
 glob:X.env.globals=mainGlobals
 blt:X.env.builtins=builtinsNs
 above:X.s₀.heap.objs.size<=X.env.locals
 inj:∀x y c,X.env.cells.lookup x=some c->X.env.cells.lookup y=some c->x=y
 has:∀x,(X.env.kindOf x=some .cell\/X.env.kindOf x=some .free)->∃c,X.env.cells.lookup x=some c
 cab:∀x c,X.fn x=true->X.env.cells.lookup x=some c->X.s₀.heap.objs.size<=c
 hd:X.calm=true->X.A.handled=none
 frames:X.A.frames=some X.stack
 stk:X.stack=X.outer\/(X.stack=X.env::X.outer/\X.env.frame=some X.env.locals)
 exf:∀b∈X.ex,b≠X.env.locals/\∀x c,X.env.cells.lookup x=some c->c≠b
 bs:∀b o,X.base.get? b=some o->X.s₀.heap.get? b=some o/\X.H₀ b=none
 bsz:X.base.objs.size<=X.s₀.heap.objs.size
 noex:∀b o,X.base.get? b=some o->b∉X.ex
 exfs:∀b∈X.ex,b∉X.fs
 funs:X.s₀.heap.FunFrames X.base X.outer
 frf:∀b∈X.fs,X.H₀ b=none
structure Inv(X:Cx)(Z:AO)(σ:List (Option V))(H:Hp)(s:Sh):Prop where
 ok:X.Ok
 os:s.os=X.s₀.os
 bare:AllBare s.gens
 base:Un X.fs X.ex X.H₀ H X.s₀.heap s.heap
 loc:∃m,s.heap.Ns X.env.locals m/\∀(i:Nat) (x:Str) (v:V),X.N[i]?=some x->σ[i]?=some (some v)->Dd X.env.scope x->∃u,RelV v u/\Ed X.env s.heap m x u
 cell:∀x c,X.env.cells.lookup x=some c->∃v,s.heap.IsCell c v
 free:H X.env.locals=none
 freeC:∀x c,X.env.cells.lookup x=some c->H c=none
 pin:∀p∈X.pn++Z,s.heap.get? p.1=some p.2/\H p.1=none/\p.1≠X.env.locals/\p.1∉X.fs/\∀v,p.2.data≠ .cell v
 hok:HOk X.prog X.w H s.heap
 len:σ.length=X.N.length
section
variable{X:Cx}{Z:AO}{f:List (Option V)}{H H':Hp}{s:Sh}{h':Heap}
def Cx.Ok.nofr(ok:X.Ok){b:Ad}{o:Obj}(e:X.base.get? b=some o):b∉X.fs:=λa=>by
 have:=(ok.funs.mem a).1;rw[e]at this;cases this
def Inv.bs(I:Inv X Z f H s):∀b o,X.base.get? b=some o->s.heap.get? b=some o/\H b=none:=λb o e=>
 #[I.base.keep b o (I.ok.bs b o e).1 (I.ok.bs b o e).2 (I.ok.nofr e) (I.ok.noex b o e),I.base.free b o (I.ok.bs b o e).1 (I.ok.bs b o e).2 (I.ok.noex b o e)]
def Inv.bk(I:Inv X Z f H s):∀b o,X.base.get? b=some o->s.heap.get? b=some o:=λb o e=>(I.bs b o e).1
def Inv.mod(I:Inv X Z f H s):Mod X.K X.mg X.base:=I.ok.mod
def Inv.kIn(I:Inv X Z f H s):X.K.In s.heap:=I.ok.mod.kin.keeps I.bk
def Inv.lt(I:Inv X Z f H s):X.env.locals<s.heap.objs.size:=let⟨_,a,_⟩:=I.loc;a.lt
def Inv.sz(I:Inv X Z f H s):X.s₀.heap.objs.size<=s.heap.objs.size:=i5 I.ok.above (nZ I.lt)
def Inv.nofs(I:Inv X Z f H s){a:Ad}(h:s.heap.objs.size<=a):a∉X.fs:=λb=>by
 obtain⟨_,o,c,_⟩:=I.ok.funs.mem b;exact wC (jy (iu c) (i5 I.sz h)) (oi _)
def Inv.cne(I:Inv X Z f H s):∀x c,X.env.cells.lookup x=some c->c≠X.env.locals:=λx c e z=>by
 obtain⟨v,o,d,g⟩:=I.cell x c e;obtain⟨m,⟨h,i,j,a,b,_⟩,_⟩:=I.loc;rw[z,a]at d;cases d;rw[b]at g;cases g
def Inv.funs(I:Inv X Z f H s):s.heap.FunFrames X.base X.outer:=by
 have all:∀(l:List Env),(∀b∈iI l,b∈X.fs)->X.s₀.heap.FunFrames X.base l->s.heap.FunFrames X.base l:=by
  intro l
  induction l with
  |nil=>intro _ _;trivial
  |cons h r i=>
   intro g j;obtain⟨k,⟨L,o,a,m,n,p⟩,q⟩:=j;have c:L∈X.fs:=g L (by unfold iI;rw[List.filterMap_cons,a];exact List.mem_cons_self);obtain⟨sl,e⟩:=I.base.slot L o n (I.ok.frf L c) c λz=>I.ok.exfs L z c
   exact#[k,#[L,_,a,m,e,p],i (λb d=>g b (by unfold iI;rw[List.filterMap_cons,a];exact List.mem_cons_of_mem _ d)) q]
 exact all X.outer (λ_ d=>d) I.ok.funs
def Inv.stack(I:Inv X Z f H s):s.heap.FunFrames X.base X.stack:=by
 rcases I.ok.stk with e|⟨e,a⟩
 .rw[e];exact I.funs
 .rw[e];obtain⟨m,b,_⟩:=I.loc;refine .cons (by rw[I.ok.kind];decide) a b ?_ I.funs;exact Ak (i5 I.ok.bsz I.ok.above)
def Inv.stkSub(I:Inv X Z f H s):∀b∈iI X.stack,b∈X.env.locals::X.fs:=λb a=>by
 rcases I.ok.stk with e|⟨e,c⟩
 .rw[e]at a;exact jr _ a
 .rw[e]at a;unfold iI at a;rw[List.filterMap_cons,c]at a;exact a
def Inv.stkFree(I:Inv X Z f H s):∀b∈iI X.stack,H b=none:=λb hb=>by
 rcases iM.mp (I.stkSub b hb)with e|hb
 .rw[e];exact I.free
 .obtain⟨_,o,a,_⟩:=I.ok.funs.mem hb;exact I.base.free b o a (I.ok.frf b hb) λz=>I.ok.exfs b z hb
def Inv.step{g':Array GenState}{t':Nat}{d':Drawn}{ch:As}(I:Inv X Z f H s)(g:∀b∈ch,(b∈X.ex\/X.s₀.heap.objs.size<=b)/\b≠X.env.locals/\(∀x c,X.env.cells.lookup x=some c->c≠b)/\∀p∈X.pn++Z,p.1≠b)(keep:∀b o,b≠X.env.locals->b∉X.fs->b∉ch->s.heap.get? b=some o->H b=none->h'.get? b=some o)(y:∀b o,b≠X.env.locals->b∈X.fs->b∉ch->s.heap.get? b=some o->H b=none->∃sl,h'.get? b=some {o with slots:=sl}) (free:∀b o,b∉ch->s.heap.get? b=some o->H b=none->H' b=none)
  (B:∀b o,b∉ch->s.heap.get? b=some o->∃E,h'.get? b=some E)
  (G:∀b A,H b=some (.tup A)->H' b=some (.tup A)) (J:∀b o u,H b=some (.frz o u)->H' b=some (.frz o u)) (L:∀b O,H b=some (.tbl O)->∃more,H' b=some (.tbl (O++more)))
  (ns:∀m,s.heap.Ns X.env.locals m->h'.Ns X.env.locals m) (Q:HOk X.prog X.w H' h') (hg:AllBare g'):
  Inv X Z f H' {s with heap:=h',gens:=g',drawn:=d',toks:=t'}:=by
 have M:∀b o,X.s₀.heap.get? b=some o->b≠X.env.locals:=λb o e=>i6 (jy (iu e) I.ok.above);have t:∀b o,X.s₀.heap.get? b=some o->b∉X.ex->b∉ch:=λb o e a C=>by
  rcases (g b C).1 with z|z
  .exact a z
  .exact wC (jy (iu e) z) (oi _)
 have h:∀x c,X.env.cells.lookup x=some c->∀v,s.heap.IsCell c v->h'.IsCell c v:=λx c e v ⟨o,D,T⟩=>by
  have j:c∉ch:=λz=>(g c z).2.2.1 x c e rfl;by_cases Y:c∈X.fs
  .obtain⟨sl,q⟩:=y c o (I.cne x c e) Y j D (I.freeC x c e);exact#[_,q,T]
  .exact#[o,keep c o (I.cne x c e) Y j D (I.freeC x c e),T]
 refine#[I.ok,I.os,hg,#[λb o e n C a=>?_,λb o e n C a=>?_,λb o e n a=>?_,λb o e a=>?_,λb A e=>G b A (I.base.tups b A e),λb o A e=>J b o A (I.base.frzs b o A e),λb O e=>?_],?_,λx c e=>?_,?_,λx c e=>?_,λp hp=>?_,Q,I.len]
 .exact keep b o (M b o e) C (t b o e a) (I.base.keep b o e n C a) (I.base.free b o e n a)
 .obtain⟨sl,w⟩:=I.base.slot b o e n C a;obtain⟨U,N⟩:=y b _ (M b o e) C (t b o e a) w (I.base.free b o e n a);exact#[U,N]
 .obtain⟨E,w⟩:=I.base.there b o e a;exact free b E (t b o e a) w (I.base.free b o e n a)
 .obtain⟨E,w⟩:=I.base.there b o e a;exact B b E (t b o e a) w
 .obtain⟨m1,w⟩:=I.base.tbls b O e;obtain⟨m2,N⟩:=L b _ w;exact#[m1++m2,by rw[N,Array.append_assoc]]
 .obtain⟨m,hn,hl⟩:=I.loc;refine#[m,ns m hn,λi x v w N e3=>?_];obtain⟨u,r,l⟩:=hl i x v w N e3;refine#[u,r,?_]
  rcases l with l|⟨k,c,e,z⟩
  .exact .inl l
  .exact .inr #[k,c,e,h x c e _ z]
 .obtain⟨v,z⟩:=I.cell x c e;exact#[v,h x c e v z]
 .obtain⟨m,⟨o,_,_,D,_⟩,_⟩:=I.loc;exact free _ o (λz=>(g _ z).2.1 rZ) D I.free
 .obtain⟨v,o,D,T⟩:=I.cell x c e;exact free c o (λz=>(g c z).2.2.1 x c e rZ) D (I.freeC x c e)
 .obtain⟨e,n,ne,nf,d⟩:=I.pin p hp;have j:p.1∉ch:=λz=>(g p.1 z).2.2.2 p hp rfl;exact#[keep p.1 p.2 ne nf j e n,free p.1 p.2 j e n,ne,nf,d]
def Inv.un{t':Nat}(I:Inv X Z f H s)(u:Un X.fs [] H H' s.heap h')(c:HOk X.prog X.w H' h'):Inv X Z f H' {s with heap:=h',toks:=t'}:=by
 obtain⟨m,⟨o,p,q,i,r⟩,_⟩:=id I.loc;obtain⟨sl,j⟩:=u.any i I.free (by simp);exact I.step (g':=s.gens) (d':=s.drawn) (ch:=[]) (λ_ z=>nomatch z) (λb o _ d _ e n=>u.keep b o e n d (by simp)) (λb o _ d _ e n=>u.slot b o e n d (by simp)) (λb o _ e n=>u.free b o e n (by simp)) (λb o _ e=>u.there b o e (by simp)) u.tups u.frzs u.tbls (λt k=>by
  obtain⟨v,g,h,a,l⟩:=k;rw[i]at a;cases a;exact#[_,g,h,j,l]) c I.bare
def Inv.call{g':Array GenState}{t':Nat}{d':Drawn}{ch:As}(I:Inv X Z f H s)(u:Un (iI X.stack) ch H H' s.heap h')(h:HOk X.prog X.w H' h')(q:AllBare g')(d:∀b∈ch,(b∈X.ex\/X.s₀.heap.objs.size<=b)/\b≠X.env.locals/\(∀x c,X.env.cells.lookup x=some c->c≠b)/\∀p∈X.pn++Z,p.1≠b):
  Inv X Z f H' {s with heap:=h',gens:=g',drawn:=d',toks:=t'}:=by
 obtain⟨m,⟨o,y,A,l,r⟩,_⟩:=id I.loc;obtain⟨sl,i⟩:=u.any l I.free λz=>(d _ z).2.1 rfl;exact I.step (ch:=ch) d (λb o i t a e n=>u.keep b o e n (λz=>(iM.mp (I.stkSub b z)).elim i t) a) (λb o _ _ a e n=>u.any e n a) (λb o a e n=>u.free b o e n a) (λb o a e=>u.there b o e a) u.tups u.frzs u.tbls (λB v=>by
  obtain⟨C,j,k,g,w⟩:=v;rw[l]at g;cases g;exact#[_,j,k,i,w]) h q
def Inv.turned{t':Nat}{it:Ad}(I:Inv X Z f H s)(k:∀b o,b≠it->s.heap.get? b=some o->h'.get? b=some o)(h:H it=none)(g:it≠X.env.locals)(i:it∈X.ex\/X.s₀.heap.objs.size<=it) (j:∀x c,X.env.cells.lookup x=some c->c≠it) (l:∀p∈X.pn++Z,p.1≠it):Inv X Z f H {s with heap:=h',toks:=t'}:=by
 have d:∀b u,H b=some u->b≠it:=λb u e z=>by rw[z,h]at e;cases e
 refine I.step (g':=s.gens) (d':=s.drawn) (ch:=[it]) (λb t=>?_) (λb o _ _ a e _=>k b o (λz=>a (by simp[z])) e) (λb o _ _ a e _=>#[o.slots,k b o (λz=>a (by simp[z])) e]) (λ_ _ _ _ n=>n)
  (λb o a e=>#[o,k b o (λz=>a (by simp[z])) e]) (λ_ _ e=>e) (λ_ _ _ e=>e) (λb C e=>#[#v[],by rw[e];simp]) (λm w=>?_) (λb u e=>?_) I.bare
 .have e:b=it:=by simpa using t
  subst e;exact#[i,g,j,l]
 .obtain⟨o,y,A,B,r⟩:=w;exact#[o,y,A,k _ o (jq g) B,r]
 .refine(I.hok b u e).stay (λc v a q=>k c v ?_ q) (λ_ q=>q) λ_ _ q=>q
  rcases a with z|z
  .rw[z];exact d b u e
  .exact d c _ z
def Inv.tok(I:Inv X Z f H s)(t:Nat):Inv X Z f H {s with toks:=t}:=I.un (h':=s.heap) (t':=t) Un.refl I.hok
def Inv.kept{t':Nat}(I:Inv X Z f H s)(k:∀b u,s.heap.get? b=some u->h'.get? b=some u):Inv X Z f H {s with heap:=h',toks:=t'}:=I.un (Un.kept k) (I.hok.kept k)
def Inv.laid{a:Ad}{o:HO}{t':Nat}(I:Inv X Z f H s)(k:∀b u,s.heap.get? b=some u->h'.get? b=some u)(c:s.heap.objs.size<=a)(new:ObjOk X.prog X.w (hA H a o) h' a o):
  Inv X Z f (hA H a o) {s with heap:=h',toks:=t'}:=I.un (Un.laid k c (I.hok.fresh c)) (I.hok.laid k c new)
def Inv.write{x e:Ad}{o:HO}{t':Nat}(I:Inv X Z f H s)(c:zv (H x))(d:e=x\/H e=some (.own x))(k:∀b u,b≠e->s.heap.get? b=some u->h'.get? b=some u)(a:∃u,h'.get? e=some u)(new:ObjOk X.prog X.w (hA H x o) h' x o):Inv X Z f (hA H x o) {s with heap:=h',toks:=t'}:=I.un (Un.write c d k a) (I.hok.write c d k a new)
def Inv.weak{a:List (Option V)}(I:Inv X Z f H s)(c:a.length=f.length)(w:∀(i:Nat) v,a[i]?=some (some v)->f[i]?=some (some v)):Inv X Z a H s:=
 #[I.ok,I.os,I.bare,I.base,let⟨m,d,b⟩:=I.loc;#[m,d,λi x v e g h=>b i x v e (w i v g) h],I.cell,I.free,I.freeC,I.pin,I.hok,c.trans I.len]
def Inv.pins_of{a:AO}(I:Inv X Z f H s)(h:∀p∈a,s.heap.get? p.1=some p.2/\H p.1=none/\p.1≠X.env.locals/\p.1∉X.fs/\∀v,p.2.data≠ .cell v):Inv X a f H s:=
 #[I.ok,I.os,I.bare,I.base,I.loc,I.cell,I.free,I.freeC,λp b=>(iN.mp b).elim (λz=>I.pin p (pA _ z)) (h p),I.hok,I.len]
def Es{N:Ss}(c:N.Nodup){i j:Nat}{x:Str}(a:N[i]?=some x)(b:N[j]?=some x):i=j:=by
 obtain⟨f,d⟩:=ik.mp a;obtain⟨g,e⟩:=ik.mp b;exact(C2 c).mp (d.trans e.symm)
def DA{M:Model}{A:Ar}{E:VP}{i:Nat}{x:Str}{v:V}{u:Vl}{Q:Unit->Sh->Prop}(I:Inv X Z f H s)(hN:X.N.Nodup)(N:X.N[i]?=some x)(w:Az X.env.scope x)(r:RelV v u)(h:∀s',Inv X Z (f.set i (some v)) H s'->(∃a,Heap.SameBut a s.heap s'.heap/\(a=X.env.locals\/X.env.cells.lookup x=some a))->Q ⟨⟩ s') (hf:X.fn x=true\/X.env.scope.names.lookup x=some .local:=by first|exact .inl rfl|exact .inr rfl|assumption):wpAny M A (storeName X.env x u) Q E s:=by
 obtain⟨m,hn,hl⟩:=id I.loc;have O:(X.env.scope.kind== .class || (X.env.scope.kind== .module&&X.env.locals != X.env.globals))=false:=by rw[I.ok.kind];rfl
 have D:i<f.length:=by rw[I.len];exact(ik.mp N).1
 have cne:=I.cne;have l:∀{a:Ad} {h':Heap},(∃o,s.heap.get? a=some o/\H a=none)->Heap.SameBut a s.heap h'->HOk X.prog X.w H h':=λ{a h'} ha g b ob e=>by
  obtain⟨_,_,B⟩:=ha;refine(I.hok b ob e).stay (λc w' hc q=>(g.2 c ?_).trans q) (λ_ q=>q) λ_ _ q=>q;rintro rfl
  rcases hc with rfl|hc
  .rw[B]at e;cases e
  .rw[B]at hc;cases hc
 rcases w with hk|hk
 .refine wpAny_storeName_local hk hn (λh' ab g=>?_) O;obtain⟨oL,_,_,ae,_⟩:=id hn;refine h _ #[I.ok,I.os,I.bare,#[λb o e n G w=>?_,λb o e n G w=>?_,I.base.free,λb o e w=>?_,I.base.tups,I.base.frzs,I.base.tbls],#[_,ab,λj y v' t C e3=>?_],λy c e=>?_,I.free,I.freeC,λp hp=>?_,l #[oL,ae,I.free] g,by simpa using I.len] #[_,g,.inl rZ]
  .exact(g.2 b (i6 (jy (iu e) I.ok.above))).trans (I.base.keep b o e n G w)
  .obtain⟨sl,t⟩:=I.base.slot b o e n G w;exact#[sl,(g.2 b (i6 (jy (iu e) I.ok.above))).trans t]
  .obtain⟨o',t⟩:=I.base.there b o e w;exact#[o',(g.2 b (i6 (jy (iu e) I.ok.above))).trans t]
  .by_cases J:j=i
   .subst J;rw[N]at t;cases t;rw[List.getElem?_set_self D]at C;cases C;exact#[u,r,.inl #[hk,by simp]]
   .rw[BY (jq J)]at C;obtain⟨u',r',q⟩:=hl j y v' t C e3;refine#[u',r',?_]
    rcases q with⟨k,e⟩|⟨k,c,e,z⟩
    .refine .inl #[k,?_];have:y≠x:=λe=>J (Es hN t (e▸N));simp[this,e]
    .exact .inr #[k,c,e,z.sameBut g (cne y c e)]
  .obtain⟨w',z⟩:=I.cell y c e;exact#[w',z.sameBut g (cne y c e)]
  .obtain⟨e,n,ne,nf,d⟩:=I.pin p hp;exact#[(g.2 p.1 ne).trans e,n,ne,nf,d]
 .have L:X.fn x=true:=by
   rcases hf with z|z
   .exact z
   .rw[z]at hk;cases hk
  obtain⟨c,hc⟩:=I.ok.has x (.inl hk);obtain⟨w',z⟩:=I.cell x c hc;refine wpAny_storeName_cell I.ok.kind hk hc z (λh' T g=>?_);obtain⟨oc,U,Y⟩:=id z;refine h {s with heap:=h'} #[I.ok,I.os,I.bare,#[λb o e n G w=>?_,λb o e n G w=>?_,I.base.free,λb o e w=>?_,I.base.tups,I.base.frzs,I.base.tbls],#[m,hn.sameBut g (jq (cne x c hc)),λj y v' t C e3=>?_],λy c' e=>?_,I.free,I.freeC,λp hp=>?_,l #[oc,U,I.freeC x c hc] g,by simpa using I.len] #[c,g,.inr hc]
  .exact(g.2 b (i6 (jy (iu e) (I.ok.cab x c L hc)))).trans (I.base.keep b o e n G w)
  .obtain⟨sl,t⟩:=I.base.slot b o e n G w;exact#[sl,(g.2 b (i6 (jy (iu e) (I.ok.cab x c L hc)))).trans t]
  .obtain⟨o',t⟩:=I.base.there b o e w;exact#[o',(g.2 b (i6 (jy (iu e) (I.ok.cab x c L hc)))).trans t]
  .by_cases J:j=i
   .subst J;rw[N]at t;cases t;rw[List.getElem?_set_self D]at C;cases C;exact#[u,r,.inr #[.inl hk,c,hc,T]]
   .rw[BY (jq J)]at C;obtain⟨u',r',q⟩:=hl j y v' t C e3;refine#[u',r',?_]
    rcases q with q|⟨k,c',e,z'⟩
    .exact .inl q
    .refine .inr #[k,c',e,z'.sameBut g ?_];rintro rfl;exact J (Es hN t (I.ok.inj _ _ _ e hc▸N))
  .by_cases aa:c'=c
   .subst aa;exact#[_,T]
   .obtain⟨w2,z2⟩:=I.cell y c' e;exact#[w2,z2.sameBut g aa]
  .obtain⟨e,n,ne,nf,d⟩:=I.pin p hp;refine#[(g.2 p.1 ?_).trans e,n,ne,nf,d];intro q;rw[q,U]at e;have q':oc=p.2:=lW e;exact d w' (by rw[<-q'];exact Y)
def CY{M:Model}{A:Ar}{E:VP}{i:Nat}{x:Str}{v:V}{u:Vl}{Q:Unit->Sh->Prop}(I:Inv X Z f H s)(b:X.N.Nodup)(c:X.N[i]?=some x)(d:Az X.env.scope x)(r:RelV v u)(h:∀a,Inv X Z (f.set i (some v)) H a->Q ⟨⟩ a) (e:X.fn x=true\/X.env.scope.names.lookup x=some .local:=by first|exact .inl rfl|exact .inr rfl|assumption):wpAny M A (storeName X.env x u) Q E s:=
 DA I b c d r (λa g _=>h a g) e
def Inv.call'{s':Sh}{ch:As}(I:Inv X Z f H s)(g:s'.os=s.os)(u:Un (iI X.stack) ch H H' s.heap s'.heap)(a:HOk X.prog X.w H' s'.heap)(h:AllBare s'.gens)(d:∀b∈ch,(b∈X.ex\/X.s₀.heap.objs.size<=b)/\b≠X.env.locals/\(∀x c,X.env.cells.lookup x=some c->c≠b)/\∀p∈X.pn++Z,p.1≠b):Inv X Z f H' s':=by
 obtain⟨h',g',d',t',i⟩:=s';have e:i=s.os:=g;subst e;exact I.call (g':=g') (t':=t') (d':=d') u a h d
end
abbrev XK:=Vl->Option Ad->Hp->Prop
abbrev St:=List (Option V)
abbrev VK:=V->Hp->Prop
abbrev TE:=St->Hp->VK->Prop
abbrev TT:=St->Hp->(Bool->Hp->Prop)->Prop
abbrev TA:=St->Hp->(List V->Hp->Prop)->Prop
structure Ends where
 nx:St->Hp->Prop
 rt:VK
 bk:St->Hp->Prop:=λ_ _=>False
 ct:St->Hp->Prop:=λ_ _=>False
abbrev TS:=Ends->St->Hp->Prop
def EP(X:Cx)(Z:AO)(b:St)(Q:VK)(u:Vl)(c:Sh):Prop:=∃v a,Inv X Z b a c/\RelV v u/\Q v a
def TP(X:Cx)(Z:AO)(c:St)(Q:Bool->Hp->Prop)(b:Bool)(d:Sh):Prop:=∃a,Inv X Z c a d/\Q b a
def AP(X:Cx)(Z:AO)(c:St)(Q:List V->Hp->Prop)(d:Vs)(e:Sh):Prop:=∃a b,Inv X Z c b e/\Vals a d/\Q a b
def SP(X:Cx)(Z:AO)(D:Ends)(f:Flow)(c:Sh):Prop:=
 match f with
 |.next=>∃a b,Inv X Z a b c/\D.nx a b
 |.brk=>∃a b,Inv X Z a b c/\D.bk a b
 |.cont=>∃a b,Inv X Z a b c/\D.ct a b
 |.ret u=>∃v a b,Inv X Z a b c/\RelV v u/\D.rt v b
def PE(X:Cx)(e:Expr)(t:TE):Prop:=
 ∀(Z:AO) (s:Sh) (a:St) (H:Hp) (Q:VK),Inv X Z a H s->t a H Q->wpAny (model X.prog X.w) X.A (eval e X.env) (EP X Z a Q) X.xe s
def PT(X:Cx)(e:Expr)(t:TT):Prop:=
 ∀(Z:AO) (s:Sh) (a:St) (H:Hp) (Q:Bool->Hp->Prop),Inv X Z a H s->t a H Q->wpAny (model X.prog X.w) X.A (isTrue e X.env (eval e X.env)) (TP X Z a Q) X.xe s
def PW(X:Cx)(e:Expr)(t:TT):Prop:=
 ∀(a:Sem Vl) (Z:AO) (s:Sh) (b:St) (H:Hp) (Q:Bool->Hp->Prop),Inv X Z b H s->t b H Q->wpAny (model X.prog X.w) X.A (isTrue e X.env a) (TP X Z b Q) X.xe s
def PW.pt{X:Cx}{e:Expr}{t:TT}(h:PW X e t):PT X e t:=h _
def PA(X:Cx)(c:List Expr)(t:TA):Prop:=
 ∀(a:Pos) (Z:AO) (s:Sh) (b:St) (H:Hp) (Q:List V->Hp->Prop),Inv X Z b H s->t b H Q->wpAny (model X.prog X.w) X.A (spliced (backTo a (starEach c X.env))) (AP X Z b Q) X.xe s
def PS(X:Cx)(st:Stmt)(t:TS):Prop:=
 ∀(Z:AO) (s:Sh) (a:St) (H:Hp) (D:Ends),Inv X Z a H s->t D a H->wpAny (model X.prog X.w) X.A (exec st X.env) (SP X Z D) X.xe s
def PSs(X:Cx)(st:List Stmt)(t:TS):Prop:=
 ∀(Z:AO) (s:Sh) (a:St) (H:Hp) (D:Ends),Inv X Z a H s->t D a H->wpAny (model X.prog X.w) X.A (execs st X.env) (SP X Z D) X.xe s
def ie{b:Type}{t:Sem b}{Q c:b->Sh->Prop}{M:Model}{A:Ar}{E:VP}{s:Sh}(h:wpAny M A t Q E s)(d:∀a s,Q a s->c a s):wpAny M A t c E s:=ke h d λ_ _ x=>x
section
variable{X:Cx}
inductive iO(i:Nat)(a:St)(H:Hp)(Q:VK):Prop|mk:∀v,a[i]?=some (some v)->Q v H->iO i a H Q
def tC(v:V):TE:=λ_ H Q=>Q v H
def LL{i:Nat}{x:Str}{f:Pos}(j:X.N[i]?=some x)(k:Dd X.env.scope x)(b:(x==("__debug__":Str))=false:=by decide)(d:(x==("__classdict__":Str))=false:=by decide):PE X (.Name x f) (iO i):=by
 intro Z s n H Q I h;obtain⟨v,e,h⟩:=h;obtain⟨m,o,p⟩:=I.loc;obtain⟨u,r,l⟩:=p i x v j e k;have fin:EP X Z n Q u s:=#[v,H,I,r,h]
 rcases l with⟨hk,q⟩|⟨hk,c,g,a⟩
 .exact wpAny_Name (wpAny_loadName_local I.ok.kind hk o q fin) b
 .rcases hk with hk|hk
  .exact wpAny_Name (wpAny_loadName_cell I.ok.kind hk g a fin) b
  .exact wpAny_Name (wpAny_loadName_free I.ok.kind hk g a fin d) b
def iT{i j f}:PE X (.Constant (.int i) j f) (tC (.int i)):=λ_ _ _ H _ I h=>wpAny_Constant_int #[.int i,H,I.tok _,#[_,rZ],h]
def rk{b j f}:PE X (.Constant (.bool b) j f) (tC (.bl b)):=λ_ _ _ H _ I h=>Constant_bool #[.bl b,H,I,rZ,h]
def Cv{j f}:PE X (.Constant .none j f) (tC .non):=λ_ _ _ H _ I h=>Constant_none #[.non,H,I,rZ,h]
def Gl(X:Cx)(x:Str):Prop:=X.env.kindOf x=some .globalImplicit
def rG{E:VP}{Z:AO}{s:Sh}{a:St}{H:Hp}{x:Str}{u:Vl}{f:Pos}{Q:VP}(I:Inv X Z a H s)(b:Gl X x)(c:X.mg x=some u)(h:Q u s)(d:(x==("__debug__":Str))=false:=by decide):wpAny (model X.prog X.w) X.A (eval (.Name x f) X.env) Q E s:=
 Gz I.ok.kind b (Calls.loadGlobal_global (by rw[I.ok.glob];exact I.mod.glob.keeps I.bk) c h) d
def xO{E:VP}{Z:AO}{s:Sh}{a:St}{H:Hp}{x:Str}{u:Vl}{f:Pos}{Q:VP}(I:Inv X Z a H s)(b:Gl X x)(c:X.mg x=none)(d:bootBuiltins x=some u)(h:Q u s)(e:x≠"__name__":=by decide) (g:(x==("__debug__":Str))=false:=by decide):wpAny (model X.prog X.w) X.A (eval (.Name x f) X.env) Q E s:=by
 obtain⟨k,i,j⟩:=I.mod.blt;exact Gz I.ok.kind b (Calls.loadGlobal_builtin (by rw[I.ok.glob];exact I.mod.glob.keeps I.bk) c (by rw[I.ok.blt];exact i.keeps I.bk) ((j x e).trans d) h) g
def N2{x:Str}{v:V}{u:Vl}{f:Pos}(a:Gl X x)(b:X.mg x=none)(c:bootBuiltins x=some u)(r:RelV v u)(d:x≠"__name__":=by decide)(e:(x==("__debug__":Str))=false:=by decide):PE X (.Name x f) (tC v):=
 λ_ _ _ H _ I h=>xO I a b c #[v,H,I,r,h] d e
variable{a b:Expr}{n o:TE}{f:Pos}
def PC(X:Cx)(f:CmpOp)(a b:Expr)(t:TE):Prop:=
 ∀(Z:AO) (s:Sh) (e:St) (H:Hp) (Q:VK),Inv X Z e H s->t e H Q->
  wpAny (model X.prog X.w) X.A (eval a X.env) (λv c=>wpAny (model X.prog X.w) X.A (eval b X.env) (λu d=>wpAny (model X.prog X.w) X.A (compareOp f v u) (EP X Z e Q) X.xe d) X.xe c) X.xe s
def EX(b:Expr){a:CmpOp}(h:a≠ .In)(c:a≠ .NotIn):behindInMarks a b=false:=by
 have d:(a==CmpOp.In)=false:=by cases a<;>first|rfl|exact wC rZ h
 have e:(a==CmpOp.NotIn)=false:=by cases a<;>first|rfl|exact wC rZ c
 cases b<;>simp[behindInMarks,d,e]
def tB(t:TE):TT:=λa H Q=>t a H λx b=>∃c,x=.bl c/\Q c b
def LH{c:CmpOp}{t:TE}(h:PC X c a b t)(d:behindInMarks c b=false:=by first|exact EX _ (by decide) (by decide)|rfl):PE X (.Compare a [c] [b] f) t:=λZ s e H Q I hw=>wpAny_Compare1 (h Z s e H Q I hw) d
def xV{e:CmpOp}{t:TE}(h:PC X e a b t)(g:behindInMarks e b=false:=by first|exact EX _ (by decide) (by decide)|rfl):PT X (.Compare a [e] [b] f) (tB t):=by
 intro Z s i H Q I hw;refine wpAny_isTrue_Compare1 (ie (h Z s i H _ I hw) λv o g=>ie g λu p j=>ie j λc r ⟨x,k,l,m,n⟩=>?_) g;obtain⟨d,rfl,q⟩:=n;cases m;exact ti #[k,l,q]
def ri{e:Expr}{t:TE}(h:PE X e t)(b:∀a,isTrue e X.env a=(do let v <-a;standAt e.pos;holding [v] (truthy v)):=by intro _;rfl):PT X e (tB t):=by
 intro Z s c H Q I hw;refine isTrue_plain (ie (h Z s c H _ I hw) λv k ⟨x,f,g,i,j⟩=>?_) (b _);obtain⟨d,rfl,q⟩:=j;cases i;exact ti #[f,g,q]
variable{g k:TT}{rest:List Expr}
def DW(t u:TT):TT:=λa H Q=>t a H λc b=>if c=true then u a b Q else Q false b
def JN(t u:TT):TT:=λa H Q=>t a H λc b=>if c=true then Q true b else u a b Q
def Ct(t:TT):TT:=λa H Q=>t a H λc b=>Q (!c) b
def Bq(b:PT X a g):PW X (.BoolOp .And [a] f) g:=by
 intro i Z s d H Q I h;refine isTrue_and (ie (b Z s d H Q I h) λc j e=>?_);cases c with
 |true=>exact isTrue_and_nil e
 |false=>exact e
def G8(b:PT X a g):PW X (.BoolOp .Or [a] f) g:=by
 intro i Z s d H Q I h;refine isTrue_or (ie (b Z s d H Q I h) λc j e=>?_);cases c with
 |false=>exact isTrue_or_nil e
 |true=>exact e
def Bl(l:PT X a g)(m:PW X (.BoolOp .And (b::rest) f) k):PW X (.BoolOp .And (a::b::rest) f) (DW g k):=by
 intro n Z s d H Q I h;refine isTrue_and (ie (l Z s d H _ I h) λc o ⟨e,i,j⟩=>?_);cases c with
 |true=>exact m n Z o d e Q i j
 |false=>exact#[e,i,j]
def HR(l:PT X a g)(m:PW X (.BoolOp .Or (b::rest) f) k):PW X (.BoolOp .Or (a::b::rest) f) (JN g k):=by
 intro n Z s d H Q I h;refine isTrue_or (ie (l Z s d H _ I h) λc o ⟨e,i,j⟩=>?_);cases c with
 |true=>exact#[e,i,j]
 |false=>exact m n Z o d e Q i j
def vu(b:PT X a g):PT X (.UnaryOp .Not a f) (Ct g):=by
 intro Z s d H Q I h;exact isTrue_not (b Z s d H (λc e=>Q (!c) e) I h)
def yR(n o:TE):TE:=λa H Q=>n a H λx b=>∃c,x=.bl c/\if c=true then o a b Q else Q (.bl false) b
def zf(n:TE):TE:=λa H Q=>n a H λx b=>∃c,x=.bl c/\Q (.bl (!c)) b
def yw{b}{t:TE}(h:PE X a t):PE X (.BoolOp b [a] f) t:=λZ s c H Q I hw=>BoolOp_one (h Z s c H Q I hw)
def zz(j:PE X a n)(k:PE X (.BoolOp .And (b::rest) f) o):PE X (.BoolOp .And (a::b::rest) f) (yR n o):=by
 intro Z s e H Q I h;refine BoolOp_and (ie (j Z s e H _ I h) λv l ⟨x,g,i,m,d⟩=>?_);obtain⟨c,rfl,d⟩:=d;cases m;refine ti ?_;cases c with
 |true=>exact k Z l e g Q i d
 |false=>exact#[.bl false,g,i,rZ,d]
def Gj(d:PE X a n):PE X (.UnaryOp .Not a f) (zf n):=by
 intro Z s e H Q I h;refine UnaryOp_ (ie (d Z s e H _ I h) λv k ⟨x,g,i,j,b⟩=>?_);obtain⟨c,rfl,b⟩:=b;cases j;exact not_of (ti #[.bl (!c),g,i,rZ,b])
end
def SqL(K:O0)(H:Hp)(a:Ad)(c:List V):Prop:=
 Rd H a (.lst c)\/
  ∃(o:Obj) (b:AV) (n:Nat),K.lookup a=some o/\o.cls=.type "list"/\o.dict=none/\o.data=.seq b n/\b.size<=sizeLine/\Vals c b.toList
def SqT(K:O0)(H:Hp)(a:Ad)(xs:List V):Prop:=
 Rd H a (.tup xs)\/
  ∃(o:Obj) (b:AV) (n:Nat),K.lookup a=some o/\o.cls=.type "tuple"/\o.data=.seq b n/\b.size<=sizeLine/\Vals xs b.toList
def CJ:Vl->Option V
 |.none=>some .non
 |.bool b=>some (.bl b)
 |.int i _=>some (.int i)
 |.str x _=>some (.str x)
 |.bytes b _=>some (.byt b)
 |.float b _=>some (.flt b)
 |.ref a=>some (.ref a)
 |.type n=>some (.ty n)
 |_=>none
def RelV.abs{x:V}{u:Vl}(r:RelV x u):CJ u=some x:=by
 cases x with
 |non=>cases r;rfl
 |bl _=>cases r;rfl
 |int _=>obtain⟨t,rfl⟩:=r;rfl
 |str _=>obtain⟨t,rfl⟩:=r;rfl
 |byt _=>obtain⟨t,rfl⟩:=r;rfl
 |flt _=>obtain⟨t,rfl⟩:=r;rfl
 |ref _=>cases r;rfl
 |ty _=>cases r;rfl
def RelV.inj{x y:V}{u:Vl}(r:RelV x u)(q:RelV y u):x=y:=lW (r.abs.symm.trans q.abs)
theorem Vals.inj:∀{a b:List V} {c:Vs},Vals a c->Vals b c->a=b
 |_,_,_,.nil,.nil=>rfl
 |_,_,_,.cons r t,.cons d e=>by rw[r.inj d,Vals.inj t e]
section
variable{X:Cx}{Z:AO}{c:St}{H:Hp}{s:Sh}{a:Ad}{xs b:List V}
def M2{K:O0}(h:H a=some (.lst xs)):SqL K H a xs:= .inl (.inl h)
def O'{K:O0}(h:H a=some (.tup xs)):SqT K H a xs:= .inl (.inl h)
def Inv.list(I:Inv X Z c H s)(h:SqL X.K H a xs):∃its:Vs,Vals xs its/\PlainL s.heap a its.toArray/\xs.length<=sizeLine:=by
 rcases h with h|⟨o,its,n,b,d,f,g,i,r⟩
 .obtain⟨z,its,n,r,e⟩:=h.ok I.hok;exact#[its,r,#[_,n,e,rZ,rZ,rZ],z]
 .refine#[its.toList,r,#[o,n,I.kIn a o b,d,f,by simpa using g],?_];have e:=r.length;simp only[Array.length_toList]at e;lia
def Inv.tuple(I:Inv X Z c H s)(h:SqT X.K H a xs):∃its:Vs,Vals xs its/\IsTup s.heap a its.toArray/\xs.length<=sizeLine:=by
 rcases h with h|⟨o,its,n,b,d,f,g,r⟩
 .obtain⟨z,its,r,p⟩:=h.ok I.hok;exact#[its,r,p.is,z]
 .refine#[its.toList,r,#[o,I.kIn a o b,d,n,by simpa using f],?_];have e:=r.length;simp only[Array.length_toList]at e;lia
def Inv.list_inj(I:Inv X Z c H s)(h:SqL X.K H a xs)(h':SqL X.K H a b):xs=b:=by
 obtain⟨g,r,⟨o,n,e,_,_,d⟩,_⟩:=I.list h;obtain⟨f,j,⟨l,m,i,_,_,d'⟩,_⟩:=I.list h';rw[e]at i;cases i;rw[d]at d';injection d' with k _
 have:g=f:=by simpa using congrArg Array.toList k
 subst this;exact r.inj j
def Inv.tuple_inj(I:Inv X Z c H s)(h:SqT X.K H a xs)(h':SqT X.K H a b):xs=b:=by
 obtain⟨g,r,⟨o,e,_,n,d⟩,_⟩:=I.tuple h;obtain⟨f,j,⟨l,i,_,m,d'⟩,_⟩:=I.tuple h';rw[e]at i;cases i;rw[d]at d';injection d' with k _
 have:g=f:=by simpa using congrArg Array.toList k
 subst this;exact r.inj j
end
abbrev Cx.wish(X:Cx)(E:VP):Cx:={X with xe:=E}
abbrev Cx.nox(X:Cx):Cx:=X.wish λ_ _=>False
def Cx.Ok.wish{X:Cx}(ok:X.Ok)(E:VP):(X.wish E).Ok:=
 #[ok.mod,ok.kind,ok.glob,ok.blt,ok.above,ok.inj,ok.has,ok.cab,ok.hd,ok.frames,ok.stk,ok.exf,ok.bs,ok.bsz,ok.noex,ok.exfs,ok.funs,ok.frf]
def Cx.Ok.unwish{X:Cx}{E:VP}(ok:(X.wish E).Ok):X.Ok:=
 #[ok.mod,ok.kind,ok.glob,ok.blt,ok.above,ok.inj,ok.has,ok.cab,ok.hd,ok.frames,ok.stk,ok.exf,ok.bs,ok.bsz,ok.noex,ok.exfs,ok.funs,ok.frf]
section
variable{X:Cx}{Z:AO}{a:St}{H:Hp}{s:Sh}{E:VP}
def Inv.wish(I:Inv X Z a H s)(E:VP):Inv (X.wish E) Z a H s:=#[I.ok.wish E,I.os,I.bare,I.base,I.loc,I.cell,I.free,I.freeC,I.pin,I.hok,I.len]
def Inv.unwish(I:Inv (X.wish E) Z a H s):Inv X Z a H s:=#[I.ok.unwish,I.os,I.bare,I.base,I.loc,I.cell,I.free,I.freeC,I.pin,I.hok,I.len]
def SP.unwish{D:Ends}{f:Flow}{c:Sh}(h:SP (X.wish E) Z D f c):SP X Z D f c:=by
 cases f with
 |next=>obtain⟨a,b,I,q⟩:=h;exact#[a,b,I.unwish,q]
 |brk=>obtain⟨a,b,I,q⟩:=h;exact#[a,b,I.unwish,q]
 |cont=>obtain⟨a,b,I,q⟩:=h;exact#[a,b,I.unwish,q]
 |ret u=>obtain⟨v,a,b,I,r,q⟩:=h;exact#[v,a,b,I.unwish,r,q]
def PSs.nox{st:List Stmt}{t:TS}(h:PSs X.nox st t):PSs X st t:=λZ s a H D I hw=>
 ke (h Z s a H D (I.wish _) hw) (λ_ _ q=>q.unwish) λ_ _ z=>wE z
end
section
variable{X:Cx}{st:Stmt}{rest:List Stmt}{t u:TS}{e:Expr}{i:TE}{g:Pos}
def EO:TS:=λD a H=>D.nx a H
def rz(t u:TS):TS:=λD a H=>t {D with nx:=u D} a H
def nN:PSs X [] EO:=λ_ _ a H _ I h=>x5 #[a,H,I,h]
def iz(b:PS X st t)(c:PSs X rest u):PSs X (st::rest) (rz t u):=by
 intro Z s d H D I h;refine B7 (ie (b Z s d H {D with nx:=u D} I h) λf e q=>?_);cases f with
 |next=>
  obtain⟨a,g,i,q⟩:=q;exact c Z e a g D i q
 |ret v=>exact q
 |brk=>exact q
 |cont=>exact q
def iC(a:PS X st t):PSs X [st] t:=by
 intro Z s b H D I h;refine B7 (ie (a Z s b H D I h) λf c q=>?_);cases f with
 |next=>exact x5 q
 |ret v=>exact q
 |brk=>exact q
 |cont=>exact q
def Inv.quiet{Z:AO}{a:St}{H:Hp}{s:Sh}(I:Inv X Z a H s):interactive X.env=false:=by simp[interactive,I.ok.kind]
def zO(i:TE):TS:=λD a H=>i a H λ_ b=>D.nx a b
def pP(b:PE X e i)(c:swapsWith e none g.line X.env=pure false:=by rfl):PS X (.Expr e g) (zO i):=by
 intro Z s a H D I h;exact wpAny_Expr_any (ie (b Z s a H _ I h) λv k ⟨x,d,f,l,j⟩=>#[a,d,f,j]) I.quiet c
def zd(i:TE):TS:=λD a H=>i a H D.rt
def jh(b:PE X e i):PS X (.Return (some e) g) (zd i):=by
 intro Z s a H D I h;exact wpAny_Return_some (ie (b Z s a H _ I h) λv k ⟨x,c,d,f,j⟩=>#[x,a,c,d,f,j])
def yy(c:TT)(t u:TS):TS:=λD a H=>c a H λb d=>if b=true then t D a d else u D a d
def mM{c:Expr}{a b:List Stmt}{f:TT}(m:PT X c f)(n:PSs X a t)(o:PSs X b u):PS X (.If c a b g) (yy f t u):=by
 intro Z s e H D I h;refine wpAny_If (ie (m Z s e H _ I h) λd i ⟨j,k,l⟩=>?_);cases d with
 |true=>exact n Z i e j D k l
 |false=>exact o Z i e j D k l
end
abbrev TG:=V->St->Hp->(St->Hp->Prop)->Prop
abbrev xw:=List V->St->Hp->(St->Hp->Prop)->Prop
def PG(X:Cx)(a:Expr)(t:TG):Prop:=
 ∀(Z:AO) (s:Sh) (c:St) (H:Hp) (v:V) (u:Vl) (Q:St->Hp->Prop),Inv X Z c H s->RelV v u->t v c H Q->
  wpAny (model X.prog X.w) X.A (assign a X.env u) (λ_ e=>∃b d,Inv X Z b d e/\Q b d) X.xe s
def Bf(X:Cx)(f:List Expr)(t:xw):Prop:=
 ∀(Z:AO) (s:Sh) (b:St) (H:Hp) (c:List V) (d:Vs) (Q:St->Hp->Prop),Inv X Z b H s->Vals c d->t c b H Q->
  wpAny (model X.prog X.w) X.A (assignInOrder ((assignEach f X.env).map (·.2)) d) (λ_ g=>∃a e,Inv X Z a e g/\Q a e) X.xe s
abbrev wq:=V->V->V->Hp->(Hp->Prop)->Prop
def zS(X:Cx)(t:wq):Prop:=
 ∀(Z:AO) (s:Sh) (a:St) (H:Hp) (o i v:V) (b c u:Vl) (Q:Hp->Prop),Inv X Z a H s->RelV o b->RelV i c->RelV v u->t o i v H Q->
  wpAny (model X.prog X.w) X.A (setItem b c u) (λ_ e=>∃d,Inv X Z a d e/\Q d) X.xe s
section
variable{X:Cx}{c:Pos}
def md(i:Nat):TG:=λv a H Q=>Q (a.set i (some v)) H
def mK{i:Nat}{x:Str}(a:X.N.Nodup)(b:X.N[i]?=some x)(d:Az X.env.scope x)(e:X.fn x=true\/X.env.scope.names.lookup x=some .local:=by first|exact .inl rfl|exact .inr rfl|assumption):PG X (.Name x c) (md i):=by
 intro Z s g H v u Q I r h;exact Db (CY I a b d r (λj f=>#[_,H,f,h]) e)
def ye:xw:=λa b H Q=>a=[]/\Q b H
inductive o0(t:TG)(u:xw)(b:List V)(c:St)(H:Hp)(Q:St->Hp->Prop):Prop|mk:∀v r,b=v::r->(t v c H λa d=>u r a d Q)->o0 t u b c H Q
def DF:Bf X [] ye:=by
 intro Z s a H b c Q I r h;obtain⟨e,h⟩:=h;subst e;cases r;exact assignInOrder_nil #[a,H,I,h]
def xQ{e:Expr}{a:List Expr}{t:TG}{u:xw}(c:PG X e t)(d:Bf X a u)(f:(assignEach (e::a) X.env).map (·.2)=assign e X.env::(assignEach a X.env).map (·.2):=by rfl):Bf X (e::a) (o0 t u):=by
 intro Z s g H o p Q I r h;obtain⟨v,q,i,h⟩:=h;subst i;cases r with
 |cons r j=>
  rw[f];refine assignInOrder_cons (ie (c Z s g H _ _ _ I r h) λ_ k ⟨b,l,m,n⟩=>?_);exact d Z k b l _ _ Q m j n
inductive v6(K:O0)(n:Nat)(t:xw)(v:V)(c:St)(H:Hp)(Q:St->Hp->Prop):Prop|mk:∀a b,v=.ref a->SqT K H a b->b.length=n->t b c H Q->v6 K n t v c H Q
def DO{d:List Expr}{k:Nat}{t:xw}{n:Nat}(j:X.calm=true)(h:Bf X d t)(l:(assignEach d X.env).length=n:=by rfl) (f:(assignEach d X.env).findIdx? (·.1)=none:=by rfl):PG X (.Tuple d k c) (v6 X.K n t):=by
 intro Z s g H v u Q I r hw;obtain⟨a,m,p,q,w,hw⟩:=hw;subst p;cases r;obtain⟨x,i,ht,B⟩:=I.tuple q;refine assign_Tuple_tuple (I.ok.hd j) ht (by simp[l,<-w,i.length]) f λy z=>?_;have A:Inv X Z g H {s with heap:=y}:=I.kept (t':=s.toks) λb o e=>z b o (i6 (iu e)) e;exact h Z _ g H m _ Q A (by simpa using i) hw
def DY(to b:TE)(t:wq):TG:=λv a H Q=>to a H λo c=>b a c λi d=>t o i v d λe=>Q a e
def BK{o i:Expr}{to e:TE}{t:wq}(f:PE X o to)(g:PE X i e)(j:zS X t)(k:∀v,assign (.Subscript o i c) X.env v=(do
   let a <-holding [v] (eval o X.env)
   let b <-holding [v,a] (eval i X.env)
   standAt c
   holding [v,a,b] (setItem a b v)
   release [v,a,b] []):=by intro _;rfl):PG X (.Subscript o i c) (DY to e t):=by
 intro Z s d H v u Q I r h;rw[k];refine f' (lL (ie (f Z s d H _ I h) λa l ⟨x,m,n,p,q⟩=>?_));refine f' (lL (ie (g Z l d m _ n q) λb w ⟨y,z,A,B,C⟩=>?_));refine f' (vD (f' (lL (ie (j Z w d z x y v a b u _ A p B r C) λ_ J ⟨D,E,G⟩=>?_))));exact wpAny_release #[d,D,E,G]
def p6(b:TE)(g:TG):TS:=λD a H=>b a H λx c=>g x a c D.nx
def AC{a e:Expr}{b:TE}{g:TG}(f:PE X e b)(i:PG X a g)(j:swapsWithSole [a] e c.line X.env=pure false:=by rfl)(hw:swappedStores [a] e X.env=pure none:=by rfl)
  (k:(assignEach [a] X.env).map (·.2)=[assign a X.env]:=by rfl):PS X (.Assign [a] e c) (p6 b g):=by
 intro Z s d H D I h;refine wpAny_Assign_stores (ie (f Z s d H _ I h) λv l ⟨x,m,n,o,p⟩=>?_) j hw;rw[k];exact ie (i Z l d m x v _ n o p) λ_ r q=>q
def i3{i:Nat}{x:Str}{e:Expr}{b:TE}{a:Pos}(d:X.N.Nodup)(f:X.N[i]?=some x)(g:Az X.env.scope x)(j:PE X e b)(k:swapsWith e (some (.Name x a)) c.line X.env=pure false:=by rfl)(l:X.fn x=true\/X.env.scope.names.lookup x=some .local:=by first|exact .inl rfl|exact .inr rfl|assumption):
  PS X (.Assign [.Name x a] e c) (p6 b (md i)):=by
 intro Z s m H D I h;refine wpAny_Assign_Name (ie (j Z s m H _ I h) λv t ⟨y,n,o,p,q⟩=>?_) k;exact CY o d f g p (λu r=>#[_,n,r,q]) l
end
section
variable{X:Cx}{a:Pos}
def Gf(c:TT)(h:TS):TS:=λD a H=>∃W:Nat->St->Hp->Prop,(∃m,W m a H)/\∀m a H,W m a H->
 c a H λb e=>if b=true then ∃N:St->Hp->Prop,(∀d f,N d f->∃g,g<m/\W g d f)/\h {D with nx:=N,ct:=N,bk:=D.nx} a e else D.nx a e
def Bm{c:Expr}{g:List Stmt}{u:TT}{w:TS}(x:PassesOwn (model X.prog X.w) X.A X.env X.xe)(E:PT X c u)(G:PSs X g w):PS X (.While c g [] a) (Gf u w):=by
 intro Z s J H D I h;obtain⟨W,⟨L,M⟩,i⟩:=h;refine wpAny_While (codeAny_whileLoop (λn O=>∃j y,Inv X Z j y O/\W n j y) ?_ L #[J,H,I,M]);rintro n Q ⟨e,z,T,U⟩;refine vL x (ie (E Z Q e z _ T (i n e z U)) λb Y ⟨A,B,l⟩=>?_);cases b with
 | true=>
  obtain⟨N,C,l⟩:=l;rw[wB rZ];refine vL x (ie (G Z Y e A _ B l) λf s3 m=>?_);cases f with
  |next=>
   obtain⟨d,k,o,p⟩:=m;obtain⟨q,r,t⟩:=C d k p;exact#[q,r,d,k,o,t]
  |cont=>
   obtain⟨d,k,o,p⟩:=m;obtain⟨q,r,t⟩:=C d k p;exact#[q,r,d,k,o,t]
  |brk=>exact m
  |ret v=>exact m
 |false=>
  rw[wA mV];exact x5 #[e,A,B,l]
end
structure It where
 go:Nat->Hp->Prop
 yld:Nat->Hp->V->Hp->Prop
 stop:Nat->Hp->Prop
def FpOk(X:Cx)(Z:AO)(H:Hp)(b:Ad):Prop:=
 H b=none/\b≠X.env.locals/\b∉X.fs/\(b∈X.ex\/X.s₀.heap.objs.size<=b)/\(∀x c,X.env.cells.lookup x=some c->c≠b)/\∀p∈X.pn++Z,p.1≠b
def Inv.fpOk{X:Cx}{Z:AO}{d:St}{H H':Hp}{s:Sh}{b:Ad}(I:Inv X Z d H s)(a:s.heap.objs.size<=b)(f:H' b=none):FpOk X Z H' b:=by
 refine#[f,pH (jy I.lt a),I.nofs a,.inr (i5 I.sz a),λx c e z=>?_,λp g z=>?_]
 .obtain⟨v,q⟩:=I.cell x c e;exact wC (jy q.lt (by rw[z];exact a)) (oi _)
 .exact wC (jy (iu (I.pin p g).1) (by rw[z];exact a)) (oi _)
structure Turn(P:Pg)(w:World)(K:O0)(tg:Expr)(J:It)(fp:As)(it:Ad)(tn:Nat->Heap->Prop):Prop where
 mem:it∈fp
 obj:∀i h,tn i h->∀b∈fp,∃o,h.get? b=some o/\∀v,o.data≠ .cell v
 keep:∀i h h',tn i h->(∀b∈fp,∀o,h.get? b=some o->h'.get? b=some o)->tn i h'
 item:∀(X:Cx),X.prog=P->X.w=w->X.K=K->X.calm=true->∀(i:Nat) (Z:AO) (s:Sh) (σ:St) (H:Hp) (E:VP),Inv X Z σ H s->(∀b∈fp,FpOk X Z H b)->tn i s.heap->J.go i H->
  wpAny (model P w) X.A (pyNext (.ref it)) (λr s1=>∃u,r=some u/\
   wpAny (model P w) X.A (letOwnedTupleGo tg (.ref it) u) (λ_ s2=>∃x H',Inv X Z σ H' s2/\RelV x u/\J.yld i H x H'/\tn (i+1) s2.heap/\∀b∈fp,H' b=none) E s1) E s
 done:∀(X:Cx),X.prog=P->X.w=w->X.K=K->X.calm=true->∀(i:Nat) (Z:AO) (s:Sh) (σ:St) (H:Hp) (E:VP),Inv X Z σ H s->(∀b∈fp,FpOk X Z H b)->tn i s.heap->J.stop i H->
  wpAny (model P w) X.A (pyNext (.ref it)) (λr s1=>r=none/\Inv X Z σ H s1) E s
 self:∀(A:Ar) (i:Nat) (s:Sh) (Q:VP) (E:VP),tn i s.heap->Q (.ref it) s->wpAny (model P w) A (pyIter (.ref it)) Q E s
abbrev TI:=St->Hp->(It->Hp->Prop)->Prop
def B6(X:Cx)(Z:AO)(h:St)(i:Expr)(R:It->Hp->Prop)(a:Vl)(d:Sh):Prop:=
 ∃(e:Ad) (f:As) (g:Nat->Heap->Prop) (J:It) (c:Hp),a=.ref e/\Inv X Z h c d/\Turn X.prog X.w X.K i J f e g/\g 0 d.heap/\(∀b∈f,FpOk X Z c b)/\R J c
def PI(X:Cx)(c a:Expr)(d:TI):Prop:=
 ∀(Z:AO) (s:Sh) (b:St) (H:Hp) (R:It->Hp->Prop),Inv X Z b H s->d b H R->
  wpAny (model X.prog X.w) X.A (eval a X.env) (λv e=>wpAny (model X.prog X.w) X.A (pyIter v) (B6 X Z b c R) X.xe e) X.xe s
def Ax{M:Model}{A:Ar}{E:VP}{s:Sh}{b:Expr}{c:Ad}{u:Vl}{o:Obj}{n:String}{d:AV}{Q:Unit->Sh->Prop}(e:s.heap.get? c=some o)(f:o.cls=.type n)(g:o.data=.fields d)(i:["enumerate","zip","dict_itemiterator","dict_reverseitemiterator","odict_iterator","itertools.zip_longest","itertools.pairwise"].contains n=false) (a:Q ⟨⟩ s):wpAny M A (letOwnedTupleGo b (.ref c) u) Q E s:=by
  unfold letOwnedTupleGo;cases b<;>first
    |exact hI a
    |(cases u<;>first
        |exact hI a
        | (refine f' (wpAny_load e ?_)
           rw[f,g];show wpAny M A (if(["enumerate","zip","dict_itemiterator","dict_reverseitemiterator","odict_iterator","itertools.zip_longest","itertools.pairwise"].contains n&&d[0]? ==some (rawInt _))=true then _ else _) Q E s
           rw[wA (by intro h;rw[i,Bool.false_and]at h;cases h)];exact hI a))
def xF(K:O0)(a:Ad):It:=
 #[λi H=>∃b x,SqL K H a b/\b[i]?=some x,λi H x c=>c=H/\∀b,SqL K H a b->b[i]?=some x,λi H=>∃b,SqL K H a b/\b.length<=i]
def Be(K:O0)(a:Ad):It:=
 #[λi H=>∃b x,SqT K H a b/\b[i]?=some x,λi H x c=>c=H/\∀b,SqT K H a b->b[i]?=some x,λi H=>∃b,SqT K H a b/\b.length<=i]
def ue(lo:Int)(n:Nat):It:=#[λi _=>i<n,λi H x a=>a=H/\x=.int (lo+i),λi _=>n<=i]
def Kz{P:Pg}{w:World}{K:O0}{O:Expr}(a f:Ad):Turn P w K O (xF K a) [f] f (λi h=>h.IsListIter f a i) where
 mem:=by simp
 obj:=λi h st b g=>by
  have e:b=f:=by simpa using g
  subst e;obtain⟨o,e,c,d⟩:=st;exact#[o,e,λv z=>by rw[d]at z;cases z]
 keep:=λi h l st k=>st.at λo e=>k f (by simp) o e
 item:=by
  intro X q hw r M i Z s N H E I m st t;subst q hw r;obtain⟨Q,x,n,y⟩:=t;obtain⟨A,B,p,T⟩:=I.list n;obtain⟨u,U,Y⟩:=B.get y;obtain⟨C,D,f2,G,J,L⟩:=m f (by simp);refine AT st p.isList (x:=u) (by simpa using U) λl j sb=>?_;have I1:Inv X Z N H {s with heap:=l}:=I.turned (t':=s.toks) (λb o g e=>(sb.2 b g).trans e) C D G J L;obtain⟨o,e,c,d⟩:=id j;exact#[u,rZ,Ax (s:={s with heap:=l}) e c d (by decide) #[x,H,I1,Y,#[rfl,λys hy=>by rw[I.list_inj hy n];exact y],j,λb g=>(m b g).1]]
 done:=by
  intro X q hw r M i Z s N H E I m st t;subst q hw r;obtain⟨Q,n,y⟩:=t;obtain⟨A,B,p,T⟩:=I.list n;obtain⟨C,D,f2,G,J,L⟩:=m f (by simp);have hl:=B.length;exact Ah (I.ok.hd M) st p.isList (by simp;lia) λl eb=>#[rZ,I.turned (t':=s.toks) (λb o g e=>eb b o g e) C D G J L]
 self:=λ_ _ _ _ _ st h=>wpAny_pyIter_listiter st h
def Kf{P:Pg}{w:World}{K:O0}{O:Expr}(a f:Ad):Turn P w K O (Be K a) [f] f (λi h=>h.IsTupleIter f a i) where
 mem:=by simp
 obj:=λi h st b g=>by
  have e:b=f:=by simpa using g
  subst e;obtain⟨o,e,c,d⟩:=st;exact#[o,e,λv z=>by rw[d]at z;cases z]
 keep:=λi h m st k=>st.at λo e=>k f (by simp) o e
 item:=by
  intro X r hw t M i Z s N H E I n st y;subst r hw t;obtain⟨Q,x,q,A⟩:=y;obtain⟨j,B,p,T⟩:=I.tuple q;obtain⟨u,U,Y⟩:=B.get A;obtain⟨C,D,f2,G,J,L⟩:=n f (by simp);refine wpAny_pyNext_tuple_item st (show s.heap.IsTuple a j.toArray from p) (x:=u) (by simpa using U) λm l sb=>?_;have I1:Inv X Z N H {s with heap:=m}:=I.turned (t':=s.toks) (λb o g e=>(sb.2 b g).trans e) C D G J L;obtain⟨o,e,c,d⟩:=id l;exact#[u,rZ,Ax (s:={s with heap:=m}) e c d (by decide) #[x,H,I1,Y,#[rfl,λys hy=>by rw[I.tuple_inj hy q];exact A],l,λb g=>(n b g).1]]
 done:=by
  intro X r hw t M i Z s N H E I n st y;subst r hw t;obtain⟨Q,q,A⟩:=y;obtain⟨j,B,p,T⟩:=I.tuple q;obtain⟨C,D,f2,G,J,L⟩:=n f (by simp);have hl:=B.length;exact wpAny_pyNext_tuple_end (I.ok.hd M) st (show s.heap.IsTuple a j.toArray from p) (by simp;lia) λm eb=>#[rZ,I.turned (t':=s.toks) (λb o g e=>eb b o g e) C D G J L]
 self:=λ_ _ _ _ _ st h=>wpAny_pyIter_tupleiter st h
def Kh{P:Pg}{w:World}{K:O0}{C:Expr}(a:Ad)(lo:Int)(n:Nat):Turn P w K C (ue lo n) [a] a (λi h=>IsRangeIter h a (lo+(i:Nat) * 1) ((n:Int)-(i:Nat)) 1) where
 mem:=by simp
 obj:=λi h st b c=>by
  have e:b=a:=by simpa using c
  subst e;exact#[_,st,λv z=>by
   have D:Data.fields _=Data.cell v:=z;cases D]
 keep:=λi h f st k=>k a (by simp) _ st
 item:=by
  intro X j hw l m i Z s A H E I g st p;subst j hw l;obtain⟨q,r,G,u,x,y⟩:=g a (by simp);have W:=Walks.range (prog:=X.prog) (w:=X.w) (I.ok.hd m) a lo 1 n;refine W.item i s _ _ p st λv f B J d L=>?_;obtain⟨t,rfl⟩:=J;have M:Inv X Z A H {s with heap:=f,toks:=B}:=I.turned (λb o c e=>L b o (by simpa using c) e) q r u x y;refine#[_,rZ,Ax (s:={s with heap:=f,toks:=B}) (n:="range_iterator") d rfl rfl (by decide) #[.int (lo+i),H,M,#[t,?_],#[rfl,rfl],d,λb c=>(g b c).1]];rw[Int.mul_one]
 done:=by
  intro X j hw l m i Z s A H E I g st p;subst j hw l;obtain⟨q,r,G,u,x,y⟩:=g a (by simp);exact wpAny_pyNext_range_end (I.ok.hd m) st (by have:n<=i:=p;lia) λf N=>#[rZ,I.turned (t':=s.toks) (λb o c e=>N b o c e) q r u x y]
 self:=λ_ _ _ _ _ st h=>wpAny_pyIter_rangeiter st h
section
variable{X:Cx}{c:Expr}
def E9(K:O0)(c:TE):TI:=λd H R=>c d H λx b=>∃a,x=.ref a/\(∃e,SqL K b a e)/\R (xF K a) b
def yr(K:O0)(c:TE):TI:=λd H R=>c d H λx b=>∃a,x=.ref a/\(∃e,SqT K b a e)/\R (Be K a) b
def lM{l:Expr}{g:TE}(i:PE X l g):PI X c l (E9 X.K g):=by
 intro Z s j H R I h;refine ie (i Z s j H _ I h) λv d ⟨x,k,f,m,n⟩=>?_;obtain⟨a,e,⟨w,r⟩,q⟩:=n;subst e;cases m;obtain⟨t,y,p,z⟩:=f.list r;refine xz p.isList ?_;refine#[d.heap.objs.size,[d.heap.objs.size],_,_,k,rZ,f.kept (t':=d.toks) λb o e=>iG _ e,Kz a _,#[_,jp _ rZ,rZ,rZ],λb u=>?_,q];have e:b=d.heap.objs.size:=by simpa using u
 subst e;exact f.fpOk (ig _) (f.hok.fresh (ig _))
def za{l:Expr}{i:TE}(j:PE X l i):PI X c l (yr X.K i):=by
 intro Z s k H R I h;refine ie (j Z s k H _ I h) λv d ⟨x,m,f,n,r⟩=>?_;obtain⟨a,e,⟨w,t⟩,q⟩:=r;subst e;cases n;obtain⟨g,y,p,z⟩:=f.tuple t;refine wpAny_pyIter_tuple (show d.heap.IsTuple a g.toArray from p) ?_;refine#[d.heap.objs.size,[d.heap.objs.size],_,_,m,rZ,f.kept (t':=d.toks) λb o e=>iG _ e,Kf a _,#[_,jp _ rZ,rZ,rZ],λb u=>?_,q];have e:b=d.heap.objs.size:=by simpa using u
 subst e;exact f.fpOk (ig _) (f.hok.fresh (ig _))
def Ma{Z:AO}{d:St}{H:Hp}{s:Sh}{R:It->Hp->Prop}{E:VP}{lo a:Int}{t u v:Tok}{f:Nat}(I:Inv X Z d H s)(h: -(2 ^ 62)<=lo)(i:lo<2 ^ 62)(j: -(2 ^ 62)<=a)(k:a<2 ^ 62)(q:R (ue lo (a-lo).toNat) H):wpAny (model X.prog X.w) X.A (pyIter (.ref s.heap.objs.size)) (B6 X Z d c R) E {s with heap:=s.heap.push {cls:= .type "range",data:= .fields #v[.int lo t,.int a u,.int 1 v]},toks:=f}:=by
 refine wpAny_pyIter_range (IsRange.new ..) (small_one h i j k) ?_;have g:Inv X Z d H {s with heap:=s.heap.push {cls:= .type "range",data:= .fields #v[.int lo t,.int a u,.int 1 v]},toks:=f}:=I.kept λb o e=>iG _ e;refine#[(s.heap.push {cls:= .type "range",data:= .fields #v[.int lo t,.int a u,.int 1 v]}).objs.size,[(s.heap.push {cls:= .type "range",data:= .fields #v[.int lo t,.int a u,.int 1 v]}).objs.size],_,_,H,rZ,
  g.kept (t':=f) λb o e=>iG _ e,Kh _ lo (a-lo).toNat,?_,λb l=>?_,q]
 .have m:lo+((0:Nat):Int) * 1=lo:=by simp
  have n:(((a-lo).toNat:Nat):Int)-((0:Nat):Int)=Builtin.Range.rangeSize lo a 1:=by rw[rangeSize_one];split<;>lia
  show IsRangeIter _ _ (lo+((0:Nat):Int) * 1) ((((a-lo).toNat:Nat):Int)-((0:Nat):Int)) 1;rw[m,n];exact jp _ rfl
 .have e:b=(s.heap.push {cls:= .type "range",data:= .fields #v[.int lo t,.int a u,.int 1 v]}).objs.size:=by simpa using l
  subst e;exact g.fpOk (ig _) (g.hok.fresh (ig _))
def FM(a:TA):TI:=λb H R=>a b H λc d=>∃j:Int,c=[.int j]/\ -(2 ^ 62)<=j/\j<2 ^ 62/\R (ue 0 j.toNat) d
def ub{a:Expr}{f:TA}{p b:Pos}(g:Gl X "range")(i:X.mg "range"=none)(k:PA X [a] f)(l:starEach [a] X.env=[(false,eval a X.env)]:=by rfl):PI X c (.Call (.Name "range" p) [a] [] b) (FM f):=by
 intro Z s m H R I h;refine Call_ (xO I g i boot_range (Hg (ie (k b Z s m H _ I h) λw x ⟨y,z,n,o,d⟩=>?_) l rZ));obtain⟨j,e,d,u,q⟩:=d;subst e;cases o with
 |cons r v=>
  cases v;obtain⟨t,rfl⟩:=r;exact call_range_1 (Ma n () () d u (by simpa using q))
def vv(f:TI)(g:TG)(h:TS):TS:=λD a H=>f a H λJ j=>∃W:Nat->Nat->St->Hp->Prop,(∃m,W 0 m a j)/\∀i m a H,W i m a H->
 (J.stop i H/\D.nx a H)\/(J.go i H/\∃N:St->Hp->Prop,(∀b c,N b c->∃e,e<m/\W (i+1) e b c)/\∀x c,J.yld i H x c->g x a c λd k=>h {D with nx:=N,ct:=N,bk:=D.nx} d k)
def xj(a:As)(h:Heap):AO:=a.filterMap λb=>(h.get? b).map λo=>(b,o)
def xW{a:As}{h:Heap}{b:Ad}{o:Obj}(c:b∈a)(e:h.get? b=some o):(b,o)∈xj a h:=BG.mpr #[b,c,by rw[e];rfl]
def Ny{a:As}{h:Heap}{p:Ad×Obj}(c:p∈xj a h):p.1∈a/\h.get? p.1=some p.2:=by
 obtain⟨b,d,e⟩:=BG.mp c;cases q:h.get? b with
 |none=>rw[q]at e;cases e
 |some o=>
  rw[q]at e;have f:(b,o)=p:=lW e;subst f;exact#[d,q]
def Inv.pinned{Z:AO}{c:St}{H:Hp}{s:Sh}{a:As}(I:Inv X Z c H s)(h:∀b∈a,FpOk X Z H b)(i:∀b∈a,∃o,s.heap.get? b=some o/\∀v,o.data≠ .cell v):Inv X (Z++xj a s.heap) c H s:=
 I.pins_of λp j=>(iN.mp j).elim (λz=>I.pin p (jj _ z)) λz=>by
  obtain⟨f,e⟩:=Ny z;obtain⟨k,l,m,_⟩:=h p.1 f;obtain⟨o,g,d⟩:=i p.1 f;rw[e]at g;cases g;exact#[e,k,l,m,d]
def Inv.unpinned{Z b:AO}{a:St}{H:Hp}{s:Sh}(I:Inv X (Z++b) a H s):Inv X Z a H s:=I.pins_of λp c=>I.pin p (jj _ (pA _ c))
def pq{j:Expr}{z:List Stmt}{wi:TI}{g:TG}{tb:TS}{U:Pos}(C:PassesOwn (model X.prog X.w) X.A X.env X.xe)(hc:X.calm=true)(hi:PI X c j wi)(hg:PG X c g)(k:PSs X z tb)(hs:∀x,foldedSetIterable j X.env x=pure x:=by intro _;rfl):PS X (.For c j z [] U) (vv wi g tb):=by
 intro Z s σ H D I h;refine wpAny_For (ie (hi Z s σ H _ I h) λv s1 h1=>ie h1 λaf s2 h2=>?_) hs;obtain⟨it,E,tn,J,H2,e,I2,T,Y,f2,W,⟨m0,w0⟩,G⟩:=h2;subst e;have l:∀{y:Hp},(∀b∈E,y b=none)->∀b∈E,FpOk X Z y b:=λhn b k=>#[hn b k,(f2 b k).2];refine codeAny_forLoop_any (λn s'=>∃i p y,Inv X Z p y s'/\tn i s'.heap/\(∀b∈E,y b=none)/\W i n p y) ?_ m0 #[0,σ,H2,I2,Y,λb k=>(f2 b k).1,w0];rintro n s3 ⟨i,q,Q,I3,L,M,w3⟩
 rcases G i n q Q w3 with⟨stop,qn⟩|⟨go,N,hN,step⟩
 .refine vL C (ie (T.done X rZ rZ rZ hc i Z s3 q Q X.xe I3 (l M) L stop) λr s4 ⟨hr,I4⟩=>?_);subst hr;exact x5 #[q,Q,I4,qn]
 .refine vL C (ie (T.item X rZ rZ rZ hc i Z s3 q Q X.xe I3 (l M) L go) λr s4 ⟨u,hr,h4⟩=>?_);subst hr;refine vL C (ie h4 λ_ s5 ⟨x,H5,I5,r5,y5,B,aa⟩=>?_);have ab:=I5.pinned (l aa) (T.obj _ _ B);refine vL C (ie (hg _ s5 q H5 x u _ ab r5 (step x H5 y5)) λ_ s6 ⟨ae,H6,I6,q6⟩=>?_);refine vL C (ie (k _ s6 ae H6 _ I6 q6) λf s7 A=>?_);have again:∀{a:St} {t:Hp},Inv X (Z++xj E s5.heap) a t s7->N a t->∃m,m<n/\∃i p y,Inv X Z p y s7/\tn i s7.heap/\(∀b∈E,y b=none)/\W i m p y:=λ{a t} w O=>by
   obtain⟨m',hm,w7⟩:=hN a t O;refine#[m',hm,i+1,a,t,w.unpinned,T.keep _ _ _ B λb k o e=>(w.pin (b,o) (jj _ (jj _ (xW k e)))).1,λb k=>?_,w7];obtain⟨o,e,d⟩:=T.obj _ _ B b k;exact(w.pin (b,o) (jj _ (jj _ (xW k e)))).2.1
  cases f with
  |next=>obtain⟨a,t,w,O⟩:=A;exact again w O
  |cont=>obtain⟨a,t,w,O⟩:=A;exact again w O
  |brk=>obtain⟨a,t,w,A⟩:=A;exact#[a,t,w.unpinned,A]
  |ret v=>obtain⟨x7,a,t,w,r7,A⟩:=A;exact#[x7,a,t,w.unpinned,r7,A]
end
def vi{K:O0}{a:Ad}{xs:List V}{g:TG}{k:TS}{D:Ends}{b:St}{H:Hp}(Pv:Nat->St->Hp->Prop)(n:Pv 0 b H)(o:∀i b H,i<=xs.length->Pv i b H->SqL K H a xs)(r:∀i x b H,xs[i]?=some x->Pv i b H->g x b H λc j=>k {D with nx:=Pv (i+1),ct:=Pv (i+1),bk:=D.nx} c j) (s:∀b H,Pv xs.length b H->D.nx b H):
  ∃W:Nat->Nat->St->Hp->Prop,(∃m,W 0 m b H)/\∀i m b H,W i m b H->
   ((xF K a).stop i H/\D.nx b H)\/((xF K a).go i H/\∃N:St->Hp->Prop,(∀d f,N d f->∃l,l<m/\W (i+1) l d f)/\∀x f,(xF K a).yld i H x f->g x b f λc j=>k {D with nx:=N,ct:=N,bk:=D.nx} c j):=by
 refine#[λi m b H=>m=xs.length-i/\i<=xs.length/\Pv i b H,#[xs.length,by simp,Nat.zero_le _,n],?_];rintro i m b H ⟨rfl,t,p⟩;have q:=o i b H t p;by_cases h:i<xs.length
 .refine .inr #[#[xs,xs[i],q,by simp[h]],Pv (i+1),λd f u=>#[xs.length-(i+1),Nat.sub_succ_lt_self _ _ h,rZ,h,u],λx f y=>?_];obtain⟨e,y⟩:=y;subst e;exact r i x b _ (y xs q) p
 .have e:i=xs.length:=by lia
  subst e;exact .inl #[#[xs,q,ig _],s b H p]
def DR{lo:Int}{n:Nat}{g:TG}{j:TS}{D:Ends}{a:St}{H:Hp}(Pv:Nat->St->Hp->Prop)(l:Pv 0 a H)(o:∀i a H,i<n->Pv i a H->g (.int (lo+i)) a H λc h=>j {D with nx:=Pv (i+1),ct:=Pv (i+1),bk:=D.nx} c h) (q:∀a H,Pv n a H->D.nx a H):
  ∃W:Nat->Nat->St->Hp->Prop,(∃m,W 0 m a H)/\∀i m a H,W i m a H->
   ((ue lo n).stop i H/\D.nx a H)\/((ue lo n).go i H/\∃N:St->Hp->Prop,(∀d f,N d f->∃k,k<m/\W (i+1) k d f)/\∀x f,(ue lo n).yld i H x f->g x a f λc h=>j {D with nx:=N,ct:=N,bk:=D.nx} c h):=by
 refine#[λi m a H=>m=n-i/\i<=n/\Pv i a H,#[n,by simp,Nat.zero_le _,l],?_];rintro i m a H ⟨rfl,s,p⟩;by_cases b:i<n
 .refine .inr #[b,Pv (i+1),λd f r=>#[n-(i+1),Nat.sub_succ_lt_self _ _ b,rZ,b,r],λx f y=>?_];obtain⟨e,y⟩:=y;subst e y;exact o i a _ b p
 .have e:i=n:=by lia
  subst e;exact .inl #[ig _,q a H p]
abbrev R2:=V->V->Hp->VK->Prop
def OpR(X:Cx)(f:Vl->Vl->Sem Vl)(r:R2):Prop:=
 ∀(Z:AO) (s:Sh) (a:St) (H:Hp) (x y:V) (v u:Vl) (Q:VK),Inv X Z a H s->RelV x v->RelV y u->r x y H Q->
  wpAny (model X.prog X.w) X.A (f v u) (EP X Z a Q) X.xe s
def DS(X:Cx)(f:Vl->Sem Vl)(r:V->Hp->VK->Prop):Prop:=
 ∀(Z:AO) (s:Sh) (a:St) (H:Hp) (x:V) (v:Vl) (Q:VK),Inv X Z a H s->RelV x v->r x H Q->
  wpAny (model X.prog X.w) X.A (f v) (EP X Z a Q) X.xe s
def CallR(X:Cx)(f:Vl)(r:List V->Hp->VK->Prop):Prop:=
 ∀(Z:AO) (s:Sh) (a:St) (H:Hp) (b:List V) (c:Vs) (Q:VK),Inv X Z a H s->Vals b c->r b H Q->
  wpAny (model X.prog X.w) X.A (call f c) (EP X Z a Q) X.xe s
def Ey(X:Cx)(r:V->Hp->(Bool->Hp->Prop)->Prop):Prop:=
 ∀(Z:AO) (s:Sh) (a:St) (H:Hp) (x:V) (v:Vl) (Q:Bool->Hp->Prop),Inv X Z a H s->RelV x v->r x H Q->
  wpAny (model X.prog X.w) X.A (truthy v) (TP X Z a Q) X.xe s
def zC(r:R2)(b c:TE):TE:=λa H Q=>b a H λx d=>c a d λy e=>r x y e Q
def Na(r:V->Hp->VK->Prop)(a:TE):TE:=λb H Q=>a b H λx c=>r x c Q
inductive rI(C:Int->Int->Prop)(g:Int->Int->V)(x y:V)(H:Hp)(Q:VK):Prop|mk:∀i j,x=.int i->y=.int j->C i j->Q (g i j) H->rI C g x y H Q
inductive um(g:Int->Int->V)(x y:V)(H:Hp)(Q:VK):Prop|mk:∀i j,x=.int i->y=.int j->Q (g i j) H->um g x y H Q
inductive rU(g:Int->V)(x:V)(H:Hp)(Q:VK):Prop|mk:∀i,x=.int i->Q (g i) H->rU g x H Q
section
variable{X:Cx}{a b c:Expr}{d k l:TE}{e:Pos}
def vt(m:PE X a d)(n:PE X b k){Z:AO}{s:Sh}{c:St}{H:Hp}{R:V->V->Hp->Prop}(I:Inv X Z c H s)(h:d c H λx l=>k c l λy e=>R x y e) {Q:VP} {f:Vl->Vl->Sem Vl}(o:∀v u j x y e,Inv X Z c e j->RelV x v->RelV y u->R x y e->wpAny (model X.prog X.w) X.A (f v u) Q X.xe j):
  wpAny (model X.prog X.w) X.A (eval a X.env) (λv g=>wpAny (model X.prog X.w) X.A (eval b X.env) (λu i=>wpAny (model X.prog X.w) X.A (f v u) Q X.xe i) X.xe g) X.xe s:=by
 refine ie (m Z s c H _ I h) λv p ⟨x,l,q,r,t⟩=>?_;refine ie (n Z p c l _ q t) λu j ⟨y,e,w,z,A⟩=>?_;exact o v u j x y e w r z A
def jx{c:Operator}{r:R2}(f:OpR X (binaryOp c) r)(g:PE X a d)(i:PE X b k):PE X (.BinOp a c b e) (zC r d k):=by
 intro Z s j H Q I h;exact wpAny_BinOp (vt g i I h λv u l x y m n o p q=>f Z l j m x y v u Q n o p q)
def y7{b:UnaryOp}{r:V->Hp->VK->Prop}(f:DS X (unaryOp b) r)(g:PE X a d):PE X (.UnaryOp b a e) (Na r d):=by
 intro Z s c H Q I h;exact UnaryOp_ (ie (g Z s c H _ I h) λv i ⟨x,j,k,l,m⟩=>f Z i c j x v Q k l m)
def Ca{f:Vl->Vl->Sem Vl}{C:Int->Int->Prop}{g:Int->Int->Int}(rule:∀(i j:Int) (t u:Tok) (s:Sh) (Q:VP) (E:VP),C i j->Q (.int (g i j) s.toks) {s with toks:=s.toks+1}->wpAny (model X.prog X.w) X.A (f (.int i t) (.int j u)) Q E s):
  OpR X f (rI C λi j=> .int (g i j)):=by
 intro Z s e H x y v u Q I a b h;obtain⟨i,j,rfl,rfl,c,q⟩:=h;obtain⟨t,rfl⟩:=a;obtain⟨d,rfl⟩:=b;exact rule i j t d s _ _ c #[.int (g i j),H,I.tok _,#[_,rZ],q]
def yx{f:Vl->Vl->Sem Vl}{g:Int->Int->Int}(rule:∀(i j:Int) (t u:Tok) (s:Sh) (Q:VP) (E:VP),Q (.int (g i j) s.toks) {s with toks:=s.toks+1}->wpAny (model X.prog X.w) X.A (f (.int i t) (.int j u)) Q E s):
  OpR X f (um λi j=> .int (g i j)):=by
 intro Z s d H x y v u Q I a b h;obtain⟨i,j,rfl,rfl,q⟩:=h;obtain⟨t,rfl⟩:=a;obtain⟨c,rfl⟩:=b;exact rule i j t c s _ _ #[.int (g i j),H,I.tok _,#[_,rZ],q]
def vV{f:Vl->Vl->Sem Vl}{g:Int->Int->Bool}(rule:∀(i j:Int) (t u:Tok) (s:Sh) (Q:VP) (E:VP),Q (.bool (g i j)) s->wpAny (model X.prog X.w) X.A (f (.int i t) (.int j u)) Q E s):
  OpR X f (um λi j=> .bl (g i j)):=by
 intro Z s d H x y v u Q I a b h;obtain⟨i,j,rfl,rfl,q⟩:=h;obtain⟨t,rfl⟩:=a;obtain⟨c,rfl⟩:=b;exact rule i j t c s _ _ #[.bl (g i j),H,I,rZ,q]
def EB(i j:Int):Prop:=0<j/\j<1073741824
def CMul(i j:Int):Prop:=(-(2 ^ 64)<i/\i<2 ^ 64)\/(-(2 ^ 64)<j/\j<2 ^ 64)
def CMul.ok{i j:Int}(h:CMul i j):IntMulOk i j:=by
 rcases h with⟨a,b⟩|⟨a,b⟩
 .exact .of_left (intBits_le_64 a b)
 .exact .of_right (intBits_le_64 a b)
def rR:OpR X (binaryOp .Add) (um λi j=> .int (i+j)):=yx λ_ _ _ _ _ _ _ q=>add_int q
def Nw:OpR X (binaryOp .Sub) (um λi j=> .int (i-j)):=yx λ_ _ _ _ _ _ _ q=>sub_int q
def L7:OpR X (binaryOp .Mult) (rI CMul λi j=> .int (i * j)):=Ca λ_ _ _ _ _ _ _ a q=>mul_int q a.ok
def vk:OpR X (binaryOp .FloorDiv) (rI EB λi j=> .int (i/j)):=Ca λi j _ _ _ _ _ a q=>by
 have b:(0:Int)<j:=a.1;have c:j<1073741824:=a.2;exact floordiv_int () (by rw[Int.fdiv_eq_ediv_of_nonneg i ()];exact q) (.inl (PyProof.noPylong_small ()))
def n7:OpR X (binaryOp .Mod) (rI (λ_ j=>0<j) λi j=> .int (i%j)):=Ca λi j _ _ _ _ _ a q=>by
 have b:(0:Int)<j:=a;exact mod_int' () (by rw[Int.fmod_eq_emod_of_nonneg i ()];exact q)
def Jj{f:Vl->Sem Vl}{g:Int->Int}(rule:∀(i:Int) (t:Tok) (s:Sh) (Q:VP) (E:VP),Q (.int (g i) s.toks) {s with toks:=s.toks+1}->wpAny (model X.prog X.w) X.A (f (.int i t)) Q E s):
  DS X f (rU λi=> .int (g i)):=by
 intro Z s b H x v Q I a h;obtain⟨i,rfl,q⟩:=h;obtain⟨t,rfl⟩:=a;exact rule i t s _ _ #[.int (g i),H,I.tok _,#[_,rZ],q]
def Ng:DS X (unaryOp .USub) (rU λi=> .int (-i)):=Jj λ_ _ _ _ _ q=>neg_int q
end
def Dy:V->V->Bool
 |.non,.non=>true|.non,.int _=>true|.int _,.non=>true|.non,.bl _=>true|.bl _,.non=>true|.non,.str _=>true|.str _,.non=>true
 |.int _,.int _=>true|.bl _,.bl _=>true|.str _,.str _=>true|.byt _,.byt _=>true
 |.int _,.str _=>true|.str _,.int _=>true|.bl _,.str _=>true|.str _,.bl _=>true
 |_,_=>false
def K7:R2:=λx y H Q=>Dy x y=true/\Q (.bl (decide (x=y))) H
def JT{i j:Int}:decide (V.int i=V.int j)=(i==j):=by
 rw[px];simp
def Nj{i j:Bool}:decide (V.bl i=V.bl j)=(i==j):=by
 rw[px];simp
def JZ{i j:Str}:decide (V.str i=V.str j)=(i==j):=by
 rw[px];simp
def Ku{i j:Array UInt8}:decide (V.byt i=V.byt j)=(i.toList==j.toList):=by
 rw[px];cases i;cases j;simp
section
variable{X:Cx}{a b c:Expr}{d g l:TE}{f:Pos}
def nR{Z:AO}{a:St}{H:Hp}{s:Sh}{Q:VK}{k b:Bool}(I:Inv X Z a H s)(q:Q (.bl k) H)(e:k=b):EP X Z a Q (.bool b) s:=by
 subst e;exact#[.bl k,H,I,rZ,q]
def zI:OpR X (compareOp .Eq) K7:=by
 intro Z s e H x y v u Q I d a h;obtain⟨c,q⟩:=h;cases x with
 |non=>
  cases d;cases y with
  |non=>cases a;exact PySem.EqNone.eq_none_none (nR I q (by simp))
  |bl j=>cases a;exact PySem.EqNone.eq_none_bool (nR I q (by simp))
  |int j=>obtain⟨b,rfl⟩:=a;exact PySem.EqNone.eq_none_int (nR I q (by simp))
  |str j=>obtain⟨b,rfl⟩:=a;exact PySem.EqNone.eq_none_str (nR I q (by simp))
  |_=>exact wC (show false=true from c) mV
 |bl i=>
  cases d;cases y with
  |non=>cases a;exact PySem.EqNone.eq_bool_none (nR I q (by simp))
  |bl j=>cases a;exact eq_bool (nR I q Nj)
  |str j=>obtain⟨b,rfl⟩:=a;exact PySem.EqMixed.eq_bool_str (nR I q (by simp))
  |_=>exact wC (show false=true from c) mV
 |int i=>
  obtain⟨t,rfl⟩:=d;cases y with
  |non=>cases a;exact PySem.EqNone.eq_int_none (nR I q (by simp))
  |int j=>obtain⟨b,rfl⟩:=a;exact eq_int (nR I q JT)
  |str j=>obtain⟨b,rfl⟩:=a;exact PySem.EqMixed.eq_int_str (nR I q (by simp))
  |_=>exact wC (show false=true from c) mV
 |str i=>
  obtain⟨t,rfl⟩:=d;cases y with
  |non=>cases a;exact PySem.EqNone.eq_str_none (nR I q (by simp))
  |bl j=>cases a;exact PySem.EqMixed.eq_str_bool (nR I q (by simp))
  |int j=>obtain⟨b,rfl⟩:=a;exact PySem.EqMixed.eq_str_int (nR I q (by simp))
  |str j=>obtain⟨b,rfl⟩:=a;exact eq_str (nR I q JZ)
  |_=>exact wC (show false=true from c) mV
 |byt i=>
  obtain⟨t,rfl⟩:=d;cases y with
  |byt j=>obtain⟨b,rfl⟩:=a;exact PySem.W.eq_bytes (nR I q Ku)
  |_=>exact wC (show false=true from c) mV
 |_=>cases y<;>exact wC (show false=true from c) mV
def Bt:OpR X (compareOp .Lt) (um λi j=> .bl (decide (i<j))):=vV λ_ _ _ _ _ _ _ q=>lt_int q
def zu:OpR X (compareOp .LtE) (um λi j=> .bl (decide (i<=j))):=vV λ_ _ _ _ _ _ _ q=>le_int q
def Et:OpR X (compareOp .Gt) (um λi j=> .bl (decide (j<i))):=vV λ_ _ _ _ _ _ _ q=>gt_int q
def Nt:OpR X (compareOp .Is) (λx y H Q=>y=.non/\Q (.bl (decide (x=.non))) H):=by
 intro Z s c H x y v u Q I a b h;obtain⟨rfl,q⟩:=h;cases b;refine is_none_gen (nR I q ?_);cases x<;>first
  |(cases a;rfl)
  |(obtain⟨t,rfl⟩:=a;rfl)
def MS:OpR X (compareOp .IsNot) (λx y H Q=>y=.non/\Q (.bl (!decide (x=.non))) H):=by
 intro Z s c H x y v u Q I a b h;obtain⟨rfl,q⟩:=h;cases b;refine isnot_none_gen (nR I q ?_);cases x<;>first
  |(cases a;rfl)
  |(obtain⟨t,rfl⟩:=a;rfl)
def lm(b:Expr){a:CmpOp}(h:a≠ .In:=by decide)(c:a≠ .NotIn:=by decide):behindInMarks a b=false:=by
 have d:(a==CmpOp.In)=false:=by cases a<;>first|rfl|exact wC rZ h
 have e:(a==CmpOp.NotIn)=false:=by cases a<;>first|rfl|exact wC rZ c
 cases b<;>simp[behindInMarks,d,e]
def uu{c:CmpOp}{r:R2}(e:OpR X (compareOp c) r)(i:PE X a d)(j:PE X b g)(k:behindInMarks c b=false):PE X (.Compare a [c] [b] f) (zC r d g):=by
 intro Z s l H Q I h;exact wpAny_Compare1 (vt i j I h λv u m x y n o p t q=>e Z m l n x y v u Q o p t q) k
def zQ(t:TE):TT:=λa H Q=>t a H λx b=>∃k,x=.bl k/\Q k b
def mG{i:CmpOp}{r:R2}(l:OpR X (compareOp i) r)(m:PE X a d)(n:PE X b g)(o:behindInMarks i b=false):PT X (.Compare a [i] [b] f) (zQ (zC r d g)):=by
 intro Z s j H Q I h;refine wpAny_isTrue_Compare1 (ie (m Z s j H _ I h) λv p ⟨x,q,t,w,A⟩=>ie (n Z p j q _ t A) λu B ⟨y,C,D,E,G⟩=>
  ie (l Z B j C x y v u _ D w E G) λc O ⟨z,J,L,M,k,e,N⟩=>?_) o
 subst e;cases M;exact ti #[J,L,N]
def wh(K:O0)(x:V)(H:Hp)(k:Bool):Prop:=
 match x with
 |.non=>k=false
 |.bl b=>k=b
 |.int i=>k=(i != 0)
 |.str y=>y.length<=sizeLine/\k=((y.length:Int) != 0)
 |.byt y=>y.size<=sizeLine/\k=((y.size:Int) != 0)
 |.ref p=>(∃a,SqL K H p a/\k= !a.isEmpty)\/(∃a,SqT K H p a/\k= !a.isEmpty)\/∃c,H p=some (.dK c)/\k= !c.isEmpty
 |_=>False
def IN{b:Type}{a:List (b×V)}{c:List (b×Vl)}(r:KV a c):(!c.isEmpty)= !a.isEmpty:=by
 cases r<;>rfl
def GD{b:List V}{a:Vs}(r:Vals b a):(!a.toArray.isEmpty)= !b.isEmpty:=by
 cases r<;>simp
def zm:(sizeLine:Nat)<2 ^ 63:=by rw[iR];decide
def Mi:Ey X (λx H Q=>∃k,wh X.K x H k/\Q k H):=by
 intro Z s A H x v Q I g h;obtain⟨k,e,q⟩:=h;have B:=zm;have C:sizeLine=16777216:=iR;cases x with
 |non=>
  cases g;have a:k=false:=e;subst a;exact truthy_none #[H,I,q]
 |bl b=>
  cases g;have a:k=b:=e;subst a;exact ti #[H,I,q]
 |int i=>
  obtain⟨t,rfl⟩:=g;have a:k=(i != 0):=e;subst a;exact PySem.P.truthy_int #[H,I,q]
 |str y=>
  obtain⟨t,rfl⟩:=g;obtain⟨w,a⟩:y.length<=sizeLine/\k=((y.length:Int) != 0):=e;subst a;exact PySem.P.truthy_str () #[H,I.tok _,q]
 |byt y=>
  obtain⟨t,rfl⟩:=g;obtain⟨w,a⟩:y.size<=sizeLine/\k=((y.size:Int) != 0):=e;subst a;exact PySem.W.truthy_bytes () #[H,I.tok _,q]
 | ref p=>
  cases g;have a:(∃f,SqL X.K H p f/\k= !f.isEmpty)\/(∃f,SqT X.K H p f/\k= !f.isEmpty)\/∃c,H p=some (.dK c)/\k= !c.isEmpty:=e
  rcases a with⟨f,j,a⟩|⟨f,j,a⟩|⟨c,j,a⟩
  .subst a;obtain⟨n,r,o,u⟩:=I.list j;have d:=r.length;exact wpAny_truthy_list o.isList (by simp only[List.size_toArray];lia) #[H,I.tok _,by rw[GD r];exact q]
  .subst a;obtain⟨n,r,o,u⟩:=I.tuple j;have d:=r.length;exact truthy_tuple o (by simp only[List.size_toArray];lia) #[H,I.tok _,by rw[GD r];exact q]
  .subst a;obtain⟨u,z,l,r,m⟩:c.length<=sizeLine/\(p==sysModules)=false/\∃l,KV c l/\s.heap.DictOf (oX X.prog X.w) p l:=I.hok p _ j;have d:c.length=l.length:=r3 r;exact wpAny_truthy_dict z m () #[H,I.tok _,by rw[IN r];exact q]
 |_=>exact(show False from e).elim
def De(f:PE X a d)(g:∀b,isTrue a X.env b=(do let v <-b;standAt a.pos;holding [v] (truthy v))):
  PT X a (λc H Q=>d c H λx e=>∃k,wh X.K x e k/\Q k e):=by
 intro Z s c H Q I h;exact isTrue_plain (ie (f Z s c H _ I h) λv i ⟨x,j,l,m,n⟩=>Mi Z i c j x v Q l m n) (g _)
def m7{x:V}{a:Vs}(r:Vals [x] a):∃u,a=[u]/\RelV x u:=by
 cases r with
 |cons b c=>cases c;exact#[_,rZ,b]
def zY{x y:V}{a:Vs}(r:Vals [x,y] a):∃u b,a=[u,b]/\RelV x u/\RelV y b:=by
 cases r with
 |cons c d=>
  cases d with
  |cons e f=>cases f;exact#[_,_,rZ,c,e]
def Mp(c:X.calm=true):CallR X (.builtin "max") (λb H Q=>∃i j,b=[.int i,.int j]/\Q (.int (if j>i then j else i)) H):=by
 intro Z s d H b e Q I r h;obtain⟨i,j,rfl,q⟩:=h;obtain⟨u,f,rfl,⟨t,rfl⟩,⟨g,rfl⟩⟩:=zY r;refine max_two_ints (I.ok.hd c) λl m k=>#[_,H,I.kept k,?_,q];by_cases a:j>i
 .rw[wB a,wB a];exact#[_,rZ]
 .rw[wA a,wA a];exact#[_,rZ]
def OH(c:X.calm=true):CallR X (.builtin "min") (λb H Q=>∃i j,b=[.int i,.int j]/\Q (.int (if j<i then j else i)) H):=by
 intro Z s d H b e Q I r h;obtain⟨i,j,rfl,q⟩:=h;obtain⟨u,f,rfl,⟨t,rfl⟩,⟨g,rfl⟩⟩:=zY r;refine min_two_ints (I.ok.hd c) λl m k=>#[_,H,I.kept k,?_,q];by_cases a:j<i
 .rw[wB a,wB a];exact#[_,rZ]
 .rw[wA a,wA a];exact#[_,rZ]
end
structure ObjM(h:Heap)(x dx C:Ad)(mA:SV):Prop where
 obj:h.get? x=some (PySem.W.instObj C dx)
 ns:h.Ns1 dx mA
 ne:dx≠x
def OD{h:Heap}{c:Ad}{d:SV}(n:h.Ns1 c d):∃f,h.get? c=some f/\∀name,PySem.W.lookIn name f=some (d name):=by
 obtain⟨o,g,r,i,j,k,_,l⟩:=n;refine#[o,i,λname=>?_];have e:=l name;unfold nsFind findBy at e;rw[<-Array.find?_toList]at e;unfold PySem.W.lookIn;rw[j];dsimp only;split
 .rename_i y q
  rw[q]at e;exact jv some e
 .rename_i q
  rw[q]at e;have a:g.toList.any (·.refKey)=false:=by
   rw[List.any_eq_false];intro y m;obtain⟨z,t,b⟩:=k y (Di.mp m);simp[DictEntry.refKey,b]
  have p: ¬g.toList.any (·.refKey)=true:=by rw[a];exact mV
  rw[wA p];exact jv some e
def ObjM.look{h:Heap}{x b C:Ad}{c:SV}(I:ObjM h x b C c):∃a,PySem.W.InstAt h x (PySem.W.instObj C b) C (some a)/\∀name,PySem.W.lookIn name a=some (c name):=
 let⟨a,d,e⟩:=OD I.ns
 #[a,#[I.obj,rZ,rZ,d],e]
def RelO.some_of{v:V}{o:Option Vl}(r:RelO (some v) o):∃u,o=some u/\RelV v u:=by
 cases o with
 |none=>exact(show False from r).elim
 |some u=>exact#[u,rZ,r]
section
variable{P:Pg}{w:World}{H i:Hp}{h g:Heap}{a C b:Ad}{fs c:List (Str×V)}
def Oq(g:HOk P w H h)(e:H a=some (.ins C b fs)):∃c,ObjM h a b C c/\(∀f,RelO (fs.lookup f) (c f))/\PySem.Within c (fs.map (·.1))/\fs.length<=1000/\H b=some (.own a):=by
 obtain⟨d,z,i,j,c,n,r,q⟩:=(show ObjOk P w H h a (.ins C b fs)from g a _ e);exact#[c,#[j,n,i],r,q,z,d]
end
structure Cls(K:O0)(C:Ad):Prop where
 pg:PySem.W.plainGet K C Str.empty=true
 hd:PySem.W.hasDictIn K C=true
 po:PySem.W.plainOver K C=true
 sa:PySem.W.findIn K (.ref C) "__setattr__"=some (some (.builtin "object.__setattr__"))
def Cls.get{K:O0}{C:Ad}(c:Cls K C)(f:Str):PySem.W.plainGet K C f=true:=c.pg
section
variable{X:Cx}{Z:AO}{b:St}{H:Hp}{s:Sh}{a C c:Ad}{fs:List (Str×V)}{f:Str}{v:V}{A:Ar}{E:VP}
def Lq{a:Pg}{w:World}{b:Env}{e:Expr}{f:Str}{d:Pos}{s:Sh}{Q:VP}(g:attributeBase e f b (eval e b)=eval e b)(h:wpAny (model a w) A (eval e b) (λo c=>wpAny (model a w) A (getAttr o f true) Q E c) E s):wpAny (model a w) A (eval (.Attribute e f d) b) Q E s:=
 Attribute_any_ h (by rw[arm_eval_Attribute,g])
end
section
variable{X:Cx}{Z:AO}{σ:St}{H:Hp}{s:Sh}{A:Ar}{E:VP}{Q:VP}{c:Vl}{b:Bool}
inductive TyOf (K:O0) (H:Hp):V->Vl->Prop where
 |non:TyOf K H .non (.type "NoneType")
 |bl (x:Bool):TyOf K H (.bl x) (.type "bool")
 |int (i:Int):TyOf K H (.int i) (.type "int")
 |str (x:Str):TyOf K H (.str x) (.type "str")
 |flt (x:UInt64):TyOf K H (.flt x) (.type "float")
 |lst {a:Ad} {xs:List V} (e:H a=some (.lst xs)):TyOf K H (.ref a) (.type "list")
 |frz {a:Ad} {o:Obj} {xs:List V} (e:H a=some (.frz o (.lst xs))):TyOf K H (.ref a) (.type "list")
 |tup {a:Ad} {xs:List V} (e:H a=some (.tup xs)):TyOf K H (.ref a) (.type "tuple")
 |dK {a:Ad} {kvs:List (iH×V)} (e:H a=some (.dK kvs)):TyOf K H (.ref a) (.type "dict")
 |dT {a:Ad} {kvs:List (List iH×V)} (e:H a=some (.dT kvs)):TyOf K H (.ref a) (.type "dict")
 | ins {a C dx:Ad} {fs:List (Str×V)} (e:H a=some (.ins C dx fs)) (cl:Cls K C) (ha:PySem.W.findIn K (.ref C) "__class__"=some (some (.builtin "object.__class__")))
   (hn:PySem.W.specialIn K (.builtin "object.__class__") "__get__"=some (some (.builtin "getset_descriptor.__get__"))) (htk:PySem.W.takesIn K (.builtin "object.__class__")=some true)
   (hm:PySem.W.mroIn K C (.type "object")=some true):TyOf K H (.ref a) (.ref C)
def MF{x:V}{u t:Vl}(I:Inv X Z σ H s)(d:RelV x u)(ty:TyOf X.K H x t)(e:PySem.W.kitOne X.K t c=some b)(h:∀v,Q (.bool b) {s with toks:=v}):
  wpAny (model X.prog X.w) A (call (.builtin "isinstance") [u,c]) Q E s:=by
 cases ty with
 |non=>cases(show u=Value.none from d);exact qm PySem.W.kitx_none I.kIn True.intro e (λz=>nomatch z) h
 |bl y=>cases(show u=Value.bool y from d);exact qm PySem.W.kitx_bool I.kIn True.intro e (λz=>nomatch z) h
 |int i=>obtain⟨t,q⟩:=(show ∃t,u=Value.int i t from d);cases q;exact qm PySem.W.kitx_int I.kIn True.intro e (λz=>nomatch z) h
 |str y=>obtain⟨t,q⟩:=(show ∃t,u=Value.str y t from d);cases q;exact qm PySem.W.kitx_str I.kIn True.intro e (λz=>nomatch z) h
 |flt y=>obtain⟨t,q⟩:=(show ∃t,u=Value.float y t from d);cases q;exact qm PySem.W.kitx_float I.kIn True.intro e (λz=>nomatch z) h
 | @lst a k f=>
  cases(show u=Value.ref a from d);obtain⟨_,_,n,_,g⟩:=(show ObjOk X.prog X.w H s.heap a (.lst k)from I.hok a _ f);exact qm PySem.W.kitx_list I.kIn #[_,g,rZ] e (λz=>nomatch z) h
 | @frz a w k f=>
  cases(show u=Value.ref a from d);obtain⟨_,_,_,n,_,g⟩:=(show ObjOk X.prog X.w H s.heap a (.frz w (.lst k))from I.hok a _ f);exact qm PySem.W.kitx_list I.kIn #[_,g,rZ] e (λz=>nomatch z) h
 | @tup a k f=>
  cases(show u=Value.ref a from d);obtain⟨_,_,_,p⟩:=(show ObjOk X.prog X.w H s.heap a (.tup k)from I.hok a _ f);obtain⟨o,g,l,_⟩:=p;exact qm PySem.W.kitx_tuple I.kIn #[o,g,l] e (λz=>nomatch z) h
 | @dK a j f=>
  cases(show u=Value.ref a from d);obtain⟨_,_,N,_,p⟩:=(show ObjOk X.prog X.w H s.heap a (.dK j)from I.hok a _ f);obtain⟨o,B,D,g,l,_⟩:=p;exact qm PySem.W.kitx_dict I.kIn #[o,g,l.1] e (λz=>nomatch z) h
 | @dT a j f=>
  cases(show u=Value.ref a from d);obtain⟨_,_,k,_,o,B,D,g,l,_⟩:=(show ObjOk X.prog X.w H s.heap a (.dT j)from I.hok a _ f);exact qm PySem.W.kitx_dict I.kIn #[o,g,l.1] e (λz=>nomatch z) h
 | @ins a C T fs f r G L m M=>
  cases(show u=Value.ref a from d);obtain⟨U,O,_⟩:=Oq I.hok f;obtain⟨Y,J,_⟩:=O.look;exact qm (PySem.W.kitx_own (r.get _) r.hd G L m M) I.kIn J e (λz=>nomatch z) h
end
structure Room(k:Nat)(A:Ar):Prop where
 hd:A.handled=none
 dp:A.depth+3 * k+5<recursionLimit
 un:A.units+16 * k+200<cLine
def Room.mono{j k:Nat}{A:Ar}(r:Room k A)(h:j<=k):Room j A:=#[r.hd,by have:=r.dp;lia,by have:=r.un;lia]
def Room.m{A:Ar}{k j:Nat}(h:Room k A)(d:j≤k:=by decide):Room j A:=h.mono d
def Room.deeper{k:Nat}{A:Ar}(r:Room (k+1) A)(a:Env):Room k (A.deeper a):=
 #[r.hd,by have:=r.dp;show A.depth+1+3 * k+5<_;lia,by have:=r.un;show A.units+3+16 * k+200<_;lia]
def Room.in1{k:Nat}{A:Ar}(r:Room (k+1) A):Room k A.in1:=
 #[r.hd,by have:=r.dp;show A.depth+3 * k+5<_;lia,by have:=r.un;show A.units+1+16 * k+200<_;lia]
def NY{A:Ar}{C:Ad}{a:Vs}{kw:List (Str×Vl)}:(A.under (.builtin "type.__call__" #[.ref C::a,kw])).depth=A.depth+1:=by
 first|rfl|simp[Around.under,Code.weight,Code.isCreation,Code.isGuard,Code.isCaller,Code.frames,Code.isFrame,guardIds]
def M8{A:Ar}{C:Ad}{a:Vs}{kw:List (Str×Vl)}:(A.under (.builtin "type.__call__" #[.ref C::a,kw])).units=A.units+1:=by
 first|rfl|simp[Around.under,Code.cUnits,Code.frames,Code.isFrame]
def Room.make{k:Nat}{A:Ar}(r:Room (k+1) A)(C:Ad)(a:Vs)(kw:List (Str×Vl)):Room k (A.under (.builtin "type.__call__" #[.ref C::a,kw])):=
 #[r.hd,by have:=r.dp;rw[NY];lia,by have:=r.un;rw[M8];lia]
def Room.depth{k:Nat}{A:Ar}(r:Room k A):A.depth<recursionLimit:=by have:=r.dp;lia
def Room.units{k:Nat}{A:Ar}(r:Room k A):A.units+64<cLine:=by have:=r.un;lia
def pr:TA:=λ_ H Q=>Q [] H
def oq(b:TE)(c:TA):TA:=λa H Q=>b a H λx d=>c a d λe f=>Q (x::e) f
section
variable{X:Cx}{e:Expr}{c:List Expr}{d:TE}{t:TA}{a:Pos}
def im:PA X [] pr:=λ_ _ _ _ H Q I h=>Calls.spliced_nil #[[],H,I,.nil,h]
def ir(f:PE X e d)(g:PA X c t)(i:starEach (e::c) X.env=(false,eval e X.env)::starEach c X.env:=by rfl):PA X (e::c) (oq d t):=by
 intro a Z s b H Q I h;rw[i];show wpAny _ _ (spliced ((false,eval e X.env)::backTo a (starEach c X.env))) _ _ s;refine Calls.spliced_cons (ie (f Z s b H _ I h) λu j ⟨x,k,l,m,n⟩=>?_);exact ie (g a Z j b k _ l n) λw y ⟨o,p,q,r,v⟩=>#[x::o,p,q,.cons m r,v]
def D1(t:TA):TE:=λc H Q=>t c H λa b=>a.length<=sizeLine/\∀p,b p=none->Q (.ref p) (hA b p (.tup a))
def yJ(t:TA):TE:=λc H Q=>t c H λa b=>a.length<=sizeLine/\∀p,b p=none->Q (.ref p) (hA b p (.lst a))
def uj{i}(h:PA X c t):PE X (.Tuple c i a) (D1 t):=by
 intro Z s j H Q I k;refine wpAny_Tuple_spliced (ie (h a Z s j H _ I k) λl d ⟨m,f,g,r,z,q⟩=>#[by rw[<-r.length];exact z,?_]);have n:f d.heap.objs.size=none:=g.hok.fresh (ig _);refine#[.ref d.heap.objs.size,hA f d.heap.objs.size (.tup m),g.laid (t':=d.toks) (λb u e=>iG _ e) (ig _) ?_,rZ,q _ n];exact#[z,l,r,#[_,jp _ rZ,rZ,_,rZ,rZ]]
def nX(h:PA X c t):PE X (.List c a) (yJ t):=by
 intro Z s i H Q I j;refine wpAny_List_spliced (ie (h a Z s i H _ I j) λk d ⟨l,f,g,r,z,q⟩=>#[by rw[<-r.length];exact z,?_]);have m:f d.heap.objs.size=none:=g.hok.fresh (ig _);refine#[.ref d.heap.objs.size,hA f d.heap.objs.size (.lst l),g.laid (t':=d.toks) (λb u e=>iG _ e) (ig _) ?_,rZ,q _ m];exact#[z,k,0,r,jp _ rZ]
end
abbrev Sp:=List V->Hp->VK->XK->Prop
abbrev rN:=List Env->Hp->Sh->XK->Vl->Sh->Prop
structure Env0(P:Pg)(w:World)(K:O0)(mg:SV)(base:Heap)(A:Ar)(outer:List Env)(s:Sh)(H:Hp):Prop where
 frames:A.frames=some outer
 mod:Mod K mg base
 bs:∀b o,base.get? b=some o->s.heap.get? b=some o/\H b=none
 bsz:base.objs.size<=s.heap.objs.size
 funs:s.heap.FunFrames base outer
 frf:∀b∈iI outer,H b=none
 hok:HOk P w H s.heap
 bare:AllBare s.gens
def CE(a:List Env)(P:Pg)(w:World)(H:Hp)(s:Sh)(Q:VK)(u:Vl)(b:Sh):Prop:=
 ∃v c,b.os=s.os/\AllBare b.gens/\Un (iI a) [] H c s.heap b.heap/\HOk P w c b.heap/\RelV v u/\Q v c
def CR(c:rN)(a:List Env)(P:Pg)(w:World)(H:Hp)(s:Sh)(Q:VK)(E:XK)(r:Result)(b:Sh):Prop:=
 match r with
 |.ok (.ret u)=>CE a P w H s Q u b
 |.ok _=>False
 |.error e=>c a H s E e b
structure FnOk(P:Pg)(w:World)(K:O0)(mg:SV)(base:Heap)(CX:rN)(k:Nat)(f:Ad)(fd:Fd)(ps:Ss)(sp:Sp):Prop where
 len:∀vs H Q E,sp vs H Q E->vs.length=ps.length
 run:∀(A:Ar) (outer:List Env) (s:Sh) (H:Hp) (args:Args) (us:Vs) (vs:List V) (Q:VK) (E:XK),Room k A->Env0 P w K mg base A outer s H->BindsTo s fd args (ps.zip us)->Vals vs us->sp vs H Q E->
  codeAny (model P w) A (.call (.ref f) args) (CR CX outer P w H s Q E) s
def FnOk.imp{P:Pg}{w:World}{K:O0}{mg:SV}{a:Heap}{e:rN}{k:Nat}{f:Ad}{g:Fd}{i:Ss}{j d:Sp}(F:FnOk P w K mg a e k f g i j)(h:∀c H Q E,d c H Q E->j c H Q E):FnOk P w K mg a e k f g i d:=
 #[λc H Q E q=>F.len c H Q E (h _ _ _ _ q),λA b s H args l c Q E m n o p r=>F.run A b s H args l c Q E m n o p (h _ _ _ _ r)]
def Env0.make{P:Pg}{w:World}{K:O0}{mg:SV}{b:Heap}{A:Ar}{a:List Env}{s:Sh}{H:Hp}(e:Env0 P w K mg b A a s H)(C:Ad)(c:Vs)(kw:List (Str×Vl)):
  Env0 P w K mg b (A.under (.builtin "type.__call__" #[.ref C::c,kw])) a s H:=#[by first|exact e.frames|(simpa[Around.under,Code.envs,Code.isFrame,pushEnvs]using e.frames),e.mod,e.bs,e.bsz,e.funs,e.frf,e.hok,e.bare]
def Env0.in1{P:Pg}{w:World}{K:O0}{mg:SV}{b:Heap}{A:Ar}{a:List Env}{s:Sh}{H:Hp}(e:Env0 P w K mg b A a s H):
  Env0 P w K mg b A.in1 a s H:=#[e.frames,e.mod,e.bs,e.bsz,e.funs,e.frf,e.hok,e.bare]
section
variable{X:Cx}{Z:AO}{a:St}{H:Hp}{s s':Sh}
def Inv.env0(I:Inv X Z a H s):Env0 X.prog X.w X.K X.mg X.base X.A X.stack s H:=
 #[I.ok.frames,I.ok.mod,I.bs,i5 I.ok.bsz I.sz,I.stack,I.stkFree,I.hok,I.bare]
def Inv.after{Q:VK}{u:Vl}(I:Inv X Z a H s)(h:CE X.stack X.prog X.w H s Q u s'):EP X Z a Q u s':=by
 obtain⟨v,H',os,c,un,e,r,q⟩:=h;obtain⟨i,g,d,t,f⟩:=s';obtain rfl:f=s.os:=os;exact#[v,H',I.call (h':=i) (g':=g) (d':=d) (t':=t) (ch:=[]) un e c (λb z=>wC z (by simp)),r,q]
end
def uo(b:Sp)(a:List V)(E:XK)(t:TA):TE:=λc H Q=>t c H λd e=>b (d++a) e Q E
def Binds(K:O0)(d:Fd)(b:Ss)(c:Vs):Prop:=
 ∀(s:Sh) (a:Vs),K.In s.heap->(a++c).length=b.length->BindsTo s d #[a,[]] (b.zip (a++c))
def Binds.all{K:O0}{c:Fd}{b:Ss}(h:∀a:Vs,a.length=b.length->bindArgs c #[a,[]]=pure (b.zip a)):Binds K c b []:=λs a _ d=>by
 rw[mq]at d|-;exact .of_eq (h a d)
def va(b:rN)(X:Cx)(E:XK):Prop:=∀(Z:AO) (c:St) (H:Hp) (s:Sh) (e:Vl) (a:Sh),Inv X Z c H s->b X.stack H s E e a->X.xe e a
section
variable{X:Cx}{i:rN}{k:Nat}{f C:Ad}{g:Fd}{c:Ss}{d:Sp}{dvs:List V}{ds:Vs}{E:XK}{x m:Str}{p a j:Pos}{e o:Expr}{b:List Expr}{l:TE}{t:TA}
def EK{Z:AO}{l:St}{H:Hp}{s:Sh}{Q:VK}{a:Vs}{j:List V}(F:FnOk X.prog X.w X.K X.mg X.base i k f g c d)(n:Room k X.A)(o:Binds X.K g c ds)(p:Vals dvs ds)(q:va i X E)(I:Inv X Z l H s) (r:Vals j a) (h:d (j++dvs) H Q E):wpAny (model X.prog X.w) X.A (call (.ref f) a) (EP X Z l Q) X.xe s:=by
 have m:Vals (j++dvs) (a++ds):=r.append p;have t:(a++ds).length=c.length:=by rw[<-m.length];exact F.len _ _ _ _ h
 refine py (nG (F.run X.A X.stack s H #[a,[]] (a++ds) (j++dvs) Q E n I.env0 (o s a I.kIn t) m h) λr v b=>?_);cases r with
 |error e=>exact q Z l H s e v I b
 |ok w=>
  cases w with
  |ret u=>exact I.after b
  |next=>exact wE b
  |brk=>exact wE b
  |cont=>exact wE b
def Dm(F:FnOk X.prog X.w X.K X.mg X.base i k f g c d)(n:Room k X.A)(o:Gl X x)(u:X.mg x=some (.ref f))(v:PySem.W.keepIn X.K (.ref f)=true)(w:Binds X.K g c ds)(y:Vals dvs ds)(z:va i X E)(A:PA X (e::b) t) (j:(x==("__debug__":Str))=false:=by decide) (B:starEach (e::b) X.env=(false,eval e X.env)::starEach b X.env:=by rfl) (l:(backTo a (starEach b X.env)).any (·.1)=false:=by rfl):
  PE X (.Call (.Name x p) (e::b) [] a) (uo d dvs E t):=by
 intro Z s C H Q I h;refine qq (rG I o u ?_ j);refine xa (h₀:=X.base) I.ok.mod.kin v (ie (A a Z s C H _ I h) λD G ⟨J,L,m,r,q⟩=>#[m.kIn,?_]) B l;exact EK F n w y z m r q
end
structure FnScope(N P:Ss)(sc:Scope):Prop where
 kind:sc.kind=.function:=by rfl
 co:sc.isCoroutine=false:=by rfl
 gen:sc.isGenerator=false:=by rfl
 nd:N.Nodup:=by decide+kernel
 pre:N.take P.length=P:=by rfl
 par:∀x∈P,sc.names.lookup x=some .local\/sc.names.lookup x=some .cell:=by decide+kernel
 nofree:∀y∈sc.names,y.2≠ .free:=by decide+kernel
theorem HE{kindOf:Str->Option NameKind}{x:Str}:∀{binds:List (Str×Vl)} {m:SV},(∀v,(x,v)∉binds)->bindL kindOf binds m x=m x
 | [],_,_=>rfl
 | (n,v)::r,m,h=>by
  unfold bindL;rw[HE λw hw=>h w (jr _ hw)];split
  .have:x≠n:=by rintro rfl;exact h v i7
   simp[this]
  .rfl
theorem Fa{kindOf:Str->Option NameKind}{x:Str}:∀{binds:List (Str×Vl)} {m:SV},(∀v,(x,v)∉binds)->bindC kindOf binds m x=m x
 | [],_,_=>rfl
 | (n,v)::r,m,h=>by
  unfold bindC;rw[Fa λw hw=>h w (jr _ hw)];split
  .rfl
  .have:x≠n:=by rintro rfl;exact h v i7
   simp[this]
theorem EY{kindOf:Str->Option NameKind}{x:Str}{v:Vl}:∀{P:Ss} {a:Vs} {i:Nat} {m:SV},P.Nodup->P[i]?=some x->a[i]?=some v->kindOf x=some .local->
  bindL kindOf (P.zip a) m x=some v
 | [],_,_,_,_,h,_,_=>by simp at h
 |_::_,[],_,_,_,_,h,_=>by simp at h
 |p::P,w::a,0,m,d,b,c,e=>by
  simp at b c;subst b;subst c;show bindL kindOf ((p,w)::P.zip a) m p=_;unfold bindL;rw[HE λv f=>(oM.mp d).1 (y4 f).1,wB e];simp
 |p::P,w::a,i+1,m,d,b,c,e=>by
  show bindL kindOf ((p,w)::P.zip a) m x=_;unfold bindL;exact EY (i:=i) (oM.mp d).2 (by simpa using b) (by simpa using c) e
theorem GG{kindOf:Str->Option NameKind}{x:Str}{v:Vl}:∀{P:Ss} {a:Vs} {i:Nat} {m:SV},P.Nodup->P[i]?=some x->a[i]?=some v->kindOf x≠some .local->
  bindC kindOf (P.zip a) m x=some v
 | [],_,_,_,_,h,_,_=>by simp at h
 |_::_,[],_,_,_,_,h,_=>by simp at h
 |p::P,w::a,0,m,d,b,c,e=>by
  simp at b c;subst b;subst c;show bindC kindOf ((p,w)::P.zip a) m p=_;unfold bindC;rw[Fa λv f=>(oM.mp d).1 (y4 f).1,wA e];simp
 |p::P,w::a,i+1,m,d,b,c,e=>by
  show bindC kindOf ((p,w)::P.zip a) m x=_;unfold bindC;exact GG (i:=i) (oM.mp d).2 (by simpa using b) (by simpa using c) e
def start(N:Ss)(a:List V):St:=a.map some++List.replicate (N.length-a.length) none
def n9(g:rN)(P:Pg)(w:World)(K:O0)(mg:SV)(base:Heap)(N:Ss)(b:Str)(a:Scope)(f:Ad)(d:Vl)(A:Ar)(outer:List Env)(s:Sh)(H:Hp)(E:XK):Cx where
 prog:=P
 w:=w
 K:=K
 mg:=mg
 base:=base
 A:=A.deeper (envOfC b a s.heap.objs.size f d)
 N:=N
 s₀:=s
 H₀:=H
 env:=envOfC b a s.heap.objs.size f d
 outer:=outer
 stack:=envOfC b a s.heap.objs.size f d::outer
 ex:=[]
 calm:=true
 fn:=λ_=>true
 pn:=[]
 xe:=λe h=>wpAny (model P w) (A.deeper (envOfC b a s.heap.objs.size f d)) (leaving (envOfC b a s.heap.objs.size f d) e) (λ_ c=>g outer H s E e c) (λi c=>g outer H s E i c) h
def FP{a:Scope}{n:Nat}{x:Str}(h:a.names.lookup x=some .cell):∃c,(cellsFrom n a.names []).lookup x=some c:=by
 have q:=CC a.names n [] (.inl h);exact Option.isSome_iff_exists.mp q
def Hy{O:rN}{P:Pg}{w:World}{K:O0}{mg:SV}{m:Heap}{N t:Ss}{j:Str}{d:Scope}{f:Ad}{I:Vl}{A:Ar}{g:List Env}{s Q:Sh}{H:Hp}{E:XK}{M:Vs}{B:List V}(S:FnScope N t d) (Y:A.handled=none) (o:Env0 P w K mg m A g s H) (hl:B.length=t.length) (r:Vals B M)(x:InCallC s s.heap.objs.size (bindL (envOfC j d s.heap.objs.size f I).kindOf (t.zip M) λ_=>none) (cellsFrom (s.heap.objs.size+1) d.names []) (bindC (envOfC j d s.heap.objs.size f I).kindOf (t.zip M) λ_=>none) Q):
  Inv (n9 O P w K mg m N j d f I A g s H E) [] (start N B) H Q:=by
 have aa:t.length<=N.length:=by have:=jv List.length S.pre;rw[mS]at this;lia
 obtain⟨J,tk,rfl,T⟩:=x.done;have C:∀b:Ad,b∉(n9 O P w K mg m N j d f I A g s H E).ex:=λb z=>wC (show b∈([]:As)from z) (by simp);refine#[#[o.mod,S.kind,rZ,rZ,ig _,λy z c J l=>?_,λy hy=>?_,λy c _ h=>?_,λ_=>Y,Around.frames_deeper o.frames,.inr #[rZ,rZ],λb z=>wC z (C b),o.bs,o.bsz,λb _ _=>C b,λb z=>wC z (C b),o.funs,o.frf],
  rfl,o.bare,Un.kept T,#[_,x.toInCall.ns,λi y v J l h3=>?_],λy c h=>#[_,x.cell y c h],o.hok.fresh (ig _),λy c h=>?_,λp D=>wC (show p∈([]:AO)from D) (by simp),o.hok.kept T,?_]
 .exact name_of_addr x.apart (qo J) (qo l)
 .have hy:d.names.lookup y=some .cell\/d.names.lookup y=some .free:=hy
  rcases hy with hy|hy
  .exact FP hy
  .exact wC rZ (S.nofree _ (qo hy))
 .exact nZ (x.above y c (qo h))
 .have L:i<B.length:=by
   unfold start at l;by_cases L:i<B.length
   .exact L
   .rw[ku (by simpa using L)]at l;rw[List.getElem?_replicate]at l;split at l<;>cases l
  have ha:B[i]?=some v:=by
   unfold start at l;rw[j5 (by simpa using L),List.getElem?_map]at l;cases e:B[i]? with
   |none=>rw[e]at l;cases l
   |some a=>rw[e]at l;cases l;rfl
  obtain⟨u,U,rv⟩:=r.get ha;have D:t[i]?=some y:=by
   rw[<-S.pre,List.getElem?_take_of_lt ()];exact J
  have G:t.Nodup:=by rw[<-S.pre];exact S.nd.sublist (wg _ _)
  refine#[u,rv,?_]
  rcases S.par y (iV D)with k|k
  .exact .inl #[k,EY G D U k]
  .obtain⟨c,e⟩:=FP (n:=s.heap.objs.size+1) k;refine .inr #[.inl k,c,e,?_];have q:=x.cell y c e;rw[GG G D U (by show d.names.lookup y≠_;rw[k];decide)]at q;exact q
 .exact o.hok.fresh (nZ (x.above y c (qo h)))
 .unfold start;show _=N.length;rw[jk,hJ,EF];lia
def Ag{M:rN}{P:Pg}{w:World}{K:O0}{mg:SV}{h:Heap}{k:Nat}{f:Ad}{name d:Str}{i:Arguments}{j:List Stmt}{a:Scope}{dV kV D pm g ct oc:Vl}{an od:Option Ad}{T:Array (Option Vl)} {N O:Ss} {U:Sp} (lk:K.lookup f=some #[oc,od,.func (PySem.W.fnOf name d i j a dV kV D pm an g ct),T]) (Y:PySem.W.codeIn K g d=true) (S:FnScope N O a)(len:∀l H Q E,U l H Q E->l.length=O.length)(z:∀(A:Ar) (c:List Env) (s:Sh) (H:Hp) (l:List V) (Q:VK) (E:XK),Room k (A.deeper (envOfC d a s.heap.objs.size f g))->U l H Q E->
   ∃t,PSs (n9 M P w K mg h N d a f g A c s H E) j t/\t {nx:=λ_ p=>Q .non p,rt:=Q} (start N l) H):
  FnOk P w K mg h M (k+1) f (PySem.W.fnOf name d i j a dV kV D pm an g ct) O U:=by
 refine#[len,λA c s H args us l Q E hr G hb r L=>?_];have hl:=len _ _ _ _ L;have KX:K.In s.heap:=G.mod.kin.keeps λb o e=>(G.bs b o e).1;have aa:s.heap.NoLimit:=G.mod.nolimit.keeps λb o e=>(G.bs b o e).1;have B:∀y∈O.zip us,a.names.lookup y.1=some .local\/(a.names.lookup y.1=some .cell/\((cellsFrom (s.heap.objs.size+1) a.names []).lookup y.1).isSome=true):=λ⟨n,v⟩ hy=>by
  rcases S.par n (y4 hy).1 with q|q
  .exact .inl q
  .exact .inr #[q,CC _ _ _ (.inl q)]
 refine codeAny_call_function hr.depth (KX _ _ lk) rZ S.co S.gen rZ (PySem.W.codeRec_of KX Y) (hb _ _ _ _ ?_);refine Il S.kind B λab he s1 x=>?_;subst he;refine#[aa.keeps x.toInCall.keep,codeAny_func ?_];obtain⟨t,ht,hq⟩:=z A c s H l Q E (hr.deeper _) L;have I:Inv (n9 M P w K mg h N d a f g A c s H E) [] (start N l) H s1:=Hy S hr.hd G hl r x;refine ke (ht [] s1 (start N l) H _ I hq) (λfl s' C=>?_) λe s' C=>C;have fin:∀{m:St} {p:Hp} {v:V} {u:Vl},Inv (n9 M P w K mg h N d a f g A c s H E) [] m p s'->RelV v u->Q v p->CE c P w H s Q u s':=
  λ{m p v u} J rv q=>#[v,p,J.os,J.bare,J.base,J.hok,rv,q]
 cases fl with
 |ret u=>
  obtain⟨v,m,p,J,rv,q⟩:=C;exact fin J rv q
 |next=>
  obtain⟨m,p,J,q⟩:=C;exact fin (v:=V.non) (u:=Value.none) J rZ q
 |brk=>
  obtain⟨_,_,_,q⟩:=C;exact wE q
 |cont=>
  obtain⟨_,_,_,q⟩:=C;exact wE q
section
variable{X:Cx}{x:Str}{p a:Pos}{e:Expr}{b:List Expr}{t:TA}{id T:String}{r:List V->Hp->VK->Prop}
def G2(r:List V->Hp->VK->Prop)(t:TA):TE:=λa H Q=>t a H λb c=>r b c Q
def j8(g:CallR X (.builtin id) r)(i:Gl X x)(j:X.mg x=none)(k:bootBuiltins x=some (.builtin id))(l:PA X (e::b) t)(m:x≠"__name__":=by decide)(c:(x==("__debug__":Str))=false:=by decide)
  (n:starEach (e::b) X.env=(false,eval e X.env)::starEach b X.env:=by rfl) (d:(backTo a (starEach b X.env)).any (·.1)=false:=by rfl):PE X (.Call (.Name x p) (e::b) [] a) (G2 r t):=by
 intro Z s f H Q I h;refine qq (xO I i j k ?_ m c);exact GU (ie (l a Z s f H _ I h) λo q ⟨u,v,w,y,z⟩=>g Z q f v u o Q w y z) n d
def lZ(g:CallR X (.type T) r)(i:Gl X x)(j:X.mg x=none)(k:bootBuiltins x=some (.type T))(l:PA X (e::b) t)(m:x≠"__name__":=by decide)(c:(x==("__debug__":Str))=false:=by decide)
  (n:starEach (e::b) X.env=(false,eval e X.env)::starEach b X.env:=by rfl) (d:(backTo a (starEach b X.env)).any (·.1)=false:=by rfl):PE X (.Call (.Name x p) (e::b) [] a) (G2 r t):=by
 intro Z s f H Q I h;refine qq (xO I i j k ?_ m c);exact Hg (ie (l a Z s f H _ I h) λo q ⟨u,v,w,y,z⟩=>g Z q f v u o Q w y z) n d
end
end L2
namespace HT
open PySem PyProof.Rows
def yC:Zs->List Int->Bool
 | [],[]=>false
 | [],_::_=>true
 |_::_,[]=>false
 |x::a,y::b=>if x=y then yC a b else decide (x<y)
def mz(A:Ar)(s:Sh)(a:Int)(t:Tok)(c:Int)(u:Tok):∃e,SeqAt.EqAt A s (.int a t) (.int c u) e/\(e=true↔a=c):=
 #[(a==c),SeqAt.EqAt.int_int a t c u,by simp]
end HT
namespace L2
open PySem PySem.Spec PyProof.Rows
abbrev TO:=St->Hp->(Option Int->Hp->Prop)->Prop
def td(n:Nat)(i:Int):Option Nat:=if 0<=i then(if i<n then some i.toNat else none)else if -(n:Int)<=i then some (i+n).toNat else none
def oC{a:Type}(b:List a)(i:Int):Option a:=(td b.length i).bind λj=>b[j]?
def GX{n:Nat}{i:Int}{j:Nat}(h:td n i=some j):seqIndex? i n=some j/\j<n/\ -(n:Int)<=i/\i<n:=by
 unfold td at h;by_cases b:0<=i
 .rw[wB b]at h;by_cases a:i<n
  .rw[wB a]at h;have e:i.toNat=j:=lW h;exact#[by rw[seqIndex_of b a,e],(),(),a]
  .rw[wA a]at h;cases h
 .rw[wA b]at h;by_cases a: -(n:Int)<=i
  .rw[wB a]at h;have e:(i+n).toNat=j:=lW h;exact#[by rw[seqIndex_neg () a,e],(),a,()]
  .rw[wA a]at h;cases h
def Ga{b:Type}{a:List b}{i:Int}{v:b}(h:oC a i=some v):∃j,seqIndex? i a.length=some j/\a[j]?=some v/\j<a.length/\ -(a.length:Int)<=i/\i<a.length:=by
 unfold oC at h;cases e:td a.length i with
 |none=>rw[e]at h;cases h
 |some j=>
  rw[e]at h;obtain⟨c,d,f,g⟩:=GX e;exact#[j,c,h,d,f,g]
def r6{b:Type}{a:List b}{j:Nat}{v:b}(h:a[j]?=some v):oC a (j:Int)=some v:=by
 have c:j<a.length:=(ik.mp h).1;have e:td a.length (j:Int)=some j:=by
  unfold td;rw[wB (),wB ()];simp
 unfold oC;rw[e];exact h
def IZ(b:Expr):Prop:=∀o i,subscripted b false o i=operate [o,i] (getItem o i)
def IxR(X:Cx)(r:R2):Prop:=
 ∀(b a:Expr) (Z:AO) (s:Sh) (c:St) (H:Hp) (x y:V) (v u:Vl) (Q:VK),Inv X Z c H s->RelV x v->RelV y u->r x y H Q->
  subscripted a false v u=operate [v,u] (getItem v u)->wpAny (model X.prog X.w) X.A (subscriptTail b a v u) (EP X Z c Q) X.xe s
def BW(X:Cx)(id:String)(r:V->List V->Hp->VK->Prop):Prop:=
 ∀(Z:AO) (s:Sh) (a:St) (H:Hp) (x:V) (b:List V) (v:Vl) (c:Vs) (Q:VK),Inv X Z a H s->RelV x v->Vals b c->r x b H Q->
  wpAny (model X.prog X.w) X.A (call (.builtin id) (v::c)) (EP X Z a Q) X.xe s
section
variable{X:Cx}{a b:Expr}{C D:TE}{B:Pos}
def kg{r:R2}(c:IxR X r)(d:PE X a C)(e:PE X b D)(f:IZ b):PE X (.Subscript a b B) (zC r C D):=by
 intro Z s g H Q I h;exact Subscript_ (vt d e I h λv u i x y j k l m q=>c a b Z i g j x y v u Q k l m q (f _ _))
inductive oK(K:O0)(x y:V)(H:Hp)(Q:VK):Prop|mk:∀p a i v,x=.ref p->y=.int i->SqL K H p a->oC a i=some v->Q v H->oK K x y H Q
inductive pB(K:O0)(x y:V)(H:Hp)(Q:VK):Prop|mk:∀p a i v,x=.ref p->y=.int i->SqT K H p a->oC a i=some v->Q v H->pB K x y H Q
def pk:IxR X (oK X.K):=by
 intro b c Z s k H x y v u Q I o A h l;obtain⟨p,M,i,z,rfl,rfl,B,C,q⟩:=h;cases o;obtain⟨t,rfl⟩:=A;obtain⟨d,r,e,N⟩:=I.list B;obtain⟨j,a,D,O,E,G⟩:=Ga C;obtain⟨w,m,f⟩:=r.get D;have J:=r.length;have T:=zm;have fin:EP X Z k Q w s:=#[z,H,I,f,q];by_cases n:0<=i
 .have g:i.toNat=j:=by
   rw[seqIndex_of n G]at a;exact lW a
  exact item_listR e.isList n () (by rw[g];simpa using m) fin l
 .have g:(i+(d.toArray.size:Int)).toNat=j:=by
   rw[seqIndex_neg () E]at a;rw[i8,<-J];exact lW a
  exact subscriptTail_builtinR (x:=w) e.isList.typeIs slot_list_getitem.lookup
   (wpAny_getItem_list_neg (Q:=λr L=>r=w/\EP X Z k Q r L) e.isList () (by rw[i8]<;>lia) () (by rw[g];simpa using m) #[rZ,fin]) l
def nS:IxR X (pB X.K):=by
 intro a b Z s d H x y v u Q I f g h k;obtain⟨p,E,i,z,rfl,rfl,l,m,q⟩:=h;cases f;obtain⟨t,rfl⟩:=g;obtain⟨n,r,e,G⟩:=I.tuple l;obtain⟨j,o,A,J,L,M⟩:=Ga m;obtain⟨w,B,c⟩:=r.get A;have C:=r.length;have N:=zm;have fin:EP X Z d Q w s:=#[z,H,I,c,q];exact subscriptTail_builtinR (x:=w) e.typeIs slot_tuple_getitem.lookup
  (getItem_tuple (j:=j) (Q:=λr D=>r=w/\EP X Z d Q r D) e () () (by rw[i8,<-C];exact o) (by simpa using B) #[rZ,fin]) k
def NP(a:Vs)(n j:Nat)(u:Vl):Obj.mapSeq (·.setIfInBounds j u) {cls:= .type "list",data:= .seq a.toArray n}={cls:= .type "list",data:= .seq (a.set j u).toArray n}:=by
 simp[Obj.mapSeq]
def Inv.lst{Z:AO}{b:St}{H:Hp}{s:Sh}{p:Ad}{a:List V}(I:Inv X Z b H s)(h:H p=some (.lst a)):
  ∃(its:Vs) (n:Nat),Vals a its/\s.heap.get? p=some {cls:= .type "list",data:= .seq its.toArray n}/\a.length<=sizeLine:=by
 obtain⟨z,its,n,r,e⟩:=I.hok p _ h;exact#[its,n,r,e,z]
def Inv.lstUpd{Z:AO}{i:St}{H:Hp}{s:Sh}{p:Ad}{k d:List V}{c a:Vs}{n g:Nat}{f:Obj->Obj}(I:Inv X Z i H s)(h:H p=some (.lst k))(l:s.heap.get? p=some {cls:= .type "list",data:= .seq c.toArray n}) (j:f {cls:= .type "list",data:= .seq c.toArray n}={cls:= .type "list",data:= .seq a.toArray g}) (r:Vals d a) (m:d.length<=sizeLine) (t:Nat):
  Inv X Z i (hA H p (.lst d)) {s with heap:=s.heap.update p f,toks:=t}:=by
 have e:(s.heap.update p f).get? p=some {cls:= .type "list",data:= .seq a.toArray g}:=by
  rw[si f l (by rw[j]<;>rfl),j]
 refine I.write (x:=p) (e:=p) (by rw[h];trivial) (.inl rZ) (λb u o q=>(mW _ _ (jq o)).trans q) #[_,e] ?_;exact#[m,a,g,r,e]
inductive vb(o i v:V)(H:Hp)(Q:Hp->Prop):Prop|mk:∀p a k j,o=.ref p->i=.int k->H p=some (.lst a)->td a.length k=some j->Q (hA H p (.lst (a.set j v)))->vb o i v H Q
def BS:zS X vb:=by
 intro Z s x H o i v E G u Q I y z A h;obtain⟨p,B,k,j,rfl,rfl,f,C,q⟩:=h;cases y;obtain⟨t,rfl⟩:=z;obtain⟨a,n,r,c,D⟩:=I.lst f;obtain⟨b,J,g,l⟩:=GX C;have d:=r.length;have L:=zm;have m:Inv X Z x (hA H p (.lst (B.set j v))) {s with heap:=s.heap.update p (Obj.mapSeq (·.setIfInBounds j u))}:=
  I.lstUpd f c (NP a n j u) (r.set A j) (by rw[vw];exact D) s.toks
 by_cases w:0<=k
 .have e:k.toNat=j:=by
   rw[seqIndex_of w l]at b;exact lW b
  exact PySem.W.ki_setAt c w () (by rw[i8,<-d];exact l) (by rw[e];exact#[_,m,q])
 .have e:(k+(a.toArray.size:Int)).toNat=j:=by
   rw[seqIndex_neg () g]at b;rw[i8,<-d];exact lW b
  exact PySem.W.ki_setBack c () (by rw[i8,<-d];exact g) () (by rw[e];exact#[_,m,q])
def nV:V->Bool
 |.non=>true
 |.bl _=>true
 |.int _=>true
 |.str _=>true
 |_=>false
def ql:V->V->Bool
 |.non,.non=>true
 |.bl a,.bl b=>a==b
 |.bl a,.int b=>(if a then 1 else 0)==b
 |.int a,.bl b=>a==(if b then 1 else 0)
 |.int a,.int b=>a==b
 |.str a,.str b=>a==b
 |_,_=>false
def BL{A:Ar}{s:Sh}{y x:V}{u v:Vl}(e:RelV y u)(c:RelV x v)(g:nV y=true)(f:nV x=true):SeqAt.EqAt A s u v (ql y x):=by
 cases y with
 |non=>
  cases e;cases x with
  |non=>cases c;exact SeqAt.EqAt.same _
  |bl b=>cases c;exact SeqAt.EqAt.none_bool b
  |int b=>obtain⟨t,rfl⟩:=c;exact SeqAt.EqAt.none_int b t
  |str b=>obtain⟨t,rfl⟩:=c;exact SeqAt.EqAt.none_str b t
  |_=>exact wC (show false=true from f) mV
 |bl a=>
  cases e;cases x with
  |non=>cases c;exact SeqAt.EqAt.bool_none a
  |bl b=>cases c;exact SeqAt.EqAt.bool_bool a b
  |int b=>obtain⟨t,rfl⟩:=c;exact SeqAt.EqAt.bool_int a b t
  |str b=>obtain⟨t,rfl⟩:=c;exact SeqAt.EqAt.bool_str a b t
  |_=>exact wC (show false=true from f) mV
 |int a=>
  obtain⟨d,rfl⟩:=e;cases x with
  |non=>cases c;exact SeqAt.EqAt.int_none a d
  |bl b=>cases c;exact SeqAt.EqAt.int_bool a d b
  |int b=>obtain⟨t,rfl⟩:=c;exact SeqAt.EqAt.int_int a d b t
  |str b=>obtain⟨t,rfl⟩:=c;exact SeqAt.EqAt.int_str a d b t
  |_=>exact wC (show false=true from f) mV
 |str a=>
  obtain⟨d,rfl⟩:=e;cases x with
  |non=>cases c;exact SeqAt.EqAt.str_none a d
  |bl b=>cases c;exact SeqAt.EqAt.str_bool a d b
  |int b=>obtain⟨t,rfl⟩:=c;exact SeqAt.EqAt.str_int a d b t
  |str b=>obtain⟨t,rfl⟩:=c;exact SeqAt.EqAt.str_str a d b t
  |_=>exact wC (show false=true from f) mV
 |_=>exact wC (show false=true from g) mV
def sq(x:V)(u:Vl):Bool:=match u with
 |.none=>ql .non x
 |.bool b=>ql (.bl b) x
 |.int i _=>ql (.int i) x
 |.str z _=>ql (.str z) x
 |_=>false
def Hv{x y:V}{u:Vl}(r:RelV y u)(f:nV y=true):sq x u=ql y x:=by
 cases y with
 |non=>cases r;rfl
 |bl b=>cases r;rfl
 |int i=>obtain⟨t,rfl⟩:=r;rfl
 |str z=>obtain⟨t,rfl⟩:=r;rfl
 |_=>exact wC (show false=true from f) mV
theorem Do{x:V}:∀{a:List V} {b:Vs},Vals a b->a.all nV=true->b.any (sq x)=a.any λy=>ql y x
 |_,_,.nil,_=>rfl
 |y::a,u::b,.cons r t,f=>by
  rw[List.all_cons,tA]at f;rw[x8,x8,Hv r f.1,Do t f.2]
theorem CB{A:Ar}{s:Sh}{x:V}{v:Vl}(c:RelV x v)(d:nV x=true):∀{a:List V} {b:Vs},Vals a b->a.all nV=true->∀u∈b,SeqAt.EqAt A s u v (sq x u)
 |_,_,.nil,_=>λu hu=>by cases hu
 |y::a,u::b,.cons r t,f=>λe hu=>by
  rw[List.all_cons,tA]at f
  rcases iM.mp hu with rfl|hu
  .rw[Hv r f.1];exact BL r c f.1 d
  .exact CB c d t f.2 e hu
def An(x:V)(a:List V):Bool:=a.any λy=>ql y x
inductive DD(K:O0)(a:Bool)(x y:V)(H:Hp)(Q:VK):Prop|mk:∀p b,y=.ref p->((SqL K H p b\/SqT K H p b))->nV x=true->b.all nV=true->(Q (.bl (if a then !An x b else An x b)) H)->DD K a x y H Q
def Lj:OpR X (compareOp .In) (DD X.K false):=by
 intro Z s g H x y v u Q I c e h;obtain⟨p,i,rfl,hq,d,fs,q⟩:=h;cases e
 rcases hq with hq|hq
 .obtain⟨a,r,b,f⟩:=I.list hq;refine SeqAt.in_listAt (sq x) b.isList (λw hw=>CB c d r fs w (by simpa using hw)) #[.bl _,H,I,rZ,?_];rw[show a.toArray.any (sq x)=a.any (sq x) by simp,Do r fs];exact q
 .obtain⟨a,r,b,f⟩:=I.tuple hq;refine SeqAt.in_tupleAt (sq x) b (λw hw=>CB c d r fs w (by simpa using hw)) #[.bl _,H,I,rZ,?_];rw[show a.toArray.any (sq x)=a.any (sq x) by simp,Do r fs];exact q
def ou:CallR X (.builtin "len") (λf H Q=>∃p b,f=[.ref p]/\(SqL X.K H p b\/SqT X.K H p b)/\Q (.int b.length) H):=by
 intro Z s j H f k Q I r h;obtain⟨p,b,rfl,hq,q⟩:=h;obtain⟨u,rfl,g⟩:=m7 r;cases g;have l:=zm
 rcases hq with hq|hq
 .obtain⟨c,d,e,i⟩:=I.list hq;have a:=d.length;exact Calls.call_len_list e.isList (by simp only[List.size_toArray]<;>lia) #[.int b.length,H,I.tok _,#[s.toks+1,by rw[List.size_toArray,a]],q]
 .obtain⟨c,d,e,i⟩:=I.tuple hq;have a:=d.length;exact len_tuple e (by simp only[List.size_toArray]<;>lia) #[.int b.length,H,I.tok _,#[s.toks+1,by rw[List.size_toArray,a]],q]
def CH:CallR X (.type "list") (λx H Q=>∃p d,x=[.ref p]/\(SqL X.K H p d\/SqT X.K H p d)/\∀l,H l=none->Q (.ref l) (hA H l (.lst d))):=by
 intro Z s z H x B Q I r h;obtain⟨p,d,rfl,hq,q⟩:=h;obtain⟨u,rfl,A⟩:=m7 r;cases A;have fin:∀(a:Vs),Vals d a->d.length<=sizeLine->∀(c:Heap) (f:Nat),(∀b y,s.heap.get? b=some y->c.get? b=some y)->
   c.get? s.heap.objs.size=some {cls:= .type "list",dict:=none,data:= .seq a.toArray f,slots:= #v[]}->EP X Z z Q (.ref s.heap.objs.size) {s with heap:=c}:=λa g i c f j e=>
  #[.ref s.heap.objs.size,_,I.laid (t':=s.toks) j (ig _) (show ObjOk X.prog X.w _ c _ (.lst d)from#[i,a,f,g,e]),rZ,q _ (I.hok.fresh (ig _))]
 rcases hq with hq|hq
 .obtain⟨a,g,m,i⟩:=I.list hq;have k:=g.length;obtain⟨o,t,v,n,w⟩:=m.isList;exact call_list_seq p (.inl rZ) t v w (λc f j e=>fin a g i c f j e) (by simp only[List.size_toArray]<;>lia)
 .obtain⟨a,g,m,i⟩:=I.tuple hq;have k:=g.length;obtain⟨o,t,v,n,w⟩:=m;exact call_list_seq p (.inr rZ) t v w (λc f j e=>fin a g i c f j e) (by simp only[List.size_toArray]<;>lia)
def xo:CallR X (.type "tuple") (λj H Q=>∃p c,j=[.ref p]/\((SqL X.K H p c/\∀l,H l=none->Q (.ref l) (hA H l (.tup c)))\/(SqT X.K H p c/\Q (.ref p) H))):=by
 intro Z s k H j y Q I r h;obtain⟨p,c,rfl,h⟩:=h;obtain⟨u,rfl,v⟩:=m7 r;cases v
 rcases h with⟨f,q⟩|⟨f,q⟩
 .obtain⟨a,g,i,m⟩:=I.list f;have n:=g.length;refine call_tuple_list i.isList (λd w=>?_) (by simp only[List.size_toArray]<;>lia);have t:Inv X Z k H {s with heap:=d}:=I.kept (t':=s.toks) w;have x:Inv X Z k (hA H d.objs.size (.tup c)) {s with heap:=d.push {cls:= .type "tuple",data:= .seq a.toArray}}:=
   t.laid (t':=s.toks) (λb o e=>iG _ e) (ig _) (show ObjOk X.prog X.w _ _ _ (.tup c)from#[m,a,g,TupD.new _ _])
  exact#[.ref d.objs.size,_,x,rZ,q _ (t.hok.fresh (ig _))]
 .obtain⟨a,g,i,m⟩:=I.tuple f;exact call_tuple_same i #[.ref p,H,I,rZ,q]
def Dl(K:O0)(T:String)(x:V)(H:Hp):Prop:=match x with
 |.str _=>T="str"
 |.int _=>T="int"
 |.ref p=>(T="list"/\∃b,SqL K H p b)\/(T="tuple"/\∃o,K.lookup p=some o/\o.cls=.type "tuple"/\o.dict=none)\/
   (T="dict"/\((∃a,H p=some (.dK a))\/∃a,H p=some (.dT a)))\/(T="set"/\∃S n,H p=some (.set S n))
 |_=>False
def Hl{Z:AO}{l:St}{H:Hp}{s:Sh}{T:String}{x:V}{v:Vl}(I:Inv X Z l H s)(r:RelV x v)(ty:Dl X.K T x H):
  s.TypeIs v T/\∀a,v=.ref a->∃j,s.heap.get? a=some j/\j.dict=none:=by
 cases x with
 |str z=>
  obtain⟨t,rfl⟩:=r;cases(show T="str" from ty);exact#[typeIs_str s z t,λ_ e=>nomatch e]
 |int i=>
  obtain⟨t,rfl⟩:=r;cases(show T="int" from ty);exact#[typeIs_int s i t,λ_ e=>nomatch e]
 | ref p=>
  cases r
  rcases ty with⟨rfl,w,m⟩|⟨rfl,o,b,q,f⟩|⟨rfl,b⟩|⟨rfl,S,n,b⟩
  .obtain⟨u,_,k,_⟩:=I.list m;refine#[k.isList.typeIs,λa e=>?_];cases e;obtain⟨o,n,e,c,f,_⟩:=k;exact#[o,e,f]
  .refine#[#[o,I.kIn p o b,q],λa e=>?_];cases e;exact#[o,I.kIn _ o b,f]
  .have z:∃o,s.heap.get? p=some o/\o.ExactDict:=by
    rcases b with⟨g,b⟩|⟨g,b⟩
    .obtain⟨_,_,_,_,o,_,_,e,d,_⟩:=I.hok p _ b;exact#[o,e,d]
    .obtain⟨_,_,_,_,o,_,_,e,d,_⟩:=I.hok p _ b;exact#[o,e,d]
   obtain⟨o,e,d⟩:=z;refine#[#[o,e,d.1],λa h=>?_];cases h;exact#[o,e,d.2.1]
  .obtain⟨o,_,_,_,e,d,_⟩:=I.hok p _ b;refine#[#[o,e,d.1],λa h=>?_];cases h;exact#[o,e,d.2.1]
 |_=>exact wE ty
def Ch(K:O0)(T:String)(r:V->List V->Hp->VK->Prop)(to:TE):TE:=λb H Q=>to b H λx a=>Dl K T x a/\r x [] a Q
def Au(K:O0)(T:String)(r:V->List V->Hp->VK->Prop)(to:TE)(t:TA):TE:=λa H Q=>to a H λx b=>Dl K T x b/\t a b λc d=>r x c d Q
variable{o e:Expr}{m:List Expr}{to:TE}{t:TA}{name:Str}{g d:Pos}{T id:String}{r:V->List V->Hp->VK->Prop}
def CW(k:PlainAttrs T)(c:Slot T name id)(e:typeOf (.builtin id)=pure (.type "method_descriptor"))(l:BW X id r)(m:PE X o to)(a:attributeBase o name X.env (eval o X.env)=eval o X.env:=by rfl) (b:(g.endLine==d.line)=true:=by rfl):PE X (.Call (.Attribute o name g) [] [] d) (Ch X.K T r to):=by
 intro Z s f H Q I h;refine wpAny_Call_method0_late a b (ie (m Z s f H _ I h) λv n ⟨x,p,i,j,ty,q⟩=>?_);obtain⟨t,u⟩:=Hl i j ty;exact#[T,id,k,c,e,t,u,Calls.callWith_builtin rZ (PySem.evalArgs_none (l Z n f p x [] v [] Q i j .nil q))]
def vy(q:PlainAttrs T)(f:Slot T name id)(j:typeOf (.builtin id)=pure (.type "method_descriptor"))(u:BW X id r)(w:PE X o to)(y:PA X (e::m) t)(b:attributeBase o name X.env (eval o X.env)=eval o X.env:=by rfl)
  (i:((backTo d (starEach (e::m) X.env)).all (λx=> !x.1)&&(backToKw d (keywordEach [] X.env)).all (λx=>x.1.isSome)
   &&decide ((e::m).length+([]:List Keyword).length+(if([]:List Keyword).isEmpty then 0 else 1)<30))=true:=by rfl)
  (c:(g.endLine==d.line)=true:=by rfl) (z:starEach (e::m) X.env=(false,eval e X.env)::starEach m X.env:=by rfl) (a:(backTo d (starEach m X.env)).any (·.1)=false:=by rfl):
  PE X (.Call (.Attribute o name g) (e::m) [] d) (Au X.K T r to t):=by
 intro Z s k H Q I h;refine wpAny_Call_method_late b i c rZ (ie (w Z s k H _ I h) λv A ⟨x,B,l,n,ty,C⟩=>?_);obtain⟨D,E⟩:=Hl l n ty;refine#[T,id,q,f,j,D,E,?_];have p:=y d Z A k B _ l C;rw[z]at p|-;refine Calls.callWith_builtin (by show(false || (backTo d (starEach m X.env)).any (·.1))=false;rw[a]<;>rfl) (Calls.evalArgs_plain ?_);exact ie p λG J ⟨L,M,N,O,U⟩=>u Z J k M x L v G Q N n O U
end
def GJ(X:Cx)(id:String)(r:V->List V->Hp->VK->Prop):Prop:=
 ∀(Z:AO) (s:Sh) (a:St) (H:Hp) (x:V) (b:List V) (v:Vl) (c:Vs) (Q:VK),Inv X Z a H s->RelV x v->Vals b c->r x b H Q->
  wpAny (model X.prog X.w) X.A (call (.builtin id) (v::c)) (EP X Z a Q) X.xe s
theorem Vals.one:∀{x:V} {a:Vs},Vals [x] a->∃u,a=[u]/\RelV x u
 |_,_,.cons r .nil=>#[_,rZ,r]
theorem Vals.zero:∀{a:Vs},Vals [] a->a=[]
 |_,.nil=>rfl
section
variable{X:Cx}{Z:AO}{a:St}{H:Hp}{s:Sh}{l b:Ad}{c ys d:List V}
def Inv.lset{b its':Vs}{n:Nat}{f:AV->Array Vl}{t':Nat}(I:Inv X Z a H s)(d:H l=some (.lst c))(e:s.heap.get? l=some {cls:= .type "list",data:= .seq b.toArray n}) (g:f b.toArray=its'.toArray) (h:Vals ys its') (i:ys.length<=sizeLine):
  Inv X Z a (hA H l (.lst ys)) {s with heap:=s.heap.update l (Obj.mapSeq f),toks:=t'}:=by
 have q:=PySem.IsL.update e f;rw[g]at q;refine I.write (x:=l) (e:=l) (by rw[d];exact trivial) (.inl rZ) (λm u j k=>(mW s.heap (Obj.mapSeq f) (jq j)).trans k) #[_,q] ?_;exact#[i,its',_,h,q]
def Inv.lnew{b:Vs}{t':Nat}(I:Inv X Z a H s)(c:Vals ys b)(d:ys.length<=sizeLine):
  Inv X Z a (hA H s.heap.objs.size (.lst ys)) {s with heap:=s.heap.push {cls:= .type "list",data:= .seq b.toArray},toks:=t'}:=
 I.laid (λ_ _ q=>iG _ q) (ig _) #[d,b,0,c,jp _ rZ]
def Inv.fresh(I:Inv X Z a H s):H s.heap.objs.size=none:=I.hok.fresh (ig _)
def Inv.lstM(I:Inv X Z a H s)(d:H l=some (.lst c)):c.length<=sizeLine/\∃(b:Vs) (n:Nat),Vals c b/\c.length=b.length/\s.heap.get? l=some {cls:= .type "list",data:= .seq b.toArray n}:=by
 obtain⟨z,b,n,r,e⟩:=I.hok l _ d;exact#[z,b,n,r,r.length,e]
end
section
variable{X:Cx}
inductive m9(x:V)(b:List V)(H:Hp)(Q:VK):Prop|mk:∀l a y,x=.ref l->b=[y]->H l=some (.lst a)->a.length<sizeLine->Q .non (hA H l (.lst (a++[y])))->m9 x b H Q
def xC:GJ X "list.append" m9:=by
 intro Z s g H x i v j Q I c d h;obtain⟨l,k,y,rfl,rfl,b,m,q⟩:=h;cases c;obtain⟨u,rfl,f⟩:=d.one;obtain⟨z,a,n,r,o,e⟩:=I.lstM b;refine call_meets F.slot_list_append #[_,e,rZ] F.entry_list_append (F.args_list_append_2 _ _) (PySem.list_append l a.toArray n u (by rw[i8];lia)) #[e,?_];refine#[.non,_,I.lset (its':=a++[u]) b e (by simp) (r.append (.cons f .nil)) ?_,rZ,q];rw[jk,zF];lia
inductive qw(x:V)(a:List V)(H:Hp)(Q:VK):Prop|mk:∀l b,x=.ref l->a=[]->H l=some (.lst b)->Q .non (hA H l (.lst []))->qw x a H Q
def MW:GJ X "list.clear" qw:=by
 intro Z s g H x i v j Q I d f h;obtain⟨l,k,rfl,rfl,c,q⟩:=h;cases d;have a:=f.zero;subst a;obtain⟨z,b,n,r,m,e⟩:=I.lstM c;refine call_meets F.slot_list_clear #[_,e,rZ] F.entry_list_clear (F.args_list_clear_1 _) (AutoSeq1.list_clear_list_0 l b.toArray n (by rw[i8];lia)) #[e,?_];exact#[.non,_,I.lset (its':=[]) (ys:=[]) c e rZ .nil (mC _),rZ,q]
end
end L2
namespace Att
open PySem PySem.W PySem.Calls PyProof.Rows
def Ox{P:Params}{h:Heap}:∀(c:Zs) (d:Vs),WellAll P h d (c.map WData.int)->IntsAre d c:=by
 intro c
 induction c with
 |nil=>
  intro d w;rw[List.map_nil]at w;cases w;exact .nil
 | cons n c e=>
  intro d w;rw[lH]at w;cases w with
  |cons a b=>
   cases a;exact .cons _ _ (e _ b)
def N5{l:OpenLaw}{n:Nat}(s:l.most=some n){P:Params}{h:Heap}{args:List WData}{c:Vs}(e:l.row.toRowW.claim.pre args=true) (k:WellAll P h c args):
  ∃a o b,c=[Value.ref a]/\args=[WData.list (b.map WData.int)]/\h.get? a=some {cls:= .type "list",data:= .seq o.toArray}/\IntsAre o b/\b.length<=n:=by
 have m:WShape.hasAll [] args [.list .int]=true:=(pre_splitW e).1;have p:l.pre.holds [] {args:=args}=true:=(pre_splitW e).2;obtain⟨d,r,rfl,t,u⟩:=hasAllW_cons m;obtain rfl:=hasAllW_nil u;obtain⟨A,rfl,v⟩:=hasW_list t;obtain⟨b,rfl⟩:=items_int v;have f:b.length<=n:=by
  unfold OpenLaw.pre at p;have i:(WTm.not (.lt (.lit (.int (n:Int))) (.len (.arg 0)))).holds [] {args:=[.list (b.map .int)]}=true:=by
   have i:=(holds_andW p).1;rw[s]at i;exact i
  have j:=condW_of i (w_not (w_lt w_lit (w_len_list (w_arg rZ))));rw[hJ]at j;refine Bw λq=>?_;have w:(n:Int)<((b.length:Nat):Int):=by lia
  first
   |(rw[i0 w]at j;exact wC j (by decide))
   |(simp at j;lia)
 cases k with
 |cons x y=>
  cases y;cases x with
  |list z g=>exact#[_,_,b,rZ,rZ,z,Ox b _ g,f]
def KP(l:OpenLaw)(args:List WData):l.row.toRowW.claim.post args (.bool true) args=true:=
 postW_of (r:=l.row.toRowW) (X:=(true==true))
  (show WShape.has [] (.bool true) .bool=true by first|rfl|decide|simp[WShape.has,WShape.arms,WShape.armsAll])
  (show(WTm.eq .res (.lit (.bool true))).value [] {args:=args,res:=some (.bool true),after:=args}=some (.bool (true==true))from w_eq_bool (w_res rZ) w_lit) rfl
def attach_call{l:OpenLaw}{n:Nat}{q:Pg}{c:Ss}{A:SV->Heap->Prop}{B:World->Heap->Prop}{d:DefRec}(H:l.most=some n) (u:d.params.defaults=[])(call:∀(w:World) (e b:Sh) (mg v:SV) (fa:Ad) (o:Obj) (x p g:Vl) (a:Ad) (i:Vs) (s:Zs),
   Ground q c [] A w e mg v b.heap->B w b.heap->
   b.heap.get? fa=some o->o.data=.func (docDef d.name d.params d.body d.scope x p g)->b.heap.CodeRec p d.name->mg d.name=some (.ref fa)->
   b.heap.get? a=some {cls:= .type "list",data:= .seq i.toArray}->IntsAre i s->s.length<=n->b.gens= #v[]->
   codeAny (model l.prog w) callerA (.call (.ref fa) #[[.ref a],[]]) (λr t=>r=.ok (.ret (.bool true))/\OldK b.heap t.heap/\t.os=b.os/\AllBare t.gens) b):
  WalkO q c A B l.row.toRowW d [] (λf i=>PySem.call f i):=by
 intro w e b mg v G Y fa o x p g I kV J L y C hmg M args D as j E N z O;obtain rfl:I=.none:=Dflts.none C u;obtain rfl:kV=.none:=Dflts.noKw C;obtain⟨a,i,s,rfl,rfl,k,h,m⟩:=N5 H j z;refine enter_call (nG (call w e b mg v fa o x p g a i s G Y J (fd_plain L) y hmg k h m M) λr t Q=>?_);obtain⟨rfl,T,U,h4⟩:=Q;exact#[.inl #[.bool true,.bool true,[],rZ,λ_=>rfl,.bool true,KP l _,λ_=>#[List.Pairwise.nil,λ_ hm=>(nomatch hm)]],T,U,h4]
end Att
namespace L2
open PySem PySem.Spec PyProof.Rows
theorem HB:∀{a:Vs} {b:Zs},IntsAre a b->Vals (b.map V.int) a
 |_,_,.nil=> .nil
 |_,_,.cons n t h=> .cons #[t,rZ] (HB h)
abbrev OR{K:O0}{h:Heap}(_:K.In h):O0:=K
end L2
namespace L2
open PySem PySem.Spec PyProof.Rows
def ja(s:Stmt):Arguments:=match s with
 | .FunctionDef _ a _ _ _ _ _ _ _ _=>a
 |_=>{posonlyargs:=[],args:=[],vararg:=none,kwonlyargs:=[],kw_defaults:=[],kwarg:=none,defaults:=[]}
def iS(s:Stmt):List Stmt:=match s with
 | .FunctionDef _ _ b _ _ _ _ _ _ _=>b
 |_=>[]
def hZ(s:Stmt):Scope:=match s with
 | .FunctionDef _ _ _ _ _ _ a _ _ _=>a
 |_=>{kind:= .function,names:=[],isGenerator:=false,isCoroutine:=false}
abbrev iF:rN:=λ_ _ _ _ _ _=>False
abbrev E0:XK:=λ_ _ _=>False
def Hw{X:Cx}:va iF X E0:=λ_ _ _ _ _ _ _ h=>h.elim
structure Fun(K:O0)(x qual:Str)(st:Stmt)(f:Ad)(fd:Fd):Prop where
 ex:∃(oc:Vl) (od:Option Ad) (kV doc pm:Vl) (an:Option Ad) (cdv ct:Vl) (osl:Array (Option Vl)),
  fd=PySem.W.fnOf x qual (ja st) (iS st) (hZ st) .none kV doc pm an cdv ct/\K.lookup f=some #[oc,od,.func fd,osl]/\PySem.W.codeIn K cdv qual=true
 kp:PySem.W.keepIn K (.ref f)=true
section
variable{P:Pg}{w:World}{K:O0}{mg:SV}{base:Heap}
def Fun.ok{x b:Str}{st:Stmt}{f:Ad}{m:Fd}{N g:Ss}{k:Nat}{i:Sp}(F:Fun K x b st f m)(S:FnScope N g (hZ st))(d:∀(c:Vl) (A:Ar) (a:List Env) (s:Sh) (H:Hp) (e:List V) (Q:VK) (E:XK),Room k (A.deeper (envOfC b (hZ st) s.heap.objs.size f c))->i e H Q E->
   ∃t,PSs (n9 iF P w K mg base N b (hZ st) f c A a s H E).nox (iS st) t/\t {nx:=λ_ H'=>Q .non H',rt:=Q} (start N e) H)(len:∀e H Q E,i e H Q E->e.length=g.length:=by (intro _ _ _ _ h;first|(cases h;subst_vars;rfl)|((repeat obtain⟨_,h⟩:=h);subst_vars;rfl))):FnOk P w K mg base iF (k+1) f m g i:=by
 obtain⟨r,u,kV,n,v,y,c,z,o,rfl,lk,j⟩:=F.ex;refine Ag lk j S len λA a s H e Q E p l=>?_;obtain⟨t,h,q⟩:=d c A a s H e Q E p l;exact#[t,h.nox,q]
def Fun.binds{x a:Str}{st:Stmt}{f:Ad}{j:Fd}{ps:Ss}(F:Fun K x a st f j)(h:∀(kV b d:Vl) (e:Option Ad) (c g:Vl) (i:Vs),i.length=ps.length->bindArgs (PySem.W.fnOf x a (ja st) (iS st) (hZ st) .none kV b d e c g) #[i,[]]=pure (ps.zip i)):Binds K j ps []:=by
 obtain⟨m,n,kV,b,d,e,c,g,k,rfl,lk,l⟩:=F.ex;exact .all (h kV b d e c g)
def j4{x a:Str}{st:Stmt}{f:Ad}{j:Vl}{m g:Option Ad}{e:Array (Option Vl)}{kV d h b i:Vl}(l:K.lookup f=some #[j,m,.func (PySem.W.fnOf x a (ja st) (iS st) (hZ st) .none kV d h g b i),e])(c:PySem.W.codeIn K b a=true) (k:PySem.W.keepIn K (.ref f)=true):Fun K x a st f (PySem.W.fnOf x a (ja st) (iS st) (hZ st) .none kV d h g b i):=#[#[j,m,kV,d,h,g,b,i,e,rZ,l,c],k]
end
def pY{A:Ar}{k:Nat}(a:Room k A):A.units+1<cLine:=yO (zB (by decide:1<=64) _) a.units
def ID{n:Nat}(h:n<=1000):n<sizeLine:=yO h (by decide)
section
variable{X:Cx}
def pv(i:Nat){x:Str}{a:Pos}(c:X.N[i]?=some x:=by rfl)(d:Dd X.env.scope x:=by first|exact Or.inl rfl|exact Or.inr Z'|exact Or.inr Z0)(e:(x==("__debug__":Str))=false:=by decide)
  (b:(x==("__classdict__":Str))=false:=by decide):PE X (.Name x a) (iO i):=LL c d e b
end
def lz{A B:Prop}(h:B):if false=true then A else B:=by
 rw[wA mV];exact h
def lF{A B:Prop}(h:A):if true=true then A else B:=by
 rw[wB rZ];exact h
def p0{c A B:Prop}[Decidable c](a:c->A)(b: ¬c->B):if c then A else B:=by
 by_cases h:c
 .rw[wB h];exact a h
 .rw[wA h];exact b h
def Same(H a:Hp):Prop:=∀b o,H b=some o->a b=some o
def Same.refl(H:Hp):Same H H:=λ_ _ h=>h
def Same.trans{H d e:Hp}(a:Same H d)(b:Same d e):Same H e:=λc o h=>b c o (a c o h)
def Same.free{H a:Hp}(e:Same H a){l:Ad}(h:a l=Option.none):H l=Option.none:=by
 cases q:H l with
 |none=>rfl
 |some o=>
  rw[e l o q]at h;cases h
def Same.seq{K:O0}{H b:Hp}{a:Ad}{c:List V}(e:Same H b)(h:SqL K H a c):SqL K b a c:=by
 rcases h with(h|⟨o,h⟩)|h
 .exact .inl (.inl (e _ _ h))
 .exact .inl (.inr #[o,e _ _ h])
 .exact .inr h
section
variable{a:Type}[DecidableEq a]
def lY(b:List (a×V))(k:a):Option V:=(b.find? λc=>decide (c.1=k)).map (·.2)
def nC(b:List (a×V))(k:a)(v:V):List (a×V):=
 if(b.any λc=>decide (c.1=k))=true then b.map (λc=>if c.1=k then(c.1,v)else c)else b++[(k,v)]
def wH{p:a×V}{r:List (a×V)}{k:a}(e:p.1=k):lY (p::r) k=some p.2:=by simp[lY,List.find?_cons,e]
def sd{p:a×V}{r:List (a×V)}{k:a}(e: ¬p.1=k):lY (p::r) k=lY r k:=by simp[lY,List.find?_cons,e]
theorem Aj(k:a):∀b:List (a×V),(b.any λc=>decide (c.1=k))=(lY b k).isSome
 | []=>rfl
 |p::r=>by
  rw[x8];by_cases e:p.1=k
  .simp only[wH e,decide_eq_true e,Bool.true_or,Option.isSome_some]
  .rw[sd e,j9 e,Bool.false_or];exact Aj k r
def EH(b:List (a×V))(k:a)(v:V):(nC b k v).length<=b.length+1:=by
 unfold nC;split
 .rw[hJ];lia
 .rw[jk,oo,Ac];lia
def Bz{b:List (a×V)}{k:a}(v:V)(h:lY b k=none):nC b k v=b++[(k,v)]:=by
 unfold nC;rw[Aj,h];exact wA (by decide)
def RelO.isSome_eq{o:Option V}{u:Option Vl}(r:RelO o u):o.isSome=u.isSome:=by
 cases o with
 |none=>cases u with
  |none=>rfl
  |some _=>exact(show False from r).elim
 |some _=>cases u with
  |none=>exact(show False from r).elim
  |some _=>rfl
def KV.val{c:List (a×V)}{g:List (a×Vl)}(r:KV c g)(k:a):RelO (lY c k) (valueAt g k):=by
 unfold KV at r
 induction r with
 |nil=>exact True.intro
 | @cons p q m d h t j=>
  obtain⟨i,l⟩:=h;by_cases e:p.1=k
  .have f:q.1=k:=i.symm.trans e;have b:valueAt (q::d) k=some q.2:=by simp[valueAt,List.find?_cons,f]
   rw[wH e,b];exact l
  .have f: ¬q.1=k:=λz=>e (i.trans z);have b:valueAt (q::d) k=valueAt d k:=by simp[valueAt,List.find?_cons,f]
   rw[sd e,b];exact j
def KV.any{b:List (a×V)}{d:List (a×Vl)}(r:KV b d)(k:a):(b.any λc=>decide (c.1=k))=d.any λc=>decide (c.1=k):=by
 unfold KV at r
 induction r with
 |nil=>rfl
 |cons h t e=>rw[x8,x8,e,h.1]
def KV.repl{c:List (a×V)}{f:List (a×Vl)}(r:KV c f)(k:a){y:V}{u:Vl}(g:RelV y u):
  KV (c.map λb=>if b.1=k then(b.1,y)else b) (f.map λb=>if b.1=k then(b.1,u)else b):=by
 unfold KV at r|-
 induction r with
 |nil=>exact .nil
 | @cons p q l m h t i=>
  rw[lH,lH];refine .cons ?_ i;obtain⟨d,j⟩:=h;by_cases e:p.1=k
  .rw[wB e,wB (d.symm.trans e)];exact#[d,g]
  .rw[wA e,wA (λz=>e (d.trans z))];exact#[d,j]
def KV.put{b:List (a×V)}{c:List (a×Vl)}(r:KV b c)(k:a){y:V}{u:Vl}(d:RelV y u):KV (nC b k y) (stored c k u):=by
 unfold nC stored;rw[r.any k];by_cases e:(c.any λf=>decide (f.1=k))=true
 .rw[wB e,wB e];exact r.repl k d
 .rw[wA e,wA e];exact Paired.snoc r #[rZ,d]
def KV.length{b:List (a×V)}{c:List (a×Vl)}(r:KV b c):b.length=c.length:=r3 r
end
def zH{P:Pg}{w:World}{k:iH}{u:Vl}(r:RelV (kV k) u):(oX P w).is k u=true:=by
 cases k with
 |inl i=>obtain⟨t,e⟩:=(show ∃t,u=Value.int i t from r);subst e;exact JR P w i t
 |inr x=>obtain⟨t,e⟩:=(show ∃t,u=Value.str x t from r);subst e;exact LS P w x t
theorem Fo{P:Pg}{w:World}:∀{a:List iH} {b:Vs},Vals (a.map kV) b->ItemsAre (oX P w) a b
 | [],_,r=>by rw[List.map_nil]at r;cases r;exact .nil
 |k::a,_,r=>by
  rw[lH]at r;cases r with
  |cons h t=>exact .cons (zH h) (Fo t)
abbrev KT(H:Hp):List (List iH×V)->List (List iH×Ad×Vl)->Prop:=Paired λp q=>p.1=q.1/\H q.2.1=some (.tup (p.1.map kV))/\RelV p.2 q.2.2
def KT.val{H:Hp}{a:List (List iH×V)}{f:List (List iH×Ad×Vl)}(r:KT H a f)(k:List iH):RelO (lY a k) ((atKey f k).map (·.2)):=by
 induction r with
 |nil=>exact True.intro
 | @cons p q l c h t i=>
  obtain⟨g,_,j⟩:=h;by_cases e:p.1=k
  .have d:q.1=k:=g.symm.trans e;have b:atKey (q::c) k=some q.2:=by simp[atKey,List.find?_cons,d]
   rw[wH e,b];exact j
  .have d: ¬q.1=k:=λz=>e (g.trans z);have b:atKey (q::c) k=atKey c k:=by simp[atKey,List.find?_cons,d]
   rw[sd e,b];exact i
def KT.repl{H:Hp}{a:List (List iH×V)}{d:List (List iH×Ad×Vl)}(r:KT H a d)(k:List iH){y:V}{u:Vl}(g:RelV y u):
  KT H (a.map λc=>if c.1=k then(c.1,y)else c) (d.map (putAt k u)):=by
 induction r with
 |nil=>exact .nil
 | @cons p q l m h t i=>
  rw[lH,lH];refine .cons ?_ i;obtain⟨b,f,j⟩:=h;unfold putAt;by_cases e:p.1=k
  .rw[wB e,wB (b.symm.trans e)];exact#[b,f,g]
  .rw[wA e,wA (λz=>e (b.trans z))];exact#[b,f,j]
def KT.put{H:Hp}{a:List (List iH×V)}{c:List (List iH×Ad×Vl)}(r:KT H a c)(k:List iH){b:Ad}{y:V}{u:Vl}(f:H b=some (.tup (k.map kV)))(d:RelV y u):
  KT H (nC a k y) (storedH c k b u):=by
 have e:(a.any λg=>decide (g.1=k))=(atKey c k).isSome:=by
  rw[Aj,(r.val k).isSome_eq,Er]
 unfold nC storedH;rw[e];by_cases q:(atKey c k).isSome=true
 .rw[wB q,wB q];exact r.repl k d
 .rw[wA q,wA q];exact Paired.snoc r #[rZ,f,d]
def KT.keeps{H c:Hp}{a:List (List iH×V)}{d:List (List iH×Ad×Vl)}(r:KT H a d)(ht:∀b ys,H b=some (.tup ys)->c b=some (.tup ys)):KT c a d:=
 Paired.mapP r λ_ _ z=>#[z.1,ht _ _ z.2.1,z.2.2]
section
variable{P:Pg}{w:World}{H:Hp}{h:Heap}{a:Ad}
def Gs{u:HO}(ok:HOk P w H h)(e:Rd H a u):ObjOk P w H h a u:=e.ok ok
def yW{b:List (iH×V)}(ok:HOk P w H h)(e:Rd H a (.dK b)):b.length<=sizeLine/\(a==sysModules)=false/\∃c,KV b c/\h.DictOf (oX P w) a c:=
 show ObjOk P w H h a (.dK b)from Gs ok e
def zM{b:List (iH×V)}(ok:HOk P w H h)(e:H a=some (.dK b)):b.length<=sizeLine/\(a==sysModules)=false/\∃c,KV b c/\h.DictOf (oX P w) a c:=yW ok (.inl e)
def wL{b:List iH}(ok:HOk P w H h)(e:H a=some (.tup (b.map kV))):(tupleKind (oX P w)).is h b a:=by
 obtain⟨_,c,r,o,d,f,n,g,_⟩:=(show ObjOk P w H h a (.tup (b.map kV))from ok a _ e);exact#[o,c.toArray,n,d,f,g,by simpa using Fo r]
def y8{b:List (List iH×V)}(ok:HOk P w H h)(e:Rd H a (.dT b)):b.length<=sizeLine/\(a==sysModules)=false/\
  ∃c,KT H b c/\h.DictOfH (tupleKind (oX P w)) a c:=by
 obtain⟨z,y,c,r,o,f,g,i,j,k,n,s⟩:=(show ObjOk P w H h a (.dT b)from Gs ok e);refine#[z,y,c,r,o,f,g,i,j,k,n,λx hx=>?_,s];have all:∀{l:List (List iH×V)} {m:List (List iH×Ad×Vl)},KT H l m->∀x∈m,(tupleKind (oX P w)).is h x.1 x.2.1:=by
  intro l m q
  induction q with
  |nil=>intro x hx;exact nomatch hx
  | @cons p q v A d t u=>
   intro x hx
   rcases iM.mp hx with e|hx
   .subst e;exact wL ok (by rw[<-d.1];exact d.2.1)
   .exact u x hx
 exact all r x hx
def DQ{b:List (List iH×V)}(ok:HOk P w H h)(e:H a=some (.dT b)):b.length<=sizeLine/\(a==sysModules)=false/\
  ∃c,KT H b c/\h.DictOfH (tupleKind (oX P w)) a c:=y8 ok (.inl e)
end
def DGet(H:Hp)(a:Ad)(y:V)(r:Option V):Prop:=
 (∃c k,Rd H a (.dK c)/\y=kV k/\r=lY c k)\/∃c k b,Rd H a (.dT c)/\y=.ref b/\H b=some (.tup (k.map kV))/\r=lY c k
def DPut(H:Hp)(a:Ad)(y v:V)(d:Hp):Prop:=
 (∃c k,H a=some (.dK c)/\y=kV k/\c.length<sizeLine/\d=hA H a (.dK (nC c k v)))\/
 ∃c k b,H a=some (.dT c)/\y=.ref b/\H b=some (.tup (k.map kV))/\c.length<sizeLine/\d=hA H a (.dT (nC c k v))
def DGet.t{H:Hp}{a b:Ad}{c:List (List iH×V)}{k:List iH}(e:H a=some (.dT c))(d:H b=some (.tup (k.map kV))):DGet H a (.ref b) (lY c k):= .inr #[c,k,b,.inl e,rZ,d,rZ]
def DPut.t{H:Hp}{a b:Ad}{c:List (List iH×V)}{k:List iH}{v:V}(e:H a=some (.dT c))(d:H b=some (.tup (k.map kV)))(f:c.length<sizeLine):
  DPut H a (.ref b) v (hA H a (.dT (nC c k v))):= .inr #[c,k,b,e,rZ,d,f,rZ]
section
variable{X:Cx}{Z:AO}{d:St}{H:Hp}{s:Sh}{a:Ad}{y v:V}{u r:Vl}{o:Option V}{A:Ar}{E:VP}
def Inv.big(I:Inv X Z d H s):sysModules<s.heap.objs.size:=by
 have h:mainGlobals<s.heap.objs.size:=(I.mod.glob.keeps I.bk).lt;exact wP (by decide) h
def Jy{Q:VP}(w:A.units+1<cLine)(I:Inv X Z d H s)(g:DGet H a y (some v))(r:RelV y u)(h:∀i t,Inv X Z d H t->RelV v i->Q i t):
  wpAny (model X.prog X.w) A (getItem (.ref a) u) Q E s:=by
 rcases g with⟨j,k,e,m,l⟩|⟨j,k,b,e,m,x,l⟩
 .subst m;obtain⟨z,B,C,c,n⟩:=yW I.hok e;obtain⟨i,hw,f⟩:=RelO.some_of (v:=v) (o:=valueAt C k) (by rw[l];exact c.val k);exact wpAny_getItem_of (zH r) n.mapOf hw (h i _ (I.tok _) f)
 .subst m;cases(show u=Value.ref b from r);obtain⟨z,B,D,c,n⟩:=y8 I.hok e;obtain⟨i,hw,f⟩:=RelO.some_of (v:=v) (o:=(atKey D k).map (·.2)) (by rw[l];exact c.val k);obtain⟨p,G,q⟩:=ju.mp hw;refine wpAny_getItem_heap (AG w) (wL I.hok x) n G ?_;rw[q];exact h i _ (I.tok _) f
def DL{Q:VP}(r:A.units+1<cLine)(I:Inv X Z d H s)(g:DGet H a y o)(n:RelV y u)(h:∀p,Inv X Z d H p->Q (.bool o.isSome) p):
  wpAny (model X.prog X.w) A (compareOp .In u (.ref a)) Q E s:=by
 rcases g with⟨f,k,e,i,l⟩|⟨f,k,b,e,i,t,l⟩
 .subst i;obtain⟨z,j,v,c,m⟩:=yW I.hok e;refine wpAny_in_of (zH n) j m.mapOf ?_;rw[<-(c.val k).isSome_eq,<-l];exact h _ (I.tok _)
 .subst i;cases(show u=Value.ref b from n);obtain⟨z,j,w,c,m⟩:=y8 I.hok e;refine wpAny_in_heap (AG r) (wL I.hok t) j m ?_;have q:=(c.val k).isSome_eq;rw[Er]at q;rw[<-q,<-l];exact h _ (I.tok _)
def Ol{Q:VP}(r:A.units+1<cLine)(I:Inv X Z d H s)(g:DGet H a y o)(n:RelV y u)(h:∀p,Inv X Z d H p->Q (.bool (!o.isSome)) p):
  wpAny (model X.prog X.w) A (compareOp .NotIn u (.ref a)) Q E s:=by
 rcases g with⟨f,k,e,i,l⟩|⟨f,k,b,e,i,t,l⟩
 .subst i;obtain⟨z,j,v,c,m⟩:=yW I.hok e;refine wpAny_notIn_of (zH n) j m.mapOf ?_;rw[<-(c.val k).isSome_eq,<-l];exact h _ (I.tok _)
 .subst i;cases(show u=Value.ref b from n);obtain⟨z,j,w,c,m⟩:=y8 I.hok e;refine wpAny_notIn_heap (AG r) (wL I.hok t) j m ?_;have q:=(c.val k).isSome_eq;rw[Er]at q;rw[<-q,<-l];exact h _ (I.tok _)
def DM{c:Heap}{g:Nat}{f:HO}(I:Inv X Z d H s)(h:zv (H a))(i:Heap.SameBut a s.heap c)(j:∃q,c.get? a=some q)(new:ObjOk X.prog X.w (hA H a f) c a f):
  Inv X Z d (hA H a f) {s with heap:=c,toks:=g}:=
 I.write (x:=a) (e:=a) h (.inl rZ) (λb q k z=>(i.2 b k).trans z) j new
def NE{P:Pg}{w:World}{f:Hp}{e:Heap}{b:List (iH×V)}{c:List (iH×Vl)}(z:b.length<=sizeLine)(g:(a==sysModules)=false)(d:KV b c)(h:e.DictOf (oX P w) a c):
  ObjOk P w f e a (.dK b):=#[z,g,c,d,h]
def IV{C:Hp}{Q:Unit->Sh->Prop}(O:A.units+1<cLine)(I:Inv X Z d H s)(g:DPut H a y v C)(D:RelV y u)(G:RelV v r)(h:∀J,Inv X Z d C J->Q ⟨⟩ J):
  wpAny (model X.prog X.w) A (setItem (.ref a) u r) Q E s:=by
 rcases g with⟨f,k,e,n,l,o⟩|⟨f,k,b,e,n,L,l,o⟩
 .subst n o;obtain⟨z,p,T,i,t⟩:=zM I.hok e;have w:T.length<=sizeLine:=by rw[<-i.length];exact z
  have x:(nC f k v).length<=sizeLine:=by have:=EH f k v;lia
  refine wpAny_setItem_pairs (hsz:=w) (zH D) t λM j B=>h _ ?_;have U:∃q,M.get? a=some q:=let⟨q,_,_,m,_⟩:=j;#[q,m]
  exact DM I (by rw[e];exact True.intro) B U (NE x p (i.put k G) j)
 .subst n o;cases(show u=Value.ref b from D);obtain⟨z,p,Y,i,t⟩:=DQ I.hok e;have w:Y.length<=sizeLine:=by rw[<-r3 i];exact z
  have x:(nC f k v).length<=sizeLine:=by have:=EH f k v;lia
  refine wpAny_setItem_heap (hsz:=w) (AG O) (wL I.hok L) t λM j B=>h _ ?_;obtain⟨q,es,ep,m,h2,h3,h4,_,h5⟩:=j;refine DM I (by rw[e];exact True.intro) B #[q,m] #[x,p,_,(i.put k L G).keeps λc ys N=>?_,q,es,ep,m,h2,h3,h4,h5];rw[hK (nE N e)];exact N
end
def zn(i:Expr):Prop:=∀a b,subscripted i false a b=operate [a,b] (getItem a b)
def Mx{a:Pg}{w:World}{A:Ar}{E:VP}{s:Sh}{j:Env}{c b:Expr}{m:Pos}{T id:String}{Q:VP}(n:typeLookup (.type T) "__getitem__"=pure (some (.builtin id))) (p:zn b)(h:wpAny (model a w) A (eval c j) (λo f=>wpAny (model a w) A (eval b j) (λi d=>d.TypeIs o T/\wpAny (model a w) A (getItem o i) Q E d) E f) E s):
  wpAny (model a w) A (eval (.Subscript c b m) j) Q E s:=by
 refine Subscript_ (ke h (λo f k=>ke k (λi d e=>?_) λ_ _ x=>x) λ_ _ x=>x);obtain⟨hT,e⟩:=e;unfold subscriptTail;refine f' ?_;rw[getitemInPython_of_ne hT.not_modules];refine f' (wpAny_specialOf hT n ?_);have fin:wpAny (model a w) A (subscripted b false o i) (λr g=>wpAny (model a w) A (letTemporaryGo c o r >>= λ_=>pure r) Q E g) E d:=by
  rw[p o i];exact wpAny_operating (ke e (λr g l=>f' (wpAny_letTemporaryGo (hI l))) λ_ _ x=>x)
 first
  |exact hI (f' fin)
  |exact f' (hI (f' fin))
  |exact f' fin
def Nx{X:Cx}{Z:AO}{f:St}{H:Hp}{s:Sh}{a:Ad}{y:V}{o:Option V}(I:Inv X Z f H s)(g:DGet H a y o):s.TypeIs (.ref a) "dict":=by
 rcases g with⟨c,k,e,_,_⟩|⟨c,k,b,e,_,_,_⟩
 .obtain⟨_,_,h,_,d⟩:=yW I.hok e;exact d.typeIs
 .obtain⟨_,_,i,_,d⟩:=y8 I.hok e;exact d.typeIs
def ES(d ty:TE):TE:=λb H Q=>d b H λx e=>ty b e λy c=>∃a v,x=.ref a/\DGet c a y (some v)/\Q v c
def Ep(ty d:TE):TE:=λb H Q=>ty b H λy e=>d b e λx c=>∃a o,x=.ref a/\DGet c a y o/\Q (.bl o.isSome) c
def Gh(ty d:TE):TE:=λb H Q=>ty b H λy e=>d b e λx c=>∃a o,x=.ref a/\DGet c a y o/\Q (.bl (!o.isSome)) c
def Gq(d ty e:TE):TS:=λD b H=>e b H λv f=>d b f λx g=>ty b g λy h=>∃a c,x=.ref a/\DPut h a y v c/\D.nx b c
section
variable{X:Cx}{o i e b:Expr}{f d j:Pos}{c ty k:TE}
def vx(j:X.A.units+1<cLine)(k:PE X o c)(l:PE X i ty)(m:zn i):PE X (.Subscript o i f) (ES c ty):=by
 intro Z s d H Q I h;refine Mx PySem.F.slot_dict_getitem.lookup m (ie (k Z s d H _ I h) λu n ⟨x,p,q,r,t⟩=>ie (l Z n d p _ q t) λD E ⟨y,w,e,z,a,v,A,g,B⟩=>?_);subst A;obtain rfl:u=Value.ref a:=r;exact#[Nx e g,Jy j e g z λG J C b=>#[v,w,C,b,B]]
def AL(d:X.A.units+1<cLine)(e:PE X i ty)(f:PE X o c):PC X .In i o (Ep ty c):=by
 intro Z s b H Q I h;refine ie (e Z s b H _ I h) λA j ⟨y,k,l,m,n⟩=>ie (f Z j b k _ l n) λu B ⟨x,p,q,r,a,t,v,g,w⟩=>?_;subst v;obtain rfl:u=Value.ref a:=r;exact DL d q g m λC z=>#[.bl t.isSome,p,z,rZ,w]
def EA(d:X.A.units+1<cLine)(e:PE X i ty)(f:PE X o c):PC X .NotIn i o (Gh ty c):=by
 intro Z s b H Q I h;refine ie (e Z s b H _ I h) λA j ⟨y,k,l,m,n⟩=>ie (f Z j b k _ l n) λu B ⟨x,p,q,r,a,t,v,g,w⟩=>?_;subst v;obtain rfl:u=Value.ref a:=r;exact Ol d q g m λC z=>#[.bl (!t.isSome),p,z,rZ,w]
def xG(j:X.A.units+1<cLine)(l:PE X o c)(m:PE X i ty)(n:PE X b k)(p:swapsWith b (some (.Subscript o i d)) f.line X.env=pure false):
  PS X (.Assign [.Subscript o i d] b f) (Gq c ty k):=by
 intro Z s e H D I h;refine wpAny_Assign_Subscript (ie (n Z s e H _ I h) λr q ⟨v,t,w,z,A⟩=>ie (l Z q e t _ w A) λu B ⟨x,C,E,G,J⟩=>ie (m Z B e C _ E J) λU Y ⟨y,H3,L,M,a,N,O,g,Q⟩=>?_) p;subst O;obtain rfl:u=Value.ref a:=G;exact IV j L g M z λs4 T=>#[e,N,T,Q]
end
def EM{P:Pg}{w:World}{H:Hp}(h:Heap)(a:sysModules<h.objs.size):ObjOk P w H (h.push {cls:= .type "dict",data:= .dict #v[]}) h.objs.size (.dT []):=
 #[mC _,u3.mpr (jq (i6 a)),[],.nil,_,#v[],0,jp _ rZ,#[rZ,rZ,rZ],rZ,rZ,List.nodup_nil]
def IG:TE:=λ_ H Q=>∀p,H p=none->Q (.ref p) (hA H p (.dT []))
section
variable{X:Cx}{b:Pos}
def Dg:PE X (.Dict [] [] b) IG:=λZ s c H Q I h=>
 wpAny_Dict_empty #[.ref s.heap.objs.size,_,I.laid (a:=s.heap.objs.size) (o:= .dT []) (t':=s.toks) (λ_ _ q=>iG _ q) (ig _) (EM s.heap I.big),rZ,h _ (I.hok.fresh (ig _))]
end
def Fn:List (TE×TE)->St->Hp->(List (V×V)->Hp->Prop)->Prop
 | [],_,H,Q=>Q [] H
 |(b,c)::r,a,H,Q=>b a H λx d=>c a d λy e=>Fn r a e λf g=>Q ((x,y)::f) g
abbrev VV:List (V×V)->List (Vl×Vl)->Prop:=Paired λp q=>RelV p.1 q.1/\RelV p.2 q.2
def D8(X:Cx)(b:Pos)(keys:List (Option Expr))(a:List Expr)(c:List (TE×TE)):Prop:=
 ∀(Z:AO) (s:Sh) (d:St) (H:Hp) (Q:List (V×V)->Hp->Prop),Inv X Z d H s->Fn c d H Q->
  wpAny (model X.prog X.w) X.A (evalPairs (pairTrees keys a X.env b)) (λg h=>∃e f,Inv X Z d f h/\VV e g/\Q e f) X.xe s
def NL{X:Cx}{a:Pos}:D8 X a [] [] []:=λZ s b H Q I h=>pairTrees_nil_walk #[[],H,I,.nil,h]
def L6{X:Cx}{pos:Pos}{k v:Expr}{d:List (Option Expr)}{e:List Expr}{f g:TE}{a:List (TE×TE)}(i:PE X k f)(j:PE X v g)(l:D8 X pos d e a):
  D8 X pos (some k::d) (v::e) ((f,g)::a):=λZ s b H Q I h=>
 pairTrees_cons_walk (ie (i Z s b H _ I h) λu m ⟨x,n,o,p,q⟩=>ie (j Z m b n _ o q) λG r ⟨y,t,w,z,A⟩=>
  ie (l Z r b t _ w A) λJ L ⟨B,C,D,c,E⟩=>#[(x,y)::B,C,D,.cons #[p,z] c,E])
structure M1(X:Cx)(o:Expr)(m:Str)(apos:Pos)(e:Expr)(cpos:Pos):Prop where
 base:attributeBase o m X.env (eval o X.env)=eval o X.env
 few:((backTo cpos (starEach [e] X.env)).all (λx=> !x.1)&&(backToKw cpos (keywordEach [] X.env)).all (λx=>x.1.isSome)
  &&decide (([e]:List Expr).length+([]:List Keyword).length+(if([]:List Keyword).isEmpty then 0 else 1)<30))=true
 line:(apos.endLine==cpos.line)=true
 trees:backTo cpos (starEach [e] X.env)=[(false,eval e X.env)]
theorem EU{b a:Type}{f:b->a->Sem (ForInStep a)}{g:a->b->a}:∀{l:List b} (c:a),(∀x∈l,∀c,f x c=pure (.yield (g c x)))->forIn l c f=pure (l.foldl g c)
 | [],_,_=>rfl
 |x::l,c,h=>by
  rw[List.forIn_cons,h x (i7 ..),pure_bind];exact EU (g c x) λy d=>h y (jr _ d)
def rg(b:Env)(a:List (Str×Ad))(y:Str×NameKind):List (Str×Ad):=
 if y.2== .free then(match b.cells.lookup y.1 with|some c=>(y.1,c)::a|none=>a)else a
def lV(a:Env)(b:Scope):List (Str×Ad):=b.names.foldl (rg a) []
def FT{a:Env}{b:Scope}(h:∀y∈b.names,y.2=.free->∃c,a.cells.lookup y.1=some c):closureFor b a=pure (lV a b):=by
 simp only[closureFor];rw[EU (g:=rg a) [] λx i c=>?_]
 .rfl
 .obtain⟨n,k⟩:=x;by_cases f:k=.free
  .subst f;obtain⟨d,j⟩:=h _ i rfl;have e:a.cells.lookup n=some d:=j;simp only[rg,cellOf,e,beq_self_eq_true,if_true,pure_bind]
  .have l:(k==NameKind.free)=false:=by simpa using f
   simp only[rg,l,Bool.false_eq_true,if_false]
theorem vP{a:Env}:∀(names:List (Str×NameKind)) (b:List (Str×Ad)),(∀y c,b.lookup y=some c->a.cells.lookup y=some c)->
  ∀y c,(names.foldl (rg a) b).lookup y=some c->a.cells.lookup y=some c
 | [],_,h=>h
 | (n,k)::r,b,h=>by
  refine vP r _ λy c e=>?_;unfold rg at e;split at e
  .split at e
   .rename_i d i
    rw[ng]at e;cases f:y==n with
    |true=>
     rw[f]at e;have g:y=n:=eq_of_beq f;cases e;rw[g];exact i
    |false=>rw[f]at e;exact h y c e
   .exact h y c e
  .exact h y c e
theorem Fy{e:Env}:∀(a:List (Str×NameKind)) (b:List (Str×Ad)) (y:Str),(∃c,b.lookup y=some c)->∃c,(a.foldl (rg e) b).lookup y=some c
 | [],_,_,h=>h
 | (n,k)::r,b,y,h=>by
  refine Fy r _ y ?_;unfold rg;split
  .split
   .rename_i d f
    rw[ng];cases g:y==n with
    |true=>exact#[_,rZ]
    |false=>exact h
   .exact h
  .exact h
theorem CS{d:Env}:∀(a:List (Str×NameKind)) (b:List (Str×Ad)) (y:Str),a.lookup y=some .free->(∃c,d.cells.lookup y=some c)->∃c,(a.foldl (rg d) b).lookup y=some c
 | [],_,_,h,_=>by simp at h
 | (n,k)::r,b,y,h,e=>by
  rw[ng]at h;cases f:y==n with
  |true=>
   rw[f]at h;cases h;have g:y=n:=eq_of_beq f;subst g;obtain⟨c,e⟩:=e;refine Fy r _ y ?_;refine#[c,?_];unfold rg;rw[wB (by rfl)];show List.lookup y (match d.cells.lookup y with|some c=>(y,c)::b|none=>b)=_
   rw[e];simp
  |false=>
   rw[f]at h;exact CS r _ y h e
theorem vZ{a:Env}:∀{names:List (Str×NameKind)} {y:Str} {k:NameKind},
  (names.map λ(n,k)=>if(k==NameKind.free&&a.scope.kind== .function&&a.kindOf n==some .cell)then(n,NameKind.cell)else(n,k)).lookup y=some k->
   names.lookup y=some k\/(names.lookup y=some .free/\k=.cell)
 | [],_,_,h=>by simp at h
 | (n,c)::r,y,k,h=>by
  have g:=@vZ a r y k;rw[lH]at h;by_cases f:(c==NameKind.free&&a.scope.kind== .function&&a.kindOf n==some .cell)=true
  .have b:List.lookup y ((n,NameKind.cell)::(r.map λ(n,k)=>if(k==NameKind.free&&a.scope.kind== .function&&a.kindOf n==some .cell)then(n,NameKind.cell)else(n,k)))=some k:=by
    have e:(if(c==NameKind.free&&a.scope.kind== .function&&a.kindOf n==some .cell)=true then(n,NameKind.cell)else(n,c))=(n,NameKind.cell):=wB f;rw[<-e];exact h
   rw[ng]at b|-;cases d:y==n with
   | true=>
    rw[d]at b;cases b;have i:c=.free:=by
     rw[tA,tA]at f;exact eq_of_beq f.1.1
    exact .inr #[by rw[i],rZ]
   |false=>rw[d]at b;exact g b
  .have b:List.lookup y ((n,c)::(r.map λ(n,k)=>if(k==NameKind.free&&a.scope.kind== .function&&a.kindOf n==some .cell)then(n,NameKind.cell)else(n,k)))=some k:=by
    have e:(if(c==NameKind.free&&a.scope.kind== .function&&a.kindOf n==some .cell)=true then(n,NameKind.cell)else(n,c))=(n,c):=wA f;rw[<-e];exact h
   rw[ng]at b|-;cases d:y==n with
   |true=>rw[d]at b;exact .inl b
   |false=>rw[d]at b;exact g b
def wX(y:Str):Str:=#[#v[46]++y.cps]
def me(a:Ss)(y:Str):Str:=if a.contains y=true then wX y else y
structure CompScope(X:Cx)(vs:Ss)(sc:Scope):Prop where
 kind:sc.kind=.function
 cell:∀y∈sc.names,y.2≠ .cell
 locs:∀y∈sc.names,y.2=.local->sc.names.lookup y.1=some .local
 own:∀y∈X.N.map (me vs),sc.names.lookup y≠some .local
 hid:∀y∈vs,sc.names.lookup (wX y)=none
 nd:(vs++X.N.map (me vs)).Nodup
 free:∀y∈sc.names,y.2=.free->X.env.kindOf y.1=some .cell\/X.env.kindOf y.1=some .free
def lX(X:Cx)(a:Ss)(b:Scope)(C:Ad)(s:Sh)(H:Hp)(c:As):Cx where
 prog:=X.prog
 w:=X.w
 K:=X.K
 mg:=X.mg
 base:=X.base
 A:=X.A
 N:=a++X.N.map (me a)
 s₀:=s
 H₀:=H
 env:=compEnvC b (lV X.env b) C X.env
 outer:=X.stack
 stack:=X.stack
 ex:=c
 fn:=λ_=>false
 calm:=X.calm
 pn:=X.pn
 xe:=λ_ _=>False
def mQ(a:Ss)(b:St):St:=List.replicate a.length none++b
section
variable{X:Cx}{Z:AO}{f:St}{H:Hp}{s:Sh}{vs:Ss}{a:Scope}
def Oc{C:Ad}{G:As}{B:Heap}{tk:Nat}{Y:SV}(S:CompScope X vs a)(I:Inv X Z f H s)(J:∀b∈G,FpOk X Z H b)(ho:∀b∈G,∃o,s.heap.get? b=some o)(k:∀b o,s.heap.get? b=some o->B.get? b=some o) (L:B.Ns C Y) (D:s.heap.objs.size<=C):Inv (lX X vs a C s H G) Z (mQ vs f) H {s with heap:=B,toks:=tk}:=by
 have g:∀y c,(lV X.env a).lookup y=some c->X.env.cells.lookup y=some c:=vP a.names [] λy c e=>by simp at e
 have fr:∀y,a.names.lookup y=some .free->X.env.kindOf y=some .cell\/X.env.kindOf y=some .free:=λy e=>S.free (y,.free) (qo e) rfl;have M:∀y,(X.env.kindOf y=some .cell\/X.env.kindOf y=some .free)->∃c,X.env.cells.lookup y=some c:=λy e=>I.ok.has y e;have h:∀{y:Str} {E:NameKind},(relabel a X.env).names.lookup y=some E->E=.cell\/E=.free->a.names.lookup y=some .free:=λ{y E} e hk=>by
  rcases vZ (names:=a.names) e with z|⟨z,_⟩
  .rcases hk with q|q
   .subst q;exact wC rZ (S.cell _ (qo z))
   .subst q;exact z
  .exact z
 have has:∀y,a.names.lookup y=some .free->∃c,(lV X.env a).lookup y=some c:=λy e=>CS a.names [] y e (M y (fr y e));have aa:∀y c,X.env.cells.lookup y=some c->c<s.heap.objs.size:=λy c e=>let⟨_,z⟩:=I.cell y c e;z.lt
 have kc:∀{c v},s.heap.IsCell c v->B.IsCell c v:=λ{c v} ⟨o,e,d⟩=>#[o,k _ _ e,d];refine#[#[I.ok.mod,S.kind,I.ok.glob,I.ok.blt,D,λy z c N O=>I.ok.inj y z c (g y c N) (g z c O),λy hy=>?_,λy c z _=>(nomatch z),I.ok.hd,I.ok.frames,.inl rZ,λb w=>#[?_,λy c e=>?_],I.bs,i5 I.ok.bsz I.sz,λb o e w=>?_,λb w hs=>?_,I.stack,I.stkFree],
  rfl,I.bare,Un.kept k,#[Y,L,λi y v e1 x e3=>?_],λy c e=>?_,I.hok.fresh D,λy c e=>I.freeC y c (g y c e),λp hp=>?_,I.hok.kept k,?_]
 .have Q:(relabel a X.env).names.lookup y=some .cell\/(relabel a X.env).names.lookup y=some .free:=hy
  rcases Q with z|z
  .exact has y (h z (.inl rZ))
  .exact has y (h z (.inr rZ))
 .obtain⟨o,e⟩:=ho b w;exact i6 (jy (iu e) D)
 .exact(J b w).2.2.2.2.1 y c (g y c e)
 .obtain⟨_,_,_,z,_⟩:=J b w
  rcases z with z|z
  .exact I.ok.noex b o e z
  .exact wC (jy (iu (I.ok.bs b o e).1) z) (oi _)
 .obtain⟨_,N,O,_⟩:=J b w
  rcases iM.mp (I.stkSub b hs)with z|z
  .exact N z
  .exact O z
 .have j:(vs++X.N.map (me vs))[i]?=some y:=e1;have l:(List.replicate vs.length none++f)[i]?=some (some v):=x;have hi:vs.length<=i:=by
   by_cases z:i<vs.length
   .rw[j5 (by simpa using z),List.getElem?_replicate]at l;split at l<;>cases l
   .lia
  rw[ku hi]at j;rw[ku (by simpa using hi),List.length_replicate]at l;have yN:y∈X.N.map (me vs):=iV j;have A:(relabel a X.env).names.lookup y=some .local\/(relabel a X.env).names.lookup y=some .cell\/(relabel a X.env).names.lookup y=some .free:=e3;have t:a.names.lookup y=some .free:=by
   rcases A with z|z|z
   .rcases vZ (names:=a.names) z with q|⟨_,q⟩
    .exact wC q (S.own y yN)
    .cases q
   .exact h z (.inl rZ)
   .exact h z (.inr rZ)
  have j:X.N[i-vs.length]?=some y:=by
   rw[iB]at j;cases e:X.N[i-vs.length]? with
   |none=>rw[e]at j;cases j
   | some y0=>
    rw[e]at j;have x:me vs y0=y:=lW j;unfold me at x
    split at x
    .rename_i T
     rw[<-x,S.hid y0 (by simpa using T)]at t;cases t
    .rw[x]
  have ok:=fr y t;obtain⟨m,_,hl⟩:=I.loc;obtain⟨u,r,lk⟩:=hl (i-vs.length) y v j l (.inr ok);refine#[u,r,?_]
  rcases lk with⟨q,_⟩|⟨_,c,ec,T⟩
  .rcases ok with z|z<;>rw[z]at q<;>cases q
  .obtain⟨U,e'⟩:=has y t;have:U=c:=lW ((g y U e').symm.trans ec);subst this;refine .inr #[?_,U,e',kc T]
   rcases A with z|z|z
   .rcases vZ (names:=a.names) z with q|⟨_,q⟩
    .exact wC q (S.own y yN)
    .cases q
   .exact .inl z
   .exact .inr z
 .obtain⟨v,z⟩:=I.cell y c (g y c e);exact#[v,kc z]
 .obtain⟨e,n,ne,nf,d⟩:=I.pin p hp;refine#[k _ _ e,n,i6 (jy (iu e) D),λz=>?_,d]
  rcases iM.mp (I.stkSub p.1 z)with q|q
  .exact ne q
  .exact nf q
 .show(List.replicate vs.length none++f).length=(vs++X.N.map (me vs)).length;rw[jk,jk,EF,hJ,I.len]
def Inv.adopt{D:Ad}{h:List V}{a:Vs}{n:Nat}(I:Inv X Z f H s)(i:h.length<=sizeLine)(j:Vals h a)(k:H D=none)(e:s.heap.get? D=some {cls:= .type "list",data:= .seq a.toArray n})
  (l:X.s₀.heap.objs.size<=D) (r:D≠X.env.locals) (t:∀x c,X.env.cells.lookup x=some c->c≠D) (v:∀p∈X.pn++Z,p.1≠D):Inv X Z f (hA H D (.lst h)) s:=by
 have g:∀b u,H b=some u->b≠D:=λb u q z=>by rw[z,k]at q;cases q
 have q:=I.step (h':=s.heap) (H':=hA H D (.lst h)) (g':=s.gens) (t':=s.toks) (d':=s.drawn) (ch:=[D]) (λb d=>by
   have z:b=D:=by simpa using d
   subst z;exact#[.inr l,r,t,v])
  (λb o _ _ _ e _=>e) (λb o _ _ _ e _=>#[o.slots,e]) (λb o d _ n=>by rw[hK (λz=>d (by simp[z]))];exact n) (λb o _ e=>#[o,e])
  (λb w q=>by rw[hK (g b _ q)];exact q) (λb o u q=>by rw[hK (g b _ q)];exact q) (λb A q=>#[#v[],by rw[hK (g b _ q),q];simp]) (λm y=>y) (λb u q=>?_) I.bare
 .exact q
 .by_cases d:b=D
  .subst d;rw[hO]at q;cases q;exact#[i,a,n,j,e]
  .rw[hK d]at q;exact(I.hok b u q).stay (λ_ _ _ z=>z) (λc z=>by rw[hK (g c _ z)];exact z) λc w z=>by rw[hK (g c _ z)];exact z
end
def rH(X:Cx)(a:List Expr)(t:TT):Prop:=
 ∀(Z:AO) (s:Sh) (b:St) (H:Hp) (Q:Bool->Hp->Prop),Inv X Z b H s->t b H Q->
  wpAny (model X.prog X.w) X.A (forIn a true λc r=>if r=true then do let ok <-isTrue c X.env (eval c X.env);pure (ForInStep.yield ok)else pure (ForInStep.yield r)) (TP X Z b Q) X.xe s
def rS:TT:=λ_ H Q=>Q true H
def qj{c:St}{H:Hp}{F G:Hp->Prop}(h:F H):rS c H (λb a=>if b=true then F a else G a):=by
 show(if true=true then F H else G H);exact lF h
def om{X:Cx}:rH X [] rS:=λ_ _ _ H _ I h=>hI #[H,I,h]
def rB{X:Cx}{c:Expr}{t:TT}(h:PT X c t):rH X [c] t:=λZ s a H Q I q=>wpAny_tests_one (h Z s a H Q I q)
theorem E8{a:Pg}{w:World}{A:Ar}{R:Result->Sh->Prop}{s:Sh}{e o d:Expr}{f:List Expr}{u:Scope}{i:Pos}{p g:Vl}{b:Env}(j:Nat->Sh->Prop)(k:∀n s,j n s->wpAny (model a w) A (pyNext p) (λr l=>match r with
   |none=>R (.ok .next) l
   | some v=>wpAny (model a w) A (letOwnedTupleGo o p v) (λ_ l=>wpAny (model a w) A (assign o b v) (λ_ B=>
     wpAny (model a w) A (forIn f true λc r=>if r=true then do let ok <-isTrue c b (eval c b);pure (ForInStep.yield ok)else pure (ForInStep.yield r)) (λok t=>
      if ok=true then wpAny (model a w) A (eval e b) (λy C=>wpAny (model a w) A (call (.builtin "list.append") [g,y]) (λ_ D=>∃m,m<n/\j m D) (λ_ _=>False) C) (λ_ _=>False) t
      else ∃m,m<n/\j m t) (λ_ _=>False) B) (λ_ _=>False) l) (λ_ _=>False) l) (λ_ _=>False) s)(n:Nat) (h:j n s):codeAny (model a w) A (.compLoop (.ListComp e [#[o,d,f,0]] u i) 0 p g b) R s:=by
 refine codeAny_loop rZ j (λn s I=>?_) n h;show wpAny _ A ((compTurn (.ListComp e [#[o,d,f,0]] u i) 0 p g b).onRaise (λx=>do noteFrame x b;theTreesLotGoes x)) _ _ s;refine wpAny_noted (ke (E:=λ_ _=>False) ?_ (λ_ _ q=>q) λ_ _ z=>z.elim);rw[compTurn_list];refine f' (vD (f' (ie (k n s I) λr l G=>?_)));cases r with
 |none=>exact hI G
 |some v=>
  refine f' (ie G λ_ B J=>f' (ie J λ_ t L=>f' (ie L λok C H=>?_)));cases ok with
  |false=>exact hI #[rZ,H]
  |true=>exact f' (f' (ie H λy D M=>f' (ie M λ_ O N=>hI (hI #[rZ,N]))))
def vN(b a:St):Prop:=∀(i:Nat) v,b[i]?=some (some v)->a[i]?=some (some v)
theorem nq{a:St}{x:Option V}:vN (none::a) (x::a):=λi v e=>by
 cases i with
 |zero=>cases e
 |succ i=>exact e
theorem CA{a:St}{x y:Option V}:vN (none::none::a) (x::y::a):=λi v e=>by
 match i,e with
 |0,e=>cases e
 |1,e=>cases e
 |_+2,e=>exact e
section
variable{X:Cx}{Z:AO}{w:St}{H:Hp}{s:Sh}{l:Ss}{k:Scope}{L q f:Expr}{t:List Expr}{A:Pos}{g:TG}{B:TT}{G:TE}
def tD(l:Ss)(g:TG)(B:TT)(G:TE)(w:St)(J:It)(H:Hp)(Fin:List V->Hp->Prop):Prop:=
 ∃W:Nat->Nat->List V->Hp->Prop,(∃m,W 0 m [] H)/\∀i m c H,W i m c H->
  (J.stop i H/\c.length<=sizeLine/\Fin c H)\/(J.go i H/\c.length<sizeLine/\∃N:List V->Hp->Prop,(∀e d,N e d->∃f,f<m/\W (i+1) f e d)/\
   ∀v d,J.yld i H v d->g v (mQ l w) d λa j=>vN (mQ l w) a/\B a j λb h=>if b=true then G a h λy k=>N (c++[y]) k else N c h)
def Ic{J:It}{h:As}{it:Ad}{tn:Nat->Heap->Prop}{E:VP}{RR:Vl->Ad->Result->Sh->Prop}{Fin:List V->Hp->Prop}(S:CompScope X l k) (hc:X.calm=true) (hg:∀C s H h,PG (lX X l k C s H h) L g) (ht:∀C s H h,rH (lX X l k C s H h) t B) (he:∀C s H h,PE (lX X l k C s H h) q G)(I:Inv X Z w H s) (T:Turn X.prog X.w X.K L J h it tn) (st:tn 0 s.heap) (hf:∀b∈h,FpOk X Z H b) (hW:tD l g B G w J H Fin)(aw:∀D C O a Q m',Inv X Z w (hA a D (.lst Q)) O->a D=none->FpOk X Z (hA a D (.lst Q)) C->O.heap.Ns C m'->Fin Q a->RR (.ref D) C (.ok .next) O):
  wpAny (model X.prog X.w) X.A (newList []) (λar s3=>wpAny (model X.prog X.w) X.A (newFunctionEnv k X.env.globals (lV X.env k) [] X.env.qual none .none (some X.env)) (λcenv s4=>
   codeAny (model X.prog X.w) X.A (.compStart (.ListComp q [#[L,f,t,0]] k A) 0 (.ref it) ar {cenv with scope:=relabel k X.env}) (RR ar cenv.locals) s4) E s3) E s:=by
 obtain⟨W,⟨m0,w0⟩,as⟩:=hW;refine pC (wpAny_newFunctionEnv S.cell (by intro y hy;simp at hy) (λh1 ab U=>?_) S.kind);dsimp only at ab U|-;generalize am:s.heap.push {cls:= .type "list",dict:=none,data:= .seq ([]:Vs).toArray}=H2 at ab U|-;have hC:H2.objs.size=s.heap.objs.size+1:=by rw[<-am,vh]
 generalize aJ:H2.objs.size=C at ab U hC|-;generalize ae:s.heap.objs.size=D at hC|-;have af:D≠C:=by lia
 have below:∀b o,s.heap.get? b=some o->b≠D/\b≠C:=λb o e=>by
  have z:b<s.heap.objs.size:=iu e;rw[ae]at z;exact#[i6 z,i6 (by rw[hC];exact wn z)]
 have old:∀b o,s.heap.get? b=some o->h1.get? b=some o:=λb o e=>U.extBut b o (below b o e).2 (iG _ (am▸iG _ e));have ax:h1.get? D=some {cls:= .type "list",data:= .seq ([]:Vs).toArray}:=
  U.extBut _ _ af (iG _ (by rw[<-am,<-ae];exact jp _ rZ))
 have ai:∀b∈h,∃o,s.heap.get? b=some o:=λb m=>let⟨o,e,_⟩:=T.obj 0 _ st b m;#[o,e]
 have an:∀b∈h,b≠D/\b≠C:=λb m=>let⟨o,e⟩:=ai b m;below b o e
 have fD:∀a,a D=none->FpOk X Z a D:=λa n=>I.fpOk () n;have fC:∀a,a C=none->FpOk X Z a C:=λa n=>I.fpOk () n;have ay:∀p∈X.pn++Z,p.1≠D:=λp hp=>(below _ _ (I.pin p hp).1).1;have ao:∀y c,(lV X.env k).lookup y=some c->c≠D:=λy c e=>by
  have e':=vP k.names [] (λy c e=>by simp at e) y c e;obtain⟨v,z⟩:=I.cell y c e';have z':c<s.heap.objs.size:=z.lt;rw[ae]at z';exact i6 z'
 have az:∀b,b∈iI X.stack->∃o,s.heap.get? b=some o:=λb m=>let⟨_,o,ho,_⟩:=I.stack.mem m;#[o,ho]
 have aA:D∉iI X.stack:=λz=>let⟨o,e⟩:=az D z;(below _ _ e).1 rfl
 have ap:∀{pl:AO} {a:Hp},(∀p∈pl,p.1=D)->(∀b∈h,a b=none)->∀b∈h,FpOk (lX X l k C s H h) (Z++pl) a b:=λ{pl a} aB hn b m=>by
  obtain⟨_,q1,q2,q3,q4,q5⟩:=hf b m;refine#[hn b m,(an b m).2,λz=>?_,.inl m,λy c e=>q4 y c (vP k.names [] (λy c e=>by simp at e) y c e),λp hp=>?_]
  .rcases iM.mp (I.stkSub b z)with y|y
   .exact q1 y
   .exact q2 y
  .rcases iN.mp hp with z|z
   .exact q5 p (pA _ z)
   .rcases iN.mp z with y|y
    .exact q5 p (jj _ y)
    .rw[aB p y];exact jq (an b m).1
 have aj:∀s3:Sh,s3={s with heap:=h1,toks:=s.toks+([]:List (Str×Vl)).length}->
   codeAny (model X.prog X.w) X.A (.compLoop (.ListComp q [#[L,f,t,0]] k A) 0 (.ref it) (.ref D) (compEnvC k (lV X.env k) C X.env)) (RR (.ref D) C) s3:=by
  rintro s3 rfl;have I0:Inv (lX X l k C s H h) Z (mQ l w) H {s with heap:=h1,toks:=s.toks+([]:List (Str×Vl)).length}:=Oc S I hf ai old ab ();refine E8 (λn O=>∃i Q j Y a,Inv (lX X l k C s H h) Z (mQ l w) a O/\tn i O.heap/\(∀b∈h,a b=none)/\a D=none/\
   O.heap.get? D=some {cls:= .type "list",data:= .seq j.toArray Y}/\Vals Q j/\W i n Q a) ?_ m0
   #[0,[],[],0,H,I0,T.keep 0 _ _ st λb m o e=>old b o e,λb m=>(hf b m).1,I.hok.fresh (),ax,.nil,w0]
  rintro n O ⟨i,Q,j,Y,a,I1,au,av,ag,aC,ah,w1⟩;have ak:Inv (lX X l k C s H h) (Z++[(D,{cls:= .type "list",data:= .seq j.toArray Y})]) (mQ l w) a O:=I1.pins_of λp hp=>by
   rcases iN.mp hp with z|z
   .exact I1.pin p (jj _ z)
   .have e:p=(D,{cls:= .type "list",data:= .seq j.toArray Y}):=by simpa using z
    subst e;exact#[aC,ag,af,aA,λv z=>by have z':Data.seq _ _=Data.cell v:=z;cases z']
  have M:∀p∈[((D,{cls:= .type "list",data:= .seq j.toArray Y}):Ad×Obj)],p.1=D:=λp hp=>by
   have e:p=(D,{cls:= .type "list",data:= .seq j.toArray Y}):=by simpa using hp
   rw[e]
  rcases as i n Q a w1 with⟨stop,hz,fin⟩|⟨go,hz,N,hN,step⟩
  .refine ie (T.done (lX X l k C s H h) rZ rZ rZ hc i _ O _ a (λ_ _=>False) ak (ap M av) au stop) λr s4 ⟨hr,I4⟩=>?_;subst hr;have d4:s4.heap.get? D=some {cls:= .type "list",data:= .seq j.toArray Y}:=(I4.pin (D,_) (jj _ (jj _ (i7 ..)))).1;have Io:Inv X Z w a s4:=I.call' (H':=a) (ch:=h) I4.os I4.base I4.hok I4.bare λb m=>by
    obtain⟨_,q1,_,q3,q4,q5⟩:=hf b m;exact#[q3,q1,q4,q5]
   obtain⟨_,a1,_,a3,a4,a5⟩:=fD a ag;have Ia:=Io.adopt hz ah ag d4 (i5 I.sz ()) a1 a4 a5;obtain⟨m4,aD,_⟩:=I4.loc;refine aw D C s4 a Q m4 Ia ag (fC _ ?_) aD fin;rw[hK (jq af)];exact I4.free
  .refine ie (T.item (lX X l k C s H h) rZ rZ rZ hc i _ O _ a (λ_ _=>False) ak (ap M av) au go) λr s4 ⟨u,hr,h4⟩=>?_;subst hr;refine ie h4 λ_ s5 ⟨x,H5,I5,r5,y5,aq,aE⟩=>?_;have aF:=I5.pinned (ap M aE) (T.obj _ _ aq);refine ie (hg C s H h _ s5 _ H5 x u _ aF r5 (step x H5 y5)) λ_ s6 ⟨aa,H6,I6,k6,q6⟩=>?_;refine ie (ht C s H h _ s6 aa H6 _ I6 q6) λok s7 ⟨H7,I7,q7⟩=>?_;have al:(mQ l w).length=aa.length:=by rw[I1.len,I6.len]
   have pinned:∀{H8:Hp} {s8:Sh},Inv (lX X l k C s H h) (Z++[(D,{cls:= .type "list",data:= .seq j.toArray Y})]++xj h s5.heap) aa H8 s8->
     tn (i+1) s8.heap/\(∀b∈h,H8 b=none)/\H8 D=none/\s8.heap.get? D=some {cls:= .type "list",data:= .seq j.toArray Y}:=λ{H8 s8} I8=>by
    refine#[T.keep _ _ _ aq λb m o e=>(I8.pin (b,o) (jj _ (jj _ (xW m e)))).1,λb m=>?_,?_,?_]
    .obtain⟨o,e,d⟩:=T.obj _ _ aq b m;exact(I8.pin (b,o) (jj _ (jj _ (xW m e)))).2.1
    .exact(I8.pin (D,_) (jj _ (pA _ (jj _ (i7 ..))))).2.1
    .exact(I8.pin (D,_) (jj _ (pA _ (jj _ (i7 ..))))).1
   cases ok with
   |false=>
    rw[wA (by decide)]at q7|-;obtain⟨m',hm,w7⟩:=hN _ _ q7;obtain⟨a1,a2,a3,a4⟩:=pinned I7;exact#[m',hm,i+1,Q,j,Y,H7,(I7.unpinned.unpinned).weak al k6,a1,a2,a3,a4,ah,w7]
   | true=>
    rw[wB rZ]at q7|-;refine ie (he C s H h _ s7 aa H7 _ I7 q7) λyv s8 ⟨y,H8,I8,r8,n8⟩=>?_;obtain⟨m',hm,w8⟩:=hN _ _ n8;obtain⟨a1,a2,a3,a4⟩:=pinned I8;have aG:j.toArray.size<=sizeLine:=by
     have:=ah.length;rw[i8];lia
    refine wpAny_list_append_plain #[Y,a4] (λh' pl sb=>?_) aG;obtain⟨aH,aI⟩:=pl;have I9:Inv (lX X l k C s H h) Z aa H8 {s8 with heap:=h'}:=(I8.unpinned.unpinned).turned (t':=s8.toks) (it:=D) (λb o m e=>(sb.2 b m).trans e) a3 af (.inr (u4 ae)) ao ay;refine#[m',hm,i+1,Q++[y],j++[yv],aH,H8,I9.weak al k6,T.keep _ _ _ a1 λb m o e=>(sb.2 b (an b m).1).trans e,a2,a3,?_,ah.append (.cons r8 .nil),w8];rw[aI]
    simp
 exact codeAny_compStart_list (aj _ rZ) (T.self _ 0 _ _ _ (T.keep 0 _ _ st λb m o e=>old b o e) (aj _ rZ))
def xX(l:Ss)(b:TI)(g:TG)(B:TT)(G:TE):TE:=λw H Q=>b w H λJ c=>tD l g B G w J c λd a=>∀p,a p=none->Q (.ref p) (hA a p (.lst d))
def CompScope.clos{Z:AO}{w:St}{H:Hp}{s:Sh}(S:CompScope X l k)(I:Inv X Z w H s):closureFor k X.env=pure (lV X.env k):=
 FT λy a b=>I.ok.has y.1 (S.free y a b)
def Cp{i:TI}(S:CompScope X l k)(j:X.calm=true)(m:PI X L f i)(n:∀C s H a,PG (lX X l k C s H a) L g)(ht:∀C s H a,rH (lX X l k C s H a) t B)(p:∀C s H a,PE (lX X l k C s H a) q G) (r:∀x,foldedSetIterable f X.env x=pure x:=by intro _;rfl):PE X (.ListComp q [#[L,f,t,0]] k A) (xX l i g B G):=by
 intro Z s w H Q I h;rw[eval_ListComp];refine D5 (use:=none) rZ r (S.clos I) S.kind S.locs ?_;refine ie (m Z s w H _ I h) λv s1 u=>ie u λy s2 z=>?_;obtain⟨it,a,tn,J,H2,e,E,T,c,M,N⟩:=z;subst e;refine Ic (RR:=λd C=>compPost (model X.prog X.w) X.A X.xe none (EP X Z w Q) d C) S j n ht p E T c M N λD C O H' ys U Y hD fC ns fin=>?_;obtain⟨c0,c1,c2,c3,c4,c5⟩:=fC;refine#[U,ns,λh' sb=>#[.ref D,_,?_,rZ,fin D hD]];exact Y.turned (t':=O.toks) (it:=C) (λb o hb e=>(sb.2 b hb).trans e) c0 c1 c3 c4 c5
def Go{x:Str}{p:Pos}(S:CompScope X [x] k)(a:k.names.lookup x=some .local):∀C s H b,PG (lX X [x] k C s H b) (.Name x p) (md 0):=λC s H b=>
 mK S.nd rZ (.inl (xJ a)) (.inr (xJ a))
def nM{b:TI}{x:Str}{p:Pos}(S:CompScope X [x] k)(c:X.calm=true)(d:k.names.lookup x=some .local)(e:PI X (.Name x p) f b)(ht:∀C s H a,rH (lX X [x] k C s H a) t B)(g:∀C s H a,PE (lX X [x] k C s H a) q G) (h:∀x,foldedSetIterable f X.env x=pure x:=by intro _;rfl):PE X (.ListComp q [#[.Name x p,f,t,0]] k A) (xX [x] b (md 0) B G):=
 Cp S c e (Go S d) ht g h
def FJ{N:TI}{j:Nat}{y:Str}{d c:Pos}(S:CompScope X l k)(U:X.calm=true)(Y:X.N.Nodup)(hj:X.N[j]?=some y)(O:X.env.scope.names.lookup y=some .local)(hi:PI X L f N)(hg:∀C s H i,PG (lX X l k C s H i) L g)(ht:∀C s H i,rH (lX X l k C s H i) t B)(he:∀C s H i,PE (lX X l k C s H i) q G) (p:swapsWith (.ListComp q [#[L,f,t,0]] k A) (some (.Name y d)) c.line X.env=pure true:=by rfl) (hs:∀x,foldedSetIterable f X.env x=pure x:=by intro _;rfl):
  PS X (.Assign [.Name y d] (.ListComp q [#[L,f,t,0]] k A) c) (p6 (xX l N g B G) (md j)):=by
 intro Z s w H D I h;rw[exec_Assign_Name_used _ _ _ _ p];refine f' (vD (f' ?_));show wpAny _ X.A (do let _ <-comprehension (.ListComp q [#[L,f,t,0]] k A) k X.env _ (newList []) false (eval f X.env) (some (assign (.Name y d) X.env))) _ _ s;refine f' (ke (D5 (use:=some (assign (.Name y d) X.env)) (Q:=λ_ m=>SP X Z D .next m) rZ hs (S.clos I) S.kind S.locs ?_) (λ_ m hq=>hI (hI hq)) λ_ _ e=>e);refine ie (hi Z s w H _ I h) λv s1 h1=>ie h1 λaa s2 h2=>?_;obtain⟨it,i,tn,J,H2,e,I2,T,r,f2,hW⟩:=h2;subst e;refine Ic (RR:=λu C=>compPost (model X.prog X.w) X.A X.xe (some (assign (.Name y d) X.env)) (λ_ m=>SP X Z D .next m) u C) S U hg ht he I2 T r f2 hW λn C m H' ys m' I' hD fC ns fin=>?_;obtain⟨c0,c1,c2,c3,c4,c5⟩:=fC;show wpAny _ X.A (assign (.Name y d) X.env (.ref n)) _ _ _;refine Db (DA (v:= .ref n) I' Y hj (.inl O) (show RelV (.ref n) (.ref n)from rfl) (λs3 I3 ⟨a,sb,ha⟩=>?_) (.inr O));have E:a≠C:=by
  rcases ha with z|z
  .rw[z];exact jq c1
  .exact c4 y a z
 refine#[m',ns.sameBut sb (jq E),λh' M=>#[_,_,I3.turned (t':=s3.toks) (it:=C) (λb o hb e=>(M.2 b hb).trans e) c0 c1 c3 c4 c5,fin n hD]]
def BE{d:TI}{j:Nat}{x y:Str}{p e a:Pos}(S:CompScope X [x] k)(g:X.calm=true)(h:k.names.lookup x=some .local)(i:X.N.Nodup)(l:X.N[j]?=some y)(m:X.env.scope.names.lookup y=some .local)(n:PI X (.Name x p) f d)(ht:∀C s H b,rH (lX X [x] k C s H b) t B) (o:∀C s H b,PE (lX X [x] k C s H b) q G)(c:swapsWith (.ListComp q [#[.Name x p,f,t,0]] k A) (some (.Name y e)) a.line X.env=pure true:=by rfl) (r:∀x,foldedSetIterable f X.env x=pure x:=by intro _;rfl):
  PS X (.Assign [.Name y e] (.ListComp q [#[.Name x p,f,t,0]] k A) a) (p6 (xX [x] d (md 0) B G) (md j)):=FJ S g i l m n (Go S h) ht o c r
end
section
variable{K:O0}{a:Ad}{xs:List V}{h:Ss}{g:TG}{j:TT}{d:TE}{c:St}{H:Hp}{Fin:List V->Hp->Prop}
def KO(Pv:Nat->List V->Hp->Prop)(B:xs.length<=sizeLine)(o:Pv 0 [] H)(r:∀i f H,i<=xs.length->Pv i f H->SqT K H a xs/\f.length<=i)(s:∀i v f H,xs[i]?=some v->Pv i f H->g v (mQ h c) H λk t=>vN (mQ h c) k/\j k t λb n=>if b=true then d k n λy u=>Pv (i+1) (f++[y]) u else Pv (i+1) f n)(w:∀f H,Pv xs.length f H->Fin f H):tD h g j d c (Be K a) H Fin:=by
 refine#[λi m f H=>m=xs.length-i/\i<=xs.length/\Pv i f H,#[xs.length,by simp,Nat.zero_le _,o],?_];rintro i m f H ⟨rfl,x,p⟩;obtain⟨q,C⟩:=r i f H x p;by_cases l:i<xs.length
 .refine .inr #[#[xs,xs[i],q,by simp[l]],(),Pv (i+1),λD z A=>#[xs.length-(i+1),Nat.sub_succ_lt_self _ _ l,rZ,l,A],λv z y=>?_];obtain⟨e,y⟩:=y;subst e;exact s i v f _ (y xs q) p
 .have e:i=xs.length:=by lia
  subst e;exact .inl #[#[xs,q,ig _],(),w f H p]
def on(Pv:Nat->List V->Hp->Prop)(B:xs.length<=sizeLine)(o:Pv 0 [] H)(r:∀i f H,i<=xs.length->Pv i f H->SqL K H a xs/\f.length<=i)(s:∀i v f H,xs[i]?=some v->Pv i f H->g v (mQ h c) H λk t=>vN (mQ h c) k/\j k t λb n=>if b=true then d k n λy u=>Pv (i+1) (f++[y]) u else Pv (i+1) f n)(w:∀f H,Pv xs.length f H->Fin f H):tD h g j d c (xF K a) H Fin:=by
 refine#[λi m f H=>m=xs.length-i/\i<=xs.length/\Pv i f H,#[xs.length,by simp,Nat.zero_le _,o],?_];rintro i m f H ⟨rfl,x,p⟩;obtain⟨q,C⟩:=r i f H x p;by_cases l:i<xs.length
 .refine .inr #[#[xs,xs[i],q,by simp[l]],(),Pv (i+1),λD z A=>#[xs.length-(i+1),Nat.sub_succ_lt_self _ _ l,rZ,l,A],λv z y=>?_];obtain⟨e,y⟩:=y;subst e;exact s i v f _ (y xs q) p
 .have e:i=xs.length:=by lia
  subst e;exact .inl #[#[xs,q,ig _],(),w f H p]
def Af{lo:Int}{n:Nat}(Pv:Nat->List V->Hp->Prop)(A:n<=sizeLine)(o:Pv 0 [] H)(q:∀i a H,i<=n->Pv i a H->a.length<=i)(r:∀i a H,i<n->Pv i a H->g (.int (lo+i)) (mQ h c) H λk s=>vN (mQ h c) k/\j k s λb l=>if b=true then d k l λy t=>Pv (i+1) (a++[y]) t else Pv (i+1) a l)(u:∀a H,Pv n a H->Fin a H):tD h g j d c (ue lo n) H Fin:=by
 refine#[λi m a H=>m=n-i/\i<=n/\Pv i a H,#[n,by simp,Nat.zero_le _,o],?_];rintro i m a H ⟨rfl,w,p⟩;have B:=q i a H w p;by_cases f:i<n
 .refine .inr #[f,(),Pv (i+1),λC x z=>#[n-(i+1),Nat.sub_succ_lt_self _ _ f,rZ,f,z],λv x y=>?_];obtain⟨e,y⟩:=y;subst e y;exact r i a _ f p
 .have e:i=n:=by lia
  subst e;exact .inl #[ig _,(),u a H p]
def yM{x:Str}{xs:List V}{f:V->V}(k:xs.length<=sizeLine)(l:SqT K H a xs)(m:∀v (Q:VK),v∈xs->Q (f v) H->d (some v::c) H Q)(n:Fin (xs.map f) H):
  tD [x] (md 0) rS d c (Be K a) H Fin:=by
 refine KO (λi g h=>h=H/\g=(xs.take i).map f) k #[rZ,rZ] (λi g h o ⟨e,b⟩=>?_) (λi v g h j ⟨e,b⟩=>#[nq,?_]) (λg h ⟨e,b⟩=>?_)
 .subst e b;exact#[l,by simp;lia]
 .subst e b;refine qj (m v _ (iV j) #[rZ,?_]);rw[ow,j,kS];rfl
 .subst e b;rw[mH];exact n
def NW{x:Str}{lo:Int}{n:Nat}{f:Nat->V}(h:n<=sizeLine)(j:∀i (Q:VK),i<n->Q (f i) H->d (some (.int (lo+(i:Nat)))::c) H Q)(k:Fin ((List.range n).map f) H):
  tD [x] (md 0) rS d c (ue lo n) H Fin:=by
 refine Af (λi b g=>g=H/\b=(List.range i).map f) h #[rZ,rZ] (λi b g m ⟨e,a⟩=>?_) (λi b g l ⟨e,a⟩=>#[nq,?_]) (λb g ⟨e,a⟩=>?_)
 .subst e a;simp
 .subst e a;refine qj (j i _ l #[rZ,?_]);rw[wm,kS];rfl
 .subst e a;exact k
end
inductive Dt where
 |non|int (i:Int)|str (x:Str)|lst (ds:List Dt)|tup (ds:List Dt)
inductive Rep (K:O0) (H:Hp):Nat->Dt->V->Prop where
 |non (n:Nat):Rep K H n .non .non
 |int (n:Nat) (i:Int):Rep K H n (.int i) (.int i)
 |str (n:Nat) (x:Str):Rep K H n (.str x) (.str x)
 |lst {n:Nat} {ds:List Dt} {a:Ad} {xs:List V} (h:SqL K H a xs) (hl:xs.length=ds.length) (hi:∀(i:Nat) d v,ds[i]?=some d->xs[i]?=some v->Rep K H n d v):Rep K H (n+1) (.lst ds) (.ref a)
 |tup {n:Nat} {ds:List Dt} {a:Ad} {xs:List V} (h:SqT K H a xs) (hl:xs.length=ds.length) (hi:∀(i:Nat) d v,ds[i]?=some d->xs[i]?=some v->Rep K H n d v):Rep K H (n+1) (.tup ds) (.ref a)
def yY{e:Type}{c d:List e}(f:c.length=d.length)(h:∀(i:Nat) a b,c[i]?=some a->d[i]?=some b->a=b):c=d:=by
 refine xi f λi g j=>?_;exact h i _ _ (by simp[g]) (by simp[j])
section
variable{X:Cx}{Z:AO}{c:St}{H:Hp}{s:Sh}
def HY{a:Ad}{b d:List V}(I:Inv X Z c H s)(h:SqL X.K H a b)(e:SqT X.K H a d):False:=by
 obtain⟨_,_,p,_⟩:=I.list h;obtain⟨_,_,q,_⟩:=I.tuple e;exact SeqAt.ne_of_list_tuple p.isList (show s.heap.IsTuple a _ from q) rfl
def Fs(I:Inv X Z c H s):∀(n:Nat) {d f:Dt} {v:V},Rep X.K H n d v->Rep X.K H n f v->d=f:=by
 intro n
 induction n with
 |zero=>
  intro d f v r g;cases r<;>cases g<;>rfl
 | succ n x=>
  intro d f v r g;cases r with
  |non=>cases g;rfl
  |int=>cases g;rfl
  |str=>cases g;rfl
  | @lst _ y a j h o q=>
   cases g with
   | @lst _ t _ u k l m=>
    have e:=I.list_inj h k;subst e;refine jv Dt.lst (yY (o.symm.trans l) λi d f p w=>?_);have b:i<j.length:=by rw[o];exact(ik.mp p).1
    exact x (q i d j[i] p (hV b)) (m i f j[i] w (hV b))
   |tup k _ _=>exact(HY I h k).elim
  | @tup _ y a j h o q=>
   cases g with
   |lst k _ _=>exact(HY I k h).elim
   | @tup _ t _ u k l m=>
    have e:=I.tuple_inj h k;subst e;refine jv Dt.tup (yY (o.symm.trans l) λi d f p w=>?_);have b:i<j.length:=by rw[o];exact(ik.mp p).1
    exact x (q i d j[i] p (hV b)) (m i f j[i] w (hV b))
def Ib{f c:List Dt}(n:f.length=c.length){e:Nat->Bool}{N:Nat}(o:N=f.length)(k:∀(j:Nat) d l,f[j]?=some d->c[j]?=some l->(e j=true↔d=l)):((List.range N).all e=true↔f=c):=by
 subst o;rw[BA];constructor
 .intro h;refine yY n λi a b m p=>?_;exact(k i a b m p).mp (h i (nj.mpr (ik.mp m).1))
 .intro h i q;have g:=nj.mp q;subst h;exact(k i f[i] f[i] (by simp[g]) (by simp[g])).mpr rfl
def K9{P:Nat->Bool->Prop}(h:∀j,∃b,P j b):∃e:Nat->Bool,∀j,P j (e j):=#[λj=>Classical.choose (h j),λj=>Ba (h j)]
def Fz{A:Ar}{its its':Vs}{ds ds':List Dt}(o:its.length=ds.length)(p:its'.length=ds'.length)(h:∀(j:Nat) u f d a,its[j]?=some u->its'[j]?=some f->ds[j]?=some d->ds'[j]?=some a->∃b,SeqAt.EqAt A s u f b/\(b=true↔d=a)):
  ∃e:Nat->Bool,(∀j (i:j<its.toArray.size) (k:j<its'.toArray.size),SeqAt.EqAt A s its.toArray[j] its'.toArray[j] (e j))/\∀(j:Nat) d a,ds[j]?=some d->ds'[j]?=some a->(e j=true↔d=a):=by
 obtain⟨e,l⟩:=K9 (P:=λj b=>(∀u f,its[j]?=some u->its'[j]?=some f->SeqAt.EqAt A s u f b)/\∀d a,ds[j]?=some d->ds'[j]?=some a->(b=true↔d=a)) λj=>by
  by_cases g:j<its.length/\j<its'.length
  .obtain⟨b,m,n⟩:=h j its[j] its'[j] (ds[j]'()) (ds'[j]'()) (by simp[g.1]) (by simp[g.2]) (List.getElem?_eq_getElem _) (List.getElem?_eq_getElem _);refine#[b,λu f q c=>?_,λd a q c=>?_]
   .rw[hV g.1]at q;rw[hV g.2]at c;cases q;cases c;exact m
   .rw[hV ()]at q;rw[hV ()]at c;cases q;cases c;exact n
  .refine#[true,λu f q c=>wC #[(ik.mp q).1,(ik.mp c).1] g,λd a q c=>?_];have r:=(ik.mp q).1;have t:=(ik.mp c).1;exact wC #[(),()] g
 refine#[e,λj i k=>?_,λj=>(l j).2];simp only[List.size_toArray]at i k;exact(l j).1 _ _ (by simp[i]) (by simp[k])
def CZ(I:Inv X Z c H s){n:Nat}{A:Ar}(l:A.units<cLine){d m:Dt}{a q:Ad}(r:Rep X.K H (n+1) d (.ref a))(T:Rep X.K H (n+1) m (.ref q))(U:∀{d m:Dt} {v Y:V} {u G:Vl},Rep X.K H n d v->Rep X.K H n m Y->RelV v u->RelV Y G->∃b,SeqAt.EqAt A.in1 s u G b/\(b=true↔d=m)):
  ∃b,SeqAt.RcAt A s (.ref a) (.ref q) b/\SeqAt.RcNeAt A s (.ref a) (.ref q) (!b)/\(b=true↔d=m):=by
 cases r with
 | @lst _ ds _ x h hl J=>
  obtain⟨its,y,p,_⟩:=I.list h;have l1:=y.length;cases T with
  | @lst _ ds' _ f t w k=>
   obtain⟨its',g,i,_⟩:=I.list t;have l2:=g.length;by_cases B:ds.length=ds'.length
   .obtain⟨e,C,L⟩:=Fz (A:=A.in1) (s:=s) (its:=its) (its':=its') (ds:=ds) (ds':=ds') () () λj u G d m M N D E=>by
     have g1:=(ik.mp D).1;have g2:=(ik.mp E).1;have k1:x[j]?=some (x[j]'()):=hV _;have k2:f[j]?=some (f[j]'()):=hV _;obtain⟨w1,z1,O⟩:=y.get k1;obtain⟨w2,z2,Q⟩:=g.get k2;rw[M]at z1;rw[N]at z2;cases z1;cases z2;exact U (J j d _ D k1) (k j m _ E k2) O Q
    have o:its.toArray.size=its'.toArray.size:=by simp only[List.size_toArray];lia
    refine#[_,SeqAt.RcAt.lists p.isList i.isList o l C,SeqAt.RcNeAt.lists p.isList i.isList o l C,?_];rw[Ib B (by simp only[List.size_toArray];lia) L];exact#[λz=>by rw[z],λz=>by cases z;rfl]
   .have o:(its.toArray.size != its'.toArray.size)=true:=by
     rw[bne_iff_ne];simp only[List.size_toArray];lia
    refine#[false,SeqAt.RcAt.lists_lengths p.isList i.isList o l,SeqAt.RcNeAt.lists_lengths p.isList i.isList o l,#[λz=>(by cases z),λz=>?_]];cases z;exact wC rZ B
  | @tup _ ds' _ f t w k=>
   obtain⟨its',g,i,_⟩:=I.tuple t;exact#[false,SeqAt.RcAt.list_tuple p.isList (show s.heap.IsTuple q _ from i) l,SeqAt.RcNeAt.list_tuple p.isList (show s.heap.IsTuple q _ from i) l,#[λz=>(by cases z),λz=>(by cases z)]]
 | @tup _ ds _ x h hl J=>
  obtain⟨its,y,p,_⟩:=I.tuple h;have l1:=y.length;cases T with
  | @lst _ ds' _ f t w k=>
   obtain⟨its',g,i,_⟩:=I.list t;exact#[false,SeqAt.RcAt.tuple_list (show s.heap.IsTuple a _ from p) i.isList l,SeqAt.RcNeAt.tuple_list (show s.heap.IsTuple a _ from p) i.isList l,#[λz=>(by cases z),λz=>(by cases z)]]
  | @tup _ ds' _ f t w k=>
   obtain⟨its',g,i,_⟩:=I.tuple t;have l2:=g.length;obtain⟨e,C,L⟩:=Fz (A:=A.in1) (s:=s) (its:=its) (its':=its') (ds:=ds) (ds':=ds') () () λj u G d m M N D E=>by
     have g1:=(ik.mp D).1;have g2:=(ik.mp E).1;have k1:x[j]?=some (x[j]'()):=hV _;have k2:f[j]?=some (f[j]'()):=hV _;obtain⟨w1,z1,O⟩:=y.get k1;obtain⟨w2,z2,Q⟩:=g.get k2;rw[M]at z1;rw[N]at z2;cases z1;cases z2;exact U (J j d _ D k1) (k j m _ E k2) O Q
   refine#[_,SeqAt.RcAt.tuples (show s.heap.IsTuple a _ from p) (show s.heap.IsTuple q _ from i) l C,SeqAt.RcNeAt.tuples (show s.heap.IsTuple a _ from p) (show s.heap.IsTuple q _ from i) l C,?_];by_cases B:ds.length=ds'.length
   .have o:(its.toArray.size==its'.toArray.size)=true:=by
     rw[beq_iff_eq];simp only[List.size_toArray];lia
    rw[o,Bool.and_true,Ib B (by simp only[List.size_toArray];lia) L];exact#[λz=>by rw[z],λz=>by cases z;rfl]
   .have o:(its.toArray.size==its'.toArray.size)=false:=by
     rw[u3];simp only[List.size_toArray];lia
    rw[o,Bool.and_false];refine#[λz=>(by cases z),λz=>?_];cases z;exact wC rZ B
def Ft{n m:Nat}{d b:Dt}{v a:V}(r:Rep X.K H n d v)(c:Rep X.K H m b a)(f:nV v=true)(e:nV a=true):(ql v a=true↔d=b):=by
 cases r<;>first|(cases f;done)|skip
 all_goals (cases c<;>first|(cases e;done)|skip)
 all_goals first|exact#[λ_=>rfl,λ_=>rfl]|exact#[λz=>Bool.noConfusion z,λz=>by cases z]|exact#[λz=>jv Dt.int (eq_of_beq z),λz=>by injection z with z;exact beq_iff_eq.mpr z]|exact#[λz=>jv Dt.str (eq_of_beq z),λz=>by injection z with z;exact beq_iff_eq.mpr z]
def Bj(I:Inv X Z c H s):∀(n:Nat) {A:Ar},A.units+n<cLine->∀{d w:Dt} {v l:V} {u y:Vl},Rep X.K H n d v->Rep X.K H n w l->RelV v u->RelV l y->∃b,SeqAt.EqAt A s u y b/\(b=true↔d=w):=by
 intro n
 induction n with
 |zero=>
  intro A L d w v l u y r g q j;have f:nV v=true:=by cases r<;>rfl
  have e:nV l=true:=by cases g<;>rfl
  exact#[_,BL q j f e,Ft r g f e]
 | succ n M=>
  intro A L d w v l u y r g q j;by_cases f:nV v=true
  .by_cases e:nV l=true
   .exact#[_,BL q j f e,Ft r g f e]
   .refine#[false,?_,#[λz=>(by cases z),λz=>?_]]
    .cases g with
     |non=>exact wC rZ e
     |int=>exact wC rZ e
     |str=>exact wC rZ e
     | @lst _ B a C h D E=>
      cases j;obtain⟨k,_,p,_⟩:=I.list h;cases r with
      |non=>cases q;exact SeqAt.EqAt.none_list p.isList ()
      |int _ i=>obtain⟨t,rfl⟩:=q;exact SeqAt.EqAt.int_list i t p.isList ()
      |str _ x=>obtain⟨t,rfl⟩:=q;exact SeqAt.EqAt.str_list x t p.isList ()
      |lst _ _ _=>cases f
      |tup _ _ _=>cases f
     | @tup _ B a C h D E=>
      cases j;obtain⟨k,_,p,_⟩:=I.tuple h;have o:s.heap.IsTuple a k.toArray:=p;cases r with
      |non=>cases q;exact SeqAt.EqAt.none_tuple o ()
      |int _ i=>obtain⟨t,rfl⟩:=q;exact SeqAt.EqAt.int_tuple i t o ()
      |str _ x=>obtain⟨t,rfl⟩:=q;exact SeqAt.EqAt.str_tuple x t o ()
      |lst _ _ _=>cases f
      |tup _ _ _=>cases f
    .subst z;cases r<;>first|(cases f;done)|skip
     all_goals (cases g;exact wC rZ e)
  .by_cases e:nV l=true
   .refine#[false,?_,#[λz=>(by cases z),λz=>?_]]
    .cases r with
     |non=>exact wC rZ f
     |int=>exact wC rZ f
     |str=>exact wC rZ f
     | @lst _ B a C h D E=>
      cases q;obtain⟨k,_,p,_⟩:=I.list h;cases g with
      |non=>cases j;exact SeqAt.EqAt.list_none p.isList ()
      |int _ i=>obtain⟨t,rfl⟩:=j;exact SeqAt.EqAt.list_int i t p.isList ()
      |str _ x=>obtain⟨t,rfl⟩:=j;exact SeqAt.EqAt.list_str x t p.isList ()
      |lst _ _ _=>cases e
      |tup _ _ _=>cases e
     | @tup _ B a C h D E=>
      cases q;obtain⟨k,_,p,_⟩:=I.tuple h;have o:s.heap.IsTuple a k.toArray:=p;cases g with
      |non=>cases j;exact SeqAt.EqAt.tuple_none o ()
      |int _ i=>obtain⟨t,rfl⟩:=j;exact SeqAt.EqAt.tuple_int i t o ()
      |str _ x=>obtain⟨t,rfl⟩:=j;exact SeqAt.EqAt.tuple_str x t o ()
      |lst _ _ _=>cases e
      |tup _ _ _=>cases e
    .subst z;cases g<;>first|(cases e;done)|skip
     all_goals (cases r;exact wC rZ f)
   .have G:∀{m:Nat} {d:Dt} {v:V},Rep X.K H m d v-> ¬nV v=true->∃a,v=.ref a:=λ{m d v} r f=>by
     cases r<;>first|exact#[_,rZ]|exact wC rZ f
    obtain⟨a,rfl⟩:=G r f;obtain⟨N,rfl⟩:=G g e;cases q;cases j;by_cases J:a=N
    .subst J;exact#[true,SeqAt.EqAt.same _,#[λ_=>Fs I (n+1) r g,λ_=>rfl]]
    .obtain⟨b,O,_,Q⟩:=CZ I (A:=A) () r g λr g q j=>M (A:=A.in1) (by show A.units+1+n<cLine;lia) r g q j;exact#[b,.of_refs J O,Q]
inductive nQ(K:O0)(c:Bool)(x y:V)(H:Hp)(Q:VK):Prop|mk:∀a e n d f,x=.ref a->y=.ref e->Rep K H (n+1) d (.ref a)->Rep K H (n+1) f (.ref e)->n<=30->(∀b,(b=true↔d=f)->Q (.bl (if c then !b else b)) H)->nQ K c x y H Q
def v8(l:X.A.units+64<cLine):OpR X (compareOp .Eq) (nQ X.K false):=by
 intro Z s c H x y v u Q I f g h;obtain⟨a,m,n,d,o,rfl,rfl,r,e,p,q⟩:=h;cases f;cases g;obtain⟨b,i,_,j⟩:=CZ I (A:=X.A) () r e λr e q k=>Bj I n (A:=X.A.in1) (by show X.A.units+1+n<cLine;lia) r e q k;exact i _ _ _ _ #[.bl b,H,I,rZ,q b j]
def ya(l:X.A.units+64<cLine):OpR X (compareOp .NotEq) (nQ X.K true):=by
 intro Z s c H x y v u Q I f g h;obtain⟨a,m,n,d,o,rfl,rfl,r,e,p,q⟩:=h;cases f;cases g;obtain⟨b,_,i,j⟩:=CZ I (A:=X.A) () r e λr e q k=>Bj I n (A:=X.A.in1) (by show X.A.units+1+n<cLine;lia) r e q k;exact i _ _ _ _ #[.bl (!b),H,I,rZ,q b j]
end
def G3{K:O0}{H:Hp}{n:Nat}{is:Zs}(i:Nat)(d:Dt)(v:V)(a:(is.map Dt.int)[i]?=some d)(b:(is.map V.int)[i]?=some v):Rep K H n d v:=by
 rw[iB]at a b;cases e:is[i]? with
 |none=>rw[e]at a;cases a
 |some k=>
  rw[e]at a b;cases a;cases b;exact .int n k
def B9{K:O0}{H:Hp}{n:Nat}{is:Zs}{a:Ad}(h:SqL K H a (is.map V.int)):Rep K H (n+1) (.lst (is.map Dt.int)) (.ref a):= .lst h (by simp) G3
def El{K:O0}{H:Hp}{n:Nat}{is:Zs}{a:Ad}(h:SqT K H a (is.map V.int)):Rep K H (n+1) (.tup (is.map Dt.int)) (.ref a):= .tup h (by simp) G3
theorem xB{e i:Type}{f:e->i}(g:∀a b,f a=f b->a=b):∀{c d:List e},c.map f=d.map f->c=d
 | [],[],_=>rfl
 | [],_::_,h=>by simp at h
 |_::_,[],h=>by simp at h
 |a::c,b::d,h=>by
  simp only[List.map_cons,List.cons.injEq]at h;rw[g a b h.1,xB g h.2]
def qr{c d:Zs}:Dt.tup (c.map Dt.int)=Dt.tup (d.map Dt.int)↔c=d:=
 #[λh=>by injection h with h;exact xB (λa b e=>by injection e) h,λh=>by rw[h]]
def oj(n:Nat):List V:=(List.range n).map λ(i:Nat)=>V.int (i:Int)
section
variable{X:Cx}
inductive rf(a:List V)(H:Hp)(Q:VK):Prop|mk:∀j:Int,a=[.int j]->(∀p,H p=none->Q (.ref p) (hA H p (.rng 0 j)))->rf a H Q
def DP:CallR X (.type "range") rf:=by
 intro Z s a H c d Q I r h;obtain⟨j,rfl,q⟩:=h;obtain⟨u,rfl,t,rfl⟩:=m7 r;refine call_range_1 #[.ref s.heap.objs.size,_,I.laid (t':=s.toks+1+1) (λb o e=>iG _ e) (ig _) (show ObjOk X.prog X.w _ _ _ (.rng 0 j)from#[_,_,_,jp _ rZ]),rZ,q _ (I.hok.fresh (ig _))]
def FW{n:Nat}{f:AV}(h:ItemsOf (λi v=>∃t,v=Value.int ((0:Int)+(i:Nat) * 1) t) f n):Vals (oj n) f.toList:=by
 obtain⟨l,m⟩:=h;have go:∀(d:List V) (c:Vs),d.length=c.length->(∀(j:Nat) x u,d[j]?=some x->c[j]?=some u->RelV x u)->Vals d c:=by
  intro d
  induction d with
  |nil=>intro c g _;cases c with
   |nil=>exact .nil
   |cons=>simp at g
  |cons x d o=>
   intro c g h;cases c with
   |nil=>simp at g
   |cons u c=>exact .cons (h 0 x u rZ rZ) (o c (by simpa using g) λj a b e k=>h (j+1) a b (by simpa using e) (by simpa using k))
 refine go _ _ (by simp[oj,l]) λj x u e k=>?_;obtain⟨t,rfl⟩:=m j u (by simpa using k);unfold oj at e;rw[iB]at e;have p:j<n:=by
  have:=(ik.mp k).1;simpa[l]using this
 rw[wT p]at e;cases e;refine#[t,?_]
 congr 1
 lia
def Ho{j:Int}(a:0<=j)(b:j<=1000000):Builtin.Range.small 0 j 1=true:=small_one (by decide) (by decide) () ()
def E6{j:Int}(a:0<=j):Builtin.Range.rangeSize 0 j 1=(j.toNat:Nat):=by
 rw[rangeSize_one];split<;>lia
inductive nO(a:List V)(H:Hp)(Q:VK):Prop|mk:∀p j,a=[.ref p]->H p=some (.rng 0 j)->0<=j->j<=1000000->(∀l,H l=none->Q (.ref l) (hA H l (.lst (oj j.toNat))))->nO a H Q
def K8(g:X.calm=true):CallR X (.type "list") nO:=by
 intro Z s w H x y Q I r h;obtain⟨p,j,rfl,i,c,k,q⟩:=h;obtain⟨u,rfl,l⟩:=m7 r;cases l;obtain⟨z,A,B,e⟩:=I.hok p _ i;refine call_list_range (I.ok.hd g) e (Ho c k) (E6 c) () λd m a f n o b=>?_;have t:=FW b;have v:d.get? s.heap.objs.size=some {cls:= .type "list",data:= .seq a.toList.toArray f}:=by simpa using o
 exact#[.ref s.heap.objs.size,_,I.laid (t':=m) n (ig _) (show ObjOk X.prog X.w _ d _ (.lst (oj j.toNat))from#[by rw[iR];simp[oj];lia,a.toList,f,t,v]),rZ,q _ (I.hok.fresh (Nat.le_refl _))]
end
section
open AutoSeq1 (wpAny_loadPart')
abbrev By(j:Int)(a:AV):Prop:=ItemsOf (λi v=>∃t,v=Value.int ((0:Int)+(i:Nat) * 1) t) a j.toNat
def Op{k:Pg}{w:World}{A:Ar}{E:VP}{s:Sh}{Q:Vs->Sh->Prop}{r:Ad}{j:Int}{t u v:Tok}(C:A.handled=none)(y:IsRange s.heap r 0 j 1 t u v)(B:0<=j)(D:j<=1000000)(G:∀d i c,(∀b o,s.heap.get? b=some o->d.get? b=some o)->By j c->Q c.toList {s with heap:=d,toks:=i}):wpAny (model k w) A (collect (.ref r)) Q E s:=by
 have H:(s.heap.push {cls:= .type "list",data:= .seq ([]:Vs).toArray}).get? s.heap.objs.size=some {cls:= .type "list",data:= .seq #v[] 0}:=by exact jp _ rfl
 unfold collect;refine wpAny_bind (wpAny_runValue (codeAny_builtin F.entry_proto_collect ?_));rw[Around.under_plainId F.plain_proto_collect _];show wpAny _ A.in1 (newList [] >>= λl=>again (.builtin "list.__iadd__" #[[l,.ref r],[]])) _ _ s;refine f' (pC (hI #[pN F.plain_list_iadd _,ot F.entry_list_iadd ?_]));rw[pO F.plain_list_iadd _];show wpAny _ A.in1 (Builtin.List.listExtendWith (.ref s.heap.objs.size) (.ref r) (.ref s.heap.objs.size)) _ _ _;have m:∀n,(∃d i c p,n={s with heap:=d,toks:=i}/\(∀b o,s.heap.get? b=some o->d.get? b=some o)/\d.get? s.heap.objs.size=some {cls:= .type "list",dict:=none,data:= .seq c p,slots:= #v[]}/\By j c)->
   wpAny (model k w) A (match Value.ref s.heap.objs.size with
    | Value.ref a=>do
     let o <-load a
     match o.data with
      |Data.seq I _=>pure I.toList
      |_=>unsupported "internal:collect"
    |_=>unsupported "internal:collect") Q E n:=by
  rintro n ⟨d,i,c,p,rfl,z,q,x⟩;show wpAny _ A (load s.heap.objs.size >>= _) _ _ _;exact f' (wpAny_load q (hI (G d i c z x)))
 refine ke (wpAny_extend_range (A:=A) (R:=λr n=>r=.ok (.ret (.ref s.heap.objs.size))/\∃d i c p,n={s with heap:=d,toks:=i}/\(∀b o,s.heap.get? b=some o->d.get? b=some o)/\d.get? s.heap.objs.size=some {cls:= .type "list",dict:=none,data:= .seq c p,slots:= #v[]}/\By j c)
  (s:={s with heap:=s.heap.push {cls:= .type "list",data:= .seq ([]:Vs).toArray}}) C (iG _ y) (Ho B D) (E6 B) () _ (.ref s.heap.objs.size) 0 H λd i c p z q x=>
   #[rZ,d,i,c,p,rZ,λb o e=>z b o (i6 (iu e)) (iG _ e),q,x]) (λfin n h=>?_) (λe n h=>wC h.1 (by simp))
 cases fin with
 |done f=>obtain⟨e,g⟩:=h;cases e;exact m _ g
 |again p=>exact#[h.1,nG h.2 λr J y=>by obtain⟨rfl,g⟩:=y;exact m _ g]
def KS(r:Ad)(j:Int)(t u v:Tok)(q:0<=j)(x:j<=1000000):Meets (Builtin.«tuple.__new__» #[[.type "tuple",.ref r],[]]) (λA R s=>A.handled=none/\IsRange s.heap r 0 j 1 t u v/\∀(c:Heap) i a,(∀b o,s.heap.get? b=some o->c.get? b=some o)->By j a->
   R (.ok (.ret (.ref c.objs.size))) {s with heap:=c.push {cls:= .type "tuple",data:= .seq a},toks:=i}):=
 .of_wp λn w A R s h=>by
  obtain⟨y,g,d,i,os⟩:=s;obtain⟨z,k,h⟩:=h;have p:=sub_tuple_self;have l:=init_tuple_lookup;have B:=madeHere_tuple
  have hT:Shared.TypeIs #[y,g,d,i,os] (.ref r) "range":=#[_,k,rZ]
  wp_walk using Ds k,wpAny_typeOf hT,Op (A:=A.in1) z k q x
  intro c m a C f;show wpAny _ _ (Builtin.Tuple.tupleExact a.toList.toArray >>= λv=>ret v) _ _ _;have D:a.toList.toArray.size<=sizeLine:=by
   have:=f.1;rw[iR];simp only[List.size_toArray,Array.length_toList];lia
  unfold Builtin.Tuple.tupleExact;refine wpAny_bind (wpAny_newObj_type (wpAny_pure #[_,rZ,?_]) D);have e:a.toList.toArray=a:=by simp
  rw[e];exact h c m a C f
end
section
variable{X:Cx}
inductive pd(a:List V)(H:Hp)(Q:VK):Prop|mk:∀p j,a=[.ref p]->H p=some (.rng 0 j)->0<=j->j<=1000000->(∀l,H l=none->Q (.ref l) (hA H l (.tup (oj j.toNat))))->pd a H Q
def FO(k:X.calm=true):CallR X (.type "tuple") pd:=by
 intro Z s g H C D Q I r h;obtain⟨p,j,rfl,l,m,n,q⟩:=h;obtain⟨u,rfl,t⟩:=m7 r;cases t;obtain⟨v,w,x,e⟩:=I.hok p _ l;refine callType_new F.called_tuple (by decide) (F.typeCall_tuple_1 _) (F.newCall_tuple_1 _) (λobj=>F.args_object_init_2 obj _) F.entry_tuple_new (KS p j v w x m n) #[I.ok.hd k,e,λc d a y f=>#[#[_,jp _ rZ,rZ],?_]];have z:=FW f;have i:Inv X Z g H {s with heap:=c,toks:=d}:=I.kept y;have A:(oj j.toNat).length<=sizeLine:=by rw[iR];simp[oj];lia
 have B:Inv X Z g (hA H c.objs.size (.tup (oj j.toNat))) {s with heap:=c.push {cls:= .type "tuple",data:= .seq a},toks:=d}:=
  i.laid (t':=d) (λb o e=>iG _ e) (ig _) (show ObjOk X.prog X.w _ _ _ (.tup (oj j.toNat))from#[A,a.toList,z,by simpa using TupD.new c a])
 exact#[.ref c.objs.size,_,B,rZ,q _ (i.hok.fresh (ig _))]
inductive yP(K:O0)(a:List V)(H:Hp)(Q:VK):Prop|mk:∀x n t b,a=[x,.ty n]->TyOf K H x t->PySem.W.kitOne K t (.type n)=some b->Q (.bl b) H->yP K a H Q
def yL:CallR X (.builtin "isinstance") (yP X.K):=by
 intro Z s f H g i Q I r h;obtain⟨x,n,t,b,rfl,ty,e,q⟩:=h;obtain⟨u,j,rfl,a,c⟩:=zY r;cases c;exact MF I a ty e λd=>#[.bl b,H,I.tok d,rZ,q]
end
structure CompSc(N:Ss)(osc:Scope)(vs:Ss)(sc:Scope):Prop where
 kind:sc.kind=.function:=by rfl
 cell:∀y∈sc.names,y.2≠ .cell:=by decide+kernel
 locs:∀y∈sc.names,y.2=.local->sc.names.lookup y.1=some .local:=by decide+kernel
 own:∀y∈N.map (me vs),sc.names.lookup y≠some .local:=by decide+kernel
 hid:∀y∈vs,sc.names.lookup (wX y)=none:=by decide+kernel
 nd:(vs++N.map (me vs)).Nodup:=by decide+kernel
 free:∀y∈sc.names,y.2=.free->osc.names.lookup y.1=some .cell\/osc.names.lookup y.1=some .free:=by decide+kernel
def CompSc.to{X:Cx}{N:Ss}{osc:Scope}{vs:Ss}{a:Scope}(h:CompSc N osc vs a)(b:X.N=N:=by rfl)(c:X.env.scope=osc:=by rfl):CompScope X vs a:=by
 subst b c;exact#[h.kind,h.cell,h.locs,h.own,h.hid,h.nd,h.free]
def iD(P:Pg)(w:World)(K:O0)(mg:SV)(base:Heap)(x:Str)(k:Nat)(a:Ss)(c:Sp):Prop:=
 ∃f b,FnOk P w K mg base iF k f b a c/\mg x=some (.ref f)/\PySem.W.keepIn K (.ref f)=true/\Binds K b a []
def jc{X:Cx}{x:Str}{k:Nat}{h:Ss}{g:Sp}{e:Expr}{a:List Expr}{t:TA}{p d:Pos}(c:iD X.prog X.w X.K X.mg X.base x k h g)(i:Room k X.A)(j:Gl X x)(l:PA X (e::a) t)(n:(x==("__debug__":Str))=false:=by decide) (o:starEach (e::a) X.env=(false,eval e X.env)::starEach a X.env:=by rfl) (q:(backTo d (starEach a X.env)).any (·.1)=false:=by rfl):
  PE X (.Call (.Name x p) (e::a) [] d) (uo g [] E0 t):=by
 obtain⟨f,s,F,m,r,b⟩:=c;exact Dm F i j m r b .nil Hw l n o q
def zx{X:Cx}{x:Str}{n:String}{a:Pos}(b:Gl X x)(c:X.mg x=none)(d:bootBuiltins x=some (.type n))(e:x≠"__name__":=by decide)(f:(x==("__debug__":Str))=false:=by decide):PE X (.Name x a) (tC (.ty n)):=
 N2 (v:= .ty n) b c d (show RelV (.ty n) (.type n)from rfl) e f
def IxR.k{X:Cx}{K:O0}(r:O0->R2)(h:IxR X (r X.K))(a:X.K=K):IxR X (r K):=a▸h
def OpR.k{X:Cx}{K:O0}{f:Vl->Vl->Sem Vl}(r:O0->R2)(h:OpR X f (r X.K))(a:X.K=K):OpR X f (r K):=a▸h
def CallR.k{X:Cx}{K:O0}{f:Vl}(r:O0->List V->Hp->VK->Prop)(h:CallR X f (r X.K))(a:X.K=K):CallR X f (r K):=a▸h
abbrev Lb(K:O0):List V->Hp->VK->Prop:=λb H Q=>∃p a,b=[.ref p]/\(SqL K H p a\/SqT K H p a)/\∀l,H l=none->Q (.ref l) (hA H l (.lst a))
abbrev Lr(K:O0):List V->Hp->VK->Prop:=λb H Q=>∃p a,b=[.ref p]/\((SqL K H p a/\∀l,H l=none->Q (.ref l) (hA H l (.tup a)))\/(SqT K H p a/\Q (.ref p) H))
def iq{H:Hp}{p:Ad}(h:H p=none)(o:HO):Same H (hA H p o):=λb u q=>by rw[hK (jf q h)];exact q
def small{n:Nat}(h:n<=1000):n<=sizeLine:=nZ (ID h)
abbrev nv(n:Nat):V:= .int (n:Int)
def je(a:g9):a.map nv=(a.map λ(n:Nat)=>(n:Int)).map V.int:=by rw[mJ];rfl
def ML{c d:g9}:(c.map λ(n:Nat)=>(n:Int))=(d.map λ(n:Nat)=>(n:Int))↔c=d:=
 #[λh=>xB (λa b e=>Int.ofNat.inj e) h,λh=>by rw[h]]
def zb{K:O0}{H:Hp}{n:Nat}{is:g9}{a:Ad}(h:SqL K H a (is.map nv)):Rep K H (n+1) (.lst ((is.map λ(n:Nat)=>(n:Int)).map Dt.int)) (.ref a):=B9 (by rw[<-je];exact h)
def mL{K:O0}{H:Hp}{n:Nat}{is:g9}{a:Ad}(h:SqT K H a (is.map nv)):Rep K H (n+1) (.tup ((is.map λ(n:Nat)=>(n:Int)).map Dt.int)) (.ref a):=El (by rw[<-je];exact h)
def iy{a b:g9}:Dt.tup ((a.map λ(n:Nat)=>(n:Int)).map Dt.int)=Dt.tup ((b.map λ(n:Nat)=>(n:Int)).map Dt.int)↔a=b:=qr.trans ML
def xL{a:g9}{k:Nat}(h:k<a.length):oC (a.map nv) (k:Int)=some (nv (a.getD k 0)):=r6 (by rw[iB,hV h,j6,hV h];rfl)
def tF(H:Hp)(b:List V)(Q:VK):Prop:=∀r a,Same H a->a r=some (.tup b)->Q (.ref r) a
def Cq(t:TS):TS:=λD c H=>∃S:St->Hp->Prop,t {D with nx:=S} c H/\∀a b,S a b->D.nx a b
def BU{X:Cx}{st:Stmt}{t:TS}(h:PS X st t):PS X st (Cq t):=by
 intro Z s c H D I q;obtain⟨S,d,e⟩:=q;refine ie (h Z s c H _ I d) λf i z=>?_;cases f with
 |next=>obtain⟨a,b,g,z⟩:=z;exact#[a,b,g,e a b z]
 |brk=>exact z
 |cont=>exact z
 |ret u=>exact z
def oU{H a:Hp}{l:Ad}{o:HO}(g:Same H a)(c:H l=none):Same H (hA a l o):=λb u e=>by rw[hK (jf e c)];exact g b u e
def Oa{a:Zs}{k:Nat}(h:k<a.length):oC (a.map V.int) (k:Int)=some (.int (a.getD k 0)):=r6 (by rw[iB,hV h,j6,hV h];rfl)
def Bd{n k:Nat}(h:k<n):td n (k:Int)=some k:=by
 unfold td;rw[wB (),wB (),rc]
def zk(c:Int){n:Nat}(h:1<=n):V.int (c%(n:Int))=nv (c%(n:Int)).toNat/\(c%(n:Int)).toNat<n:=by
 have a:=yA c (by lia:(n:Int)≠0);have b:=Bu c (by lia:(0:Int)<(n:Int));refine#[?_,()];show V.int _=V.int (((c%(n:Int)).toNat:Nat):Int);rw[Int.toNat_of_nonneg a]
def AB(a:g9)(j v:Nat):(a.map nv).set j (nv v)=(a.set j v).map nv:=(List.map_set).symm
def AZ{a:g9}{j v n:Nat}(h:∀y∈a,y<n)(b:v<n):∀y∈a.set j v,y<n:=by
 intro y c
 rcases List.mem_or_eq_of_mem_set c with z|z
 .exact h y z
 .rw[z];exact b
def wK{a:g9}{j n:Nat}(h:∀y∈a,y<n)(b:j<a.length):a.getD j 0<n:=by
 rw[j6,hV b];exact h _ (qb b)
def Ir{K:O0}:PySem.W.kitOne K (.type "int") (.type "int")=some true:=by rfl
def Fc{K:O0}:PySem.W.kitOne K (.type "int") (.type "bool")=some false:=by rfl
def NQ{P:Pg}{w:World}{a:Ad}{c:Type}[DecidableEq c]{kd:HeapKind P w c}(d:(a==sysModules)=false):
  MeetsIn P w (Builtin.«dict.__len__» #[[.ref a],[]]) λ_ R s=>∃b,s.heap.DictOfH kd a b/\R (.ok (.ret (.int b.length s.toks))) {s with toks:=s.toks+1}:=
 .of_wp λA R s ⟨b,e,q⟩=>by
  obtain⟨k,f,l,g,m,h,i,_⟩:=e;have j:f.size=b.length:=A1 i;show wpAny _ _ (dictSize a >>= _) _ _ s;unfold dictSize;refine f' (f' (vC g h (hI (f' (wpAny_pendingCount_other d (wpAny_ret_mkInt ?_))))));rw[zg,j];exact q
def OC{P:Pg}{w:World}{A:Ar}{E:VP}{s:Sh}{a:Ad}{c:Type}[DecidableEq c]{e:HeapKind P w c}{b:List (c×Ad×Vl)}{Q:VP}(f:(a==sysModules)=false)(d:s.heap.DictOfH e a b) (few:(b.length:Int)<2 ^ 63) (q:Q (.int b.length (s.toks+1)) {s with toks:=s.toks+1+1}):wpAny (model P w) A (Builtin.«len» #[[.ref a],[]]) (λfin g=>∃r,fin=.done (.ret r)/\Q r g) E s:=by
 have h: ¬((b.length:Nat):Int)<0:=by lia
 have i: ¬((b.length:Nat):Int)>=2 ^ 63:=by lia
 unfold Builtin.«len»;refine f' (m:=oneArg "len" _) (hI (f' (m:=callSpecial? (.ref a) (Str.ofString "__len__")) ?_));refine rV (name:=Str.ofString "__len__") d.typeIs F.slot_dict_len (call_meetsIn F.slot_dict_len d.typeIs F.entry_dict_len (F.args_dict_len_1 _) (NQ (kd:=e) f) #[b,d,?_]);show wpAny _ _ _ _ _ {s with toks:=s.toks+1};refine f' (lL (hI (f' (vq ?_))));show wpAny _ _ (if((b.length:Nat):Int)<0 then _ else(if((b.length:Nat):Int)>=2 ^ 63 then _ else _)) _ _ _;rw[wA h,wA i];exact f' (wpAny_mkInt (hI #[_,rZ,q]))
section
variable{X:Cx}
def Jm:CallR X (.builtin "len") (λd H Q=>∃a b,d=[V.ref a]/\H a=some (.dT b)/\Q (.int b.length) H):=by
 intro Z s l H d m Q I r h;obtain⟨a,b,rfl,f,q⟩:=h;obtain⟨u,rfl,g⟩:=m7 r;cases g;obtain⟨z,i,j,c,k⟩:=DQ I.hok f;have e:b.length=j.length:=r3 c;refine Ek kind_len plain_len entry_len (args_len1 _) (OC i k (by rw[<-e];rw[iR]at z;lia) ?_);exact#[.int b.length,H,I.tok _,#[_,by rw[e]],q]
end
def nk(a:g9):List iH:=a.map λ(n:Nat)=>(Sum.inl (n:Int):iH)
def nL(a:g9):(nk a).map kV=a.map nv:=by
 unfold nk;rw[mJ];rfl
def uc{c d:g9}(h:nk c=nk d):c=d:=by
 unfold nk at h;exact xB (λa b e=>by injection e with e;exact Int.ofNat.inj e) h
section
variable{X:Cx}
inductive qc(K:O0)(x y:V)(H:Hp)(Q:VK):Prop|mk:∀l b a c,x=.ref l->y=.ref b->SqL K H l a->SqL K H b c->a.length+c.length<=sizeLine->(∀p,H p=none->Q (.ref p) (hA H p (.lst (a++c))))->qc K x y H Q
def BX:OpR X (binaryOp .Add) (qc X.K):=by
 intro Z s E H x y v u Q I p t h;obtain⟨l,b,G,J,rfl,rfl,w,z,L,q⟩:=h;cases p;cases t;obtain⟨c,r,⟨⟨c1,M,k1,A⟩,n,e,i,j,k⟩,_⟩:=I.list w;obtain⟨a,m,⟨⟨c2,N,k2,B⟩,C,o,d,f,g⟩,_⟩:=I.list z;simp only at i j k d f g;subst i j k d f g;have l1:=r.length;have l2:=m.length;have D:c.toArray++a.toArray=(c++a).toArray:=by simp
 refine concat_meets #[_,e,rZ] #[_,o,rZ] noFill_list_add seq_list_add F.slot_list_add F.entry_list_add (F.args_list_add_2 _ _) (list_addW l b c.toArray a.toArray n C none none A B (by simp only[List.size_toArray];lia)) #[e,o,?_];rw[D];exact#[.ref _,_,I.lnew (t':=s.toks) (r.append m) (by rw[jk];lia),rZ,q _ I.fresh]
end
section
variable{X:Cx}
inductive yk(K:O0)(a:List V)(H:Hp)(Q:VK):Prop|mk:∀(p:Ad) (bs:List Bool),a=[.ref p]->SqL K H p (bs.map V.bl)->Q (.bl (bs.all id)) H->yk K a H Q
def Ld(n:X.calm=true):CallR X (.builtin "all") (yk X.K):=by
 intro Z s G H J L Q I r h;obtain⟨p,bs,rfl,t,q⟩:=h;obtain⟨u,rfl,w⟩:=m7 r;cases w;obtain⟨a,g,j,_⟩:=I.list t;have k:=j.isList;have f:p<s.heap.objs.size:=j.lt;have c:a.length=bs.length:=by rw[<-g.length,hJ]
 refine call_all_walk (xz k #[_,_,_,_,_,_,λi=>bs.getD i false,rZ,Walks.list (A:=X.A.in1) (I.ok.hd n) _ p (i6 f) a.toArray,#[#[_,jp _ rZ,rZ,rZ],k.push _],?_,λM N y=>?_])
 .intro i v O T U B C;have d:a[i]?=some v:=by simpa using B
  have l:i<bs.length:=by rw[<-c];exact(ik.mp d).1
  obtain⟨Y,m,D⟩:=g.get (i:=i) (x:= .bl (bs.getD i false)) (by rw[iB,hV l,j6,hV l];rfl);rw[d]at m;cases m;cases(show v=Value.bool _ from D);exact ti C
 .have e:(List.range a.toArray.size).all (λi=>bs.getD i false)=bs.all id:=by
   rw[i8,c];have:bs=(List.range bs.length).map λi=>bs.getD i false:=by
    refine xi (by simp) λi E h2=>?_;simp[List.getD_eq_getElem?_getD,E]
   conv=>rhs;rw[this,List.all_map]
   rfl
  rw[e];exact#[.bl (bs.all id),H,I.kept λb o z=>y b o (by simp only[List.mem_singleton];exact Nat.ne_of_lt (Heap.lt_size z)) (Heap.get?_push_of_some _ z),rZ,q]
abbrev TJ:=Str->St->Hp->(Str->Hp->Prop)->Prop
def PJ(X:Cx)(d:List Expr)(t:TJ):Prop:=∀(Z:AO) (s:Sh) (b:St) (H:Hp) (a:Str) (Q:Str->Hp->Prop),Inv X Z b H s->t a b H Q->
 wpAny (model X.prog X.w) X.A (joinParts a (evalEach d X.env)) (λu e=>∃x c,Inv X Z b c e/\RelV (.str x) u/\Q x c) X.xe s
def D7:TJ:=λa _ H Q=>a.length<=sizeLine/\Q a H
def Ec(x:Str)(t:TJ):TJ:=λa b H Q=>(a++x).length<=sizeLine/\t (a++x) b H Q
def Cn(c:TE)(t:TJ):TJ:=λa b H Q=>c b H λv d=>∃i:Int,v=.int i/\i.natAbs.log2<1920/\(a++Str.ofString (toString i)).length<=sizeLine/\t (a++Str.ofString (toString i)) b d Q
def N0:PJ X [] D7:=λZ s b H a Q I h=>joinParts_nil #[a,H,I.tok _,#[_,rZ],h.2] h.1
def MI{x:Str}{j:Nat}{a:Pos}{b:List Expr}{t:TJ}(d:PJ X b t):PJ X (.Constant (.str x) j a::b) (Ec x t):=by
 intro Z s e H c Q I h;show wpAny _ _ (joinParts c (eval (.Constant (.str x) j a) X.env::evalEach b X.env)) _ _ s;exact joinParts_cons (Calls.Constant_str #[h.1,d Z _ e H _ Q (I.tok _) h.2])
def Ko{e:Expr}{a:Pos}{b:List Expr}{d:TE}{t:TJ}(g:PE X e d)(j:PJ X b t):PJ X (.FormattedValue e (-1) none a::b) (Cn d t):=by
 intro Z s f H c Q I h;show wpAny _ _ (joinParts c (eval (.FormattedValue e (-1) none a) X.env::evalEach b X.env)) _ _ s;refine joinParts_cons (FormattedValue_plain (ie (g Z s f H _ I h) λv r ⟨y,k,l,m,i,n,o,p,q⟩=>?_));subst n;obtain⟨u,rfl⟩:=m;exact formatField_int_small o #[p,j Z _ f k _ Q (l.tok _) q]
def Kd{c d:Expr}{e:List Expr}{a:Pos}{t:TJ}(h:PJ X (c::d::e) t):PE X (.JoinedStr (c::d::e) a) (λb H Q=>t Str.empty b H λx f=>Q (.str x) f):=by
 intro Z s b H Q I g;exact JoinedStr_many (ie (h Z s b H Str.empty _ I g) λu k ⟨x,i,j,r,q⟩=>#[.str x,i,j,r,q])
end
structure PL(X:Cx)(es:List Expr)(t:TA):Prop where
 pa:PA X es t
section
variable{X:Cx}{e a b:Expr}{c:List Expr}{d i g:TE}{t:TA}{f:Pos}
def iQ:PL X [] pr:=#[im]
def hX(a:PE X e d)(b:PL X c t)(f:starEach (e::c) X.env=(false,eval e X.env)::starEach c X.env):PL X (e::c) (oq d t):=#[ir a b.pa f]
def iP(h:PL X c t):PA X c t:=h.pa
end
end L2
namespace PySem
def Runs.det{M:Model}{Γ:Ctx}{p:Pos}{t:Sem Fin}{fs:List Frame}{s:Sh}{e:End}{z:Sh}(A:Runs M Γ p t fs s e z):∀{l:End} {m:Sh},Runs M Γ p t fs s l m->e=l/\z=m:=by
 induction A with
 |done=>intro l m a;cases a;exact#[rZ,rZ]
 |raise=>intro l m a;cases a;exact#[rZ,rZ]
 |again q h d=>intro l m a;cases a with|again y a=>exact d a
 |rule h d=>intro l m a;cases a with|rule a=>exact d a
 |«at» h d=>intro l m a;cases a with|«at» a=>exact d a
 |load e h d=>intro l m a;cases a with|load w a=>rw[e]at w;cases w;exact d a
 |update e h d=>intro l m a;cases a with|update w a=>exact d a
 |loadIfAlive h d=>intro l m a;cases a with|loadIfAlive a=>exact d a
 |point h d=>intro l m a;cases a with|point a=>exact d a
 |alloc h d=>intro l m a;cases a with|alloc a=>exact d a
 |fresh h d=>intro l m a;cases a with|fresh a=>exact d a
 |ask h d=>intro l m a;cases a with|ask a=>exact d a
 |choose n h d=>intro l m a;cases a with|choose B a=>exact d a
 |os h d=>intro l m a;cases a with|os a=>exact d a
 |handled h d=>intro l m a;cases a with|handled a=>exact d a
 |genState e h d=>intro l m a;cases a with|genState w a=>rw[e]at w;cases w;exact d a
 |stack h d=>intro l m a;cases a with|stack a=>exact d a
 |thread h d=>intro l m a;cases a with|thread a=>exact d a
 |newGen h d=>intro l m a;cases a with|newGen a=>exact d a
 |call h k i o=>
  intro l m a;cases a with
  |call f c=>obtain⟨j,u⟩:=i f;cases j;cases u;exact o c
  |callSusp f=>obtain⟨j,_⟩:=i f;cases j
 |callSusp h d=>
  intro l m a;cases a with
  |call f c=>obtain⟨j,_⟩:=d f;cases j
  |callSusp f=>obtain⟨j,u⟩:=d f;cases j;cases u;exact#[rZ,rZ]
 |yield=>intro l m a;cases a;exact#[rZ,rZ]
 |resumeFresh g h q k i o=>
  intro l m a;cases a with
  |resumeFresh b f r c=>rw[g]at b;cases b;obtain⟨j,u⟩:=i f;cases j;cases u;exact o c
  |resumeSuspended b f r c=>rw[g]at b;cases b
  |resumeJustStarted b x c=>exact wC rZ x
  |resumeRunning b c=>rw[g]at b;cases b
  |resumeFinished b c=>rw[g]at b;cases b
 |resumeSuspended g h q k i o=>
  intro l m a;cases a with
  |resumeFresh b f r c=>rw[g]at b;cases b
  |resumeSuspended b f r c=>rw[g]at b;cases b;obtain⟨j,u⟩:=i f;cases j;cases u;exact o c
  |resumeJustStarted b x c=>rw[g]at b;cases b
  |resumeThrowFresh b c=>rw[g]at b;cases b
  |resumeRunning b c=>rw[g]at b;cases b
  |resumeFinished b c=>rw[g]at b;cases b
 |resumeJustStarted g v k d=>
  intro l m a;cases a with
  |resumeFresh b f r c=>exact wC rZ v
  |resumeSuspended b f r c=>rw[g]at b;cases b
  |resumeJustStarted b x c=>exact d c
  |resumeRunning b c=>rw[g]at b;cases b
  |resumeFinished b c=>rw[g]at b;cases b
 |resumeThrowFresh g k d=>
  intro l m a;cases a with
  |resumeSuspended b f r c=>rw[g]at b;cases b
  |resumeThrowFresh b c=>exact d c
  |resumeRunning b c=>rw[g]at b;cases b
  |resumeFinished b c=>rw[g]at b;cases b
 |resumeRunning g k d=>
  intro l m a;cases a with
  |resumeFresh b f r c=>rw[g]at b;cases b
  |resumeSuspended b f r c=>rw[g]at b;cases b
  |resumeJustStarted b x c=>rw[g]at b;cases b
  |resumeThrowFresh b c=>rw[g]at b;cases b
  |resumeRunning b c=>exact d c
  |resumeFinished b c=>rw[g]at b;cases b
 |resumeFinished g k d=>
  intro l m a;cases a with
  |resumeFresh b f r c=>rw[g]at b;cases b
  |resumeSuspended b f r c=>rw[g]at b;cases b
  |resumeJustStarted b x c=>rw[g]at b;cases b
  |resumeThrowFresh b c=>rw[g]at b;cases b
  |resumeRunning b c=>rw[g]at b;cases b
  |resumeFinished b c=>exact d c
 |segRet h k i o=>
  intro l m a;cases a with
  |segRet f c=>obtain⟨j,u⟩:=i f;cases j;cases u;exact o c
  |segSuspOut q f=>obtain⟨j,_⟩:=i f;cases j
  |segSuspGen q f y c=>obtain⟨j,_⟩:=i f;cases j
 |segGen h k i o=>
  intro l m a;cases a with
  |segGen f c=>obtain⟨j,u⟩:=i f;cases j;cases u;exact o c
  |segSuspOut q f=>obtain⟨j,_⟩:=i f;cases j
  |segSuspGen q f y c=>obtain⟨j,_⟩:=i f;cases j
 |segSuspOut q h d=>
  intro l m a;cases a with
  |segRet f c=>obtain⟨j,_⟩:=d f;cases j
  |segGen f c=>obtain⟨j,_⟩:=d f;cases j
  |segSuspOut r f=>obtain⟨j,u⟩:=d f;cases j;cases u;exact#[rZ,rZ]
  |segSuspGen r f y c=>rw[q]at r;cases r
 |segSuspGen q h y k i o=>
  intro l m a;cases a with
  |segRet f c=>obtain⟨j,_⟩:=i f;cases j
  |segGen f c=>obtain⟨j,_⟩:=i f;cases j
  |segSuspOut r f=>rw[q]at r;cases r
  |segSuspGen r f C c=>rw[q]at r;cases r;obtain⟨j,u⟩:=i f;cases j;cases u;exact o c
def Wakes.det{M:Model}{Γ:Ctx}{p:Pos}{g:Nat}{r:Resume}{s:Sh}{i d:GenResult}{j k:Sh}(f:Wakes M Γ p g r s i j)(h:Wakes M Γ p g r s d k):i=d/\j=k:=by
 have l:∀{Γ':Ctx} {m:Pos} {n:Sem Fin} {fs:List Frame} {o:Sh},(∃a b,Runs M Γ' m n fs o a b/\a.quiet=true/\i=a.result/\j=b.setGen g a.genState)->(∃a b,Runs M Γ' m n fs o a b/\a.quiet=true/\d=a.result/\k=b.setGen g a.genState)->i=d/\j=k:=by
  intro _ _ _ _ _ ⟨w,y,a1,_,a3,a4⟩ ⟨z,A,q,_,t,u⟩;obtain⟨z1,z2⟩:=a1.det q;subst z1 z2;exact#[a3.trans t.symm,a4.trans u.symm]
 unfold Wakes at f h;cases e:s.gens[g]? with
 |none=>rw[e]at f;exact f.elim
 | some st=>
  rw[e]at f h;cases st with
  |fresh c=>
   cases r with
   |send v=>cases v<;>first|exact l f h|exact#[f.1.trans h.1.symm,f.2.trans h.2.symm]
   |throw x=>exact#[f.1.trans h.1.symm,f.2.trans h.2.symm]
  |suspended B C D E fs G=>exact l f h
  |running=>exact#[f.1.trans h.1.symm,f.2.trans h.2.symm]
  |finished=>exact#[f.1.trans h.1.symm,f.2.trans h.2.symm]
def Sem.wp_and{w:Type}{M:Model}{Γ:Ctx}{t:Sem w}{Q y:w->Pos->Sh->Prop}{E z:Vl->Pos->Sh->Prop}:∀{p:Pos} {s:Sh},Sem.wp M Γ t Q E p s->Sem.wp M Γ t y z p s->Sem.wp M Γ t (λa p s=>Q a p s/\y a p s) (λe p s=>E e p s/\z e p s) p s:=by
 induction t with
 |pure x=>intro p s i j;exact#[i,j]
 |raise v=>intro p s i j;exact#[i,j]
 |unsupported|finish|yield|fork|await|register=>intro p s i _;exact i
 |rule _ k d|«at» _ k d|alloc _ k d|loadIfAlive _ k d|point _ k d|fresh k d|ask k d|os _ _ k d|handled _ k d|newGen _ k d|stack k d|thread k d=>intro p s i j;exact d _ i j
 |load a _ k d|genState a k d=>
  intro p s ⟨o,h,i⟩ ⟨D,A,j⟩;rw[h]at A;cases A;exact#[o,h,d _ i j]
 |update a _ f k d|choose _ _ k d=>intro p s ⟨h,i⟩ ⟨_,j⟩;exact#[h,d _ i j]
 |call c h g l k d=>
  intro p s ⟨r,m,a,i⟩ ⟨G,C,b,j⟩;obtain⟨n,q⟩:=Runs.det a b;cases n;cases q;exact#[r,m,a,d _ i j]
 |resume g r l k d=>
  intro p s ⟨u,m,a,i⟩ ⟨B,C,b,j⟩;obtain⟨n,q⟩:=a.det b;cases n;cases q;exact#[u,m,a,d _ i j]
def yt{b:Type}{M:Model}{A:Ar}{t:Sem b}{Q Q2:b->Sh->Prop}{E E2:VP}{s:Sh}(c:wpAny M A t Q E s)(d:wpAny M A t Q2 E2 s):wpAny M A t (λa s=>Q a s/\Q2 a s) (λe s=>E e s/\E2 e s) s:=
 λΓ p i=>Sem.wp_and (c Γ p i) (d Γ p i)
end PySem
namespace L2
open PySem PySem.Spec PyProof.Rows
def nB(e:Ad)(a:Option Ad)(h:Heap):Prop:=∃o,h.get? e=some o/\o.dict=a
section
variable{M:Model}{A:Ar}{E:VP}{s:Sh}
def Ip{i:Heap}{d:Env}{c:List Env}{L e:Ad}{j:Obj}{p:AV}{head:Vl}{f:Bool}{Q:Unit->Sh->Prop}(q:A.frames=some (d::c))(v:s.heap.FunFrames i (d::c))(G:d.frame=some L)(w:s.heap.get? e=some j) (k:j.data=.fields p) (l:1<p.size)(h:∀(r:Heap) (o:Obj) (x:AV) (T:Ad) (y:Obj) (z:AV),r.get? e=some o->o.dict=j.dict->o.data=.fields x->x[1]?=some (.ref T)->T≠e->r.get? T=some y->y.data=.fields z->3<z.size->Q ⟨⟩ {s with heap:=r}):
  wpAny M A (do let a <-frameOf d;let B <-entryPlaceOf L f;let b <-EntryCells.newEntry head a .none (rawInt L) .none B;setField (.ref e) 1 b) Q E s:=by
 have m:e∉(d::c).filterMap (·.frame):=λH=>by
  obtain⟨_,o,C,t⟩:=v.mem H;rw[w]at C;cases C;exact t p k
 refine f' (wpAny_frameOf_fun q v G λn I=>f' (wpAny_entryPlaceOf λB u=>?_));unfold EntryCells.newEntry newFields;refine f' (pC ?_ (u.sizeOk5 _ _ _ _ _));have g:n.get? e=some j:=(I.2.1 e m).trans w;have D:n.objs.size≠e:=pH (iu g);refine wpAny_setField (iG _ g) k l (h _ _ _ n.objs.size _ _ (si _ (iG _ g) (Obj.isFreed_of_fields (Obj.data_mapFields k _))) ?_ (Obj.data_mapFields k _) (by simp[l]) D ((Heap.get?_update_other _ _ (Ne.symm D)).trans (Heap.get?_push_size n rZ)) rZ ?_)
 .obtain⟨O,U,J,N⟩:=j;cases k;rfl
 .simp only[List.size_toArray,List.length_append,List.length_cons,List.length_nil];lia
def Av{e T:Ad}{o b:Obj}{c d:AV}{Q:Unit->Sh->Prop}(f:s.heap.get? e=some o)(i:o.data=.fields c)(j:c[1]?=some (.ref T))(k:T≠e)(hT:s.heap.get? T=some b)(a:b.data=.fields d)(l:3<d.size)(h:∀g,nB e o.dict g->Q ⟨⟩ {s with heap:=g}):wpAny M A (setFlight (.ref e) none) Q E s:=by
 unfold setFlight;refine f' (rK f i j ?_);rw[wB (show(Value.ref T != Value.none)=true from by simp)];exact wpAny_setField hT a l (h _ #[o,(mW _ _ k).trans f,rZ])
def HG{k:Heap}{d:Env}{a:List Env}{L e:Ad}{p I:Vl}{y:Option Ad}{Q:Unit->Sh->Prop}(r:A.frames=some (d::a))(z:d.frame=some L)(J:Heap.FlyingW k (d::a) e p I s.heap)(f:nB e y s.heap)(h:∀(l:Heap) (o:Obj) (m:AV) (T:Ad) (t:Obj) (n:AV),l.get? e=some o->o.dict=y->o.data=.fields m->m[1]?=some (.ref T)->T≠e->l.get? T=some t->t.data=.fields n->3<n.size->Q ⟨⟩ {s with heap:=l}):wpAny M A (noteFrame (.ref e) d) Q E s:=by
 obtain⟨_,_,N,oe,B,T,t,n,u,_,C,D,_,v,hT,g,G⟩:=J;obtain⟨o',H,f⟩:=f;rw[u]at H;cases H;unfold noteFrame;simp only[z];refine f' (rK u C D ?_);rw[wB (show(Value.ref T != Value.none)=true from by simp)];refine f' (rK hT g G ?_);rw[wA (show ¬((Value.none==rawInt L)=true)from by simp[rawInt])];refine f' (wpAny_setField hT g (ni.mp G).1 ?_);have c:∀b,b≠T->(s.heap.update T (Obj.mapFields (·.setIfInBounds 3 Value.none))).get? b=s.heap.get? b:=λb i=>mW _ _ (jq i);have O:∀b o,s.heap.get? b=some o->(∀B,o.data≠ .fields B)->b≠T:=λb o i j q=>by
  rw[q,hT]at i;cases i;exact j n g
 refine Ip r (N.of_keeps λb o i j=>#[o,(c b (O b o i j)).trans i,rZ]) z ((c e (jq v)).trans u) C (ni.mp D).1 λl o m U w x Y q2=>h l o m U w x Y (q2.trans f)
def OA{base:Heap}{b:Env}{a:List Env}{L e:Ad}{f:Obj}{j:AV}{a0:Vl}{Q:Unit->Sh->Prop}(g:A.frames=some (b::a))(t:s.heap.FunFrames base (b::a))(k:b.frame=some L)(l:s.heap.get? e=some f) (m:base.StaysIn s.heap) (n:base.get? e=none) (p:f.data=.fields j) (r:j[1]?=some .none) (u:j[0]?=some a0)(h:∀c,Heap.LeftW base (b::a) e f.cls a0 s.heap c->nB e f.dict c->Q ⟨⟩ {s with heap:=c}):wpAny M A (leaving b (.ref e)) Q E s:=by
 refine ke (yt (wpAny_leaving_firstW (Q:=λ_ i=>∃c,i={s with heap:=c}/\Heap.LeftW base (b::a) e f.cls a0 s.heap c) (E:=E) g t k l m n p r u λc q=>#[c,rfl,q]) (Q2:=λ_ i=>nB e f.dict i.heap) (E2:=λ_ _=>True) ?_) (λ_ i ⟨⟨c,v,q⟩,d⟩=>by subst v;exact h c q d) λ_ _ z=>z.1;unfold leaving noteFrame;simp only[k];refine f' (f' (rK l p r ?_));rw[wA (by decide)];exact Ip g t k l p (ni.mp r).1 λc o J T N O w x y B C D G H=>Av (s:={s with heap:=c}) w y B C D G H λI d=>x▸d
def Mj{c:Heap}{f:Env}{a:List Env}{L e:Ad}{g k:Vl}{l:Option Ad}{Q:Unit->Sh->Prop}(i:A.frames=some (f::a))(n:f.frame=some L)(p:Heap.FlyingW c (f::a) e g k s.heap)(m:nB e l s.heap)(h:∀b,Heap.FlyingW c a e g k b->s.heap.UpToSlots b->nB e l b->Q ⟨⟩ {s with heap:=b}):wpAny M A (leaving f (.ref e)) Q E s:=by
 refine ke (yt (wpAny_leaves_onW (Q:=λ_ j=>∃b,j={s with heap:=b}/\Heap.FlyingW c a e g k b/\s.heap.UpToSlots b) (E:=E) i n p λb q u=>#[b,rfl,q,u]) (Q2:=λ_ j=>nB e l j.heap) (E2:=λ_ _=>True) ?_) (λ_ j ⟨⟨b,r,q,u⟩,d⟩=>by subst r;exact h b q u d) λ_ _ z=>z.1;unfold leaving;exact f' (HG i n p m λb o H T I J t v w x y B C D=>Av (s:={s with heap:=b}) t w x y B C D λG d=>v▸d)
def Kg{f:Heap}{b:Env}{a:List Env}{L e:Ad}{g k:Vl}{l:Option Ad}{Q:Unit->Sh->Prop}(i:A.frames=some (b::a))(n:b.frame=some L)(p:Heap.FlyingW f (b::a) e g k s.heap)(m:nB e l s.heap)(h:∀c,Heap.HeldW f (b::a) e g k L c->s.heap.UpToSlots c->nB e l c->Q ⟨⟩ {s with heap:=c}):wpAny M A (noteFrame (.ref e) b) Q E s:=
 ke (yt (wpAny_looks_onW (Q:=λ_ j=>∃c,j={s with heap:=c}/\Heap.HeldW f (b::a) e g k L c/\s.heap.UpToSlots c) (E:=E) i n p λc q u=>#[c,rfl,q,u]) (HG (Q:=λ_ j=>nB e l j.heap) (E:=λ_ _=>True) i n p m λc o w T x y r t _ _ _ _ _ _=>#[o,r,t]))
  (λ_ j ⟨⟨c,v,q,u⟩,d⟩=>by subst v;exact h c q u d) λ_ _ z=>z.1
def MU{b:Heap}{l:List Env}{e L:Ad}{c i:Vl}{j:Option Ad}{Q:Unit->Sh->Prop}(n:Heap.HeldW b l e c i L s.heap)(f:nB e j s.heap)(h:∀a,Heap.FlyingW b l e c i a->s.heap.UpToSlots a->nB e j a->Q ⟨⟩ {s with heap:=a}):wpAny M A (setFlight (.ref e) none) Q E s:=by
 obtain⟨_,_,_,x,y,T,B,C,o,_,r,t,_,k,hT,m,v⟩:=id n;obtain⟨D,p,f⟩:=f;rw[o]at p;cases p;exact ke (yt (wpAny_landsW (Q:=λ_ g=>∃a,g={s with heap:=a}/\Heap.FlyingW b l e c i a/\s.heap.UpToSlots a) (E:=E) n λa q u=>#[a,rfl,q,u]) (Av (Q:=λ_ g=>nB e j g.heap) (E:=λ_ _=>True) o r t k hT m (ni.mp v).1 λa d=>f▸d))
  (λ_ g ⟨⟨a,w,q,u⟩,d⟩=>by subst w;exact h a q u d) λ_ _ z=>z.1
def Mr{b:Heap}{l:List Env}{e:Ad}{c i:Vl}{j:Option Ad}{Q:Unit->Sh->Prop}(n:Heap.FlyingW b l e c i s.heap)(f:nB e j s.heap)(h:∀a,Heap.FlyingW b l e c i a->s.heap.UpToSlots a->nB e j a->Q ⟨⟩ {s with heap:=a}):wpAny M A (setFlight (.ref e) none) Q E s:=by
 obtain⟨_,_,_,x,y,T,B,C,o,_,r,t,_,k,hT,m,v⟩:=id n;obtain⟨D,p,f⟩:=f;rw[o]at p;cases p;exact ke (yt (lands_againW (Q:=λ_ g=>∃a,g={s with heap:=a}/\Heap.FlyingW b l e c i a/\s.heap.UpToSlots a) (E:=E) n λa q u=>#[a,rfl,q,u]) (Av (Q:=λ_ g=>nB e j g.heap) (E:=λ_ _=>True) o r t k hT m (ni.mp v).1 λa d=>f▸d))
  (λ_ g ⟨⟨a,w,q,u⟩,d⟩=>by subst w;exact h a q u d) λ_ _ z=>z.1
end
section
variable{P:Pg}{w:World}{H H':Hp}{h h':Heap}{a:Ad}{o:HO}
def ObjOk.has(x:ObjOk P w H h a o):∃b,h.get? a=some b:=by
 induction o with
 |lst d=>obtain⟨_,_,_,_,e⟩:=x;exact#[_,e]
 |tup d=>obtain⟨_,_,_,b,e,_⟩:=x;exact#[b,e]
 |dK c=>obtain⟨_,_,_,_,b,_,_,e,_⟩:=x;exact#[b,e]
 |dT c=>obtain⟨_,_,_,_,b,_,_,e,_⟩:=x;exact#[b,e]
 |set S n=>obtain⟨b,_,_,_,e,_⟩:=x;exact#[b,e]
 |ins C g fs=>obtain⟨_,_,_,e,_⟩:=x;exact#[_,e]
 |own y=>exact x
 |xd fs=>obtain⟨_,⟨b,_,_,e,_⟩,_⟩:=x;exact#[b,e]
 |rng lo i=>obtain⟨_,_,_,e⟩:=x;exact#[_,e]
 |frz b u _=>obtain⟨e,_⟩:=x;exact#[_,e]
 |tbl j=>exact#[_,x]
 |met f y=>exact#[_,x]
 |ext k=>exact x.2.1
def HOk.gone(x:HOk P w H h)(e:h.get? a=none):H a=none:=by
 cases q:H a with
 |none=>rfl
 |some u=>
  obtain⟨b,z⟩:=(x a u q).has;rw[e]at z;cases z
end
structure Fl(h0:Heap)(H:Hp)(h:Heap)(e:Ad)(cls:Vl)(d:Option Ad):Prop where
 ne:h0.get? e=none
 fe:H e=none
 ex:∃oe vs T oT ts a0,h.get? e=some oe/\oe.cls=cls/\oe.dict=d/\oe.data=.fields vs/\vs[0]?=some a0/\vs[1]?=some (.ref T)/\h0.get? T=none/\H T=none/\T≠e/\h.get? T=some oT/\oT.data=.fields ts/\ts[3]?=some .none
def CX1(P:Pg)(w:World):rN:=λa H s E v b=>∃e C d c,v=.ref e/\b.os=s.os/\AllBare b.gens/\Un (iI a) [] H c s.heap b.heap/\HOk P w c b.heap/\Fl s.heap c b.heap e (.ref C) d/\E (.ref C) d c
section
variable{X:Cx}{Z:AO}{f:St}{H a:Hp}{s:Sh}
def DN(ok:X.Ok):∀b∈iI X.outer,b∈iI X.stack:=λb a=>by
 rcases ok.stk with e|⟨e,c⟩
 .rw[e];exact a
 .rw[e];unfold iI;rw[List.filterMap_cons,c];exact jr _ a
def OI{g i:Heap}{S:As}(I:Inv X Z f H s)(x:X.ex=[])(u:Un (iI X.stack) [] H a s.heap g)(y:HOk X.prog X.w a g)(keep:∀b o,g.get? b=some o->b∉iI X.stack->b∉S->i.get? b=some o) (j:∀b o,g.get? b=some o->b∈iI X.stack->∃sl,i.get? b=some {o with slots:=sl})
  (G:∀b∈S,s.heap.get? b=none/\a b=none):Un (iI X.outer) [] X.H₀ a X.s₀.heap i/\HOk X.prog X.w a i:=by
 have l:∀b:Ad,b∉X.ex:=λb z=>by rw[x]at z;cases z
 have m:∀b:Ad,b∉([]:As):=λb z=>by cases z
 have A:∀b∈iI X.stack,a b=none:=λb d=>by
  obtain⟨_,L,M,_⟩:=I.stack.mem d;exact u.free b L M (I.stkFree b d) (m b)
 have B:∀b o,X.s₀.heap.get? b=some o->b≠X.env.locals:=λb o e=>i6 (jy (iu e) I.ok.above);have p:∀b o,X.s₀.heap.get? b=some o->b∉iI X.outer->b∉iI X.stack:=λb o e n z=>by
  rcases iM.mp (I.stkSub b z)with q|q
  .exact B b o e q
  .exact n q
 have J:∀b o,s.heap.get? b=some o->b∉S:=λb o e z=>by
  have:=(G b z).1;rw[e]at this;cases this
 refine#[#[λb o e n d _=>?_,λb o e n d _=>?_,λb o e n _=>?_,λb o e _=>?_,λb r e=>u.tups b r (I.base.tups b r e),λb o r e=>u.frzs b o r (I.base.frzs b o r e),λb N e=>?_],λb o e=>?_]
 .have h:=I.base.keep b o e n d (l b);have k:=u.keep b o h (I.base.free b o e n (l b)) (p b o e d) (m b);exact keep b o k (p b o e d) (J b o h)
 .obtain⟨sl,h⟩:=I.base.slot b o e n d (l b);obtain⟨O,k⟩:=u.slot b _ h (I.base.free b o e n (l b)) (DN I.ok b d) (m b);obtain⟨C,D⟩:=j b _ k (DN I.ok b d);exact#[C,D]
 .obtain⟨t,h⟩:=I.base.there b o e (l b);exact u.free b t h (I.base.free b o e n (l b)) (m b)
 .obtain⟨t,h⟩:=I.base.there b o e (l b);obtain⟨E,k⟩:=u.there b t h (m b);by_cases d:b∈iI X.stack
  .obtain⟨sl,D⟩:=j b E k d;exact#[_,D]
  .exact#[E,keep b E k d (J b t h)]
 .obtain⟨Q,h⟩:=I.base.tbls b N e;obtain⟨T,k⟩:=u.tbls b _ h;exact#[Q++T,by rw[k,Array.append_assoc]]
 .have w:∀c v,a c=some v->c∉iI X.stack/\c∉S:=λc v q=>#[λz=>(by rw[A c z]at q;cases q),λz=>(by rw[(G c z).2]at q;cases q)];refine(y b o e).stay (λc v U q=>?_) (λ_ q=>q) λ_ _ q=>q
  rcases U with z|z
  .rw[z]at q|-;exact keep b v q (w b o e).1 (w b o e).2
  .exact keep c v q (w c _ z).1 (w c _ z).2
def GW:∀{l:List Env},∀a∈l,∀b,a.frame=some b->b∈iI l:=λ{l} a c b d=>BG.mpr #[a,c,d]
def Hf{E:XK}{v:Vl}{c:Sh}(I:Inv X Z f H s)(J:CX1 X.prog X.w X.stack H s E v c):∃e C d a T k,v=.ref e/\c.os=s.os/\AllBare c.gens/\Un (iI X.stack) [] H a s.heap c.heap/\HOk X.prog X.w a c.heap/\E (.ref C) d a/\nB e d c.heap/\
  s.heap.get? e=none/\a e=none/\s.heap.get? T=none/\a T=none/\Heap.FlyingW (PySem.W.hideAll c.heap (e::T::iI X.stack)) X.stack e (.ref C) k c.heap:=by
 obtain⟨e,C,d,a,rfl,os,g,u,m,⟨M,N,A,O,T,Q,U,k,B,Y,n,p,h0,h1,nT,fT,t,w,x,h3⟩,hE⟩:=J;refine#[e,C,d,a,T,k,rZ,os,g,u,m,hE,#[A,B,n],M,N,nT,fT,λb o q=>C1 _ q,zW _ (.head _),?_,A,O,T,Q,U,B,#[Y,h0],p,h1,zW _ (.tail _ (.head _)),t,w,x,h3];refine PySem.W.funFrames_hide (base:=X.base) ?_ λh i b j=> .tail _ (.tail _ (GW h i b j));have all:∀(l:List Env),(∀b∈iI l,b∈iI X.stack)->s.heap.FunFrames X.base l->c.heap.FunFrames X.base l:=by
  intro l
  induction l with
  |nil=>intro _ _;trivial
  |cons h r ih=>
   intro D hl;obtain⟨hk,⟨L,o,y,hn,ho,p⟩,hr⟩:=hl;have G:L∈iI X.stack:=D L (by unfold iI;rw[List.filterMap_cons,y];exact List.mem_cons_self);obtain⟨sl,e1⟩:=u.slot L o ho (I.stkFree L G) G (by intro z;cases z);exact#[hk,#[L,_,y,hn,e1,p],ih (λb j=>D b (by unfold iI;rw[List.filterMap_cons,y];exact List.mem_cons_of_mem _ j)) hr]
 exact all X.stack (λ_ j=>j) I.stack
end
section
variable{X:Cx}{Z:AO}{c:St}{H a:Hp}{s:Sh}
def Nb{M:Model}{E1:VP}{E:XK}{v:Vl}{j:Sh}(I:Inv X Z c H s)(l:X.ex=[])(k:X.stack=X.env::X.outer)(hf:X.env.frame=some X.env.locals)(hx:CX1 X.prog X.w X.stack H s E v j):
  wpAny M X.A (leaving X.env v) (λ_ N=>CX1 X.prog X.w X.outer X.H₀ X.s₀ E v N) E1 j:=by
 obtain⟨e,C,d,a,T,a0,rfl,os,m,u,n,hE,dc,ne,fe,nT,fT,fl⟩:=Hf I hx;have t:∀b∈iI X.stack,∃o,j.heap.get? b=some o/\∀O,o.data≠ .fields O:=λb w=>(fl.2.2.1.mem w).2;have x:=fl;rw[k]at x;refine Mj (by rw[I.ok.frames,k]) hf x dc λQ U up Y=>?_;obtain⟨st,_,_,oe,O,f,oT,ts,he,⟨hc,h0⟩,hd,h1,hT,A,B,D,h3⟩:=U;obtain⟨ab,G,aa⟩:=Y;rw[he]at G;cases G;rw[<-k]at st hT;have i:∀b o,j.heap.get? b=some o->b∈iI X.stack->∃sl,Q.get? b=some {o with slots:=sl}:=λb o q w=>by
  obtain⟨L,h,e2⟩:=t b w;rw[q]at h;cases h;exact up b o q e2
 obtain⟨u2,hk⟩:=OI (S:=[e,T]) (g:=j.heap) I l u n (λb o q w hS=>st b o (xT _ q λz=>by
   rcases iM.mp z with y|z
   .exact hS (by rw[y];exact .head _)
   .rcases iM.mp z with y|z
    .exact hS (by rw[y];exact .tail _ (.head _))
    .exact w z)) i λb z=>by
  rcases iM.mp z with y|z
  .rw[y];exact#[ne,fe]
  .rw[iE.mp z];exact#[nT,fT]
 have n0:∀b,s.heap.get? b=none->X.s₀.heap.get? b=none:=λb q=>by
  cases z:X.s₀.heap.get? b with
  |none=>rfl
  |some o=>
   obtain⟨L,h⟩:=I.base.there b o z (by rw[l];intro y;cases y);rw[q]at h;cases h
 have J:s.heap.get? f=none/\a f=none:=by
  by_cases z:f=T
  .rw[z];exact#[nT,fT]
  .have g2:j.heap.get? f=none:=by
    cases q:j.heap.get? f with
    |none=>rfl
    | some o=>
     by_cases y:f∈iI X.stack
     .obtain⟨L,h,e2⟩:=t f y;obtain⟨sl,e3⟩:=i f L h y;rw[B]at e3;cases e3;exact wC D (e2 ts)
     .rw[xT _ q (λr=>by
       rcases iM.mp r with p|r
       .exact A p
       .rcases iM.mp r with p|r
        .exact z p
        .exact y r)]at hT
      cases hT
   refine#[?_,n.gone g2];cases q:s.heap.get? f with
   |none=>rfl
   |some o=>
    obtain⟨L,h⟩:=u.there f o q (by intro y;cases y);rw[g2]at h;cases h
 exact#[e,C,d,a,rZ,os.trans I.os,m,u2,hk,#[n0 e ne,fe,oe,O,f,oT,ts,a0,he,hc,aa,hd,h0,h1,n0 f J.1,J.2,A,B,D,h3],hE]
end
section
variable{P:Pg}{w:World}{K:O0}{mg:SV}{a:Heap}
def wQ{N:Ss}{d:Str}{b:Scope}{f:Ad}{e:Vl}{A:Ar}{c:List Env}{s:Sh}{H:Hp}{E:XK}:va (CX1 P w) (n9 (CX1 P w) P w K mg a N d b f e A c s H E) E:=
 λ_ _ _ _ _ _ I g=>Nb I rZ rZ rZ g
def Fun.okX{x c:Str}{st:Stmt}{f:Ad}{m:Fd}{N h:Ss}{k:Nat}{i:Sp}(F:Fun K x c st f m)(S:FnScope N h (hZ st))(len:∀e H Q E,i e H Q E->e.length=h.length)(g:∀(d:Vl) (A:Ar) (b:List Env) (s:Sh) (H:Hp) (e:List V) (Q:VK) (E:XK),Room k (A.deeper (envOfC c (hZ st) s.heap.objs.size f d))->i e H Q E->
   ∃t,PSs (n9 (CX1 P w) P w K mg a N c (hZ st) f d A b s H E) (iS st) t/\t {nx:=λ_ n=>Q .non n,rt:=Q} (start N e) H):FnOk P w K mg a (CX1 P w) (k+1) f m h i:=by
 obtain⟨r,u,kV,o,v,y,d,z,p,rfl,lk,j⟩:=F.ex;exact Ag lk j S len λA b s H e Q E q l=>g d A b s H e Q E q l
end
abbrev veMro:Vs:=[.type "ValueError",.type "Exception",.type "BaseException",.type "object"]
def ErrC(K:O0)(C:Ad):Prop:=PySem.W.excIn K C veMro "ValueError.__new__"=true
def ErrC.obj{K:O0}{h:Heap}{C:Ad}(X:K.In h)(q:ErrC K C):∃c N e f bs b g sub i a j d k1 k2 k3 k5 k,
  h.get? C=some (excClassObj e f C N bs c b g sub i a j d k1 k2 k3 k5 "ValueError.__new__")/\h.Ns N k/\k "__init__"=none/\OwnTail h veMro c/\K.lookup C=some (excClassObj e f C N bs c b g sub i a j d k1 k2 k3 k5 "ValueError.__new__"):=by
 unfold ErrC PySem.W.excIn at q;split at q
 .rename_i j t sl lk
  split at q
  .rename_i z c d k1 k2 k3 n k5 m o
   simp only[Bool.and_eq_true,beq_iff_eq,Bool.not_eq_true']at q;obtain⟨⟨⟨⟨⟨rfl,rfl⟩,p⟩,u⟩,ok⟩,r⟩:=q;obtain⟨e,bs,v,s,f,w,g,sub,i,a,x⟩:=t;dsimp only at m p ok r;subst m p;have y:sl= #v[d,k1,k2,k3,some (.builtin "ValueError.__new__"),k5]:=by
    obtain⟨l⟩:=sl;simp only at o;rw[o]
   subst y;exact#[c,s,e,f,bs,w,g,sub,i,a,j,d,k1,k2,k3,k5,h.nsMap s,X _ _ lk,.of_isNs (PySem.W.isNs_of_in X ok),PySem.W.nsMap_none_of_in X ok r,PySem.W.tail_of_in X u,lk]
  .cases q
 .cases q
section
variable{X:Cx}{Z:AO}{a:St}{H H':Hp}{s:Sh}
abbrev Cx.caught(X:Cx)(e:Ad):Cx:={X with A:=X.A.mark (some (.ref e)),calm:=false}
def Inv.caught(I:Inv X Z a H s)(e:Ad):Inv (X.caught e) Z a H s:=
 #[#[I.ok.mod,I.ok.kind,I.ok.glob,I.ok.blt,I.ok.above,I.ok.inj,I.ok.has,I.ok.cab,(λz=>by cases z),I.ok.frames,I.ok.stk,I.ok.exf,I.ok.bs,I.ok.bsz,I.ok.noex,I.ok.exfs,I.ok.funs,I.ok.frf],
  I.os,I.bare,I.base,I.loc,I.cell,I.free,I.freeC,I.pin,I.hok,I.len]
def Inv.uncaught{e:Ad}(ok:X.Ok)(I:Inv (X.caught e) Z a H s):Inv X Z a H s:=#[ok,I.os,I.bare,I.base,I.loc,I.cell,I.free,I.freeC,I.pin,I.hok,I.len]
def E3(X:Cx)(e:Expr)(t:XK->TE):Prop:=∀(Z:AO) (s:Sh) (a:St) (H:Hp) (Q:VK) (E:XK) (b:VP),Inv X Z a H s->t E a H Q->
 (∀c d v f,Inv X Z a c d->CX1 X.prog X.w X.stack c d E v f->b v f)->wpAny (model X.prog X.w) X.A (eval e X.env) (EP X Z a Q) b s
def ER(X:Cx)(b:List Stmt)(t:XK->TS):Prop:=∀(Z:AO) (s:Sh) (a:St) (H:Hp) (D:Ends) (E:XK) (c:VP),Inv X Z a H s->t E D a H->
 (∀d e v f,Inv X Z a d e->CX1 X.prog X.w X.stack d e E v f->c v f)->wpAny (model X.prog X.w) X.A (execs b X.env) (SP X Z D) c s
def On{e:Expr}{c:XK->TE}{b:Pos}(d:E3 X e c)(f:swapsWith e none b.line X.env=pure false:=by rfl):ER X [.Expr e b] (λE=>zO (c E)):=by
 intro Z s a H D E g I h i;refine B7 (wpAny_Expr_any (ie (d Z s a H _ E g I h i) λv m ⟨x,j,k,n,l⟩=>?_) I.quiet f);exact x5 #[a,j,k,l]
def Jd{g f:Heap}{S:As}(I:Inv X Z a H s)(u:Un (iI X.stack) [] H H' s.heap g)(l:HOk X.prog X.w H' g)(keep:∀b o,g.get? b=some o->b∉iI X.stack->b∉S->f.get? b=some o) (h:∀b o,g.get? b=some o->b∈iI X.stack->∃sl,f.get? b=some {o with slots:=sl})
  (t:∀b∈S,s.heap.get? b=none/\H' b=none):Un (iI X.stack) [] H H' s.heap f/\HOk X.prog X.w H' f:=by
 have i:∀b:Ad,b∉([]:As):=λb z=>by cases z
 have m:∀b∈iI X.stack,H' b=none:=λb d=>by
  obtain⟨_,x,y,_⟩:=I.stack.mem d;exact u.free b x y (I.stkFree b d) (i b)
 have w:∀b o,s.heap.get? b=some o->b∉S:=λb o e z=>by
  have:=(t b z).1;rw[e]at this;cases this
 refine#[#[λb o e n d _=>keep b o (u.keep b o e n d (i b)) d (w b o e),λb o e n d _=>?_,u.free,λb o e _=>?_,u.tups,u.frzs,u.tbls],λb o e=>?_]
 .obtain⟨sl,j⟩:=u.slot b o e n d (i b);obtain⟨p,A⟩:=h b _ j d;exact#[p,A]
 .obtain⟨r,j⟩:=u.there b o e (i b);by_cases d:b∈iI X.stack
  .obtain⟨sl,B⟩:=h b r j d;exact#[_,B]
  .exact#[r,keep b r j d (w b o e)]
 .have k:∀c v,H' c=some v->c∉iI X.stack/\c∉S:=λc v q=>#[λz=>(by rw[m c z]at q;cases q),λz=>(by rw[(t c z).2]at q;cases q)];refine(l b o e).stay (λc v C q=>?_) (λ_ q=>q) λ_ _ q=>q
  rcases C with z|z
  .rw[z]at q|-;exact keep b v q (k b o e).1 (k b o e).2
  .exact keep c v q (k c _ z).1 (k c _ z).2
def rh(e C:Ad)(d:Option Ad)(h:Heap):Prop:=∃o,h.get? e=some o/\o.cls=.ref C/\o.dict=d/\∃a,o.data=.fields a
def Lg{B h:Heap}{l:List Env}{e C:Ad}{f:Vl}{d:Option Ad}(g:Heap.FlyingW B l e (.ref C) f h)(i:nB e d h):rh e C d h:=by
 obtain⟨_,_,_,j,k,_,_,_,b,⟨m,_⟩,n,_⟩:=g;obtain⟨o,c,a⟩:=i;rw[b]at c;cases c;exact#[j,b,m,a,k,n]
def Jx{P:Pg}{w:World}{h:Heap}{e C:Ad}{d:Option Ad}(x:rh e C d h):ObjOk P w H h e (.ext (rh e C d)):=by
 obtain⟨o,a,c⟩:=x;exact#[#[o,a,c],#[o,a],λi j ⟨b,f,g⟩ k=>#[b,k b f,g]]
def Inv.takeIn{e C:Ad}{d:Option Ad}(I:Inv X Z a H s)(k:rh e C d s.heap)(l:H e=none)(r:X.s₀.heap.get? e=none)(t:e≠X.env.locals)(v:∀x c,X.env.cells.lookup x=some c->c≠e)(w:∀p∈X.pn++Z,p.1≠e)(D:e∉X.ex):
  Inv X Z a (hA H e (.ext (rh e C d))) s:=by
 have g:∀b u,H b=some u->b≠e:=λb u q z=>by rw[z,l]at q;cases q
 have y:∀b o,X.s₀.heap.get? b=some o->b≠e:=λb o q z=>by rw[z,r]at q;cases q
 refine#[I.ok,I.os,I.bare,#[I.base.keep,I.base.slot,λb o q n A=>?_,I.base.there,λb f q=>?_,λb o f q=>?_,λb B q=>?_],I.loc,I.cell,?_,λx c q=>?_,λp h=>?_,λb u q=>?_,I.len]
 .rw[hK (y b o q)];exact I.base.free b o q n A
 .rw[hK (g b _ (I.base.tups b f q))];exact I.base.tups b f q
 .rw[hK (g b _ (I.base.frzs b o f q))];exact I.base.frzs b o f q
 .obtain⟨m,i⟩:=I.base.tbls b B q;exact#[m,by rw[hK (g b _ i)];exact i]
 .rw[hK (jq t)];exact I.free
 .rw[hK (v x c q)];exact I.freeC x c q
 .obtain⟨a1,a2,a3⟩:=I.pin p h;exact#[a1,by rw[hK (w p h)];exact a2,a3]
 .by_cases j:b=e
  .subst j;rw[hO]at q;cases q;exact Jx k
  .rw[hK j]at q;exact(I.hok b u q).stay (λ_ _ _ z=>z) (λc z=>by rw[hK (g c _ z)];exact z) λc f z=>by rw[hK (g c _ z)];exact z
end
section
variable{X:Cx}
def AM{M:Model}{A:Ar}{E:VP}{Z:AO}{C:St}{H:Hp}{s:Sh}{i:Nat}{n:Str}{t:Pos}{Q:Unit->Sh->Prop}(I:Inv X Z C H s)(N:X.N[i]?=some n)(O:X.N.Nodup)(T:X.env.scope.names.lookup n=some .local)(h:∀D,Inv X Z (C.set i none) H D->Q ⟨⟩ D):wpAny M A (do bindName X.env n .none;unbindBehindTheSuite X.env n t) Q E s:=by
 obtain⟨m,G,u⟩:=id I.loc;have l:(X.env.scope.kind== .class || (X.env.scope.kind== .module&&X.env.locals != X.env.globals))=false:=by rw[I.ok.kind];rfl
 obtain⟨oL,_,_,U,_⟩:=id G;refine wpAny_nameGoes_keeps T G l λh' v w a=>h _ #[I.ok,I.os,I.bare,#[λb o e n x r=>?_,λb o e n x r=>?_,I.base.free,λb o e r=>?_,I.base.tups,I.base.frzs,I.base.tbls],#[_,w,λj y Y f g e3=>?_],λy c e=>?_,I.free,I.freeC,λp hp=>?_,λb ob e=>?_,by simpa using I.len]
 .exact(a.2 b (i6 (jy (iu e) I.ok.above))).trans (I.base.keep b o e n x r)
 .obtain⟨sl,f⟩:=I.base.slot b o e n x r;exact#[sl,(a.2 b (i6 (jy (iu e) I.ok.above))).trans f]
 .obtain⟨o',f⟩:=I.base.there b o e r;exact#[o',(a.2 b (i6 (jy (iu e) I.ok.above))).trans f]
 .by_cases B:j=i
  .subst B;rw[List.getElem?_set]at g;split at g
   .split at g<;>cases g
   .rename_i z
    exact wC rZ z
  .rw[BY (jq B)]at g;obtain⟨u',r',q⟩:=u j y Y f g e3;refine#[u',r',?_]
   rcases q with⟨k,e⟩|⟨k,c,e,z⟩
   .refine .inl #[k,?_];have:y≠n:=λe=>B (Es O f (e▸N));simp[this,e]
   .exact .inr #[k,c,e,z.sameBut a (I.cne y c e)]
 .obtain⟨J,z⟩:=I.cell y c e;exact#[J,z.sameBut a (I.cne y c e)]
 .obtain⟨e,n,L,nf,d⟩:=I.pin p hp;exact#[(a.2 p.1 L).trans e,n,L,nf,d]
 .refine(I.hok b ob e).stay (λc J hc q=>(a.2 c ?_).trans q) (λ_ q=>q) λ_ _ q=>q;rintro rfl
  rcases hc with hc|hc
  .rw[<-hc,I.free]at e;cases e
  .rw[I.free]at hc;cases hc
def gone(i:Nat)(D:Ends):Ends:={nx:=λa b=>D.nx (a.set i none) b,rt:=D.rt,bk:=λa b=>D.bk (a.set i none) b,ct:=λa b=>D.ct (a.set i none) b}
end
section
variable{P:Pg}{w:World}{A:Ar}{E:VP}{h:Heap}{g:Array GenState}{d:Drawn}{t:Nat}{os:OsState}{e C:Ad}{o:Obj}{K:O0}
def wM{M:Model}{a:Vl}{b:Str}{r:Option Vl}{Q:Option Vl->Sh->Prop}(X:K.In h)(e:PySem.W.findIn K a b=some r)(c:Q r #[h,g,d,t,os]):wpAny M A (typeLookup a b) Q E #[h,g,d,t,os]:=
 PySem.W.looks_findIn X e _ _ _ _ (λ_ _ z=>z) c
end
def pz(K:O0)(C D:Ad):Prop:=ErrC K D/\∃N b c bs d sub e a f g k1 k2 k3 k5,K.lookup C=some (excClassObj b c C N bs (.ref D::veMro) true d sub e a f g k1 k2 k3 k5 "ValueError.__new__")
structure MkE(K:O0)(C D f:Ad):Prop where
 cls:pz K C D
 init:PySem.W.findIn K (.ref C) "__init__"=some (some (.ref f))
 fn:PySem.W.isFn K (.ref f)=true
 kp:PySem.W.keepIn K (.ref C)=true
def u6{K:O0}{h:Heap}{C D:Ad}(X:K.In h)(q:pz K C D):∃N b c bs d sub e a f g k1 k2 k3 k5,
  h.get? C=some (excClassObj b c C N bs (.ref D::veMro) true d sub e a f g k1 k2 k3 k5 "ValueError.__new__")/\OwnTail h veMro (.ref D::veMro)/\K.lookup C=some (excClassObj b c C N bs (.ref D::veMro) true d sub e a f g k1 k2 k3 k5 "ValueError.__new__"):=by
 obtain⟨up,N,b,c,bs,d,sub,e,a,f,g,k1,k2,k3,k5,lk⟩:=q;obtain⟨_,_,_,_,_,_,_,_,_,_,_,_,_,_,_,_,_,j,k,i,_,_⟩:=up.obj X;exact#[N,b,c,bs,d,sub,e,a,f,g,k1,k2,k3,k5,X _ _ lk,.own j k i .base,lk]
section
variable{P:Pg}{w:World}{A:Ar}{E:VP}{h:Heap}{g:Array GenState}{d:Drawn}{t:Nat}{os:OsState}{C D f:Ad}{K:O0}
def Oz{c:Vs}{Q:Fin->Sh->Prop}(X:K.In h)(m:MkE K C D f)(u:c.length<=sizeLine)(v:∀p e,Heap.MadeExcOf h p e (.ref C) c->wpAny (model P w) A (call (.ref f) (.ref e::c)) (λr q=>r=.none/\Q (.done (.ret (.ref e))) q) E #[p,g,d,t,os]):
    wpAny (model P w) A (Builtin.«type.__call__» #[.ref C::c,[]]) Q E #[h,g,d,t,os]:=by
  obtain⟨N,H,I,bs,J,sub,L,y,M,O,k1,k2,k3,k5,i,T,_⟩:=u6 X m.cls;have s:veMro.contains (.type "ValueError")=true:=by rfl
  have j:=F.excBase_ValueError
  repeat (first|with_reducible refine oF i ?_|with_reducible refine wpAny_madeBy_exc i ?_|wp_step)
  refine codeAny_call_builtin_code (yd _ j.quiet) (wpAny_check_new_subU j s T i ?_);refine codeAny_exc_new_subU j s j T i ?_ u;show wpAny _ _ _ _ _ _;have k:∀b o,h.get? b=some o->((h.push {cls:= .type "tuple",data:= .seq c.toArray}).push {cls:= .ref C,data:= .fields #v[.ref h.objs.size,.none,.none,.none,.bool false,.none]}).get? b=some o:=λb o z=>iG _ (iG _ z);have l:=k _ _ i;have a:((h.push {cls:= .type "tuple",data:= .seq c.toArray}).push {cls:= .ref C,data:= .fields #v[.ref h.objs.size,.none,.none,.none,.bool false,.none]}).get? (h.objs.size+1)=some
      {cls:= .ref C,data:= .fields #v[.ref h.objs.size,.none,.none,.none,.bool false,.none]}:=by heap_get
  have n:(Value.ref C:: .ref D::veMro).contains (.ref C)=true:=by simp
  unfold isInstance
  repeat (first|with_reducible refine oF a ?_|(with_reducible refine wu l ?_;rw[n])|wp_step)
  show wpAny _ _ (typeLookup (.ref C) _) _ _ _;refine wM (X.keeps k) m.init ?_;refine lL (f' ?_);unfold bindSpecial;have ty:=beq_iff_eq.mp m.fn;refine f' ((PySem.W.looks_typeIn (X.keeps k) ty).at ?_);rw[wB (by decide)];refine hI (f' (ke (v _ (h.objs.size+1) #[k,Ak (vp _),h.objs.size,a,Ak (ig _),?_]) (λr q B=>?_) λ_ _ x=>x))
  · exact iG _ (Heap.get?_push_at rZ rZ)
  · obtain⟨rfl,G⟩:=B
    wp_walk
    exact G
def IM{a:Vs}{Q:VP}(X:K.In h)(m:MkE K C D f)(i:a.length<=sizeLine)(j:∀b e,Heap.MadeExcOf h b e (.ref C) a->wpAny (model P w) (A.under (.builtin "type.__call__" #[.ref C::a,[]])) (call (.ref f) (.ref e::a)) (λr k=>r=.none/\Q (.ref e) k) E #[b,g,d,t,os]):
  wpAny (model P w) A (call (.ref C) a) Q E #[h,g,d,t,os]:=by
 obtain⟨N,o,p,bs,q,sub,s,l,u,v,k1,k2,k3,k5,c,T,_⟩:=u6 X m.cls;have x:=tc_lookup;have y:=tc_bind (.ref C);have hT:(#[h,g,d,t,os]:Sh).TypeIs (.ref C) "type":=#[_,c,rZ];refine py (yS ?_);show wpAny _ _ (callAny (.ref C) _) _ _ _
 repeat (any_goals (first|assumption|with_reducible refine oF c ?_|wp_step))
 refine#[rZ,?_];refine codeAny_call_builtin_at (yd _ (by decide+kernel)) entry_typeCall (wpAny_check_type_call_sub c (Oz X m i λb e n=>?_));exact j b e n
end
def nJ(e C:Ad)(d:Option Ad):Heap->Prop:=λh=>∃a,h.get? e=some {cls:= .ref C,dict:=d,data:= .fields #v[.ref a,.none,.none,.none,.bool false,.none]}
def Dh{P:Pg}{w:World}{H:Hp}{h:Heap}{e C:Ad}{d:Option Ad}(x:nJ e C d h):ObjOk P w H h e (.ext (nJ e C d)):=by
 obtain⟨b,a⟩:=x;exact#[#[b,a],#[_,a],λg i ⟨c,f⟩ k=>#[c,k _ f]]
structure SetE(K:O0)(C:Ad)(a:Str):Prop where
 sa:PySem.W.findIn K (.ref C) "__setattr__"=some (some (.builtin "object.__setattr__"))
 na:PySem.W.findIn K (.ref C) a=some none
section
variable{P:Pg}{w:World}{A:Ar}{E:VP}{h:Heap}{g:Array GenState}{d:Drawn}{t:Nat}{os:OsState}{e C D:Ad}{K:O0}{a:Str}{v:Vl}{f:Ad}
def NM{M:Model}{nv:Vl}{Q:Unit->Sh->Prop}(X:K.In h)(m:pz K C D)(c:h.get? e=some {cls:= .ref C,data:= .fields #v[.ref f,.none,.none,.none,.bool false,.none]})(i:Q ⟨⟩ #[h,g,d,t,os]):
  wpAny M A (checkBuiltinCall "object.__setattr__" #[[.ref e,nv,v],[]]) Q E #[h,g,d,t,os]:=by
 obtain⟨N,l,n,bs,o,sub,p,j,q,r,k1,k2,k3,k5,k,T,_⟩:=u6 X m;have a:(Value.ref C:: .ref D::veMro).contains (.type "object")=true:=by rw[zo,T.hasType (b:=true) (by rfl),Bool.or_true]
 have s:=zJ.args (.ref e) nv v;simp only[checkBuiltinCall,F.store_ValueError.kind,F.store_ValueError.split];refine f' ?_;unfold isInstance
 repeat (first|with_reducible refine oF c ?_|(with_reducible refine wu k ?_;rw[a])|wp_step)
 exact i
def KH{M:Tok}{Q:Fin->Sh->Prop}(X:K.In h)(m:pz K C D)(Y:SetE K C a)(l:h.get? e=some {cls:= .ref C,data:= .fields #v[.ref f,.none,.none,.none,.bool false,.none]})
  (hq:∀n s,n.get? e=some {cls:= .ref C,dict:=some h.objs.size,data:= .fields #v[.ref f,.none,.none,.none,.bool false,.none]}->n.Ns1 h.objs.size (λy=>if y=a then some v else none)->(∀b o,b≠e->h.get? b=some o->n.get? b=some o)->Q (.done (.ret .none)) #[n,g,d,s,os]):
  wpAny (model P w) A (Builtin.«object.__setattr__» #[[.ref e,.str a M,v],[]]) Q E #[h,g,d,t,os]:=by
 obtain⟨N,nm,qn,bs,sn,sub,ab,aa,dd,k0,k1,k2,k3,k5,hC,T,_⟩:=u6 X m;have j:=zJ.passes (.ref e);obtain⟨o,p⟩:∃o:Obj,o={cls:= .ref C,data:= .fields #v[.ref f,.none,.none,.none,.bool false,.none]}:=#[_,rZ];rw[<-p]at l;have hc:o.cls=.ref C:=by rw[p]
 have u:o.dict=none:=by rw[p]
 have x:∀c,o.data≠ .cls c:=λc z=>by rw[p]at z;cases z
 unfold Builtin.«object.__setattr__»
 repeat (first|rw[refuse_eq]|(rw[refuseLoop_ref,refuseLoop_ref,j])|(with_reducible refine oF l ?_;rw[hc])|with_reducible refine wpAny_mroOf_exc hC ?_|with_reducible refine wM X Y.na ?_|wp_step)
 rw[u,wA (by simp[typeHasDict])];split
 .rename_i k
  cases k
 split
 .rename_i c k
  exact wC k (x c)
 .have i:(h.push {cls:= .type "dict",data:= .dict #v[]}).get? e=some o:=iG _ l;have q:e≠h.objs.size:=i6 (iu l);refine f' (wpAny_alloc' ?_);refine f' (wpAny_update' i ?_);refine hI ?_;have B:((h.push {cls:= .type "dict",data:= .dict #v[]}).update e λo=>{cls:=o.cls,dict:=some h.objs.size,data:=o.data,slots:=o.slots}).get? h.objs.size=some {cls:= .type "dict",data:= .dict #v[]}:=
   (Co _ _ _ _ q.symm).trans (Heap.get?_push_at rZ rZ)
  have G:((h.push {cls:= .type "dict",data:= .dict #v[]}).update e λo=>{cls:=o.cls,dict:=some h.objs.size,data:=o.data,slots:=o.slots}).Ns h.objs.size (λ_=>none):=#[_,#v[],_,B,rZ,λe l=>wC l (by simp),λ_=>rfl];show wpAny _ _ (Builtin.ObjectAttr.storeInDict h.objs.size (.str a M) a v) _ _ _;unfold Builtin.ObjectAttr.storeInDict Builtin.ObjectAttr.newKeyGuard;refine f' (hI (f' (wpAny_nsSet1 (Heap.Ns1.of_empty G) λn r O=>?_)));obtain⟨oD,ae,af,H,I,J⟩:=r.count (Within.cons a v Within.nil);refine f' (wpAny_lookBehind H (by rw[I];exact pastItsLine_dict (i5 J (by rw[oo,Ac,iR];lia))) ?_)
  wp_walk
  refine hq n _ ?_ r λb ob L U=>(O.2 b (i6 (iu U))).trans ((Co _ _ _ _ L).trans (iG _ U));refine(O.2 e q).trans ((si _ i ?_).trans ?_)
  .rw[p];rfl
  .rw[p]
def OK{Q:Unit->Sh->Prop}(X:K.In h)(m:pz K C D)(k:SetE K C a)(j:h.get? e=some {cls:= .ref C,data:= .fields #v[.ref f,.none,.none,.none,.bool false,.none]})
  (l:∀c i,c.get? e=some {cls:= .ref C,dict:=some h.objs.size,data:= .fields #v[.ref f,.none,.none,.none,.bool false,.none]}->c.Ns1 h.objs.size (λy=>if y=a then some v else none)->(∀b o,b≠e->h.get? b=some o->c.get? b=some o)->Q ⟨⟩ #[c,g,d,i,os]):
  wpAny (model P w) A (setAttr (.ref e) a v) Q E #[h,g,d,t,os]:=by
 have r:=zJ.slot.bind (.ref e);unfold setAttr callSpecial? specialOf
 repeat (any_goals (first|assumption|with_reducible refine oF j ?_|with_reducible refine wM X k.sa ?_|wp_step))
 refine x4 zJ.slot.plain zJ.entry (NM X m j (KH X m k j λc i n p q=>?_))
 repeat (any_goals (first|assumption|wp_step))
 exact l c _ n p q
end
section
variable{X:Cx}{Z:AO}{d:St}{H:Hp}{s:Sh}
def Inv.takeO{a:Ad}{o:HO}(I:Inv X Z d H s)(ok:ObjOk X.prog X.w (hA H a o) s.heap a o)(j:H a=none)(k:X.s₀.heap.get? a=none)(l:a≠X.env.locals)(r:∀x c,X.env.cells.lookup x=some c->c≠a)(t:∀p∈X.pn++Z,p.1≠a):
  Inv X Z d (hA H a o) s:=by
 have f:∀b u,H b=some u->b≠a:=λb u q z=>by rw[z,j]at q;cases q
 have v:∀b o,X.s₀.heap.get? b=some o->b≠a:=λb o q z=>by rw[z,k]at q;cases q
 refine#[I.ok,I.os,I.bare,#[I.base.keep,I.base.slot,λb o q n w=>?_,I.base.there,λb e q=>?_,λb o e q=>?_,λb y q=>?_],I.loc,I.cell,?_,λx c q=>?_,λp g=>?_,λb u q=>?_,I.len]
 .rw[hK (v b _ q)];exact I.base.free b _ q n w
 .rw[hK (f b _ (I.base.tups b e q))];exact I.base.tups b e q
 .rw[hK (f b _ (I.base.frzs b o e q))];exact I.base.frzs b o e q
 .obtain⟨m,h⟩:=I.base.tbls b y q;exact#[m,by rw[hK (f b _ h)];exact h]
 .rw[hK (jq l)];exact I.free
 .rw[hK (r x c q)];exact I.freeC x c q
 .obtain⟨a1,a2,a3⟩:=I.pin p g;exact#[a1,by rw[hK (t p g)];exact a2,a3]
 .by_cases i:b=a
  .subst i;rw[hO]at q;cases q;exact ok
  .rw[hK i]at q;exact(I.hok b u q).stay (λ_ _ _ z=>z) (λc z=>by rw[hK (f c _ z)];exact z) λc e z=>by rw[hK (f c _ z)];exact z
def Inv.newO{a:Ad}{o:HO}{s1:Sh}{j:Hp}(f:Inv X Z d j s1)(g:X.ex=[])(h:s1.heap.get? a=none):X.s₀.heap.get? a=none/\a≠X.env.locals/\(∀x c,X.env.cells.lookup x=some c->c≠a)/\∀p∈X.pn++Z,p.1≠a:=by
 refine#[?_,λz=>?_,λy c q z=>?_,λp k z=>?_]
 .cases z:X.s₀.heap.get? a with
  |none=>rfl
  |some o=>
   obtain⟨l,i⟩:=f.base.there a o z (by rw[g];intro y;cases y);rw[h]at i;cases i
 .obtain⟨m,⟨n,_,_,b,_⟩,_⟩:=f.loc;rw[<-z,h]at b;cases b
 .obtain⟨r,s,e,_⟩:=f.cell y c q;rw[z,h]at e;cases e
 .have:=(f.pin p k).1;rw[z,h]at this;cases this
def Inv.forget{a:Ad}{h:Heap->Prop}(I:Inv X Z d (hA H a (.ext h)) s)(i:H a=none):Inv X Z d H s:=by
 have up:∀b,(hA H a (.ext h)) b=none->H b=none:=λb q=>by
  by_cases f:b=a
  .rw[f];exact i
  .rw[hK f]at q;exact q
 have of:∀b o,(∀j,o≠HO.ext j)->(hA H a (.ext h)) b=some o->H b=some o:=λb o k q=>by
  by_cases f:b=a
  .subst f;rw[hO]at q;cases q;exact wC rZ (k _)
  .rw[hK f]at q;exact q
 refine#[I.ok,I.os,I.bare,#[I.base.keep,I.base.slot,λb o q n l=>up _ (I.base.free b o q n l),I.base.there,λb g q=>of _ _ (λ_ e=>nomatch e) (I.base.tups b g q),λb o g q=>of _ _ (λ_ e=>nomatch e) (I.base.frzs b o g q),λb r q=>?_],
  I.loc,I.cell,up _ I.free,λx c q=>up _ (I.freeC x c q),λp t=>?_,λb u q=>?_,I.len]
 .obtain⟨m,v⟩:=I.base.tbls b r q;exact#[m,of _ _ (λ_ e=>nomatch e) v]
 .obtain⟨a1,a2,a3⟩:=I.pin p t;exact#[a1,up _ a2,a3]
 .have w:b≠a:=λz=>by rw[z,i]at q;cases q
  exact(I.hok b u (by rw[hK w];exact q)).stay (λ_ _ _ z=>z) (λc z=>of _ _ (λ_ e=>nomatch e) z) λc g z=>of _ _ (λ_ e=>nomatch e) z
def MN{H:Hp}{a:Ad}{o:HO}(h:H a=some o):hA H a o=H:=by
 funext b
 by_cases c:b=a
 .rw[c,hO,h]
 .rw[hK c]
end
structure BaseI(K:O0)(D:Ad):Prop where
 ga:PySem.W.specialIn K (.ref D) "__getattribute__"=some (some (.builtin "type.__getattribute__"))
 rd:PySem.W.readsIn K D (.type "type")=true
 fi:PySem.W.findCls K (.ref D) (.type "type") "__init__"=some (.val (.builtin "ValueError.__init__"))
def JP(C:Ad)(t:TA):TE:=λb H Q=>t b H λc a=>∃e y,c=[.ref e,y]/\a e=some (.ext (nJ e C none))/\Q .non a
def yZ(C:Ad)(a:Str)(f g:TE):TS:=λD c H=>g c H λy h=>f c h λx d=>∃e,x=.ref e/\d e=some (.ext (nJ e C none))/\∀b,d b=none->b≠e->D.nx c (hA (hA d b (.xd [(a,y)])) e (.ext (nJ e C (some b))))
section
variable{X:Cx}{C D f:Ad}{x a:Str}{n l o i:Expr}{t:TA}{v w:TE}{p j c k:Pos}
def JX{L:Sem Bool}(m:MkE X.K C D f)(b:BaseI X.K D)(Y:Gl X x)(hm:X.mg x=some (.ref D))(ha:PA X [n,l] t)(k:(x==("__debug__":Str))=false:=by decide)
  (v:starEach [n,l] X.env=(false,eval n X.env)::starEach [l] X.env:=by rfl) (w:(backTo c (starEach [l] X.env)).any (·.1)=false:=by rfl)
  (ht:eval (.Call (.Attribute (.Name x p) "__init__" j) [n,l] [] c) X.env=(do
   let M <-eval (.Name x p) X.env
   standAt j.atName
   let(f,first) <-holding [M] (getMethod M "__init__" L)
   callWith c f first (backTo c (starEach [n,l] X.env)) (backToKw c (keywordEach [] X.env))):=by rfl):
  PE X (.Call (.Attribute (.Name x p) "__init__" j) [n,l] [] c) (JP C t):=by
 intro Z s σ H Q I h;refine PySem.W.methodCall_KW (pl:=L) (rG I Y hm ?_ k) ht;refine PySem.W.method_cls I.kIn b.ga (PySem.W.cls_value I.kIn b.rd b.fi rZ ?_);have I0:=I.tok (s.toks+1);refine GU (ie (ha c Z _ σ H _ I0 h) λus s1 ⟨vs,H1,A,r,e,y,ev,B,q⟩=>?_) v w;subst ev;obtain⟨v1,E,rfl,r1,r2⟩:=zY r;cases r1;obtain⟨⟨t0,O⟩,_⟩:=A.hok e _ B;obtain⟨N,nm,qn,bs,sn,sub,ab,aa,dd,k0,k1,k2,k3,k5,hC,T,_⟩:=u6 A.kIn m.cls;obtain⟨a,g,d,tk,os⟩:=s1;have G:=F.excBase_ValueError;refine py (x4 G.init.plain G.initEntry (wpAny_check_init_subU G T hC O rZ ?_))
 wp_walk
 have J:(a.push {cls:= .type "tuple",data:= .seq #v[E]}).get? e=some {cls:= .ref C,data:= .fields #v[.ref t0,.none,.none,.none,.bool false,.none]}:=iG _ O;have i:((a.push {cls:= .type "tuple",data:= .seq #v[E]}).update e (Obj.mapFields λx=>x.setIfInBounds 0 (.ref a.objs.size))).get? e=some {cls:= .ref C,data:= .fields #v[.ref a.objs.size,.none,.none,.none,.bool false,.none]}:=si _ J rfl;have U:=A.write (x:=e) (e:=e) (o:= .ext (nJ e C none)) (t':=tk) (h':=(a.push {cls:= .type "tuple",data:= .seq #v[E]}).update e (Obj.mapFields λx=>x.setIfInBounds 0 (.ref a.objs.size))) (by rw[B];exact True.intro) (.inl rfl)
  (λb u hb z=>(Co _ _ _ _ hb).trans (iG _ z)) #[_,i] (Dh #[_,i])
 rw[MN B]at U;exact#[.non,H1,U,rZ,q]
def LJ(J:X.ex=[])(m:MkE X.K C D f)(O:SetE X.K C a)(Q:PE X o v)(T:PE X i w)(U:swapsWith i (some (.Attribute o a k)) c.line X.env=pure false:=by rfl):PS X (.Assign [.Attribute o a k] i c) (yZ C a v w):=by
 intro Z s A H E I h;refine plainObj_wpAny_Assign_Attribute (ie (T Z s A H _ I h) λu Y ⟨y,H1,I1,ry,q⟩=>ie (Q Z Y A H1 _ I1 q) λov s2 ⟨z,B,n,rx,e,ex,L,q2⟩=>?_) U;subst ex;cases rx;obtain⟨⟨t0,M⟩,_⟩:=n.hok e _ L;obtain⟨j,g,d,tk,os⟩:=s2;refine OK n.kIn m.cls O M λh' p N g2 g3=>?_;have dn:j.get? j.objs.size=none:=Ak (ig _);have r:B j.objs.size=none:=n.hok.fresh (ig _);have l:j.objs.size≠e:=pH (iu M);obtain⟨n1,n2,n3,n4⟩:=n.newO (o:= .xd []) J dn;have I3:Inv X Z A (hA B e (.ext (nJ e C (some j.objs.size)))) #[h',g,d,p,os]:=n.write (x:=e) (e:=e) (o:= .ext (nJ e C (some j.objs.size))) (t':=p) (by rw[L];exact True.intro) (.inl rfl) (λb u hb q=>g3 b u hb q) #[_,N] (Dh #[t0,N]);have I4:=I3.takeO (a:=j.objs.size) (o:= .xd [(a,y)]) #[_,g2,λf=>?_] (by rw[hK l];exact r) n1 n2 n3 n4
 .refine#[A,_,I4,?_];have e3:hA (hA B e (.ext (nJ e C (some j.objs.size)))) j.objs.size (.xd [(a,y)])=hA (hA B j.objs.size (.xd [(a,y)])) e (.ext (nJ e C (some j.objs.size))):=by
   funext b
   unfold hA;by_cases t:b=e
   .rw[wB t,wB t,wA (by rw[t];exact jq l)]
   .rw[wA t,wA t]
  rw[e3];exact q2 _ r l
 .show RelO (List.lookup f [(a,y)]) (if f=a then some u else none);by_cases G:f=a
  .rw[wB G,ng,G,wU];exact ry
  .rw[wA G,ng,u3.mpr G];exact True.intro
end
section
variable{X:Cx}{Z:AO}{a:St}{H f:Hp}{s:Sh}
def LI{f:Heap}{S:As}(I:Inv X Z a H s)(k:X.ex=[])(keep:∀b o,s.heap.get? b=some o->b∉iI X.stack->b∉S->f.get? b=some o)(g:∀b o,s.heap.get? b=some o->b∈iI X.stack->∃sl,f.get? b=some {o with slots:=sl})
  (w:∀b∈S,X.s₀.heap.get? b=none/\H b=none):Un (iI X.outer) [] X.H₀ H X.s₀.heap f/\HOk X.prog X.w H f:=by
 have h:∀b:Ad,b∉X.ex:=λb z=>by rw[k]at z;cases z
 have l:∀b∈iI X.stack,H b=none:=λb d=>I.stkFree b d;have m:∀b o,X.s₀.heap.get? b=some o->b≠X.env.locals:=λb o e=>i6 (jy (iu e) I.ok.above);have p:∀b o,X.s₀.heap.get? b=some o->b∉iI X.outer->b∉iI X.stack:=λb o e n z=>by
  rcases iM.mp (I.stkSub b z)with q|q
  .exact m b o e q
  .exact n q
 have x:∀b o,X.s₀.heap.get? b=some o->b∉S:=λb o e z=>by
  have:=(w b z).1;rw[e]at this;cases this
 refine#[#[λb o e n d _=>?_,λb o e n d _=>?_,λb o e n _=>I.base.free b o e n (h b),λb o e _=>?_,I.base.tups,I.base.frzs,I.base.tbls],λb o e=>?_]
 .exact keep b o (I.base.keep b o e n d (h b)) (p b o e d) (x b o e)
 .obtain⟨sl,i⟩:=I.base.slot b o e n d (h b);obtain⟨r,t⟩:=g b _ i (DN I.ok b d);exact#[r,t]
 .obtain⟨u,i⟩:=I.base.there b o e (h b);by_cases d:b∈iI X.stack
  .obtain⟨sl,t⟩:=g b u i d;exact#[_,t]
  .exact#[u,keep b u i d (x b o e)]
 .have j:∀c v,H c=some v->c∉iI X.stack/\c∉S:=λc v q=>#[λz=>(by rw[l c z]at q;cases q),λz=>(by rw[(w c z).2]at q;cases q)];refine(I.hok b o e).stay (λc v y q=>?_) (λ_ q=>q) λ_ _ q=>q
  rcases y with z|z
  .rw[z]at q|-;exact keep b v q (j b o e).1 (j b o e).2
  .exact keep c v q (j c _ z).1 (j c _ z).2
def Ov{M:Model}{E1:VP}{E:XK}{e C:Ad}{d:Option Ad}(I:Inv X Z a (hA H e (.ext (nJ e C d))) s)(x:H e=none)(U:X.s₀.heap.get? e=none)(h:X.ex=[])(i:X.stack=X.env::X.outer)(hf:X.env.frame=some X.env.locals)(hE:E (.ref C) d H):wpAny M X.A (leaving X.env (.ref e)) (λ_ A=>CX1 X.prog X.w X.outer X.H₀ X.s₀ E (.ref e) A) E1 s:=by
 obtain⟨⟨t0,he⟩,_⟩:=I.hok e _ hO;have B:=I.forget x;have j:=B.stack;have aa:e∉iI X.stack:=λz=>by
  have:=I.stkFree e z;rw[hO]at this;cases this
 have k:∀b∈iI X.stack,∃o,s.heap.get? b=some o/\∀D,o.data≠ .fields D:=λb f=>(j.mem f).2;refine OA (base:=PySem.W.hideAll s.heap (e::iI X.stack)) (a0:= .ref t0) (by rw[I.ok.frames,i]) (by rw[<-i];exact PySem.W.funFrames_hide j λG l b f=> .tail _ (GW G l b f)) hf he (λb o q=>C1 _ q) (zW _ (.head _)) rZ rZ rZ λJ hL dc=>?_;obtain⟨st,_,⟨oe,D,T,oT,Y,m,⟨hc,h0⟩,hd,h1,hT,n,t,v,h3⟩,up⟩:=hL;obtain⟨ab,w,L⟩:=dc;rw[m]at w;cases w;have c:∀b o,s.heap.get? b=some o->b∈iI X.stack->∃sl,J.get? b=some {o with slots:=sl}:=λb o q f=>by
  obtain⟨N,g,O⟩:=k b f;rw[q]at g;cases g;exact up b o q O
 obtain⟨u,hk⟩:=LI (S:=[e]) B h (λb o q f hS=>st b o (xT _ q λz=>by
   rcases iM.mp z with y|z
   .exact hS (by rw[y];exact .head _)
   .exact f z)) c λb z=>by rw[iE.mp z];exact#[U,x]
 have gT:s.heap.get? T=none:=by
  cases q:s.heap.get? T with
  |none=>rfl
  | some o=>
   by_cases y:T∈iI X.stack
   .obtain⟨N,g,O⟩:=k T y;obtain⟨sl,e3⟩:=c T N g y;rw[t]at e3;cases e3;exact wC v (O Y)
   .rw[xT _ q (λr=>by
     rcases iM.mp r with p|r
     .exact n p
     .exact y r)]at hT
    cases hT
 have Q:X.s₀.heap.get? T=none:=by
  cases z:X.s₀.heap.get? T with
  |none=>rfl
  |some o=>
   obtain⟨N,g⟩:=I.base.there T o z (by rw[h];intro y;cases y);rw[gT]at g;cases g
 exact#[e,C,d,H,rZ,I.os,I.bare,u,hk,#[U,x,oe,D,T,oT,Y,_,m,hc,L,hd,h0,h1,Q,B.hok.gone gT,n,t,v,h3],hE]
end
def B4(X:Cx)(E:XK):Prop:=∀(Z:AO) (a:St) (H:Hp) (s:Sh) (e C:Ad) (d:Option Ad),Inv X Z a (hA H e (.ext (nJ e C d))) s->H e=none->X.s₀.heap.get? e=none->E (.ref C) d H->X.xe (.ref e) s
def Iv{P:Pg}{w:World}{K:O0}{mg:SV}{c:Heap}{N:Ss}{d:Str}{a:Scope}{f:Ad}{e:Vl}{A:Ar}{b:List Env}{s:Sh}{H:Hp}{E:XK}:B4 (n9 (CX1 P w) P w K mg c N d a f e A b s H E) E:=
 λ_ _ _ _ _ _ _ I g h i=>Ov I g h rZ rZ rZ i
section
variable{M:Model}{A:Ar}{E:VP}{s:Sh}{a:Env}{K:O0}{C D:Ad}
def Oi{x:Sem Vl}{Q:Flow->Sh->Prop}(m:pz K C D)(k:A.handled=none)(h:wpAny M A x (λv c=>∃e d,v=.ref e/\K.In c.heap/\nJ e C d c.heap/\E (.ref e) c) E s):wpAny M A (raiseStmt a (some x) none) Q E s:=by
 unfold raiseStmt;refine f' (ke h (λv c f=>?_) λ_ _ x=>x);obtain⟨e,d,rfl,X,⟨p,l⟩,n⟩:=f;obtain⟨N,q,r,bs,t,sub,u,o,w,y,k1,k2,k3,k5,j,T,_⟩:=u6 X m;have i:(Value.ref C:: .ref D::veMro).contains (.type "BaseException")=true:=by rw[zo,T.hasType (b:=true) (by rfl),Bool.or_true]
 obtain⟨z,g,B,G,os⟩:=c
 repeat (first|with_reducible refine oF l ?_|with_reducible refine oF j ?_|(with_reducible refine wu j ?_;rw[i])|wp_step)
 exact zR k n
end
def FG(C:Ad)(f:Sp)(E:XK)(t:TA):TS:=λ_ g H=>t g H λb c=>b.length<=sizeLine/\∀e,c e=none->f (.ref e::b) (hA c e (.ext (nJ e C none))) (λv h=>v=.non/\∃d a,h=hA a e (.ext (nJ e C d))/\a e=none/\E (.ref C) d a) E0
section
variable{X:Cx}{k:Nat}{C D f:Ad}{l:Fd}{i:Ss}{j:Sp}{E:XK}{x:Str}{p n a:Pos}{e:Expr}{b:List Expr}{t:TA}
def Kn(hc:X.calm=true)(L:X.ex=[])(th:B4 X E)(m:MkE X.K C D f)(F:FnOk X.prog X.w X.K X.mg X.base iF k f l i j)(hr:Room (k+1) X.A)(hb:Binds X.K l i [])(hg:Gl X x)(hm:X.mg x=some (.ref C))(ha:PA X (e::b) t)(M:(x==("__debug__":Str))=false:=by decide) (he:starEach (e::b) X.env=(false,eval e X.env)::starEach b X.env:=by rfl) (N:(backTo a (starEach b X.env)).any (·.1)=false:=by rfl):
  PS X (.Raise (some (.Call (.Name x p) (e::b) [] a)) none n) (FG C j E t):=by
 intro Z s O H D' I h;rw[arm_exec_Raise];refine f' (vD (Oi m.cls (I.ok.hd hc) (f' (ke (qq (rG I hg hm ?_ M)) (λv s3 Q=>f' (vD (hI Q))) λ_ _ x=>x))));refine xa (h₀:=X.base) I.ok.mod.kin m.kp (ie (ha a Z s O H _ I h) λy s1 ⟨vs,H1,A,r,z,q⟩=>#[A.kIn,?_]) he N;obtain⟨hp,g,d,T,os⟩:=s1;refine IM A.kIn m (by rw[DH,<-r.length];exact z) λh' c J=>?_;obtain⟨t0,B,_,_⟩:=J.there;have hn:H1 c=none:=A.hok.gone J.new;obtain⟨n1,n2,n3,n4⟩:=A.newO (o:= .xd []) L J.new;have U:Inv X Z O (hA H1 c (.ext (nJ c C none))) #[h',g,d,T,os]:=(A.kept (t':=T) J.keeps).takeO (Dh #[t0,B]) hn n1 n2 n3 n4;have hq:=q c hn;have r2:Vals (V.ref c::vs) (Value.ref c::y):= .cons rZ r;have hl:(Value.ref c::y++([]:Vs)).length=i.length:=by
  have e:=r2.length;rw[F.len _ _ _ _ hq]at e;rw[mq];exact e.symm
 have G:=hb #[h',g,d,T,os] (Value.ref c::y) U.kIn hl;rw[mq]at G;refine py (nG (F.run _ X.stack _ _ #[Value.ref c::y,[]] (Value.ref c::y) _ _ E0 (hr.make C y []) (U.env0.make C y []) G r2 hq) λr s' w=>?_);cases r with
 |error e=>exact w.elim
 | ok fl=>
  cases fl with
  |ret u=>
   obtain⟨v,H',Y,rv,ev,d',H3,eH,Q,hE⟩:=U.after w;subst ev eH;exact#[rv,c,d',rZ,Y.kIn,(Y.hok c _ hO).1,th Z O H3 s' c C d' Y Q n1 hE]
  |next=>exact wE w
  |brk=>exact wE w
  |cont=>exact wE w
def Ev(P:Pg)(w:World)(K:O0)(mg:SV)(base:Heap)(x:Str)(k:Nat)(i:Ss)(j:Sp)(C:Ad):Prop:=∃D f l,MkE K C D f/\FnOk P w K mg base iF k f l i j/\Binds K l i []/\mg x=some (.ref C)
def LW(o:X.calm=true)(d:X.ex=[])(q:B4 X E)(c:Ev X.prog X.w X.K X.mg X.base x k i j C)(r:Room (k+1) X.A)(s:Gl X x)(u:PA X (e::b) t)(g:(x==("__debug__":Str))=false:=by decide) (v:starEach (e::b) X.env=(false,eval e X.env)::starEach b X.env:=by rfl) (h:(backTo a (starEach b X.env)).any (·.1)=false:=by rfl):
  PS X (.Raise (some (.Call (.Name x p) (e::b) [] a)) none n) (FG C j E t):=by
 obtain⟨D,f,l,m,F,w,y⟩:=c;exact Kn o d q m F r w s y u g v h
end
def zG(K:O0)(C:Ad)(c:Vs):Prop:=∃N d e bs a f sub g b h i k1 k2 k3 k5 j,K.lookup C=some (excClassObj d e C N bs c a f sub g b h i k1 k2 k3 k5 j)
def DE(K:O0)(C D:Ad):Prop:=∃b a,zG K C b/\zG K D a/\(Value.ref C::b).contains (.ref D)=true/\(Value.ref D::a).contains (.type "BaseException")=true
def Kr{K:O0}{C D:Ad}(q:pz K C D):DE K C C:=by
 obtain⟨_,N,b,c,bs,d,sub,e,a,f,g,k1,k2,k3,k5,lk⟩:=q;exact#[_,_,#[_,_,_,_,_,_,_,_,_,_,_,_,_,_,_,_,lk],#[_,_,_,_,_,_,_,_,_,_,_,_,_,_,_,_,lk],by simp,by rw[List.contains_cons,List.contains_cons];rfl]
def J8{M:Model}{A:Ar}{E:VP}{K:O0}{s:Sh}{e C D:Ad}{b:Obj}{Q:Bool->Sh->Prop}(X:K.In s.heap)(c:DE K C D)(j:s.heap.get? e=some b)(k:b.cls=.ref C)(l:Q true s):
  wpAny M A (excMatches (.ref e) (.ref D)) Q E s:=by
 obtain⟨T,m,⟨N,U,Y,bs,f,sn,sb,ab,n,dd,k0,k1,k2,k3,k5,nw,o⟩,⟨N',p,q,r,a,t,u,v,h,w,x,y,z,B,G,H,I⟩,J,L⟩:=c;have O:=X _ _ o;have i:=X _ _ I;have nt:=tc_notTuple;obtain⟨hp,g,d,tk,os⟩:=s;unfold excMatches
 repeat (first|(with_reducible refine oF j ?_;rw[k])|with_reducible refine oF i ?_|(with_reducible refine wu i ?_;rw[L])|(with_reducible refine wu O ?_;rw[J])|wp_step)
 exact l
def zl(i:Nat)(K:O0)(c:Ad)(f:XK->TS)(g:TS):TS:=λD b H=>∃E:XK,f E D b H/\∀C d a,E (.ref C) d a->DE K C c/\∀e,a e=none->g (gone i D) (b.set i (some (.ref e))) (hA a e (.ext (rh e C d)))
def LB{X:Cx}{i:Nat}{x n:Str}{D':Ad}{k:List Stmt}{b0:Stmt}{a:List Stmt}{tb:XK->TS}{ts:TS}{np Q aj:Pos}(U:X.ex=[])(Y:X.stack=X.env::X.outer)(hf:X.env.frame=some X.env.locals)(hN:X.N.Nodup) (hi:X.N[i]?=some n) (N:X.env.scope.names.lookup n=some .local) (hg:Gl X x) (hm:X.mg x=some (.ref D')) (j:ER X k tb) (hs:∀e,PSs (X.caught e).nox (b0::a) ts) (ak:(x==("__debug__":Str))=false:=by decide):
  PS X (.Try k [.ExceptHandler (some (.Name x np)) (some n) (b0::a) Q] [] [] aj) (zl i X.K D' tb ts):=by
 intro Z s σ H D I h;obtain⟨E,h1,hc⟩:=h;refine wpAny_Try_except (ie (j Z s σ H D E _ I h1 λH1 s1 v s' l hx=>?_) λf s1 q=>?_)
 rotate_left
 .cases f with
  |next=>exact x5 q
  |brk=>exact q
  |cont=>exact q
  |ret u=>exact q
 obtain⟨e,C,d,H',T,a0,rfl,os,aa,u,al,hE,dc,ne,fe,nT,fT,fl⟩:=Hf l hx;obtain⟨cB,go⟩:=hc C d H' hE;have ab:∀b o,s'.heap.get? b=some o->b∉iI X.stack->b∉[e,T]->(PySem.W.hideAll s'.heap (e::T::iI X.stack)).get? b=some o:=λb o q j O=>xT _ q λz=>by
  rcases iM.mp z with y|z
  .exact O (by rw[y];exact .head _)
  .rcases iM.mp z with y|z
   .exact O (by rw[y];exact .tail _ (.head _))
   .exact j z
 have am:∀b∈iI X.stack,∃o,s'.heap.get? b=some o/\∀ws,o.data≠ .fields ws:=λb j=>(fl.2.2.1.mem j).2;generalize PySem.W.hideAll s'.heap (e::T::iI X.stack)=B at fl ab;rw[Y]at fl;have O:∀b∈[e,T],s1.heap.get? b=none/\H' b=none:=λb z=>by
  rcases iM.mp z with y|z
  .rw[y];exact#[ne,fe]
  .rw[iE.mp z];exact#[nT,fT]
 have mk:∀t,Heap.FlyingW B (X.env::X.outer) e (.ref C) a0 t->s'.heap.UpToSlots t->Inv X Z σ H' {s' with heap:=t}:=λt f5 up=>by
  obtain⟨u5,an⟩:=Jd (S:=[e,T]) (g:=s'.heap) l u al (λb o q j O=>f5.1 b o (ab b o q j O)) (λb o q j=>by
   obtain⟨o',e1,e2⟩:=am b j;rw[q]at e1;cases e1;exact up b o q e2) O
  exact l.call' (s':={s' with heap:=t}) (ch:=[]) os u5 an aa λb z=>by cases z
 refine Kg (by rw[l.ok.frames,Y]) hf fl dc λh4 w ae ao=>?_;refine MU w ao λt A af ap=>?_;have I5:=mk t A (ae.trans af);refine wpAny_handleBy_cons (codeAny_handlers_test (rG (X:=X.caught e) (I5.caught e) hg hm ?_ ak)) (by intro q;cases q);obtain⟨oe,aq,ar⟩:=A.there;refine J8 I5.kIn cB aq ar ?_;refine codeAny_handlers_suite_as (Mr A ap λh6 ag as au=>?_);have I6:=mk h6 ag ((ae.trans af).trans as);have n0:X.s₀.heap.get? e=none:=by
  cases z:X.s₀.heap.get? e with
  |none=>rfl
  |some o=>
   obtain⟨o',e1⟩:=l.base.there e o z (by rw[U];intro y;cases y);rw[ne]at e1;cases e1
 have av:rh e C d h6:=Lg ag au;have aw:=I6.takeIn (C:=C) av fe n0 (λz=>by
   obtain⟨m,⟨oL,_,_,ah,_⟩,_⟩:=l.loc;rw[<-z,ne]at ah;cases ah) (λy c q z=>by
   obtain⟨w',oc,ai,_⟩:=l.cell y c q;rw[z,ne]at ai;cases ai) (λp hp z=>by
   have:=(l.pin p hp).1;rw[z,ne]at this;cases this) (by rw[U];intro y;cases y)
 refine CY (X:=X.caught e) (v:= .ref e) (aw.caught e) hN hi (.inl N) rZ (λs7 I7=>?_) (.inr N);refine ke (hs e Z s7 _ _ _ (I7.wish _) (go e fe)) (λf s8 q=>?_) λ_ _ z=>wE z;cases f with
 |next=>
  obtain⟨G,J,L,q⟩:=q;exact AM (L.unwish.uncaught I.ok) hi hN N λs9 M=>#[_,J,M,q]
 |brk=>
  obtain⟨G,J,L,q⟩:=q;exact AM (L.unwish.uncaught I.ok) hi hN N λs9 M=>#[_,J,M,q]
 |cont=>
  obtain⟨G,J,L,q⟩:=q;exact AM (L.unwish.uncaught I.ok) hi hN N λs9 M=>#[_,J,M,q]
 |ret u=>
  obtain⟨v,G,J,L,r,q⟩:=q;exact AM (L.unwish.uncaught I.ok) hi hN N λs9 M=>#[v,_,J,M,r,q]
structure GetE(K:O0)(C:Ad)(a:Str):Prop where
 ga:PySem.W.findIn K (.ref C) "__getattribute__"=some (some (.builtin "BaseException.__getattribute__"))
 gt:PySem.W.findIn K (.ref C) "__getattr__"=some none
 na:PySem.W.findIn K (.ref C) a=some none
section
variable{P:Pg}{w:World}{A:Ar}{E:VP}{h:Heap}{g:Array GenState}{d:Drawn}{t:Nat}{os:OsState}{e C D i:Ad}{o:Obj}{K:O0}{a:Str}{u:Vl}{f:SV}
def Nd{M:Model}{a:Vl}{Q:Unit->Sh->Prop}(X:K.In h)(m:pz K C D)(c:h.get? e=some o)(f:o.cls=.ref C)(i:Q ⟨⟩ #[h,g,d,t,os]):
  wpAny M A (checkBuiltinCall "BaseException.__getattribute__" #[[.ref e,a],[]]) Q E #[h,g,d,t,os]:=by
 have j:builtinKind "BaseException.__getattribute__"=some .slot:=by decide+kernel
 have k:splitId "BaseException.__getattribute__"=some ("BaseException","__getattribute__"):=by decide+kernel
 obtain⟨N,q,r,bs,s,sub,u,l,v,w,k1,k2,k3,k5,n,T,_⟩:=u6 X m;have p:(Value.ref C:: .ref D::veMro).contains (.type "BaseException")=true:=by rw[zo,T.hasType (b:=true) (by rfl),Bool.or_true]
 have x:=F.args_bexc_ga (.ref e) a;simp only[checkBuiltinCall,j,k];refine f' ?_;unfold isInstance
 repeat (first|(with_reducible refine oF c ?_;rw[f])|(with_reducible refine wu n ?_;rw[p])|wp_step)
 exact i
def OL{p:Tok}{Q:Fin->Sh->Prop}(X:K.In h)(m:pz K C D)(gE:GetE K C a)(l:h.get? e=some o)(n:o.cls=.ref C)(b:∀c,o.data≠ .cls c)(j:o.dict=some i)(q:h.Ns i f)(r:f a=some u)(s:Q (.done (.ret u)) #[h,g,d,t,os]):
  wpAny (model P w) A (Builtin.«object.__getattribute__» #[[.ref e,.str a p],[]]) Q E #[h,g,d,t,os]:=by
 obtain⟨N,y,z,bs,B,sub,G,v,H,I,k1,k2,k3,k5,x,T,_⟩:=u6 X m;unfold Builtin.«object.__getattribute__»
 repeat (first|(with_reducible refine oF l ?_;rw[n])|with_reducible refine wM X gE.na ?_|wp_step)
 split
 .rename_i c k
  exact wC k (b c)
 unfold instanceDict
 repeat (first|(with_reducible refine oF l ?_;rw[n])|with_reducible refine oF x ?_|wp_step)
 rw[j]
 repeat (first|(with_reducible refine wpAny_nsGet q ?_;rw[r])|wp_step)
 exact s
def KC{q:Tok}{fill b:Bool}{Q:VP}(X:K.In h)(m:pz K C D)(gE:GetE K C a)(j:h.get? e=some o)(k:o.cls=.ref C)(l:∀c,o.data≠ .cls c)(n:o.dict=some i)(r:h.Ns i f)(s:f a=some u)(p:handedOut u=pure u)(x:Q u #[h,g,d,t,os]):
  wpAny (model P w) A (getAttrBy (.ref e) (.str a q) fill b) Q E #[h,g,d,t,os]:=by
 have y:=F.excAttr_ValueError.ga.bind (.ref e);have z:(b&&onTheHeap (Value.builtin "BaseException.__getattribute__"))=false:=by cases b<;>rfl
 have v:(Value.builtin "BaseException.__getattribute__"==Value.builtin "object.__getattribute__")=false:=by decide+kernel
 have B:(onTheHeap (Value.ref C)&&Value.builtin "BaseException.__getattribute__"==Value.builtin "object.__getattribute__")=false:=by rw[v];rfl
 repeat (any_goals (first|assumption|(with_reducible refine oF j ?_;rw[k])|with_reducible refine wM X gE.ga ?_|with_reducible refine wM X gE.gt ?_|wp_step))
 refine x4 F.excAttr_ValueError.ga.plain F.entry_bexc_ga (Nd X m j k (OL X m gE j k l n r s ?_))
 repeat (any_goals (first|assumption|(rw[p])|wp_step))
def Mm{b:Bool}{Q:VP}(X:K.In h)(m:pz K C D)(gE:GetE K C a)(n:h.get? e=some o)(p:o.cls=.ref C)(j:∀c,o.data≠ .cls c)(k:o.dict=some i)(q:h.Ns i f)(r:f a=some u)(l:handedOut u=pure u)(s:Q u #[h,g,d,t+1,os]):
  wpAny (model P w) A (getAttr (.ref e) a b) Q E #[h,g,d,t,os]:=by
 unfold getAttr
 repeat (any_goals (first|assumption|with_reducible apply KC X m gE n p j k q r l|wp_step))
end
def He(K:O0)(a:Str)(d:TE):TE:=λf H Q=>d f H λx b=>∃e C D c n,x=.ref e/\b e=some (.ext (rh e C (some c)))/\b c=some (.xd [(a,.int n)])/\pz K C D/\GetE K C a/\Q (.int n) b
def Nn{X:Cx}{e:Expr}{a:Str}{k:TE}{i:Pos}(p:PE X e k)(v:attributeBase e a X.env (eval e X.env)=eval e X.env:=by rfl):PE X (.Attribute e a i) (He X.K a k):=by
 intro Z s w H Q I h;refine Lq v (ie (p Z s w H _ I h) λu y ⟨x,A,f,B,ad,C,D,E,n,G,J,L,m,gE,q⟩=>?_);subst G;cases B;obtain⟨⟨o,M,N,O,Y,hw⟩,_⟩:=f.hok ad _ J;obtain⟨T,U,r⟩:=f.hok E _ L;have b:=r a;rw[show List.lookup a [(a,V.int n)]=some (V.int n) by rw[ng,wU]]at b;cases j:T a with
 |none=>rw[j]at b;exact b.elim
 |some u=>
  rw[j]at b;obtain⟨l,rfl⟩:=(show ∃l,u=Value.int n l from b);obtain⟨hh,g,d,t,os⟩:=y;exact Mm f.kIn m gE M N (λc z=>by rw[hw]at z;cases z) O U.ns j rfl #[.int n,A,f.tok (t+1),#[_,rfl],q]
def FX{X:Cx}{K:O0}{e:Expr}{a:Str}{c:TE}{b:Pos}(d:X.K=K)(f:PE X e c)(g:attributeBase e a X.env (eval e X.env)=eval e X.env:=by rfl):PE X (.Attribute e a b) (He K a c):=by
 subst d;exact Nn f g
structure RoomH(k:Nat)(A:Ar):Prop where
 dp:A.depth+3 * k+5<recursionLimit
 un:A.units+16 * k+200<cLine
def Room.held{k:Nat}{A:Ar}(r:Room k A):RoomH k A:=#[r.dp,r.un]
def RoomH.mono{j k:Nat}{A:Ar}(r:RoomH k A)(h:j<=k):RoomH j A:=#[by have:=r.dp;lia,by have:=r.un;lia]
def RoomH.mark{k:Nat}{A:Ar}(r:RoomH k A)(h:Option Vl):RoomH k (A.mark h):=#[r.dp,r.un]
structure FnOkH(P:Pg)(w:World)(K:O0)(mg:SV)(base:Heap)(k:Nat)(f:Ad)(fd:Fd)(ps:Ss)(sp:Sp):Prop where
 len:∀vs H Q E,sp vs H Q E->vs.length=ps.length
 run:∀(A:Ar) (outer:List Env) (s:Sh) (H:Hp) (args:Args) (us:Vs) (vs:List V) (Q:VK) (E:XK),RoomH k A->Env0 P w K mg base A outer s H->BindsTo s fd args (ps.zip us)->Vals vs us->sp vs H Q E->
  codeAny (model P w) A (.call (.ref f) args) (CR iF outer P w H s Q E) s
abbrev Cx.loud(X:Cx):Cx:={X with calm:=false}
def Kc{P:Pg}{w:World}{K:O0}{mg:SV}{g:Heap}{k:Nat}{f:Ad}{name d:Str}{i:Arguments}{l:List Stmt}{a:Scope}{dV kV L pm h ct oc:Vl}{an od:Option Ad}{T:Array (Option Vl)} {N O:Ss} {U:Sp} (lk:K.lookup f=some #[oc,od,.func (PySem.W.fnOf name d i l a dV kV L pm an h ct),T]) (Y:PySem.W.codeIn K h d=true) (S:FnScope N O a)(len:∀m H Q E,U m H Q E->m.length=O.length)(C:∀(A:Ar) (c:List Env) (s:Sh) (H:Hp) (m:List V) (Q:VK) (E:XK),RoomH k (A.deeper (envOfC d a s.heap.objs.size f h))->U m H Q E->
   ∃t,PSs (n9 iF P w K mg g N d a f h A c s H E).loud.nox l t/\t {nx:=λ_ B=>Q .non B,rt:=Q} (start N m) H):
  FnOkH P w K mg g (k+1) f (PySem.W.fnOf name d i l a dV kV L pm an h ct) O U:=by
 refine#[len,λA c s H args us m Q E hr j hb r M=>?_];have hl:=len _ _ _ _ M;have KX:K.In s.heap:=j.mod.kin.keeps λb o e=>(j.bs b o e).1;have aa:s.heap.NoLimit:=j.mod.nolimit.keeps λb o e=>(j.bs b o e).1;have D:∀y∈O.zip us,a.names.lookup y.1=some .local\/(a.names.lookup y.1=some .cell/\((cellsFrom (s.heap.objs.size+1) a.names []).lookup y.1).isSome=true):=λ⟨n,v⟩ hy=>by
  rcases S.par n (y4 hy).1 with q|q
  .exact .inl q
  .exact .inr #[q,CC _ _ _ (.inl q)]
 refine codeAny_call_function (by have:=hr.dp;lia) (KX _ _ lk) rZ S.co S.gen rZ (PySem.W.codeRec_of KX Y) (hb _ _ _ _ ?_);refine Il S.kind D λab he s1 x=>?_;subst he;refine#[aa.keeps x.toInCall.keep,codeAny_func ?_];obtain⟨t,ht,hq⟩:=C A c s H m Q E #[by have:=hr.dp;show A.depth+1+3 * k+5<_;lia,by have:=hr.un;show A.units+3+16 * k+200<_;lia] M;have J:Inv (n9 iF P w K mg g N d a f h {A with handled:=none} c s H E) [] (start N m) H s1:=Hy S rfl #[j.frames,j.mod,j.bs,j.bsz,j.funs,j.frf,j.hok,j.bare] hl r x;have I:Inv (n9 iF P w K mg g N d a f h A c s H E).loud [] (start N m) H s1:=
  #[#[J.ok.mod,J.ok.kind,J.ok.glob,J.ok.blt,J.ok.above,J.ok.inj,J.ok.has,J.ok.cab,(λz=>by cases z),J.ok.frames,J.ok.stk,J.ok.exf,J.ok.bs,J.ok.bsz,J.ok.noex,J.ok.exfs,J.ok.funs,J.ok.frf],J.os,J.bare,J.base,J.loc,J.cell,J.free,J.freeC,J.pin,J.hok,J.len]
 refine ke (ht [] s1 (start N m) H _ (I.wish _) hq) (λfl s' G=>?_) λe s' G=>wE G;have fin:∀{p:St} {B:Hp} {v:V} {u:Vl},Inv (n9 iF P w K mg g N d a f h A c s H E).loud [] p B s'->RelV v u->Q v B->CE c P w H s Q u s':=
  λ{p B v u} J rv q=>#[v,B,J.os,J.bare,J.base,J.hok,rv,q]
 cases fl with
 |ret u=>
  obtain⟨v,p,B,J,rv,q⟩:=G;exact fin J.unwish rv q
 |next=>
  obtain⟨p,B,J,q⟩:=G;exact fin (v:=V.non) (u:=Value.none) J.unwish rZ q
 |brk=>
  obtain⟨_,_,_,q⟩:=G;exact wE q
 |cont=>
  obtain⟨_,_,_,q⟩:=G;exact wE q
def Fun.okH{P:Pg}{w:World}{K:O0}{mg:SV}{d:Heap}{x b:Str}{st:Stmt}{f:Ad}{m:Fd}{N h:Ss}{k:Nat}{i:Sp}(F:Fun K x b st f m)(S:FnScope N h (hZ st))(len:∀e H Q E,i e H Q E->e.length=h.length)(g:∀(c:Vl) (A:Ar) (a:List Env) (s:Sh) (H:Hp) (e:List V) (Q:VK) (E:XK),RoomH k (A.deeper (envOfC b (hZ st) s.heap.objs.size f c))->i e H Q E->
   ∃t,PSs (n9 iF P w K mg d N b (hZ st) f c A a s H E).loud.nox (iS st) t/\t {nx:=λ_ n=>Q .non n,rt:=Q} (start N e) H):FnOkH P w K mg d (k+1) f m h i:=by
 obtain⟨r,u,kV,o,v,y,c,z,p,rfl,lk,j⟩:=F.ex;exact Kc lk j S len λA a s H e Q E q l=>g c A a s H e Q E q l
def Cg(P:Pg)(w:World)(K:O0)(mg:SV)(a:Heap)(x:Str)(k:Nat)(b:Ss)(d:Sp):Prop:=
 ∃f c,FnOkH P w K mg a k f c b d/\mg x=some (.ref f)/\PySem.W.keepIn K (.ref f)=true/\Binds K c b []
def N6{X:Cx}{x:Str}{k:Nat}{y:Ss}{i:Sp}{e:Expr}{b:List Expr}{t:TA}{p a:Pos}(c:Cg X.prog X.w X.K X.mg X.base x k y i)(A:RoomH k X.A)(B:Gl X x)(C:PA X (e::b) t)(m:(x==("__debug__":Str))=false:=by decide) (D:starEach (e::b) X.env=(false,eval e X.env)::starEach b X.env:=by rfl) (n:(backTo a (starEach b X.env)).any (·.1)=false:=by rfl):
  PE X (.Call (.Name x p) (e::b) [] a) (uo i [] E0 t):=by
 obtain⟨f,T,F,E,G,J⟩:=c;intro Z s L H Q I h;refine qq (rG I B E ?_ m);refine xa (h₀:=X.base) I.ok.mod.kin G (ie (C a Z s L H _ I h) λj z ⟨o,w,l,r,q⟩=>#[l.kIn,?_]) D n;have q:i o w Q E0:=by
  have M:i (o++[]) w Q E0:=q;rwa[mq]at M
 have N:j.length=y.length:=by rw[<-r.length];exact F.len _ _ _ _ q
 have d:=J z j l.kIn (by rw[mq];exact N);rw[mq]at d;refine py (nG (F.run X.A X.stack z w #[j,[]] j o Q E0 A l.env0 d r q) λr U g=>?_);cases r with
 |error v=>exact g.elim
 |ok O=>
  cases O with
  |ret u=>exact l.after g
  |next=>exact wE g
  |brk=>exact wE g
  |cont=>exact wE g
def y1(op:CmpOp)(A:Ar)(s:Sh)(x y:Vl)(r:Bool):Prop:=
 ∀(P:Pg) (w:World) (E:VP) (Q:VP),Q (.bool r) s->wpAny (model P w) A (richCompare op x y) Q E s
inductive Cmp (op:CmpOp) (A:Ar) (s:Sh):List (Vl×Vl)->Option Bool->Prop where
 |nil:Cmp op A s [] none
 |eq {x y zs o}:SeqAt.EqAt A s x y true->Cmp op A s zs o->Cmp op A s ((x,y)::zs) o
 |ne {x y zs r}:SeqAt.EqAt A s x y false->y1 op A s x y r->Cmp op A s ((x,y)::zs) (some r)
def SeqObj(c:String)(h:Heap)(a:Ad)(b:Vs):Prop:=∃n d sl,h.get? a=some #[.type c,d,.seq b.toArray n,sl]
section
variable{P:Pg}{w:World}{A:Ar}{E:VP}{s:Sh}{a:CmpOp}
def Mf{i:Type}{f:Vl×Vl->i->Sem (ForInStep i)}{d:i}{Q:i->Sh->Prop}{j:List (Vl×Vl)}{o:Option Bool}(h:Cmp a A s j o)(k:∀x y Q,SeqAt.EqAt A s x y true->Q (.yield d) s->wpAny (model P w) A (f (x,y) d) Q E s)(l:∀x y r,SeqAt.EqAt A s x y false->y1 a A s x y r->o=some r->wpAny (model P w) A (f (x,y) d) (λt g=>match t with|.yield _=>False|.done b=>Q b g) E s)(fin:o=none->Q d s):wpAny (model P w) A (forIn j d f) Q E s:=by
 refine wpAny_forIn_list f (λrest b g=>b=d/\g=s/\Cmp a A s rest o) Q (λz rest b g q=>?_) (λb g q=>?_) j d #[rZ,rZ,h]
 .obtain⟨rfl,rfl,c⟩:=q;cases c with
  |eq e c=>exact k _ _ _ e #[rZ,rZ,c]
  |ne e c=>
   refine ke (l _ _ _ e c rZ) (λt m z=>?_) λ_ _ z=>z;cases t with
   |yield _=>exact z.elim
   |done _=>exact z
 .obtain⟨rfl,rfl,c⟩:=q;cases c;exact fin rfl
end
section
open AutoSeq1
open MeetsSeq MeetsSeq2 MeetsSeq3 SeqRoads2 SeqAt
variable{l b:Ad}{d a:Vs}
def ME:Meets (Builtin.«tuple.__lt__» #[[.ref l,.ref b],[]]) (λA R s=>SeqObj "tuple" s.heap l d/\SeqObj "tuple" s.heap b a/\∃o,Cmp .Lt A.in1 s (d.zip a) o/\R (.ok (.ret (.bool (o.getD (decide (d.length<a.length)))))) s):=by
 refine .of_wp λP w A R ⟨h,p,t,k,os⟩ ⟨⟨n,u,sl,f⟩,⟨m,v,B,i⟩,o,c,q⟩=>?_;have sub:=AutoSeq1.sub_tuple_tuple
 wp_walk using Ds f,Ds i
 refine Mf c (λx y Q e z=>?_) (λx y r e j z=>?_) (λz=>?_)
 .refine f' (e P w _ _ ?_)
  wp_walk
  exact z
 .refine f' (e P w _ _ ?_);generalize g:richCompare .Lt x y=ask
  wp_walk
  subst g;refine j P w _ _ ?_
  wp_walk
  subst z;exact#[_,rZ,q]
 .subst z
  wp_walk
  exact#[_,rZ,by simpa[Builtin.Tuple.tupleCompareSizes]using q]
end
def nY:g9->List Nat->Option Bool
 |a::c,b::d=>if a=b then nY c d else some (decide (a<b))
 |_,_=>none
def lA(a b:g9):Bool:=(nY a b).getD (decide (a.length<b.length))
def yq(b:g9):lA b b=false:=by
 have c:nY b b=none:=by
  induction b with
  |nil=>rfl
  |cons a b d=>rw[nY,wB rZ,d]
 unfold lA;rw[c];simp
section
variable{A:Ar}{s:Sh}{l b:Ad}{a d:Vs}{o:Option Bool}
def L9{i j:Int}{t u:Tok}:y1 .Lt A s (.int i t) (.int j u) (decide (i<j)):=λP w E Q q=>show wpAny _ _ (compareOp .Lt _ _) _ _ _ from PyProof.Rows.lt_int q
def mz{i j:Int}{t u:Tok}:SeqAt.EqAt A s (.int i t) (.int j u) (decide (i=j)):=by
 have z:=BL (A:=A) (s:=s) (y:= .int i) (x:= .int j) (u:= .int i t) (v:= .int j u) #[t,rZ] #[u,rZ] rZ rfl;have e:ql (.int i) (.int j)=decide (i=j):=by
  show(i==j)=_;by_cases h:i=j<;>simp[h]
 rwa[e]at z
theorem HP{op:CmpOp}{F:Bool->Bool}(f:∀(i j:Nat) (t u:Tok),i≠j->y1 op A s (.int (i:Int) t) (.int (j:Int) u) (F (decide (i<j)))):
  ∀{c b:g9} {a d:Vs},Vals (c.map nv) a->Vals (b.map nv) d->Cmp op A s (a.zip d) ((nY c b).map F)
 | [],b,_,_,.nil,_=>by rw[List.zip_nil_left,show nY [] b=none by cases b<;>rfl];exact .nil
 |n::c,[],_,_,.cons _ _,.nil=>by rw[List.zip_nil_right];exact .nil
 | n::c,m::b,_,_,.cons ⟨t,g⟩ h,.cons ⟨u,k⟩ l=>by
  subst g k;have z:=mz (A:=A) (s:=s) (i:=(n:Int)) (j:=(m:Int)) (t:=t) (u:=u);by_cases e:n=m
  .rw[i0 ()]at z;rw[nY,wB e];exact .eq z (HP f h l)
  .rw[j9 ()]at z;rw[nY,wA e];exact .ne z (f n m t u e)
def OQ{c f:g9}(g:Vals (c.map nv) a)(h:Vals (f.map nv) d):Cmp .Lt A s (a.zip d) (nY c f):=by
 have z:=HP (A:=A) (s:=s) (op:= .Lt) (F:=λb=>b) (λi j t u _=>by
  have e:decide ((i:Int)<(j:Int))=decide (i<j):=by simp
  exact e▸L9) g h
 rwa[Option.map_id']at z
def IX(h:s.heap.IsTuple l a.toArray):SeqObj "tuple" s.heap l a:=by
 obtain⟨⟨c,b,g,sl⟩,e,d,n,f⟩:=h;cases d;cases f;exact#[n,b,sl,e]
def SeqObj.ty{c:String}(h:SeqObj c s.heap l a):s.TypeIs (.ref l) c:=let⟨_,_,_,e⟩:=h;#[_,e,rZ]
def IH(e:SeqObj "tuple" s.heap l a)(f:SeqObj "tuple" s.heap b d)(g:A.units<cLine)(c:Cmp .Lt A.in1 s (a.zip d) o):y1 .Lt A s (.ref l) (.ref b) (o.getD (decide (a.length<d.length))):=λP w E Q q=>
 richCompare_meets_room (op:= .Lt) e.ty f.ty F.slot_tuple_lt F.entry_tuple_lt (F.args_tuple_lt_2 _ _) ME #[e,f,o,c,(λz=>nomatch z),q] g
end
section
variable{X:Cx}
def y6(i:Int)(a:g9)(j:Int)(b:g9):Bool:=if i=j then lA a b else decide (i<j)
end
def h9(m:Nat):g9:=(List.range 5).filter λi=>m.testBit i
def lG(led:Bool)(a:g9):SetTable:={mask:=if a.length=5 then 31 else 7,place:=a.toArray,dummies:= #v[],finger:=0,led,moves:=if a.length=5 then 1 else 0,plain:=true}
def qv(a:g9)(k:Nat):Nat:=(a.filter (· <k)).length
def pF(a:Bool)(m k:Nat):SetTable:={lG a (h9 m)with place:=(h9 (m |||2 ^ k)).toArray}
def yj:∀(a:Bool) (m:Fin 32),(lG a (h9 m)).fits (h9 m).length=true:=by decide+kernel
def Mt:∀(a:Bool) (m:Fin 32) (k:Fin 5),(m:Nat).testBit k=false->(lG a (h9 m)).freeSlot ((k:Nat):Int)=some ((k:Nat),false):=by decide+kernel
def JF:∀(a:Bool) (m:Fin 32) (k:Fin 5),(m:Nat).testBit k=false->(lG a (h9 m)).put k=(pF a m k,qv (h9 m) k)/\(pF a m k).fits ((h9 m).length+1)=true:=by decide+kernel
def Mq:∀(m:Fin 32) (k:Fin 5),(m:Nat).testBit k=false->h9 (m |||2 ^ (k:Nat))=(h9 m).take (qv (h9 m) k)++(k:Nat)::(h9 m).drop (qv (h9 m) k):=by decide+kernel
def IJ:∀(m:Fin 32) (k:Fin 5),(k:Nat)∈h9 m->(m |||2 ^ (k:Nat):Nat)=m:=by decide+kernel
def ON:∀(m:Fin 32) (k:Fin 5),(k:Nat)∉h9 m->(m:Nat).testBit k=false:=by decide+kernel
def EZ:∀(m:Fin 32) (k:Fin 5),(m |||2 ^ (k:Nat):Nat)<32:=by decide+kernel
def zT:∀m:Fin 32,(h9 m).length<=5:=by decide+kernel
def JQ:∀(a:Bool) (m:Fin 32) (k:Fin 5),(m:Nat).testBit k=false->(h9 m).length≠4->pF a m k=lG a (h9 (m |||2 ^ (k:Nat)))/\(pF a m k).tooFull=false:=by decide+kernel
def IF:∀(a:Bool) (m:Fin 32) (k:Fin 5),(m:Nat).testBit k=false->(h9 m).length=4->(pF a m k).tooFull=true/\
  (pF a m k).relaid #v[0,1,2,3,4] (SetTable.grown 5)=some (lG a (h9 (m |||2 ^ (k:Nat))),#v[0,1,2,3,4])/\h9 (m |||2 ^ (k:Nat))=[0,1,2,3,4]/\(lG a (h9 (m |||2 ^ (k:Nat)))).fits 5=true:=by decide+kernel
def CN:∀k:Fin 5,hashInt ((k:Nat):Int)=((k:Nat):Int):=by decide+kernel
def Ents:g9->List (Int×Vl)->Prop:=Paired λn e=>e.1=(n:Int)/\∃t,e.2=.int (n:Int) t
def nz(a:List (Int×Vl))(b:Nat)(t:SetTable):Obj:={cls:= .type "set",data:= .set a.toArray b t}
def IsSet5(h:Heap)(a:Ad)(b:Bool)(m:Nat):Prop:=m<32/\∃c d,h.get? a=some (nz c d (lG b (h9 m)))/\Ents (h9 m) c
theorem Ents.take:∀{a:g9} {b:List (Int×Vl)} (p:Nat),Ents a b->Ents (a.take p) (b.take p)
 |_,_,0,_=> .nil
 |_,_,_+1,.nil=> .nil
 |_,_,p+1,.cons r t=> .cons r (Ents.take p t)
theorem Ents.drop:∀{a:g9} {b:List (Int×Vl)} (p:Nat),Ents a b->Ents (a.drop p) (b.drop p)
 |_,_,0,r=>r
 |_,_,_+1,.nil=> .nil
 |_,_,p+1,.cons _ t=>Ents.drop p t
theorem Ents.app:∀{a b:g9} {c fs:List (Int×Vl)},Ents a c->Ents b fs->Ents (a++b) (c++fs)
 |_,_,_,_,.nil,r=>r
 |_,_,_,_,.cons q t,r=> .cons q (Ents.app t r)
def Ents.len{a:g9}{b:List (Int×Vl)}(h:Ents a b):b.length=a.length:=(r3 h).symm
theorem Ents.keys:∀{a:g9} {b:List (Int×Vl)},Ents a b->b.map (·.1)=a.map λ(n:Nat)=>(n:Int)
 |_,_,.nil=>rfl
 |_,_,.cons q t=>by rw[lH,lH,q.1,Ents.keys t]
theorem Ents.mem:∀{a:g9} {b:List (Int×Vl)} {e:Int×Vl},Ents a b->e∈b->∃n∈a,e.1=(n:Int)/\∃t,e.2=.int (n:Int) t
 | _,_,_,.cons q t,h=>by
  rcases iM.mp h with z|z
  .subst z;exact#[_,i7,q]
  .obtain⟨n,c,d⟩:=Ents.mem t z;exact#[n,jr _ c,d]
theorem Ents.has:∀{a:g9} {b:List (Int×Vl)} {n:Nat},Ents a b->n∈a->∃e∈b,∃t,e.2=.int (n:Int) t
 | _,_,_,.cons q t,h=>by
  rcases iM.mp h with z|z
  .subst z;exact#[_,i7,q.2]
  .obtain⟨e,c,d⟩:=Ents.has t z;exact#[e,jr _ c,d]
def Ents.elems{P:Pg}{w:World}{m:Fin 32}{b:List (Int×Vl)}(h:Ents (h9 m) b):ElemsOf (intKind P w) b:=λe d=>by
 obtain⟨n,f,g,t,c⟩:=h.mem d;have a:n<5:=nj.mp (kC.mp f).1;exact#[#[(n:Int),by rw[c];exact qf _ _ _ _,by rw[g];exact(CN #[n,a]).symm],by rw[c];rfl]
def A9{b:Type}(a:List b)(p:Nat)(x:b):(SetTable.insertAt a.toArray p x)=(a.take p++x::a.drop p).toArray:=by
 unfold SetTable.insertAt;apply Array.ext';simp;exact Aw (by simp)
section
variable{P:Pg}{w:World}{A:Ar}{E:VP}{s:Sh}{a:Ad}{b:Bool}{m k:Nat}{t:Tok}
def AQ{h:Heap}{c fs:List (Int×Vl)}{b:Nat}{t u:SetTable}(e:h.get? a=some (nz c b t)):(h.update a (Obj.putSet fs.toArray u)).get? a=some (nz fs (b+1) u):=si _ e rfl
def yo{b:Type}{fs:List b}{n:Nat}(h:fs.length=n+1):∃a r,fs=a::r/\r.length=n:=by
 cases fs with
 |nil=>cases h
 |cons a r=>exact#[a,r,rZ,Nat.succ.inj h]
def zc{a:Type}{fs:List a}(h:fs.length=5):(#v[0,1,2,3,4]:Array Nat).filterMap (fs.toArray[·]?)=fs.toArray:=by
 obtain⟨_,_,rfl,b⟩:=yo h;obtain⟨_,_,rfl,c⟩:=yo b;obtain⟨_,_,rfl,d⟩:=yo c;obtain⟨_,_,rfl,e⟩:=yo d;obtain⟨_,_,rfl,f⟩:=yo e;cases sm.mp f;rfl
def Ni{Q:Sh->Prop}(l:k<5)(hS:IsSet5 s.heap a b m)(q:∀G,IsSet5 G a b (m |||2 ^ k)->Heap.SameBut a s.heap G->Q {s with heap:=G}):
  wpAny (model P w) A (setAddHashed a (.int (k:Int) t) (k:Int)) (λ_ s'=>Q s') E s:=by
 obtain⟨f,c,H,e,r⟩:=hS;have I:=r.len;have J:=yj b #[m,f];have Y:ElemsOf (intKind P w) c.toArray.toList:=Ents.elems (m:=#[m,f]) r;have m5:(h9 m).length<=5:=zT #[m,f];have p:(lG b (h9 m)).fits c.toArray.size=true:=by rw[i8,I];exact J
 have sc:byScan (.int (k:Int) t) c.toArray=true:=by
  unfold byScan;have e3:c.toArray.all (·.2.scannable)=true:=by
   rw[Hn];exact λx L=>(Y x (by simpa using L)).2
  rw[e3];have e4:decide (c.toArray.size<scanBound)=true:=i0 (by rw[i8,I];unfold scanBound;lia);rw[e4];rfl
 have hh:(intKind P w).hash (k:Int)=(k:Int):=CN #[k,l];unfold setAddHashed setAddHashedIn;refine lL (f' (oV e rZ p ?_));dsimp only;rw[sc,wB rZ];unfold setAddByScan;refine f' (f' (rJ (f' ?_)));have scan:∀{R:ScanMet->Sh->Prop},R (match c.toArray.toList.findIdx? (λe=>(intKind P w).is (k:Int) e.2)with|some j=> .found (0+j)|none=> .absent) s->wpAny (model P w) A (setScan a (.int (k:Int) t) (k:Int) true c.toArray) R E s:=λz=>by
  have y:=wpAny_setScan_of (prog:=P) (w:=w) (A:=A) (E:=E) (knd:=intKind P w) (k:=(k:Int)) (x:= .int (k:Int) t) (adding:=true) (qf _ _ _ _) e rZ p Y z;rw[hh]at y;exact y
 refine scan ?_;rw[u7];by_cases o:k∈h9 m
 .obtain⟨x,L,tx,ex⟩:=r.has o;cases M:c.findIdx? λe=>(intKind P w).is (k:Int) e.2 with
  |none=>
   have z:=List.findIdx?_eq_none_iff.mp M x L;rw[ex,qf]at z;cases z
  |some j=>
   refine hI (hI ?_);have z:=q s.heap (by rw[IJ #[m,f] #[k,l] o];exact#[f,c,H,e,r]) (Heap.SameBut.refl a s.heap);cases s;exact z
 .have B:=ON #[m,f] #[k,l] o;cases M:c.findIdx? λe=>(intKind P w).is (k:Int) e.2 with
  |some j=>
   obtain⟨hj,C,_⟩:=HU.mp M;obtain⟨n,hn,_,tn,N⟩:=r.mem (qb hj);rw[N]at C;have z:(k:Int)=(n:Int):=(intKind P w).inj _ _ _ C (qf _ _ _ tn);have z':k=n:=by lia
   exact wC (z'▸hn) o
  | none=>
   obtain⟨pu,pf⟩:=JF b #[m,f] #[k,l] B;have sa:=Mq #[m,f] #[k,l] B;have d:=EZ #[m,f] #[k,l];dsimp only at pu pf sa d;have g:Ents (h9 (m |||2 ^ k)) (c.take (qv (h9 m) k)++((k:Int),Value.int (k:Int) t)::c.drop (qv (h9 m) k)):=by
    rw[sa];exact(r.take _).app (.cons #[rZ,t,rZ] (r.drop _))
   have qe:layNew (lG b (h9 m)) c.toArray (k:Int) (.int (k:Int) t)=((c.take (qv (h9 m) k)++((k:Int),Value.int (k:Int) t)::c.drop (qv (h9 m) k)).toArray,pF b m k,false,false):=by
    unfold layNew;rw[Mt b #[m,f] #[k,l] B];dsimp only;rw[pu];dsimp only;rw[A9];have sz:(c.take (qv (h9 m) k)++((k:Int),Value.int (k:Int) t)::c.drop (qv (h9 m) k)).toArray.size=(h9 m).length+1:=by
     rw[i8,jk,oo,mS,yU,I];lia
    rw[sz];unfold SetTable.orStandIn;rw[pf];rfl
   generalize c.take (qv (h9 m) k)++((k:Int),Value.int (k:Int) t)::c.drop (qv (h9 m) k)=fs at g qe;have lf:=g.len;have f5:fs.length<=5:=by rw[lf];exact zT #[_,d]
   dsimp only;rw[qe];dsimp only;refine f' (show wpAny _ _ (pure Unit.unit) _ _ _ from hI ?_);refine f' (show wpAny _ _ (pure true) _ _ _ from hI ?_);refine f' (Bh e rZ ?_ (by rw[i8,iR];lia));have O:=AQ (h:=s.heap) (fs:=fs) (u:=pF b m k) e;have i:Heap.SameBut a s.heap (s.heap.update a (Obj.putSet fs.toArray (pF b m k))):=BD ..;by_cases h4:(h9 m).length=4
   .obtain⟨D,rl,T,ff⟩:=IF b #[m,f] #[k,l] B h4;dsimp only at D rl T ff;have l5:fs.length=5:=by rw[lf,T];rfl
    have ks:fs.toArray.map (·.1)= #v[0,1,2,3,4]:=by
     rw[List.map_toArray,g.keys,T];rfl
    have pick:(#v[0,1,2,3,4]:Array Nat).filterMap (fs.toArray[·]?)=fs.toArray:=zc l5;have U:relayAll (pF b m k) fs.toArray (SetTable.grown fs.toArray.size)=(fs.toArray,lG b (h9 (m |||2 ^ k)),false):=by
     unfold relayAll;rw[ks,i8,l5,rl];dsimp only;rw[pick,i8,l5,ff,Bool.and_true,wB (by decide+kernel)]
    show wpAny _ _ (if(!false&&(pF b m k).tooFull)=true then _ else _) _ _ _;rw[D,wB (by decide)];simp only[if_true];rw[U];dsimp only;refine f' (show wpAny _ _ (pure Unit.unit) _ _ _ from hI ?_);refine f' (Bh O rZ ?_ (by rw[i8,iR];lia));have N:=AQ (fs:=fs) (u:=lG b (h9 (m |||2 ^ k))) O;have v:=Heap.SameBut.trans i (BD (s.heap.update a (Obj.putSet fs.toArray (pF b m k))) a (Obj.putSet fs.toArray (lG b (h9 (m |||2 ^ k)))));exact hI (hI (q _ #[d,fs,H+1+1,N,g] v))
   .obtain⟨te,D⟩:=JQ b #[m,f] #[k,l] B h4;dsimp only at te D;show wpAny _ _ (if(!false&&(pF b m k).tooFull)=true then _ else _) _ _ _
    rw[D,wA (by decide)];refine hI (hI (q _ #[d,fs,H+1,?_,g] i));rw[<-te];exact O
end
def pW(m:Nat)(a:g9):Nat:=a.foldl (λm n=>m |||2 ^ n) m
section
variable{P:Pg}{w:World}{A:Ar}{E:VP}{S d l:Ad}{led:Bool}{a:g9}{vs:Vs}
theorem Ij{R:Result->Sh->Prop}(M:A.handled=none)(j:S≠d)(N:S≠l)(O:d≠l)(v:Vals (a.map nv) vs)(Q:∀n∈a,n<5):
  ∀(rest:g9) (i m:Nat) (s:Sh),a.drop i=rest->s.heap.IsListIter d l i->s.heap.IsList l vs.toArray->IsSet5 s.heap S led m->
   (∀c y,IsSet5 c S led (pW m rest)->(∀b o,b≠S->b≠d->s.heap.get? b=some o->c.get? b=some o)->R (.ok (.ret .none)) {s with heap:=c,toks:=y})->
   codeAny (model P w) A (.builtin "set.update.loop" #[[.ref S,.ref d],[]]) R s
 | [],i,m,s,p,z,r,B,q=>by
  have T:vs.length<=i:=by
   have U:vs.length=a.length:=by simpa using v.length.symm
   have C:=Eo.mp p;lia
  refine ot xE ?_;rw[pO sr _];show wpAny _ A.in1 (pyNext (.ref d) >>= _) _ _ s;refine f' (Ah (by simpa using M) z r (by simp;lia) λc keep=>?_);refine hI (q c s.toks ?_ λb o _ C e=>keep b o C e);obtain⟨D,E,G,e,H⟩:=B;exact#[D,E,G,keep _ _ j e,H]
 | n::rest,i,m,s,p,z,r,B,q=>by
  have h:a[i]?=some n:=by rw[<-BP,p];rfl
  have next:a.drop (i+1)=rest:=by rw[<-AH,p];rfl
  have Y:=Q n (iV h);obtain⟨u,hu,t,rfl⟩:=v.get (i:=i) (x:=nv n) (by rw[iB,h];rfl);refine ot xE ?_;rw[pO sr _];show wpAny _ A.in1 (pyNext (.ref d) >>= _) _ _ s;refine f' (AT z r (x:= .int (n:Int) t) (by simpa using hu) λU pe f=>?_);show wpAny _ A.in1 (holding [Value.int (n:Int) t] (setAdd S (.int (n:Int) t)) >>= _) _ _ _;refine f' (lL ?_);unfold setAdd;refine lL (f' ((intKind P w).pyHash (k:=(n:Int)) (qf _ _ _ _) ?_));rw[show(intKind P w).hash (n:Int)=(n:Int)from CN #[n,Y]];have I:IsSet5 U S led m:=by
   obtain⟨D,E,G,e,H⟩:=B;exact#[D,E,G,f.extBut _ _ j e,H]
  refine Ni Y I λC J g=>?_;refine hI #[pN sr _,Ij M j N O v Q rest (i+1) (m |||2 ^ n) _ next (pe.extBut g.extBut j.symm) ((r.extBut f.extBut O.symm).extBut g.extBut N.symm) J λc y L keep=>?_];exact q c y L λb o b1 b2 e=>keep b o b1 b2 (g.extBut _ _ b1 (f.extBut _ _ b2 e))
def Fp{s:Sh}{x:Vl}{Q:VP}(q:Q (.ref s.heap.objs.size) {s with heap:=s.heap.push (nz [] 0 (lG (!w.params.followText "set-order") []))}):
  codeAny (model P w) A (.call (.builtin "set.__new__") #[[.type "set",x],[]]) (wants Q E) s:=by
 refine yS ?_;show wpAny _ A.in1 (checkBuiltinCall "set.__new__" #[[.type "set",x],[]] >>= λ_=>again (.builtin "set.__new__" #[[.type "set",x],[]])) _ _ s;refine f' (wO (F.newCall_set_1 x) (hI #[pN F.plain_set_new _,ot F.entry_set_new ?_]));rw[pO F.plain_set_new _];have sub:=sub_set_self;unfold Builtin.«set.__new__» Builtin.Frozenset.newClass
 wp_walk
 refine rQ (hI ?_);dsimp only;simp only[newObj];refine f' (zX (hI (hI ?_)));exact q
abbrev rF(led:Bool):Obj:={cls:= .type "set",dict:=none,data:= .set #v[] 0 (.fresh 0 0 led)}
set_option maxHeartbeats 4000000 in
def LK{h:Heap}{i:Array GenState}{j:Drawn}{k:Nat}{os:OsState}{R:PySem.Fin->Sh->Prop}(u:A.handled=none)(m:h.IsList l vs.toArray)(v:Vals (a.map nv) vs)(x:∀n∈a,n<5)(q:∀c f,IsSet5 c h.objs.size led (pW 0 a)->(∀b o,h.get? b=some o->c.get? b=some o)->R (.done (.ret .none)) #[c,i,j,f,os]):
  wpAny (model P w) A (Builtin.«set.__init__» #[[.ref h.objs.size,.ref l],[]]) R E #[h.push (rF led),i,j,k,os]:=by
 obtain⟨⟨C,dl,y,sl⟩,p,c2,z,r⟩:=id m;simp only at c2 r;subst c2 r;have D:(h.push (rF led)).get? l=some #[.type "list",dl,.seq vs.toArray z,sl]:=iG _ p;have B:(h.push (rF led)).get? h.objs.size=some {cls:= .type "set",dict:=none,data:= .set #v[] 0 (.fresh 0 0 led)}:=jp _ rfl;have G:=F.sub_list_set;have H:=F.sub_list_frozenset;have I:(Value.type "list"==Value.type "dict")=false:=by decide
 unfold Builtin.«set.__init__» noKeywords Builtin.Frozenset.updateFrom;generalize g:pyIter=s
 wp_walk
 subst g;have d:(h.push (rF led)).IsList l vs.toArray:=m.push _;refine xz d (f' (wpAny_runValue ?_));have lt:l<h.objs.size:=iu p;have sz:(h.push (rF led)).objs.size=h.objs.size+1:=vh ..;refine Ij (vs:=vs) (led:=led) (by simpa using u) (by rw[sz];exact Nat.ne_of_lt (Nat.lt_succ_self _)) (Nat.ne_of_gt lt) (by rw[sz];exact Nat.ne_of_gt (Nat.lt_succ_of_lt lt)) v x a 0 0 _ rZ #[_,Heap.get?_push_size _ rZ,rZ,rZ] (d.push _) #[by decide,[],0,Heap.get?_push_of_some _ B,.nil] λc f z1 z2=>?_;refine hI (hI (q c f z1 λb o e=>?_));have t:=iu e;exact z2 b o (i6 t) (by rw[sz];exact i6 (wn t)) (iG _ (iG _ e))
def Jf{s:Sh}{Q:VP}(y:A.handled=none)(p:s.heap.IsList l vs.toArray)(B:Vals (a.map nv) vs)(C:∀n∈a,n<5)(q:∀d g,IsSet5 d s.heap.objs.size (!w.params.followText "set-order") (pW 0 a)->(∀b o,s.heap.get? b=some o->d.get? b=some o)->Q (.ref s.heap.objs.size) {s with heap:=d,toks:=g}):
  wpAny (model P w) A (call (.type "set") [.ref l]) Q E s:=by
 have lt:l<s.heap.objs.size:=let⟨_,e,_⟩:=p;iu e
 obtain⟨c,J,D⟩:=lU.mro;have t:=lU.made;have sub:=lU.sub;have h:=lU.notType;have G:=lU.canCreate;have args:=D4 (.ref l);have look:=lU.init.lookup;have H:=lU.init.bind (.ref s.heap.objs.size);generalize i:nz [] 0 (lG (!w.params.followText "set-order") [])=j;have I:(s.heap.push j).get? s.heap.objs.size=some j:=jp _ (by rw[<-i];rfl);have ty:Shared.TypeIs {s with heap:=s.heap.push j} (.ref s.heap.objs.size) "set":=#[_,I,by rw[<-i];rfl];refine py (yS (show wpAny _ _ (callAny (.type "set") _) _ _ _ from hI #[yd _ (by decide+kernel),ot Dn ?_]));rw[Ew (Eg "set" [.ref l] []) rZ]
 repeat (any_goals (first|assumption|wp_step))
 refine nG (Fp (w:=w) (E:=E) (Q:=λv u=>v=.ref s.heap.objs.size/\u={s with heap:=s.heap.push j}) (by rw[i];exact#[rZ,rZ])) λr u z=>?_;cases r with
 |error _=>exact z
 | ok f=>
  cases f<;>first|exact z.elim|skip
  obtain⟨k,m⟩:=z;subst k m
  repeat (any_goals (first|assumption|wp_step))
  refine nG (x4 (R:=wants (λv x=>v=.none/\∃d g,x={s with heap:=d,toks:=g}/\IsSet5 d s.heap.objs.size (!w.params.followText "set-order") (pW 0 a)/\∀b o,s.heap.get? b=some o->d.get? b=some o) E)
   lU.init.plain Eh (Cw ty ?_)) λr x z=>?_
  .subst i;exact LK (A:=A.in1.in1) (by simpa using y) p B C λd g z1 z2=>#[rZ,d,g,rZ,z1,z2]
  .cases r with
   |error _=>exact z
   |ok f=>
    cases f<;>first|exact z.elim|skip
    obtain⟨k,d,g,m,z1,z2⟩:=z;subst k m
    repeat (any_goals (first|assumption|wp_step))
    exact q d g z1 z2
end
def iL:Slot "set_iterator" "__next__" "set_iterator.__next__":=Slot.of (owner:="set_iterator") (n:="__next__") (by rw[typeLookup_type,builtinLookup_eq_fast];kernel_rfl) (by decide+kernel) (by decide+kernel) (by decide+kernel) (by first|exact .inl (by decide+kernel)|exact .inr (by decide+kernel)) (by rw[isSubtype_type];kernel_rfl)
def AJ:Slot "set_iterator" "__iter__" "set_iterator.__iter__":=Slot.of (owner:="set_iterator") (n:="__iter__") (by rw[typeLookup_type,builtinLookup_eq_fast];kernel_rfl) (by decide+kernel) (by decide+kernel) (by decide+kernel) (by first|exact .inl (by decide+kernel)|exact .inr (by decide+kernel)) (by rw[isSubtype_type];kernel_rfl)
def Bg:entryFor table "set_iterator.__next__"=some Builtin.«set_iterator.__next__»:=entryFor_of_tree (by kernel_rfl)
def Fx:entryFor table "set_iterator.__iter__"=some Builtin.«dict_keyiterator.__iter__»:=entryFor_alias (id':="dict_keyiterator.__iter__") (by kernel_rfl) (by first|rfl|decide+kernel|(unfold String.splitOn;simp+decide [String.splitOnAux])) (by decide+kernel) (by kernel_rfl)
def Fv:entryFor table "set.__iter__"=some Builtin.«frozenset.__iter__»:=entryFor_alias (id':="frozenset.__iter__") (by kernel_rfl) (by first|rfl|decide+kernel|(unfold String.splitOn;simp+decide [String.splitOnAux])) (by decide+kernel) (by kernel_rfl)
def BM(a:Vl):argsOk "set_iterator.__next__" #[[a],[]]:=by unfold argsOk;kernel_rfl
def E'(a:Vl):argsOk "set_iterator.__iter__" #[[a],[]]:=by unfold argsOk;kernel_rfl
theorem HI{c:Type}(f:Nat->Nat):∀(fuel k:Nat) (left:List c) (b:Array c),left.length=fuel->(pickOrder.go f fuel k left b).toList.Perm (b.toList++left)
 |0,k,left,b,h=>by
  rw[List.eq_nil_of_length_eq_zero h];simp[pickOrder.go]
 | fuel+1,k,left,b,h=>by
  have lt:f k%left.length<left.length:=rT _ ();unfold pickOrder.go;rw[hV lt];dsimp only;refine(HI f fuel (k+1) (left.eraseIdx (f k%left.length)) (b.push left[f k%left.length]) (by rw[List.length_eraseIdx_of_lt lt];lia)).trans ?_;rw[xt,mD];refine zp _ ?_;rw[List.eraseIdx_eq_take_drop_succ];have e:left=left.take (f k%left.length)++left[f k%left.length]::left.drop (f k%left.length+1):=by
   rw[<-Am lt,oS]
  have z:=(CU (a:=left[f k%left.length]) (l₁:=left.take (f k%left.length)) (l₂:=left.drop (f k%left.length+1))).symm;rw[<-e]at z;exact z
def lO(w:World)(a:Ad)(c:Nat)(b:List (Int×Vl)):List (Int×Vl):=if w.params.followText "set-order" then(pickOrder (w.params.setOrder a c) b.toArray).toList else b
def wG(w:World)(a:Ad)(c:Nat)(b:List (Int×Vl)):(lO w a c b).Perm b:=by
 unfold lO;cases w.params.followText "set-order" with
 |true=>
  have z:=HI (w.params.setOrder a c) b.toArray.size 0 b.toArray.toList #v[] (by simp);simpa[pickOrder]using z
 |false=>exact List.Perm.refl _
def pR(a:Bool)(b:g9):Nat->Nat
 |0=>0
 |i+1=>if a then 0 else b.getD i 0+1
def Ka:∀(m:Fin 32) (i:Fin 6),(i:Nat)<=(h9 m).length->SetTable.below (h9 m).toArray (pR false (h9 m) i)=i:=by decide+kernel
def oR(b i n c:Nat)(a:Ad):Obj:={cls:= .type "set_iterator",data:= .fields #v[rawInt b,rawInt i,.ref a,rawInt n,rawInt c]}
section
variable{P:Pg}{w:World}{A:Ar}{E:VP}{s:Sh}{a d:Ad}{m c i:Nat}{b:List (Int×Vl)}
def GF{Q:Option (Vl×Nat)->Sh->Prop}(g:m<32)(h:s.heap.get? a=some (nz b c (lG (!w.params.followText "set-order") (h9 m))))(k:Ents (h9 m) b)(l:i<=(h9 m).length)(q:Q (((lO w a c b)[i]?).map λe=>(e.2,pR (w.params.followText "set-order") (h9 m) (i+1))) s):wpAny (model P w) A (setNext a (pR (w.params.followText "set-order") (h9 m) i) i c) Q E s:=by
 have n:=k.len;have d:(lG (!w.params.followText "set-order") (h9 m)).fits b.toArray.size=true:=by rw[i8,n];exact yj _ #[m,g]
 have r:(h9 m).length<=5:=zT #[m,g];unfold setNext setsByText;refine f' (oV h rZ d ?_);refine f' (f' (rQ (hI ?_)));show wpAny _ _ (if w.params.followText "set-order"=true then _ else _) _ _ _;unfold lO at q;generalize o:w.params.followText "set-order"=p at q h d|-;cases p with
 |true=>
  rw[wB rZ];rw[wB rZ]at q;rw[wA (by simp)];unfold setWalk setsByText;refine f' (f' (oV h rZ d (f' (f' (rQ (hI ?_))))));show wpAny _ _ (if w.params.followText "set-order"=true then _ else _) _ _ _;rw[o,wB rZ];refine f' (rQ (hI (hI ?_)));rw[mF]at q;cases i<;>exact q
 | false=>
  rw[wA (by decide)];rw[wA (by decide)]at q;rw[wA (by show ¬((!true&&_)=true);simp)];refine f' ?_;show wpAny _ _ (if(!true&& !b.toArray.isEmpty)=true then _ else _) _ _ _;rw[wA (by simp)];refine hI (hI ?_);show Q (match b.toArray[SetTable.below (h9 m).toArray (pR false (h9 m) i)]?,(h9 m).toArray[SetTable.below (h9 m).toArray (pR false (h9 m) i)]? with|some (_,x),some j=>some (x,j+1)|_,_=>none) s;rw[Ka #[m,g] #[i,()] l]
  rcases Nat.lt_or_ge i (h9 m).length with z|z
  .have f:i<b.length:=by lia
   rw[hV f]at q;simp only[List.getElem?_toArray,List.getElem?_eq_getElem f,List.getElem?_eq_getElem z];have e:pR false (h9 m) (i+1)=(h9 m)[i]+1:=by
    show(if false=true then 0 else(h9 m).getD i 0+1)=_;rw[wA (by decide),j6,hV z];rfl
   rw[e]at q;exact q
  .have f:b.length<=i:=by lia
   rw[pJ f]at q;simp only[List.getElem?_toArray,List.getElem?_eq_none f];exact q
end
section
variable{P:Pg}{w:World}{A:Ar}{E:VP}{a d:Ad}{m f:Nat}{c:List (Int×Vl)}
def JS{s:Sh}{i:Nat}{e:Int×Vl}{Q:Option Vl->Sh->Prop}(r:a≠d)(l:m<32)(n:Ents (h9 m) c)(b:s.heap.get? d=some (oR (pR (w.params.followText "set-order") (h9 m) i) i (h9 m).length f a))(o:s.heap.get? a=some (nz c f (lG (!w.params.followText "set-order") (h9 m))))(t:i<(h9 m).length) (u:(lO w a f c)[i]?=some e)(q:∀g,g.get? d=some (oR (pR (w.params.followText "set-order") (h9 m) (i+1)) (i+1) (h9 m).length f a)->Heap.SameBut d s.heap g->Q (some e.2) {s with heap:=g}):wpAny (model P w) A (pyNext (.ref d)) Q E s:=by
 have ty:s.TypeIs (.ref d) "set_iterator":=#[_,b,rZ];have p:=n.len;have h:(lG (!w.params.followText "set-order") (h9 m)).fits c.toArray.size=true:=by rw[i8,p];exact yj _ #[m,l]
 unfold pyNext;refine f' (rm (rV (name:=Str.ofString "__next__") ty iL (nA iL ty Bg ?_ (BM _))));unfold oR at b;unfold Builtin.«set_iterator.__next__»;refine f' (m:=slotArgs _ _ _) (hI ?_);refine f' (t9 b rZ ?_);show wpAny _ _ (setEntries a >>= _) _ _ _;unfold setEntries;refine f' (f' (oV o rZ h (hI ?_)));have v:((((c.toArray.size:Nat):Int) != (((h9 m).length:Nat):Int)))=false:=by rw[i8,p];simp
 show wpAny _ _ (if((((c.toArray.size:Nat):Int) != (((h9 m).length:Nat):Int)))=true then _ else _) _ _ _;rw[v,wA (by decide)];show wpAny _ _ (setNext a ((pR (w.params.followText "set-order") (h9 m) i:Nat):Int).toNat ((i:Nat):Int).toNat ((f:Nat):Int).toNat >>= _) _ _ _;simp only[Int.toNat_natCast];refine f' (GF l o n (nZ t) ?_);rw[u];show wpAny _ _ (setField (.ref d) 0 (rawInt _) >>= _) _ _ _;refine f' (pI b (by simp) λB x j=>?_);refine f' (pI x (by simp) λy z k=>?_);exact hI #[_,rZ,hI (q y z (j.trans k))]
def Lm{s:Sh}{Q:Option Vl->Sh->Prop}(r:A.handled=none)(t:a≠d)(j:m<32)(k:Ents (h9 m) c)(g:s.heap.get? d=some (oR (pR (w.params.followText "set-order") (h9 m) (h9 m).length) (h9 m).length (h9 m).length f a))(l:s.heap.get? a=some (nz c f (lG (!w.params.followText "set-order") (h9 m))))(q:∀n,Heap.ExtBut d s.heap n->Q none {s with heap:=n}):wpAny (model P w) A (pyNext (.ref d)) Q E s:=by
 have ty:s.TypeIs (.ref d) "set_iterator":=#[_,g,rZ];have p:=k.len;have h:(lG (!w.params.followText "set-order") (h9 m)).fits c.toArray.size=true:=by rw[i8,p];exact yj _ #[m,j]
 have u:(lO w a f c)[(h9 m).length]?=none:=pJ (by rw[(wG w a f c).length_eq];lia);unfold pyNext;refine f' (rm (rV (name:=Str.ofString "__next__") ty iL (nA iL ty Bg ?_ (BM _))));unfold oR at g;unfold Builtin.«set_iterator.__next__»;refine f' (m:=slotArgs _ _ _) (hI ?_);refine f' (t9 g rZ ?_);show wpAny _ _ (setEntries a >>= _) _ _ _;unfold setEntries;refine f' (f' (oV l rZ h (hI ?_)));have v:((((c.toArray.size:Nat):Int) != (((h9 m).length:Nat):Int)))=false:=by rw[i8,p];simp
 show wpAny _ _ (if((((c.toArray.size:Nat):Int) != (((h9 m).length:Nat):Int)))=true then _ else _) _ _ _;rw[v,wA (by decide)];show wpAny _ _ (setNext a ((pR (w.params.followText "set-order") (h9 m) (h9 m).length:Nat):Int).toNat (((h9 m).length:Nat):Int).toNat ((f:Nat):Int).toNat >>= _) _ _ _;simp only[Int.toNat_natCast];refine f' (GF j l k (ig _) ?_);rw[u];show wpAny _ _ (setField (.ref d) 2 .none >>= _) _ _ _;refine f' (pI g (by simp) λy z i=>?_);refine f' (m:=newExc _ _) ?_;simp only[newExc,newTuple];refine f' (pC ?_ (by size_fits));refine f' (m:=firstArgMember _ _) (wO (a:=Value.none) (by first|rfl|(unfold firstArgMember;rfl)) (wpAny_newObj_type ?_ (by size_fits)));refine zR (by simpa using r) (wpAny_bind (wpAny_isInstance (T:="StopIteration") (b:=true) #[_,Heap.get?_push_size _ rZ,rZ] isSubtype_stop (wpAny_pure ?_)));exact q _ λb o x e=>iG _ (iG _ (i.extBut b o x e))
def N7(u:A.handled=none)(g:a≠d)(p:m<32)(l:Ents (h9 m) c):Walks P w A d [d,a] [d] (h9 m).length (λi v=>∃e,(lO w a f c)[i]?=some e/\v=e.2) (λi h=>h.get? d=some (oR (pR (w.params.followText "set-order") (h9 m) i) i (h9 m).length f a)/\h.get? a=some (nz c f (lG (!w.params.followText "set-order") (h9 m)))) where
 sub:=λb y=>iM.mpr (.inl (iE.mp y))
 frame:=λi h j st k=>#[k d (i7 ..) _ st.1,k a (jr _ (iE.mpr rZ)) _ st.2]
 item:=λi s Q E B st q=>by
  have l1:(lO w a f c).length=(h9 m).length:=by rw[(wG w a f c).length_eq,l.len]
  obtain⟨e,r⟩:∃e,(lO w a f c)[i]?=some e:=#[_,hV ()];refine JS g p l st.1 st.2 B r λj C t=>q e.2 j s.toks #[e,r,rZ] #[C,t.extBut _ _ g st.2] λb o n e=>t.extBut _ _ (λz=>n (iE.mpr z)) e
 done:=λs Q E st q=>Lm u g p l st.1 st.2 λj x=>q j s.toks λb o n e=>x b o (λz=>n (iE.mpr z)) e
 self:=λi s Q E st q=>by
  have ty:s.TypeIs (.ref d) "set_iterator":=#[_,st.1,rZ];refine uq ty AJ (nA AJ ty Fx ?_ (E' _));exact show wpAny _ _ (ret (.ref d)) _ _ s from hI #[_,rZ,"set_iterator",_,ty,iL.lookup,q]
def yh{s:Sh}{Q:VP}(g:m<32)(h:Ents (h9 m) c)(d:s.heap.get? a=some (nz c f (lG (!w.params.followText "set-order") (h9 m))))(q:Q (.ref s.heap.objs.size) {s with heap:=s.heap.push (oR 0 0 (h9 m).length f a)}):wpAny (model P w) A (pyIter (.ref a)) Q E s:=by
 have ty:s.TypeIs (.ref a) "set":=#[_,d,rZ];have e:=h.len;have b:(lG (!w.params.followText "set-order") (h9 m)).fits c.toArray.size=true:=by rw[i8,e];exact yj _ #[m,g]
 refine uq ty BQ (nA BQ ty Fv ?_ (F.args_set_iter_1 _));unfold Builtin.«frozenset.__iter__»;refine f' (m:=Builtin.Frozenset.slot0 _ _) (hI ?_);unfold Builtin.Frozenset.sizeOf setEntries;refine f' (f' (f' (oV d rZ b (hI (hI ?_)))));unfold setDrawn setsByText;refine f' (f' (oV d rZ b (f' (f' (rQ (hI (hI ?_)))))));have i:(!w.params.followText "set-order"&&(!true&&decide (c.toArray.size>1)))=false:=by simp
 show wpAny _ _ (if(!w.params.followText "set-order"&&(!true&&decide (c.toArray.size>1)))=true then _ else _) _ _ _;rw[i,wA (by decide)];refine f' (hI (f' (wpAny_setEpoch_of d rZ b ?_)));refine f' (m:=newFields _ _) ?_;unfold newFields;refine pC ?_ (by size_fits);rw[<-e]at q;exact hI #[_,rZ,"set_iterator",_,#[_,jp _ rZ,rZ],iL.lookup,q]
def FF{s:Sh}{Q:Bool->Sh->Prop}(ty:s.TypeIs (.ref a) "set")(q:Q false s):wpAny (model P w) A (Builtin.List.listLengthHint (.ref a)) Q E s:=by
 unfold Builtin.List.listLengthHint;refine f' (wpAny_specialOf ty F.slot_set_len.lookup ?_);generalize g:("set.__len__":String)=name
 wp_delta
 rw[show splitId name=some ("set","__len__") by subst g;decide+kernel];subst g;refine f' (wpAny_isInstance (T:="set") (b:=true) ty (by rw[isSubtype_type];kernel_rfl) (Cy (λz=>wC z (by decide)) λ_=>?_));exact Cy (λ_=>f' (wpAny_typeOf ty (hI q))) λz=>wC (by decide+kernel) z
def Cc(b:m<32)(d:Ents (h9 m) c):PySem.W.KdlSrc P w "set" a a (h9 m).length (λi v=>∃e,(lO w a f c)[i]?=some e/\v=e.2) (λh=>h.get? a=some (nz c f (lG (!w.params.followText "set-order") (h9 m)))) where
 type:=λ_ e=>#[_,e,rZ]
 there:=λ_ e=>#[iu e,iu e]
 keep:=λ_ _ e k=>k a (.inl rZ) _ e
 notList:=by decide
 notTuple:=by decide
 hint:=λ_ _ _ _ e q=>FF #[_,e,rZ] q
 iter:=λ_ _ g e=>#[_,_,λ_ _ q=>yh b d e q,N7 g (i6 (iu e)) b d,jp _ rZ,iG _ e]
end
def mO(a:g9):g9:=(List.range 5).filter λi=>a.contains i
theorem F0(i:Nat):∀(ns:g9) (m:Nat),(pW m ns).testBit i=(m.testBit i || ns.contains i)
 | [],m=>by simp[pW]
 |n::ns,m=>by
  show(pW (m |||2 ^ n) ns).testBit i=_;rw[F0 i ns,Nat.testBit_or,Nat.testBit_two_pow,zo,Bool.or_assoc]
  congr 2
  by_cases h:n=i
  .simp[h]
  .simp[h,Ne.symm h]
def CG(a:g9):h9 (pW 0 a)=mO a:=by
 unfold h9 mO
 congr 1
 funext i
 rw[F0];simp
def Om(m:Nat):(h9 m).Pairwise (· <= ·):=by
 unfold h9;exact List.Pairwise.filter _ (by decide)
theorem xP:∀{a:Vs} {is:Zs},IntsAre a is->Vals (is.map V.int) a
 |_,_,.nil=> .nil
 |_,_,.cons n t h=> .cons #[t,rZ] (xP h)
theorem Ht:∀{a:List (Int×Vl)},(∀e∈a,∃t,e.2=.int e.1 t)->IntsAre (a.map (·.2)) (a.map (·.1))
 | [],_=> .nil
 |e::a,h=>by
  obtain⟨t,b⟩:=h e (i7 ..);rw[lH,lH,b];exact .cons _ _ (Ht λx c=>h x (jr _ c))
section
variable{P:Pg}{w:World}{A:Ar}{E:VP}{a:Ad}{m:Nat}
def Iy{s:Sh}{Q:VP}(M:A.handled=none)(N:IsSet5 s.heap a (!w.params.followText "set-order") m)(q:∀(j r:Heap) u d n,Vals ((h9 m).map nv) d->(∀b o,s.heap.get? b=some o->j.get? b=some o)->(∀b o,j.get? b=some o->r.get? b=some o)->r.get? j.objs.size=some {cls:= .type "list",data:= .seq d.toArray n}->Q (.ref j.objs.size) {s with heap:=r,toks:=u}):
  wpAny (model P w) A (call (.builtin "sorted") [.ref a]) Q E s:=by
 obtain⟨I,v,B,O,p⟩:=N;have m5:(h9 m).length<=5:=zT #[m,I];have J:=p.len;have c:=wG w a B v;refine Ek kind_sorted plain_sorted entry_sorted (args_sorted1 _) ?_;unfold Builtin.«sorted»;refine f' (m:=checkCount "sorted" 1 1 _) (hI ?_);refine f' (PySem.W.kdu_collect (A:=A.in1) (Cc I p) (by simpa using M) O (by rw[sizeLine_eq];lia) λj u f keep l=>?_);have g:f.toList=(lO w a B v).map (·.2):=by
  refine yY (by rw[i4,l.1,hJ,c.length_eq];exact J.symm) λi x y T L=>?_;obtain⟨e,C,D⟩:=l.2 i x (by rw[<-mF];exact T);rw[iB,C]at L;cases L;exact D
 have G:IntsAre f.toList ((lO w a B v).map (·.1)):=by
  rw[g];refine Ht λe U=>?_;obtain⟨n,_,C,t,D⟩:=p.mem (c.mem_iff.mp U);exact#[t,by rw[C,D]]
 have Y:f.toList.length=(h9 m).length:=by rw[g,hJ,c.length_eq,J]
 refine f' (xq ?_ (by rw[Y,iR];lia));have H:(j.push (seqObj "list" f.toList.toArray 0)).get? j.objs.size=some (seqObj "list" f.toList.toArray 0):=jp _ rfl;refine f' (lL (nA slot_list_sort #[_,H,rZ] CV (list_sort_tree H G () λd js o1 o2 o3=>#[_,rZ,?_]) (args_list_sort _)));have k:js=(h9 m).map λ(n:Nat)=>(n:Int):=by
  refine List.Perm.eq_of_pairwise (le:=(· <= ·)) (λx y _ _=>Int.le_antisymm) o3 ?_ (o2.trans ?_)
  .exact yb.mpr ((Om m).imp λh=>by lia)
  .rw[<-p.keys];exact c.map _
 obtain⟨n,eN⟩:=sortedHeap_at (out:=d) H;refine hI #[_,rZ,q j _ u d.toList n ?_ keep (λb o e=>?_) (by simpa using eN)]
 .have z:=xP o1;rw[k,mJ]at z;exact z
 .have lt:=iu e;rw[sortedHeap_old (i6 lt) (jy lt (by rw[vh];exact vp _))];exact iG _ e
end
section
variable{X:Cx}
def rY(w:World)(a:Ad)(m:Nat):HO:= .ext λh=>IsSet5 h a (!w.params.followText "set-order") m
def IsSet5.ok{w:World}{h:Heap}{a:Ad}{m:Nat}{P:Pg}{d:World}{H:Hp}(x:IsSet5 h a (!w.params.followText "set-order") m):ObjOk P d H h a (rY w a m):=by
 obtain⟨j,l,n,e,o⟩:=id x;exact#[x,#[_,e],λp q ⟨f,b,c,g,i⟩ k=>#[f,b,c,k _ g,i]]
def Inv.track{Z:AO}{f:St}{H:Hp}{s:Sh}{D:Ad}{o:HO}(I:Inv X Z f H s)(g:H D=none)(ok:ObjOk X.prog X.w (hA H D o) s.heap D o)(h:X.s₀.heap.objs.size<=D) (i:D≠X.env.locals) (j:∀x c,X.env.cells.lookup x=some c->c≠D) (k:∀p∈X.pn++Z,p.1≠D):Inv X Z f (hA H D o) s:=by
 have d:∀b u,H b=some u->b≠D:=λb u q z=>by rw[z,g]at q;cases q
 have q:=I.step (h':=s.heap) (H':=hA H D o) (g':=s.gens) (t':=s.toks) (d':=s.drawn) (ch:=[D]) (λb a=>by
   have z:b=D:=by simpa using a
   subst z;exact#[.inr h,i,j,k])
  (λb o _ _ _ e _=>e) (λb o _ _ _ e _=>#[o.slots,e]) (λb o a _ n=>by rw[hK (λz=>a (by simp[z]))];exact n) (λb o _ e=>#[o,e])
  (λb l q=>by rw[hK (d b _ q)];exact q) (λb o u q=>by rw[hK (d b _ q)];exact q) (λb t q=>#[#v[],by rw[hK (d b _ q),q];simp]) (λm r=>r) (λb u q=>?_) I.bare
 .exact q
 .by_cases a:b=D
  .subst a;rw[hO]at q;cases q;exact ok
  .rw[hK a]at q;exact(I.hok b u q).stay (λ_ _ _ z=>z) (λc z=>by rw[hK (d c _ z)];exact z) λc l z=>by rw[hK (d c _ z)];exact z
def Inv.trackNew{Z:AO}{a:St}{H:Hp}{s s1:Sh}{o:HO}(I:Inv X Z a H s)(c:Inv X Z a H s1)(ok:ObjOk X.prog X.w (hA H s.heap.objs.size o) s1.heap s.heap.objs.size o):Inv X Z a (hA H s.heap.objs.size o) s1:=by
 obtain⟨d,e,h,i,f,g⟩:=I.fpOk (b:=s.heap.objs.size) (H':=H) (ig _) (I.hok.fresh (ig _));exact c.track d ok I.sz e f g
inductive re(K:O0)(w:World)(c:List V)(H:Hp)(Q:VK):Prop|mk:∀p b,c=[.ref p]->SqL K H p (b.map nv)->(∀n∈b,n<5)->(∀a,H a=none->Q (.ref a) (hA H a (rY w a (pW 0 b))))->re K w c H Q
def F'(a:X.calm=true):CallR X (.type "set") (re X.K X.w):=by
 intro Z s b H m n Q I r h;obtain⟨p,o,rfl,c,d,q⟩:=h;obtain⟨u,rfl,e⟩:=m7 r;cases e;obtain⟨f,g,i,_⟩:=I.list c;refine Jf (I.ok.hd a) i.isList g d λj k z keep=>?_;have l:Inv X Z b H {s with heap:=j,toks:=k}:=I.kept keep;exact#[.ref s.heap.objs.size,_,Inv.trackNew I l z.ok,rZ,q _ I.fresh]
inductive oy(w:World)(b:List V)(H:Hp)(Q:VK):Prop|mk:∀a m,b=[.ref a]->H a=some (rY w a m)->(∀l,H l=none->Q (.ref l) (hA H l (.lst ((h9 m).map nv))))->oy w b H Q
def G4(j:X.calm=true):CallR X (.builtin "sorted") (oy X.w):=by
 intro Z s f H t v Q I r h;obtain⟨a,m,rfl,k,q⟩:=h;obtain⟨u,rfl,l⟩:=m7 r;cases l;obtain⟨z,_,_⟩:=I.hok a _ k;refine Iy (I.ok.hd j) z λb g i c n o k1 k2 e=>?_;have d:Inv X Z f H {s with heap:=b,toks:=i}:=I.kept k1;have p:Inv X Z f H {s with heap:=g,toks:=i}:=d.kept k2;have w:(h9 m).length<=5:=zT #[m,z.1];have ok:ObjOk X.prog X.w (hA H b.objs.size (.lst ((h9 m).map nv))) g b.objs.size (.lst ((h9 m).map nv)):=#[by rw[hJ,iR];lia,c,n,o,e];exact#[.ref b.objs.size,_,Inv.trackNew d p ok,rZ,q _ d.fresh]
end
section
variable{X:Cx}
inductive yE(K:O0)(a:List V)(H:Hp)(Q:VK):Prop|mk:∀(p:Ad) (bs:List Bool),a=[.ref p]->SqL K H p (bs.map V.bl)->Q (.bl (bs.any id)) H->yE K a H Q
def GP(n:X.calm=true):CallR X (.builtin "any") (yE X.K):=by
 intro Z s G H J L Q I r h;obtain⟨p,bs,rfl,t,q⟩:=h;obtain⟨u,rfl,w⟩:=m7 r;cases w;obtain⟨a,g,j,_⟩:=I.list t;have k:=j.isList;have f:p<s.heap.objs.size:=j.lt;have c:a.length=bs.length:=by rw[<-g.length,hJ]
 refine call_any_walk (xz k #[_,_,_,_,_,_,λi=>bs.getD i false,rZ,Walks.list (A:=X.A.in1) (I.ok.hd n) _ p (i6 f) a.toArray,#[#[_,jp _ rZ,rZ,rZ],k.push _],?_,λM N y=>?_])
 .intro i v O T U B C;have d:a[i]?=some v:=by simpa using B
  have l:i<bs.length:=by rw[<-c];exact(ik.mp d).1
  obtain⟨Y,m,D⟩:=g.get (i:=i) (x:= .bl (bs.getD i false)) (by rw[iB,hV l,j6,hV l];rfl);rw[d]at m;cases m;cases(show v=Value.bool _ from D);exact ti C
 .have e:(List.range a.toArray.size).any (λi=>bs.getD i false)=bs.any id:=by
   rw[i8,c];have:bs=(List.range bs.length).map λi=>bs.getD i false:=by
    refine xi (by simp) λi E h2=>?_;simp[List.getD_eq_getElem?_getD,E]
   conv=>rhs;rw[this,Aq]
   rfl
  rw[e];exact#[.bl (bs.any id),H,I.kept λb o z=>y b o (by simp only[List.mem_singleton];exact Nat.ne_of_lt (Heap.lt_size z)) (Heap.get?_push_of_some _ z),rZ,q]
end
def drop(H:Hp)(c:Ad):Hp:=λb=>if b=c then none else H b
def xh{H:Hp}{c:Ad}:drop H c c=none:=by unfold drop;rw[wB rZ]
def j7{H:Hp}{b c:Ad}(h:b≠c):drop H c b=H b:=by unfold drop;rw[wA h]
def sj{H:Hp}{b c:Ad}(h:H b=none):drop H c b=none:=by
 by_cases e:b=c
 .rw[e];exact xh
 .rw[j7 e];exact h
def j0(c m:Ad)(o:Obj):HO:= .ext λh=>h.get? c=some o/\o.data=.cell (some (.ref m))
def oJ(c:Ad)(q:Str):HO:= .ext λh=>h.CodeRec (.ref c) q
def mI(f:Ad)(a:Fd):HO:= .ext λh=>h.get? f=some {cls:= .type "function",data:= .func a}
def HOk.drop{P:Pg}{w:World}{H:Hp}{h:Heap}{c:Ad}{g:Heap->Prop}(x:HOk P w H h)(a:H c=some (.ext g)):HOk P w (drop H c) h:=λb o e=>by
 by_cases f:b=c
 .rw[f,xh]at e;cases e
 .rw[j7 f]at e;refine(x b o e).stay (λ_ _ _ z=>z) (λd z=>?_) λd i z=>?_
  .rw[j7 (λq=>by rw[q,a]at z;cases z)];exact z
  .rw[j7 (λq=>by rw[q,a]at z;cases z)];exact z
def HOk.back{P:Pg}{w:World}{H:Hp}{h:Heap}{c:Ad}{o:HO}(x:HOk P w H h)(a:H c=none)(ok:ObjOk P w (hA H c o) h c o):HOk P w (hA H c o) h:=λb u e=>by
 by_cases f:b=c
 .subst f;rw[hO]at e;cases e;exact ok
 .rw[hK f]at e;exact(x b u e).stay (λ_ _ _ z=>z) (λd z=>by rw[hK (jf z a)];exact z) λd g z=>by rw[hK (jf z a)];exact z
def CO{P:Pg}{w:World}{H:Hp}{h:Heap}{c m:Ad}{o:Obj}(x:h.get? c=some o)(d:o.data=.cell (some (.ref m))):ObjOk P w H h c (j0 c m o):=#[#[x,d],#[o,x],λa b e k=>#[k _ e.1,e.2]]
def Gv{P:Pg}{w:World}{H:Hp}{h:Heap}{f:Ad}{a:Fd}(x:h.get? f=some {cls:= .type "function",data:= .func a}):ObjOk P w H h f (mI f a):=#[x,#[_,x],λb c e k=>k _ e]
def KZ{P:Pg}{w:World}{H:Hp}{h:Heap}{c:Ad}{q:Str}(x:h.CodeRec (.ref c) q):ObjOk P w H h c (oJ c q):=by
 obtain⟨b,o,m,t,d,e,n⟩:=id x;cases d;refine#[x,#[o,e],λp r ⟨b,f,a,g,i,j,l⟩ k=>?_];cases i;exact#[c,f,a,g,rZ,k _ j,l]
structure LamScope(ps:Ss)(y:Str)(sc:Scope):Prop where
 kind:sc.kind=.function
 co:sc.isCoroutine=false
 gen:sc.isGenerator=false
 nd:(ps++[y]).Nodup
 par:∀x∈ps,sc.names.lookup x=some .local
 fre:sc.names.lookup y=some .free
 only:∀z∈sc.names,z.2≠ .cell/\(z.2=.free->z.1=y)
abbrev mh(d:Str)(a:Arguments)(e:Expr)(b:Scope)(y:Str)(c:Ad)(f g h:Vl):Fd:=PySem.W.kla_fn "<lambda>" d a e b [(y,c)] f g h
def rW(P:Pg)(w:World)(K:O0)(mg:SV)(base:Heap)(N:Ss)(b:Str)(a:Scope)(f:Ad)(c:Vl)(d:List (Str×Ad))(A:Ar)(outer:List Env)(s:Sh)(H:Hp):Cx where
 prog:=P
 w:=w
 K:=K
 mg:=mg
 base:=base
 A:=A.deeper (PySem.W.envX b a s.heap.objs.size f c d)
 N:=N
 s₀:=s
 H₀:=H
 env:=PySem.W.envX b a s.heap.objs.size f c d
 outer:=outer
 stack:=PySem.W.envX b a s.heap.objs.size f c d::outer
 ex:=[]
 calm:=true
 fn:=λ_=>false
 pn:=[]
 xe:=λ_ _=>False
theorem Gy{x:Str}{u:Vl}:∀{l:List (Str×Vl)},(l.map (·.1)).Nodup->(x,u)∈l->l.lookup x=some u
 | (a,b)::l,c,h=>by
  rw[lH,oM]at c;rw[ng]
  rcases iM.mp h with e|e
  .cases e;rw[wU]
  .have d:(x==a)=false:=u3.mpr λq=>c.1 (iK.mpr #[(x,u),e,q]);rw[d];exact Gy c.2 e
def K0{c:Ss}{d:Vs}{i:Nat}{x:Str}{u:Vl}(e:c.Nodup)(f:c[i]?=some x)(g:d[i]?=some u):(c.zip d).reverse.lookup x=some u:=by
 refine Gy ?_ (rb.mpr (kr.mpr #[i,List.getElem?_zip_eq_some.mpr #[f,g]]));have sub:∀(c:Ss) (d:Vs),((c.zip d).map (·.1)).Sublist c:=λc=>by
  induction c with
  |nil=>intro d;simp
  |cons a c h=>
   intro d;cases d with
   |nil=>simp
   |cons b d=>rw[DU,lH];exact(h d).cons₂ a
 rw[List.map_reverse];show List.Pairwise (· ≠ ·) _;rw[List.pairwise_reverse];exact(e.sublist (sub c d)).imp jq
def KN{P:Pg}{w:World}{K:O0}{mg:SV}{l:Heap}{n:Ss}{y B:Str}{g:Scope}{f c m:Ad}{O:Vl}{A:Ar}{k:List Env}{s:Sh}{H:Hp}{Q:Vs}{I:List V}{E:Heap}{U:Nat}(S:LamScope n y g) (Y:A.handled=none) (t:Env0 P w K mg l A k s H) (T:I.length=n.length) (r:Vals I Q) (hc:H c=none) (ic:s.heap.IsCell c (some (.ref m)))(L:E.Ns s.heap.objs.size (λx=>(n.zip Q).reverse.lookup x)) (sb:Heap.SameBut s.heap.objs.size (s.heap.push {cls:= .type "frame",data:= .dict #v[]}) E):
  Inv (rW P w K mg l (n++[y]) B g f O [(y,c)] A k s H) [] (I.map some++[some (.ref m)]) H {s with heap:=E,toks:=U}:=by
 have M:∀b o,s.heap.get? b=some o->E.get? b=some o:=λb o e=>sb.extBut _ _ (i6 (iu e)) (iG _ e);have J:E.IsCell c (some (.ref m)):=let⟨o,e,d⟩:=ic;#[o,M _ _ e,d]
 have one:∀{x:Str} {d:Ad},([(y,c)]:List (Str×Ad)).lookup x=some d->x=y/\d=c:=λ{x d} h=>by
  rw[ng]at h;cases q:x==y with
  |true=>rw[q]at h;cases h;exact#[eq_of_beq q,rZ]
  |false=>rw[q]at h;cases h
 have C:([(y,c)]:List (Str×Ad)).lookup y=some c:=by rw[ng,wU]
 have G:∀b:Ad,b∉(rW P w K mg l (n++[y]) B g f O [(y,c)] A k s H).ex:=λb z=>wC (show b∈([]:As)from z) (by simp);refine#[#[t.mod,S.kind,rZ,rZ,ig _,λa b d E h2=>(one E).1.trans (one h2).1.symm,λa ha=>?_,λa d h _=>wC (show false=true from h) mV,λ_=>Y,Around.frames_deeper t.frames,.inr #[rZ,rZ],λb z=>wC z (G b),t.bs,t.bsz,λb _ _=>G b,λb z=>wC z (G b),t.funs,t.frf],
  rfl,t.bare,Un.kept M,#[_,L,λi x v q1 D q3=>?_],λa d h=>?_,t.hok.fresh (ig _),λa d h=>?_,λp hp=>wC (show p∈([]:AO)from hp) (by simp),t.hok.kept M,?_]
 .have N:g.names.lookup a=some .cell\/g.names.lookup a=some .free:=ha
  rcases N with z|z
  .exact wC rZ (S.only _ (qo z)).1
  .have e:=(S.only _ (qo z)).2 rfl;exact#[c,by rw[show a=y from e];exact C]
 .have j:(n++[y])[i]?=some x:=q1
  rcases Nat.lt_or_ge i n.length with z|z
  .rw[j5 z]at j;rw[j5 (by rw[hJ];lia),iB]at D;cases e:I[i]? with
   |none=>rw[e]at D;cases D
   |some a=>
    rw[e]at D;cases D;obtain⟨u,hu,rv⟩:=r.get e;have kx:=S.par x (iV j);refine#[u,rv,.inl #[kx,?_]];exact K0 (S.nd.sublist (List.sublist_append_left _ _)) j hu
  .rw[ku z]at j;rw[ku (by rw[hJ];lia),hJ]at D;have e:i-n.length=0:=by
    rcases Nat.eq_zero_or_pos (i-n.length)with y0|y0
    .exact y0
    .rw[pJ (by simp;lia)]at j;cases j
   rw[e]at j;rw[T,e]at D;cases j;cases D;exact#[.ref m,rZ,.inr #[.inr S.fre,c,C,J]]
 .obtain⟨rfl,rfl⟩:=one (show([(y,c)]:List (Str×Ad)).lookup a=some d from h);exact#[_,J]
 .obtain⟨rfl,rfl⟩:=one (show([(y,c)]:List (Str×Ad)).lookup a=some d from h);exact hc
 .show(I.map some++[some (V.ref m)]).length=(n++[y]).length;simp[T]
def HS{P:Pg}{w:World}{K:O0}{mg:SV}{j:Heap}{k:Nat}{D:Ss}{y g:Str}{l:Arguments}{p:Expr}{a:Scope}{f c m G:Ad}{oc:Obj}{pm ct:Vl}{Y:Sp}(S:LamScope D y a) (len:∀B H Q E,Y B H Q E->B.length=D.length) (here:∀B H Q E,Y B H Q E->H f=some (mI f (mh g l p a y c pm (.ref G) ct))/\H c=some (j0 c m oc)/\H G=some (oJ G g))(L:∀(A:Ar) (d:List Env) (s:Sh) (H:Hp) (B:List V) (Q:VK) (E:XK),Room k (A.deeper (PySem.W.envX g a s.heap.objs.size f (.ref G) [(y,c)]))->Y B H Q E->
   ∃t,PE (rW P w K mg j (D++[y]) g a f (.ref G) [(y,c)] A d s (drop H c)) p t/\t (B.map some++[some (.ref m)]) (drop H c) λv U=>U c=none->Q v (hA U c (j0 c m oc))):
  FnOk P w K mg j iF (k+1) f (mh g l p a y c pm (.ref G) ct) D Y:=by
 refine#[len,λA d s H args us B Q E hr h M r N=>?_];obtain⟨hf,O,aa⟩:=here _ _ _ _ N;have hl:=len _ _ _ _ N;obtain⟨ef,_,_⟩:=h.hok f _ hf;obtain⟨i,_,_⟩:=h.hok c _ O;obtain⟨T,_,_⟩:=h.hok G _ aa;have e1:Env0 P w K mg j A d s (drop H c):=#[h.frames,h.mod,λb o e=>#[(h.bs b o e).1,sj (h.bs b o e).2],h.bsz,h.funs,λb M=>sj (h.frf b M),h.hok.drop O,h.bare];have ab:s.heap.NoLimit:=h.mod.nolimit.keeps λb o e=>(h.bs b o e).1;refine PySem.W.kla_callFunE hr.depth ef rZ S.co S.gen rZ T (M _ _ _ _ ?_);refine wpAny_newFunctionEnv (λx hx=>(S.only x hx).1) (λx hx=>S.par _ (y4 hx).1) (λh1 ae sb=>?_) S.kind;have hk:∀b o,s.heap.get? b=some o->h1.get? b=some o:=λb o e=>sb.extBut _ _ (i6 (iu e)) (iG _ e);refine#[ab.keeps hk,PySem.W.kla_codeExpr ?_];obtain⟨t,ht,hq⟩:=L A d s H B Q E (hr.deeper _) N;have I:Inv (rW P w K mg j (D++[y]) g a f (.ref G) [(y,c)] A d s (drop H c)) [] (B.map some++[some (.ref m)]) (drop H c) {s with heap:=h1,toks:=s.toks+(D.zip us).length}:=KN S hr.hd e1 hl r xh #[oc,i] ae sb;refine ke (ht [] _ _ _ _ I hq) (λv s' ⟨x,U,J,rx,q⟩=>?_) λe s' z=>wE z;have Hc:U c=none:=J.freeC y c (by show([(y,c)]:List (Str×Ad)).lookup y=some c;rw[ng,wU]);have af:s'.heap.get? c=some oc:=J.base.keep c oc i.1 xh (λz=>?_) (by simp[rW])
 .refine#[x,hA U c (j0 c m oc),J.os,J.bare,#[λb o e n M _=>?_,λb o e n M _=>?_,λb o e n _=>?_,λb o e _=>J.base.there b o e (by simp[rW]),λb xs e=>?_,λb o u e=>?_,λb D e=>?_],J.hok.back Hc (CO af i.2),rx,q Hc]
  .exact J.base.keep b o e (sj n) M (by simp[rW])
  .exact J.base.slot b o e (sj n) M (by simp[rW])
  .have C:b≠c:=λz=>by rw[z,O]at n;cases n
   rw[hK C];exact J.base.free b o e (sj n) (by simp[rW])
  .have C:b≠c:=λz=>by rw[z,O]at e;cases e
   rw[hK C];exact J.base.tups b xs (by show drop H c b=_;rw[j7 C];exact e)
  .have C:b≠c:=λz=>by rw[z,O]at e;cases e
   rw[hK C];exact J.base.frzs b o u (by show drop H c b=_;rw[j7 C];exact e)
  .have C:b≠c:=λz=>by rw[z,O]at e;cases e
   rw[hK C];exact J.base.tbls b D (by show drop H c b=_;rw[j7 C];exact e)
 .have:=h.frf c z;rw[O]at this;cases this
section
variable{X:Cx}
def FS(X:Cx)(i:Nat)(t:TA):TE:=λb H Q=>iO i b H λv c=>∃st a,v=.ref st/\c st=some (mI st a)/\t b c λg d=>d st=some (mI st a)/\∃k e f,FnOk X.prog X.w X.K X.mg X.base iF k st a e f/\Room k X.A/\Binds X.K a e []/\f g d Q E0
def FZ{Z:AO}{a:St}{H:Hp}{s:Sh}{st:Ad}{b:Fd}(I:Inv X Z a H s)(h:H st=some (mI st b)):PySem.W.FnAt st s.heap:=by
 obtain⟨e,_,_⟩:=I.hok st _ h;exact#[_,_,_,_,e]
def GV(i:Nat){x:Str}{e:Expr}{b:List Expr}{t:TA}{p a:Pos}(j:PE X (.Name x p) (iO i))(l:PA X (e::b) t)(m:starEach (e::b) X.env=(false,eval e X.env)::starEach b X.env:=by rfl)(c:(backTo a (starEach b X.env)).any (·.1)=false:=by rfl):
  PE X (.Call (.Name x p) (e::b) [] a) (FS X i t):=by
 intro Z s d H Q I h;refine qq (ie (j Z s d H _ I h) λu n ⟨v,o,f,w,st,J,y,A,q⟩=>?_);subst y;cases w;refine PySem.W.callWith_F (FZ f A) (ie (l a Z n d o _ f q) λL M B=>?_) m c;obtain⟨N,O,g,r,C,k,T,U,F,D,E,G⟩:=B;refine#[FZ g C,?_];have z:=EK (dvs:=[]) (ds:=[]) F D E .nil Hw g r (by rw[mq];exact G);exact z
def FN(g:Sp)(a:List V)(j:Nat)(c:Ad)(t:TA):TE:=λb H Q=>t b H λh d=>∃m,b[j]?=some (some (.ref m))/\∀e,d c=none->g (h++a) (hA d c (j0 c m e)) (λr f=>f c=some (j0 c m e)/\Q r (drop f c)) E0
def Inv.afterC{Z:AO}{p:St}{H:Hp}{s s':Sh}{c m:Ad}{i:Obj}{Q:VK}{u:Vl}(I:Inv X Z p H s)(k:H c=none)(t:s.heap.get? c=some i)(h:CE X.stack X.prog X.w (hA H c (j0 c m i)) s (λr j=>j c=some (j0 c m i)/\Q r (drop j c)) u s'):EP X Z p Q u s':=by
 obtain⟨v,j,os,a,un,d,y,x,q⟩:=h;obtain⟨⟨f,_⟩,_,_⟩:=d c _ x;refine I.after #[v,drop j c,os,a,#[λb o e n l g=>?_,λb o e n l g=>?_,λb o e n g=>?_,un.there,λb A e=>?_,λb o w e=>?_,λb B e=>?_],d.drop x,y,q]
 .by_cases z:b=c
  .subst z;rw[t]at e;cases e;exact f
  .exact un.keep b o e (by rw[hK z];exact n) l g
 .by_cases z:b=c
  .subst z;rw[t]at e;cases e;exact#[i.slots,f]
  .exact un.slot b o e (by rw[hK z];exact n) l g
 .by_cases z:b=c
  .rw[z];exact xh
  .exact sj (un.free b o e (by rw[hK z];exact n) g)
 .have z:b≠c:=λz=>by rw[z,k]at e;cases e
  rw[j7 z];exact un.tups b A (by rw[hK z];exact e)
 .have z:b≠c:=λz=>by rw[z,k]at e;cases e
  rw[j7 z];exact un.frzs b o w (by rw[hK z];exact e)
 .have z:b≠c:=λz=>by rw[z,k]at e;cases e
  rw[j7 z];exact un.tbls b B (by rw[hK z];exact e)
def LA{x:Str}{k j:Nat}{M:Ss}{U:Sp}{f c:Ad}{Y:Fd}{g:List V}{A:Vs}{y:Str}{e:Expr}{B:List Expr}{t:TA}{p l:Pos}(F:FnOk X.prog X.w X.K X.mg X.base iF k f Y M U)(hr:Room k X.A)(hg:Gl X x)(hm:X.mg x=some (.ref f))(hk:PySem.W.keepIn X.K (.ref f)=true) (v:Binds X.K Y M A) (hd:Vals g A) (hN:X.N[j]?=some y) (J:X.env.cells.lookup y=some c) (C:X.env.scope.names.lookup y=some .cell) (N:X.fn y=true) (ha:PA X (e::B) t)(O:(x==("__debug__":Str))=false:=by decide) (he:starEach (e::B) X.env=(false,eval e X.env)::starEach B X.env:=by rfl) (T:(backTo l (starEach B X.env)).any (·.1)=false:=by rfl):
  PE X (.Call (.Name x p) (e::B) [] l) (FN U g j c t):=by
 intro Z s σ H Q I h;refine qq (rG I hg hm ?_ O);refine xa (h₀:=X.base) I.ok.mod.kin hk (ie (ha l Z s σ H _ I h) λD L ⟨vs,H1,a,r,m,hj,q⟩=>#[a.kIn,?_]) he T;have n:H1 c=none:=a.freeC y c J;obtain⟨mm,hn,look⟩:=a.loc;obtain⟨u,ru,lk⟩:=look j y (.ref m) hN hj (.inr (.inl C));cases ru;obtain⟨oc,ec,dc⟩:L.heap.IsCell c (some (.ref m)):=by
  rcases lk with⟨z,_⟩|⟨_,c',E,ic⟩
  .have z':X.env.scope.names.lookup y=some .local:=z;rw[C]at z';cases z'
  .rw[J]at E;cases E;exact ic
 have q1:=q oc n;have r2:Vals (vs++g) (D++A):=r.append hd;have hl:(D++A).length=M.length:=by rw[<-r2.length];exact F.len _ _ _ _ q1
 have e1:Env0 X.prog X.w X.K X.mg X.base X.A X.stack L (hA H1 c (j0 c m oc)):=by
  have i:=a.env0;have d:=a.ok.cab y c N J;have nb:∀b o,X.base.get? b=some o->b≠c:=λb o e z=>by
   subst z;exact wC (jy (iu e) (i5 a.ok.bsz d)) (oi _)
  have nf:∀b∈iI X.stack,b≠c:=λb v z=>by
   subst z
   rcases iM.mp (a.stkSub b v)with w|w
   .exact a.cne y b J w
   .obtain⟨_,o,ho,_⟩:=a.ok.funs.mem w;exact wC (jy (iu ho) d) (oi _)
  exact#[i.frames,i.mod,λb o e=>#[(i.bs b o e).1,by rw[hK (nb b o e)];exact(i.bs b o e).2],i.bsz,i.funs,λb v=>by rw[hK (nf b v)];exact i.frf b v,i.hok.back n (CO ec dc),i.bare]
 refine py (nG (F.run X.A X.stack L _ #[D,[]] (D++A) (vs++g) _ E0 hr e1 (v L D a.kIn hl) r2 q1) λr s' G=>?_);cases r with
 |error e=>exact G.elim
 |ok fl=>
  cases fl with
  |ret u=>exact a.afterC n ec G
  |next=>exact wE G
  |brk=>exact wE G
  |cont=>exact wE G
end
section
variable{X:Cx}
def rX(mg:SV)(h:Heap):Prop:=∃a o,mg "__builtins__"=some (.ref a)/\a≠builtinsNs/\h.get? a=some o/\o.cls=.type "module"/\o.dict=some builtinsNs/\o.data=.plain
abbrev oQ(a:Pos)(b:Ad):AV:= #v[rawInt a.line,rawInt a.col,.ref b]
def zw(P:Ad)(a:Str)(b:Arguments)(g:Expr)(d:Scope)(y:Str)(c:Ad)(j:Vl)(h:Pos):TE:=λ_ H Q=>
 (H P=some (.tbl #v[])/\∀f e i,H f=none->H e=none->f≠e->Q (.ref f) (hA (hA (hA H P (.tbl (oQ h e))) e (oJ e a)) f (mI f (mh a b g d y c j (.ref e) i))))\/
 ∃e,H P=some (.tbl (oQ h e))/\H e=some (oJ e a)/\∀f i,H f=none->Q (.ref f) (hA H f (mI f (mh a b g d y c j (.ref e) i)))
def Gx{P cd c:Ad}{qual y:Str}{a:Arguments}{g:Expr}{f:Scope}{i:Pos}(E:X.env.code=.ref cd)(C:PySem.W.CodeHd X.base cd P)(bm:rX X.mg X.base)(G:∀Z D H s,Inv X Z D H s->closureFor f X.env=pure [(y,c)])(aa:defaultsOf a X.env=([],[])) (hq:X.env.qual++"<lambda>"=qual):PE X (.Lambda a g f i) (zw P qual a g f y c ((X.mg "__name__").getD .none) i):=by
 intro Z s D H Q I h;rw[arm_eval_Lambda,aa,hq];have C':PySem.W.CodeHd s.heap cd P:=C.keeps I.bk;have hg:s.heap.Ns mainGlobals X.mg:=I.mod.glob.keeps I.bk;refine f' (m:=evalAll []) (hI (f' (m:=holding _ (evalAllOpt [])) (lL (hI ?_))));have track:∀J,H P=some (.tbl J)->s.heap.get? P=some (PySem.W.tabObj J)/\mainGlobals≠P/\s.heap.BuiltinsAt X.mg P:=λJ e=>by
  have L:s.heap.get? P=some (PySem.W.tabObj J):=I.hok P _ e;have Y:mainGlobals≠P:=λz=>by
   obtain⟨o,es,ep,e1,_⟩:=I.mod.glob;have:=(I.bs _ _ e1).2
   rw[z,e]at this;cases this
  obtain⟨b,o,b1,b2,b3,b4,b5,b6⟩:=bm;refine#[L,Y,b,o,b1,b2,λz=>?_,λz=>?_,I.bk _ _ b3,b4,b5,b6]
  .obtain⟨o',es,ep,e1,d1,_⟩:=I.mod.glob;rw[z,e1]at b3;cases b3;rw[d1]at b6;cases b6
  .have:=(I.bs _ _ b3).2;rw[z,e]at this;cases this
 rcases h with⟨e,q⟩|⟨j,e,ag,q⟩
 .obtain⟨L,Y,hb⟩:=track _ e;refine PySem.W.kla_makeFunction (G Z D H s I) I.ok.glob hg E C' L (by trivial) rZ Y hb λj p k tk hx r t M ab=>?_;have x:H j=none:=I.hok.fresh r;have A:H k.objs.size=none:=I.hok.fresh (i5 r (nZ t));have ae:P≠j:=jf e x;have af:P≠k.objs.size:=jf e A;have N:k.objs.size≠j:=pH t;generalize eo:PySem.W.kla_obj "<lambda>" qual a g f [(y,c)] ((X.mg "__name__").getD .none) j p=ob;have old:∀b u,H b=some u->b≠j/\b≠k.objs.size:=λb u z=>#[jf z x,jf z A];have O:∀b o,s.heap.get? b=some o->b≠j/\b≠k.objs.size:=λb o z=>#[i6 (jy (iu z) r),i6 (jy (iu z) (i5 r (nZ t)))];have T:∀b o,b≠P->s.heap.get? b=some o->(k.push ob).get? b=some o:=λb o n z=>iG _ (hx b o n z);have l:∀b,b≠P->b≠j->b≠k.objs.size->hA (hA (hA H P (.tbl (oQ i j))) j (oJ j qual)) k.objs.size (mI k.objs.size (mh qual a g f y c ((X.mg "__name__").getD .none) (.ref j) p)) b=H b:=λb n1 n2 n3=>by rw[hK n3,hK n2,hK n1]
  have U:hA (hA (hA H P (.tbl (oQ i j))) j (oJ j qual)) k.objs.size (mI k.objs.size (mh qual a g f y c ((X.mg "__name__").getD .none) (.ref j) p)) P=some (.tbl (oQ i j)):=by rw[hK af,hK ae,hO]
  have tP:(k.push ob).get? P=some (PySem.W.tabObj (oQ i j)):=by
   refine iG _ ?_;rw[ab];rfl
  refine#[.ref k.objs.size,_,?_,rZ,q k.objs.size j p A x N];refine I.step (ch:=[]) (λ_ z=>nomatch z) (λb o _ _ _ z n=>T b o (λw=>by rw[w,e]at n;cases n) z) (λb o _ _ _ z n=>#[o.slots,T b o (λw=>by rw[w,e]at n;cases n) z])
   (λb o _ z n=>?_) (λb o _ z=>?_) (λb xs z=>?_) (λb o u z=>?_) (λb J z=>?_) (λm hm=>?_) (λb u z=>?_) I.bare
  .rw[l b (λw=>by rw[w,e]at n;cases n) (O b o z).1 (O b o z).2];exact n
  .by_cases w:b=P
   .rw[w];exact#[_,tP]
   .exact#[o,T b o w z]
  .rw[l b (λw=>by rw[w,e]at z;cases z) (old b _ z).1 (old b _ z).2];exact z
  .rw[l b (λw=>by rw[w,e]at z;cases z) (old b _ z).1 (old b _ z).2];exact z
  .by_cases w:b=P
   .subst w;rw[e]at z;cases z;exact#[oQ i j,by rw[U];rfl]
   .exact#[#v[],by rw[l b w (old b _ z).1 (old b _ z).2,z];simp]
  .exact hm.at' λo z=>T _ o (λw=>by have:=I.free;rw[w,e]at this;cases this) z
  .by_cases w3:b=k.objs.size
   .rw[w3,hO]at z;cases z;rw[w3];exact Gv (by rw[<-eo];exact jp _ rZ)
   .by_cases w2:b=j
    .rw[w2,hK N.symm,hO]at z;cases z;rw[w2];exact KZ (M.push _)
    .by_cases w1:b=P
     .rw[w1,U]at z;cases z;rw[w1];exact tP
     .rw[l b w1 w2 w3]at z;refine(I.hok b u z).stay (λd o hd y=>T d o (λw=>?_) y) (λd y=>?_) λd xs y=>?_
      .rcases hd with v|v
       .exact w1 (v.symm.trans w)
       .rw[w,e]at v;cases v
      .rw[l d (λw=>by rw[w,e]at y;cases y) (old d _ y).1 (old d _ y).2];exact y
      .rw[l d (λw=>by rw[w,e]at y;cases y) (old d _ y).1 (old d _ y).2];exact y
 .obtain⟨L,Y,hb⟩:=track _ e;have B:codeAmong i (oQ i j).toList=some (.ref j):=by
   show(if((i.line:Int)==(i.line:Int)&&(i.col:Int)==(i.col:Int))=true then _ else _)=_;rw[wB (by simp)]
  refine PySem.W.kla_makeFunctionHit (G Z D H s I) I.ok.glob hg E C' L (by trivial) B hb λp k tk keep sz=>?_;have I1:Inv X Z D H {s with heap:=k,toks:=tk}:=I.kept keep;have I2:Inv X Z D H {s with heap:=k.push {cls:= .type "function",data:= .func (mh qual a g f y c ((X.mg "__name__").getD .none) (.ref j) p)},toks:=tk}:=I1.kept λb o z=>iG _ z;have ok:ObjOk X.prog X.w (hA H k.objs.size (mI k.objs.size (mh qual a g f y c ((X.mg "__name__").getD .none) (.ref j) p))) (k.push {cls:= .type "function",data:= .func (mh qual a g f y c ((X.mg "__name__").getD .none) (.ref j) p)}) k.objs.size (mI k.objs.size (mh qual a g f y c ((X.mg "__name__").getD .none) (.ref j) p)):=Gv (jp _ rZ);exact#[.ref k.objs.size,_,Inv.trackNew I1 I2 ok,rZ,q _ p I1.fresh]
end
def Je(K:O0)(c:As)(a:Ad)(o:Obj)(d:Zs):Hp:=λb=>if b∈c then some (.tbl #v[])else if b=a/\K.lookup a=none then some (.frz o (.lst (d.map V.int)))else none
def LU{P:Pg}{w:World}{K:O0}{mg mb:SV}{k:Nat}{fa a:Ad}{fd:Fd}{x:Str}{sp:Sp}{f:Sh}{A:Vs}{D:Zs}{tabs:As}(KX:K.In f.heap) (I:f.heap.Ns mainGlobals mg) (g:f.heap.Ns builtinsNs mb) (aa:∀x:Str,x≠"__name__"->mb x=bootBuiltins x) (J:f.heap.NoLimit) (hg:f.gens= #v[]) (ab:rX mg f.heap)(E:f.heap.get? a=some {cls:= .type "list",data:= .seq A.toArray}) (hi:IntsAre A D) (hl:D.length<=sizeLine) (hr:Room k callerA) (hT:∀q∈tabs,K.lookup q=none/\∃c,f.heap.TableAt c q #v[])
  (F:∀l:Heap,K.In l->l.Ns mainGlobals mg->rX mg l->FnOk P w K mg l iF k fa fd [x] sp) (G:∀(s:Sh) (u:Vl),BindsTo s fd #[[u],[]] [(x,u)])
  (ae:∀H:Hp,(∀q∈tabs,H q=some (.tbl #v[]))->SqL K H a (D.map V.int)->sp [.ref a] H (λv _=>v=.bl true) λ_ _ _=>False):
  codeAny (model P w) callerA (.call (.ref fa) #[[.ref a],[]]) (λr L=>r=.ok (.ret (.bool true))/\OldK f.heap L.heap/\L.os=f.os/\AllBare L.gens) f:=by
 have rv:=HB hi;have M:=hi.length;have i:∀q∈tabs,f.heap.get? q=some (PySem.W.tabObj #v[]):=λq N=>let⟨_,c,t⟩:=hT q N;t.2
 have na:a∉tabs:=λN=>by
  have:=i a N;rw[E]at this;cases this
 generalize eH:Je K tabs a {cls:= .type "list",data:= .seq A.toArray} D=H;have O:∀q∈tabs,H q=some (.tbl #v[]):=λq N=>by rw[<-eH];exact wB N
 have B:∀b,b∉tabs->H b=if b=a/\K.lookup a=none then some (.frz {cls:= .type "list",data:= .seq A.toArray} (.lst (D.map V.int)))else none:=λb g=>by rw[<-eH];exact wA g
 have j:∀b u,H b=some u->(b∈tabs/\u=.tbl #v[])\/(b=a/\K.lookup a=none/\u=.frz {cls:= .type "list",data:= .seq A.toArray} (.lst (D.map V.int))):=λb u e=>by
  by_cases g:b∈tabs
  .rw[O b g]at e;cases e;exact .inl #[g,rZ]
  .rw[B b g]at e;by_cases h:b=a/\K.lookup a=none
   .rw[wB h]at e;cases e;exact .inr #[h.1,h.2,rZ]
   .rw[wA h]at e;cases e
 have af:HOk P w H f.heap:=λb u e=>by
  rcases j b u e with⟨g,rfl⟩|⟨rfl,_,rfl⟩
  .exact i b g
  .exact#[E,by rw[hJ];exact hl,A,_,rv,E]
 have hS:SqL K H a (D.map V.int):=by
  cases Q:K.lookup a with
  |some o=>
   have e:=KX a o Q;rw[E]at e;cases e;exact .inr #[_,A.toArray,_,Q,rZ,rZ,rZ,by rw[i8,M];exact hl,by simpa using rv]
  |none=>exact .inl (.inr #[{cls:= .type "list",data:= .seq A.toArray},by rw[B a na,wB #[rZ,Q]]])
 have free:∀{b:Ad} {o:Obj},f.heap.get? b=some o->o.cls≠ .none->(∀T n,o.data≠ .seq T n)->H b=none:=λ{b o} e hc hd=>by
  cases q:H b with
  |none=>rfl
  | some u=>
   rcases j b u q with⟨g,_⟩|⟨rfl,_,_⟩
   .rw[i b g]at e;cases e;exact wC rZ hc
   .rw[E]at e;cases e;exact wC rZ (hd _ _)
 have p:∀{b:Ad} {m:SV},f.heap.Ns b m->(rP f.heap H).Ns b m:=λ{b m} ⟨o,es,ep,e,d,r⟩=>by
  refine#[o,es,ep,Dr e ?_,d,r];cases q:H b with
  |none=>rfl
  | some u=>
   rcases j b u q with⟨g,_⟩|⟨rfl,_,_⟩
   .rw[i b g]at e;cases e;cases d
   .rw[E]at e;cases e;cases d
 have U:K.In (rP f.heap H):=λb o e=>Dr (KX b o e) (by
  cases q:H b with
  |none=>rfl
  | some u=>
   rcases j b u q with⟨g,_⟩|⟨rfl,Q,_⟩
   .rw[(hT b g).1]at e;cases e
   .rw[Q]at e;cases e)
 have ag:rX mg (rP f.heap H):=by
  obtain⟨bm,o,b1,b2,b3,b4,b5,b6⟩:=ab;exact#[bm,o,b1,b2,Dr b3 (free b3 (by rw[b4];nofun) (λT n z=>by rw[b6]at z;cases z)),b4,b5,b6]
 have hM:Mod K mg (rP f.heap H):=#[U,p I,#[mb,p g,aa],let⟨mc,h1,h2⟩:=J;#[mc,p h1,h2]];have e0:Env0 P w K mg (rP f.heap H) callerA [] f H:=#[rZ,hM,λb o e=>JW e,u4 (NX _ _),trivial,λb g=>wC (show b∈([]:As)from g) (by simp),af,.of_eq hg];refine nG ((F _ U (p I) ag).run callerA [] f H #[[.ref a],[]] [.ref a] [.ref a] _ _ hr e0 (G f (.ref a)) (.cons rZ .nil) (ae H O hS)) λr L h=>?_;cases r with
 |error e=>exact h.elim
 | ok fl=>
  cases fl with
  |next=>exact wE h
  |brk=>exact wE h
  |cont=>exact wE h
  | ret u=>
   obtain⟨v,H',os,Y,un,C,r',q⟩:=h;have q':v=.bl true:=q;subst q'
   obtain rfl:u=Value.bool true:=r';refine#[rZ,#[λb o e=>?_,λb o e=>un.there b o e (by simp)],os,Y];cases z:H b with
   |none=>exact .inl (un.keep b o e z (by intro y;exact wC (show b∈([]:As)from y) (by simp)) (by simp))
   | some u=>
    rcases j b u z with⟨g,rfl⟩|⟨rfl,_,rfl⟩
    .obtain⟨more,z2⟩:=un.tbls b _ z;have e2:L.heap.get? b=some (PySem.W.tabObj (#v[]++more)):=C b _ z2;rw[i b g]at e;cases e;obtain⟨_,c,t⟩:=hT b g;exact .inr (.inl #[t.isCodeTable,rZ,#v[],more,rZ,e2])
    .obtain⟨e2,_⟩:=C b _ (un.frzs b _ _ z);rw[E]at e;cases e;exact .inl e2
def sl(u v:g9):Prop:=u.length<v.length\/(u.length=v.length/\lA u v=true)
def oG{a b:Nat}{c d:g9}(h:a≠b):lA (a::c) (b::d)=decide (a<b):=by
 unfold lA;rw[nY,wA h];rfl
def u9{a:Nat}{c d:g9}:lA (a::c) (a::d)=lA c d:=by
 unfold lA;rw[nY,wB rZ];cases nY c d with
 |none=>simp
 |some b=>rfl
theorem Gr:∀{i e j:g9},i.length=e.length->e.length=j.length->lA i e=true->lA e j=true->lA i j=true
 | [],[],_,_,_,h,_=>by rw[yq]at h;cases h
 | [],_::_,_,h,_,_,_=>by simp at h
 |_::_,[],_,h,_,_,_=>by simp at h
 |_::_,_::_,[],_,h,_,_=>by simp at h
 | a::i,b::e,c::j,l,m,f,d=>by
  by_cases k:a=b
  .subst k;rw[u9]at f;by_cases g:a=c
   .subst g;rw[u9]at d|-;exact Gr (by simpa using l) (by simpa using m) f d
   .rw[oG g]at d|-;exact d
  .rw[oG k]at f;have n:a<b:=mT f;by_cases g:b=c
   .subst g;rw[oG k];exact f
   .rw[oG g]at d;have o:b<c:=mT d;rw[oG ()];exact i0 ()
theorem EL:∀{c d g i:g9},c.length=d.length->lA c d=true->lA (c++g) (d++i)=true
 | [],[],_,_,_,h=>by rw[yq]at h;cases h
 | [],_::_,_,_,h,_=>by simp at h
 |_::_,[],_,_,h,_=>by simp at h
 | a::c,b::d,g,i,j,e=>by
  by_cases f:a=b
  .subst f;rw[xu,xu,u9];rw[u9]at e;exact EL (by simpa using j) e
  .rw[xu,xu,oG f];rw[oG f]at e;exact e
def N8(c:g9){a b:Nat}(h:a<b):lA (c++[a]) (c++[b])=true:=by
 induction c with
 |nil=>exact(oG ()).trans (i0 h)
 |cons x c d=>rw[xu,xu,u9];exact d
def vc{u v x:g9}(a:sl u v)(b:sl v x):sl u x:=by
 rcases a with a|⟨c,l1⟩<;>rcases b with b|⟨d,l2⟩
 .exact .inl ()
 .exact .inl ()
 .exact .inl ()
 .exact .inr #[(),Gr c d l1 l2]
def AA{u:g9}(h:sl u u):False:=by
 rcases h with h|⟨_,h⟩
 .lia
 .rw[yq]at h;cases h
def Cu{u v:g9}{a b:Nat}(h:sl u v):sl (u++[a]) (v++[b]):=by
 rcases h with h|⟨e,l⟩
 .exact .inl (by simp;lia)
 .exact .inr #[by simp[e],EL e l]
def xf(u:g9){a b:Nat}(h:a<b):sl (u++[a]) (u++[b]):= .inr #[by simp,N8 u h]
def sh(u v:g9):Prop:=u=v\/sl u v
def JM{u v x:g9}(h1:sh u v)(h2:sh v x):sh u x:=by
 rcases h1 with rfl|h1
 .exact h2
 .rcases h2 with rfl|h2
  .exact .inr h1
  .exact .inr (vc h1 h2)
def LQ{u v:g9}{a:Nat}(h:sh u v):sh (u++[a]) (v++[a]):=by
 rcases h with rfl|h
 .exact .inl rfl
 .exact .inr (Cu h)
section
variable(f:g9->Nat->List Nat)(L:Nat)(x0:g9)
abbrev TW:=List (g9×g9)
def ki(word:g9):g9:=word.foldl f x0
def Goes(a:TW)(p:g9×g9)(l:Nat):Prop:=∃u,(f p.1 l,u)∈a/\sh u (p.2++[l])
structure Told(ws:TW):Prop where
 head:ws[0]?=some (x0,[])
 keys:(ws.map (·.1)).Nodup
 run:∀p∈ws,(∀l∈p.2,l<L)/\ki f x0 p.2=p.1
 up:ws.Pairwise λp q=>sl p.2 q.2
 all:∀p∈ws,∀l,l<L->Goes f ws p l
 short:∀p∈ws,p.2.length<ws.length
structure Bfs(d:Nat)(ws wv fo:TW)(i j:Nat):Prop where
 head:ws[0]?=some (x0,[])
 keys:(ws.map (·.1)).Nodup
 run:∀p∈ws,(∀l∈p.2,l<L)/\ki f x0 p.2=p.1
 up:ws.Pairwise λp q=>sl p.2 q.2
 len:∀p∈ws,p.2.length<=d+1
 wave:∀p∈wv,p∈ws/\p.2.length=d
 wup:wv.Pairwise λp q=>sl p.2 q.2
 foll:∀p∈fo,p∈ws/\p.2.length=d+1
 fup:fo.Pairwise λp q=>sl p.2 q.2
 front:∀p∈ws,∀t,wv[i]?=some t->sl p.2 (t.2++[j])
 done:∀p∈ws,p∈fo\/(∃a,i<=a/\wv[a]?=some p)\/∀l,l<L->Goes f ws p l
 part:∀t,wv[i]?=some t->∀l,l<j->Goes f ws t l
 short:∀p∈ws,p.2.length<ws.length
variable{f L x0}{d i j:Nat}{ws wv fo:TW}{t:g9×g9}
def Goes.more{p q:g9×g9}{l:Nat}(h:Goes f ws p l):Goes f (ws++[q]) p l:=by
 obtain⟨u,a,b⟩:=h;exact#[u,pA _ a,b]
def Bfs.start:Bfs f L x0 0 [(x0,[])] [(x0,[])] [] 0 0 where
 head:=rfl
 keys:=by simp
 run:=λp a=>by
  rw[iE.mp a];exact#[λ_ h=>(nomatch h),rZ]
 up:=r9 _ _
 len:=λp a=>by rw[iE.mp a];simp
 wave:=λp a=>#[a,by rw[iE.mp a];rfl]
 wup:=r9 _ _
 foll:=λ_ h=>nomatch h
 fup:= .nil
 front:=λp a t _=>by
  rw[iE.mp a];exact .inl (by simp)
 done:=λp a=> .inr (.inl #[0,ig _,by rw[iE.mp a];rfl])
 part:=λ_ _ _ h=>wC h (rq _)
 short:=λp a=>by rw[iE.mp a];simp
def Bfs.old(b:Bfs f L x0 d ws wv fo i j)(ht:wv[i]?=some t)(k:f t.1 j∈ws.map (·.1)):Bfs f L x0 d ws wv fo i (j+1):=by
 obtain⟨p,h,e⟩:=iK.mp k;refine {b with front:=λq m c a=>?_,part:=λc a l g=>?_}
 .exact vc (b.front q m c a) (xf _ (rn _))
 .rcases Nat.lt_succ_iff_lt_or_eq.mp g with g|rfl
  .exact b.part c a l g
  .rw[ht]at a;cases a;exact#[p.2,by rw[<-e];exact h,.inr (b.front p h t ht)]
def Bfs.new(b:Bfs f L x0 d ws wv fo i j)(ht:wv[i]?=some t)(o:j<L)(r:f t.1 j∉ws.map (·.1)):
  Bfs f L x0 d (ws++[(f t.1 j,t.2++[j])]) wv (fo++[(f t.1 j,t.2++[j])]) i (j+1):=by
 obtain⟨c,s⟩:=b.wave t (iV ht);obtain⟨u,k⟩:=b.run t c;have m:(t.2++[j]).length=d+1:=by simp[s]
 have e:0<ws.length:=List.length_pos_of_mem c;refine#[?_,?_,λp hp=>?_,?_,λp hp=>?_,λp hp=>#[pA _ (b.wave p hp).1,(b.wave p hp).2],b.wup,λp hp=>?_,?_,λp hp v a=>?_,λp hp=>?_,λv a l hl=>?_,λp hp=>?_]
 .rw[j5 e];exact b.head
 .rw[kS,yp];refine#[b.keys,by simp,λx w y n z=>?_];simp at n;subst n;exact r (z▸w)
 .rcases iN.mp hp with hp|hp
  .exact b.run p hp
  .rw[iE.mp hp];refine#[λl hl=>?_,?_]
   .rcases iN.mp hl with hl|hl
    .exact u l hl
    .rw[iE.mp hl];exact o
   .show ki f x0 (t.2++[j])=f t.1 j;unfold ki at k|-;rw[qk,k];rfl
 .rw[mR];refine#[b.up,r9 _ _,λp hp q g=>?_];rw[iE.mp g];exact b.front p hp t ht
 .rcases iN.mp hp with hp|hp
  .exact b.len p hp
  .rw[iE.mp hp];exact u4 m
 .rcases iN.mp hp with hp|hp
  .exact#[pA _ (b.foll p hp).1,(b.foll p hp).2]
  .exact#[jj _ hp,by rw[iE.mp hp];exact m]
 .rw[mR];refine#[b.fup,r9 _ _,λp hp q g=>?_];rw[iE.mp g];exact b.front p (b.foll p hp).1 t ht
 .rw[ht]at a;cases a
  rcases iN.mp hp with hp|hp
  .exact vc (b.front p hp t ht) (xf _ (rn _))
  .rw[iE.mp hp];exact xf _ (rn _)
 .rcases iN.mp hp with hp|hp
  .rcases b.done p hp with h|h|h
   .exact .inl (pA _ h)
   .exact .inr (.inl h)
   .exact .inr (.inr λl hl=>(h l hl).more)
  .exact .inl (jj _ hp)
 .rw[ht]at a;cases a
  rcases Nat.lt_succ_iff_lt_or_eq.mp hl with hl|rfl
  .exact(b.part t ht l hl).more
  .exact#[t.2++[l],jj _ (iE.mpr rZ),.inl rZ]
 .rw[jk,zF]
  rcases iN.mp hp with hp|hp
  .exact wn (b.short p hp)
  .rw[iE.mp hp];have z:=b.short t c;show(t.2++[j]).length<_
   rw[jk,zF];lia
def Bfs.next(b:Bfs f L x0 d ws wv fo i L)(ht:wv[i]?=some t):Bfs f L x0 d ws wv fo (i+1) 0:=by
 refine {b with front:=λp g t' j=>?_,done:=λp g=>?_,part:=λ_ _ l k=>wC k (rq _)}
 .have m:=b.front p g t ht;have c:sl t.2 t'.2:=by
   obtain⟨l1,n⟩:=ik.mp ht;obtain⟨l2,o⟩:=ik.mp j;rw[<-n,<-o];exact pT.mp b.wup i (i+1) l1 l2 (rn _)
  exact vc m (Cu c)
 .rcases b.done p g with h|⟨a,m,c⟩|h
  .exact .inl h
  .rcases Nat.eq_or_lt_of_le m with e|e
   .subst e;rw[ht]at c;cases c;exact .inr (.inr λl k=>b.part t ht l k)
   .exact .inr (.inl #[a,e,c])
  .exact .inr (.inr h)
def Bfs.wave'(b:Bfs f L x0 d ws wv fo wv.length 0):Bfs f L x0 (d+1) ws fo [] 0 0:=by
 refine#[b.head,b.keys,b.run,b.up,λp c=>zE (b.len p c),b.foll,b.fup,λ_ h=>(nomatch h),.nil,λp c t ht=>?_,λp c=>?_,λ_ _ l j=>wC j (rq _),b.short]
 .have i:=b.len p c;have g:=(b.foll t (iV ht)).2;exact .inl (by simp;lia)
 .rcases b.done p c with h|⟨a,i,g⟩|h
  .obtain⟨a,e⟩:=kr.mp h;exact .inr (.inl #[a,mC _,e])
  .rw[pJ i]at g;cases g
  .exact .inr (.inr h)
def Bfs.told(b:Bfs f L x0 d ws [] [] 0 0):Told f L x0 ws:=#[b.head,b.keys,b.run,b.up,λp c=>by
 rcases b.done p c with h|⟨a,_,h⟩|h
 .nomatch h
 .simp at h
 .exact h,b.short]
theorem Told.least(T:Told f L x0 ws):∀(n:Nat) (v:g9),v.length=n->(∀l∈v,l<L)->∃u,(ki f x0 v,u)∈ws/\sh u v
 |0,v,a,_=>by
  have e:v=[]:=sm.mp a;subst e;exact#[[],iV T.head,.inl rZ]
 | n+1,v,a,c=>by
  obtain⟨b,l,rfl⟩:∃b l,v=b++[l]:=#[v.dropLast,v.getLast (by intro z;rw[z]at a;cases a),(Hh _).symm];obtain⟨u,d,g⟩:=T.least n b (by simp at a;lia) λx h=>c x (List.mem_append_left _ h);obtain⟨i,j,k⟩:=T.all _ d l (c l (jj _ (iE.mpr rZ)));refine#[i,?_,JM k (LQ g)];have e:ki f x0 (b++[l])=f (ki f x0 b) l:=by
   unfold ki;rw[qk];rfl
  rw[e];exact j
def vU{U:LN}(b:x0∈U)(c:∀x∈U,∀l,l<L->f x l∈U):∀word:g9,(∀l∈word,l<L)->ki f x0 word∈U:=by
 have go:∀(word:g9) (x:g9),x∈U->(∀l∈word,l<L)->word.foldl f x∈U:=by
  intro word
  induction word with
  |nil=>intro x a _;exact a
  |cons l word d=>intro x a h;exact d _ (c x a l (h l (i7 ..))) λy e=>h y (jr _ e)
 exact λword h=>go word x0 b h
def rM{U:LN}{l:LN}(a:l.Nodup)(h:∀x∈l,x∈U):l.length<=U.length:=Hk a h
end
def Fh{u v:g9}(a:sl u v)(b:sl v u):False:=AA (vc a b)
def Og{u v:g9}(h1:sh u v)(h2:sh v u):u=v:=by
 rcases h1 with h1|h1
 .exact h1
 .rcases h2 with h2|h2
  .exact h2.symm
  .exact(Fh h1 h2).elim
theorem GR:∀{a b:TW},(a.Pairwise λp q=>sl p.2 q.2)->(b.Pairwise λp q=>sl p.2 q.2)->(∀p,p∈a↔p∈b)->a=b
 | [],[],_,_,_=>rfl
 | [],q::b,_,_,h=>wC ((h q).mpr (i7 ..)) (by simp)
 |p::a,[],_,_,h=>wC ((h p).mp (i7 ..)) (by simp)
 | p::a,q::b,g,i,h=>by
  obtain⟨d,j⟩:=ym.mp g;obtain⟨f,k⟩:=ym.mp i;have l:p=q:=by
   rcases iM.mp ((h p).mp (i7 ..))with e|e
   .exact e
   .rcases iM.mp ((h q).mpr (i7 ..))with e'|e'
    .exact e'.symm
    .exact(Fh (f p e) (d q e')).elim
  subst l;have rest:a=b:=GR j k λr=>by
   constructor
   .intro c
    rcases iM.mp ((h r).mp (jr _ c))with e|e
    .subst e;exact(AA (d r c)).elim
    .exact e
   .intro c
    rcases iM.mp ((h r).mpr (jr _ c))with e|e
    .subst e;exact(AA (f r c)).elim
    .exact e
  rw[rest]
def Told.sub{f:g9->Nat->List Nat}{L:Nat}{b:g9}{g h:TW}(T:Told f L b g)(k:Told f L b h){p:g9×g9}(l:p∈g):p∈h:=by
 obtain⟨o,q⟩:=T.run p l;obtain⟨u,a,r⟩:=k.least _ p.2 rZ o;rw[q]at a;obtain⟨s,t⟩:=k.run _ a;obtain⟨v,m,n⟩:=T.least _ u rZ s;have e:ki f b u=p.1:=t;rw[e]at m;have same:v=p.2:=by
  obtain⟨i,c⟩:=kr.mp m;obtain⟨j,d⟩:=kr.mp l;have w:i=j:=(se (by rw[hJ];exact(ik.mp c).1) T.keys).mp (by rw[iB,iB,c,d];rfl);subst w;rw[c]at d;have z:=lW d;rw[<-z]
 rw[same]at n;have x:u=p.2:=Og r n;rw[x]at a;exact a
def Told.uniq{f:g9->Nat->List Nat}{L:Nat}{b:g9}{c d:TW}(T:Told f L b c)(a:Told f L b d):c=d:=GR T.up a.up λp=>#[λh=>T.sub a h,λh=>a.sub T h]
section
variable{P:Pg}{w:World}{A:Ar}{E:VP}{s:Sh}{f d:Ad}{i j:Nat}{p:Array DictEntry}
abbrev oN(k v:Vl):Obj:={cls:= .type "tuple",data:= .seq #v[k,v]}
abbrev uz(a:Vl)(b:Bool)(d:Ad)(i n j:Nat)(k v:Vl):Obj:={cls:= .type "dict_itemiterator",data:= .fields #v[a,.bool b,.ref d,.int i 0,.int n 0,.int j 0,k,v]}
def Lies(h:Heap)(d:Ad)(p:Array DictEntry)(j:Nat):Prop:=∃o,h.get? d=some o/\o.ExactDict/\o.data=.dict p j
def Goer(h:Heap)(f d:Ad)(i n j:Nat):Prop:=∃b c k v,h.get? f=some (uz b c d i n j k v)/\(b=.none\/∃a:Nat,b=rawInt a/\a≠f/\∃o,h.get? a=some o)
def Goer.keep{h m:Heap}{n:Nat}(g:Goer h f d i n j)(k:∀o,h.get? f=some o->m.get? f=some o)(l:∀b o,h.get? b=some o->∃r,m.get? b=some r):Goer m f d i n j:=by
 obtain⟨p,q,x,v,e,c⟩:=g;refine#[p,q,x,v,k _ e,c.imp id ?_];rintro⟨a,s,t,o,u⟩;exact#[a,s,t,l a o u]
def LD{l:Vl}{g:Bool}{n:Nat}{C D k v:Vl}{Q:VP}(e:s.heap.get? f=some (uz l g d i n j C D))(c:l=.none\/∃a:Nat,l=rawInt a/\a≠f/\∃o,s.heap.get? a=some o)(q:∀y,Goer y f d i n j->y.get? s.heap.objs.size=some (oN k v)->(∀b o,b≠f->s.heap.get? b=some o->y.get? b=some o)->Q (.ref s.heap.objs.size) {s with heap:=y}):
  wpAny (model P w) A (Builtin.Dict_items.pairFromOwner (.ref f) 6 k v) Q E s:=by
 have lt:f<s.heap.objs.size:=iu e;unfold Builtin.Dict_items.pairFromOwner;refine f' (wpAny_newTuple ?_);have h:=iG (oN k v) e;have p:(s.heap.push (oN k v)).get? s.heap.objs.size=some (oN k v):=jp _ rfl;have B:∀b o,s.heap.get? b=some o->(s.heap.push (oN k v)).get? b=some o:=λb o z=>iG _ z;have G:s.heap.objs.size≠f:=pH lt
 rcases c with rfl|⟨a,rfl,H,o,O⟩
 .have free:∀{R:Bool->Sh->Prop} {I:Sh},I.heap.get? f=some (uz .none g d i n j C D)->R true I->wpAny (model P w) A (Builtin.Dict_items.ownedTupleIsFree (.ref f)) R E I:=λe r=>by
   unfold Builtin.Dict_items.ownedTupleIsFree;exact f' (rK e rZ (x:= .none) rZ (hI r))
  refine f' (free h ?_);rw[wB rZ];refine f' (rK h rZ (x:=C) rZ (f' (rK h rZ (x:=D) rZ ?_)));refine f' (pI h (by simp) λM J t=>wpAny_bind (wpAny_setField_rec J (by simp) λh3 T U=>?_));refine f' (pI T (by simp) λh4 Y s4=>wpAny_bind (wpAny_setField_rec Y (by simp) λh5 e5 s5=>wpAny_bind (wpAny_letGo (wpAny_pure ?_))));have N:=((t.trans U).trans s4).trans s5;have u:=N.extBut _ _ G p;exact q h5 #[_,_,_,_,e5,.inr #[_,rZ,G,_,u]] u λb o L z=>N.extBut _ _ L (B b o z)
 .have a1:=B a o O;refine f' (m:=Builtin.Dict_items.ownedTupleIsFree _) ?_;unfold Builtin.Dict_items.ownedTupleIsFree;refine f' (rK h rZ (x:=rawInt a) rZ ?_);have alive:∀{R:Option Obj->Sh->Prop},R (some o) {s with heap:=s.heap.push (oN k v)}->wpAny (model P w) A (loadIfAlive ((a:Int).toNat)) R E {s with heap:=s.heap.push (oN k v)}:=λ{R} r=>by
   rw[rc];exact λ_ _ _=>show R ((s.heap.push (oN k v)).get? a) _ by rw[a1];exact r
  refine show wpAny _ _ (loadIfAlive ((a:Int).toNat) >>= _) _ _ _ from f' (alive ?_)
  refine f' (m:=field _ _) (rK h rZ (x:= .bool g) rZ ?_);cases g with
  |true=>exact hI (hI (q _ #[_,_,_,_,h,.inr #[a,rZ,H,o,a1]] p λb o _ z=>B b o z))
  |false=>
   refine f' (m:=setField _ _ _) (pI h (by simp) λM J t=>wpAny_pure (wpAny_pure ?_));exact q M #[_,_,_,_,J,.inr #[a,rZ,H,o,t.extBut _ _ H a1]] (t.extBut _ _ G p) λb o L z=>t.extBut _ _ L (B b o z)
end
section
variable{P:Pg}{w:World}{A:Ar}{E:VP}{s:Sh}{f d:Ad}{i h:Nat}{g:Array DictEntry}
def Ly{j:DictEntry}{Q:Option Vl->Sh->Prop}(G:Goer s.heap f d i g.size h)(L:Lies s.heap d g h)(y:g[i]?=some j)(q:∀p,Goer p f d (i+1) g.size h->p.get? s.heap.objs.size=some (oN j.key j.val)->(∀b o,b≠f->s.heap.get? b=some o->p.get? b=some o)->Q (some (.ref s.heap.objs.size)) {s with heap:=p}):
  wpAny (model P w) A (pyNext (.ref f)) Q E s:=by
 obtain⟨r,t,J,M,e,c⟩:=G;obtain⟨o,B,_,C⟩:=L;have ty:s.TypeIs (.ref f) "dict_itemiterator":=#[_,e,rZ];have lt:i<g.size:=(ni.mp y).1;unfold pyNext;refine f' (rm (rV (name:=Str.ofString "__next__") ty ze (nA ze ty Im ?_ (Hu _))));refine f' (hI (f' (f' ?_)));refine f' (AF ty (hI (f' (t9 e rZ ?_))));have l:Builtin.Dict_items.ownsTuple "dict_itemiterator"=true:=by decide
 simp only[l,if_true];refine show wpAny _ _ (if(Value.ref d==Value.none)=true then _ else _) _ _ s from(wA (show ¬((Value.ref d==Value.none)=true)from mV))▸f' (hI (f' (vC B C ?_)))
 rw[wA (by simp)];refine f' (hI (f' (xU B C ?_)));rw[wA (by simp)];refine hI ?_;have u:(if((i:Nat):Int)<0 then none else g[((i:Nat):Int).toNat]?)=some j:=by
  rw[wA (),rc];exact y
 show wpAny _ _ (match (if((i:Nat):Int)<0 then none else g[((i:Nat):Int).toNat]?)with|some e=>_|none=>_) _ _ s;rw[u];refine f' (f' (AF ty (hI (f' (ED ty ?_)))));refine show wpAny _ _ (setField (.ref f) 3 (rawInt ((i:Int)+1)) >>= _) _ _ s from f' (pI e (by simp) λk N v=>wpAny_bind (wpAny_holding ?_))
 have m:k.get? f=some (uz r t d (i+1) g.size h J M):=by
  have z:((i+1:Nat):Int)=(i:Int)+1:=by lia
  unfold uz;rw[z];simpa[rawInt]using N
 have n:Shared.TypeIs {s with heap:=k} (.ref f) "dict_itemiterator":=#[_,m,rfl];refine f' (ED n (f' (ED n ?_)));have sz:k.objs.size=s.heap.objs.size:=v.1;refine show wpAny _ _ (Builtin.Dict_items.pairFromOwner (.ref f) 6 j.key j.val) _ _ {s with heap:=k}from LD (s:={s with heap:=k}) m (c.imp id ?_) λD O T k2=>?_
 .rintro⟨a,U,H,Y,z⟩;exact#[a,U,H,Y,v.extBut _ _ H z]
 .have x:D.get? s.heap.objs.size=some (oN j.key j.val):=by rw[<-sz];exact T
  show wpAny _ _ (ret (.ref k.objs.size)) _ _ _;rw[sz];exact hI #[_,rZ,hI (q D O x λb o I z=>k2 b o I (v.extBut _ _ I z))]
def Jz{Q:Option Vl->Sh->Prop}(r:A.handled=none)(G:Goer s.heap f d i g.size h)(L:Lies s.heap d g h)(t:g[i]?=none)(q:∀l,Heap.ExtBut f s.heap l->Q none {s with heap:=l}):wpAny (model P w) A (pyNext (.ref f)) Q E s:=by
 obtain⟨u,v,B,C,e,c⟩:=G;obtain⟨o,n,_,p⟩:=L;have ty:s.TypeIs (.ref f) "dict_itemiterator":=#[_,e,rZ];unfold pyNext;refine f' (rm (rV (name:=Str.ofString "__next__") ty ze (nA ze ty Im ?_ (Hu _))));refine f' (hI (f' (f' ?_)));refine f' (AF ty (hI (f' (t9 e rZ ?_))));have j:Builtin.Dict_items.ownsTuple "dict_itemiterator"=true:=by decide
 simp only[j,if_true];refine show wpAny _ _ (if(Value.ref d==Value.none)=true then _ else _) _ _ s from(wA (show ¬((Value.ref d==Value.none)=true)from mV))▸f' (hI (f' (vC n p ?_)))
 rw[wA (by simp)];refine f' (hI (f' (xU n p ?_)));rw[wA (by simp)];refine hI ?_;have k:(if((i:Nat):Int)<0 then none else g[((i:Nat):Int).toNat]?)=none:=by
  rw[wA (),rc];exact t
 show wpAny _ _ (match (if((i:Nat):Int)<0 then none else g[((i:Nat):Int).toNat]?)with|some e=>_|none=>_) _ _ s;rw[k];refine f' (f' (AF ty (hI ?_)));refine show wpAny _ _ (setField (.ref f) 2 .none >>= _) _ _ s from f' (pI e (by simp) λD H x=>?_)
 refine f' (m:=newExc _ _) ?_;simp only[newExc,newTuple];refine f' (pC ?_ (by size_fits));refine f' (m:=firstArgMember _ _) (wO (a:=Value.none) (by first|rfl|(unfold firstArgMember;rfl)) (wpAny_newObj_type ?_ (by size_fits)));refine zR (by simpa using r) (wpAny_bind (wpAny_isInstance (T:="StopIteration") (b:=true) #[_,Heap.get?_push_size _ rZ,rZ] isSubtype_stop (wpAny_pure ?_)));exact q _ λb o y z=>iG _ (iG _ (x.extBut b o y z))
end
structure PMade(es:Array DictEntry)(lo:Ad)(h:Heap)(as:As):Prop where
 far:∀a∈as,lo<a
 up:as.Pairwise (· < ·)
 is:∀(j:Nat) (a:Ad),as[j]?=some a->∃en:DictEntry,es[j]?=some en/\h.get? a=some (oN en.key en.val)
def PMade.nil{a:Array DictEntry}{lo:Ad}{h:Heap}:PMade a lo h []:=#[λ_ z=>(nomatch z),.nil,λ_ _ z=>by simp at z]
def PMade.here{c:Array DictEntry}{lo:Ad}{h:Heap}{b:As}(m:PMade c lo h b):∀a∈b,a<h.objs.size:=λa d=>by
 obtain⟨j,e⟩:=kr.mp d;obtain⟨_,_,g⟩:=m.is j a e;exact iu g
def PMade.keep{c:Array DictEntry}{lo:Ad}{h d:Heap}{f:As}(m:PMade c lo h f)(k:∀b o,lo<b->h.get? b=some o->d.get? b=some o):PMade c lo d f:=
 #[m.far,m.up,λj a e=>by
  obtain⟨i,x,g⟩:=m.is j a e;exact#[i,x,k a _ (m.far a (iV e)) g]]
def PMade.more{i:Array DictEntry}{lo a:Ad}{h:Heap}{d:As}{f:DictEntry}(m:PMade i lo h d)(o:lo<a)(new:∀b∈d,b<a)(x:i[d.length]?=some f)(g:h.get? a=some (oN f.key f.val)):PMade i lo h (d++[a]):=
  #[λb k=>by
    rcases iN.mp k with z|z
    · exact m.far b z
    · rw[iE.mp z];exact o,
   mR.mpr #[m.up,r9 _ _,λb k c p=>by rw[iE.mp p];exact new b k],
   λj b e=>by
    by_cases l:j<d.length
    · rw[j5 l]at e
      exact m.is j b e
    · rw[ku (Bw l)]at e
      obtain⟨z,n⟩:=ik.mp e;have r:j-d.length=0:=by simp at z;lia
      have q:j=d.length:=by lia
      subst q;simp at n;subst n;exact#[f,x,g]]
section
variable{P:Pg}{w:World}{A:Ar}{R:Result->Sh->Prop}{S I d:Ad}{g:Nat}{a:Array DictEntry}{f:Vl}
abbrev zN(h:Heap)(S:Ad)(a:AV)(c:Nat):Prop:=h.get? S=some {cls:= .type "list",data:= .seq a c}
def fill(T:A.handled=none)(E:S<I)(U:d≠S)(Y:d≠I)(aa:a.size<=sizeLine):∀(r i:Nat) (s:Sh) (h:As) (c:Nat),i+r=a.size->h.length=i->Goer s.heap I d i a.size g->Lies s.heap d a g->
      zN s.heap S (h.map Value.ref).toArray c->PMade a I s.heap h->
      (∀j bs u,bs.length=a.size->PMade a I j bs->zN j S (bs.map Value.ref).toArray u->(∀b o,b≠S->b≠I->s.heap.get? b=some o->j.get? b=some o)->R (.ok (.ret f)) {s with heap:=j})->
      codeAny (model P w) A (.builtin "list.extend.loop" #[[.ref S,.ref I,f],[]]) R s:=by
  have k:S≠I:=i6 E;intro r
  induction r with
  | zero=>
    intro i s h c hi v G L t M q;refine ot F.entry_extend_loop ?_;rw[pO zK _];refine show wpAny _ A.in1 (pyNext (.ref I) >>= _) _ _ s from f' (Jz (by simpa using T) G L (Array.getElem?_eq_none ()) λj x=>wpAny_pure ?_)
    exact q j h c () (M.keep λb o l e=>x b o (pH l) e) (x S _ k t) λb o _ y e=>x b o y e
  | succ r ih=>
    intro i s h c hi v G L t M q;obtain⟨H,J⟩:∃H,a[i]?=some H:=#[a[i]'(),nc ()];have z:I<s.heap.objs.size:=by
      obtain⟨_,_,_,_,e,_⟩:=G;exact iu e
    have B:S<s.heap.objs.size:=iu t;refine ot F.entry_extend_loop ?_;rw[pO zK _];refine show wpAny _ A.in1 (pyNext (.ref I) >>= _) _ _ s from f' (Ly G L J λm G1 p1 k1=>?_)
    have n:=k1 S _ k t;refine show wpAny _ A.in1 (updateSeq S (·.push (Value.ref s.heap.objs.size)) >>= _) _ _ {s with heap:=m}from f' (vF n rfl (hI #[pN zK _,?_]) ?_ ?_)
    · have off:∀b o,b≠S->m.get? b=some o->(m.update S (Obj.mapSeq (·.push (Value.ref s.heap.objs.size)))).get? b=some o:=λb o y e=>(mW _ _ (jq y)).trans e
      have p:=si (Obj.mapSeq (·.push (Value.ref s.heap.objs.size))) n rfl;obtain⟨C,h0,x0,y0⟩:=L;have M1:PMade a I m h:=M.keep λb o l e=>k1 b o (pH l) e
      refine ih (i+1) {s with heap:=m.update S (Obj.mapSeq (·.push (Value.ref s.heap.objs.size)))} (h++[s.heap.objs.size]) _ () (by simp[v]) (G1.keep (λo e=>off I o (Ne.symm k) e) λb o e=>?_)
        #[C,off d C U (k1 d C Y h0),x0,y0] (by simpa[Obj.mapSeq,List.map_append]using p) ?_ λj bs u l' M' D k'=>q j bs u l' M' D λb o N O e=>k' b o N O (off b o N (k1 b o O e))
      · by_cases Q:b=S
        · subst Q
          exact#[_,p]
        · exact#[o,off b o Q e]
      · exact(M1.keep λb o l e=>off b o (pH (wP E l)) e).more z M.here (v▸J) (off _ _ (pH B) p1)
    · simp;lia
    · simp;lia
end
section
variable{P:Pg}{w:World}{A:Ar}{E:VP}{s:Sh}{v d:Ad}{g:Nat}{f:Array DictEntry}
abbrev wr(d:Ad):Obj:={cls:= .type "dict_items",data:= .fields #v[.ref d]}
def Lies.typeIs{s:Sh}(L:Lies s.heap d f g):s.TypeIs (.ref d) "dict":=let⟨o,h,x,_⟩:=L;#[o,h,x.1]
def NH{Q:VP}(a:(d==sysModules)=false)(L:Lies s.heap d f g)(q:Q (.ref s.heap.objs.size) {s with heap:=s.heap.push (wr d)}):wpAny (model P w) A (call (.builtin "dict.items") [.ref d]) Q E s:=by
 refine call_meetsIn (S:=λ_ R s=>Lies s.heap d f g/\R (.ok (.ret (.ref s.heap.objs.size))) {s with heap:=s.heap.push (wr d)}) F.slot_dict_items L.typeIs F.entry_dict_items (F.args_dict_items_1 _) (.of_wp λA R s ⟨L,r⟩=>?_) #[L,q];unfold Builtin.«dict.items» Builtin.Dict.noArgs;refine f' (f' (wpAny_notOrdered_dict L.typeIs ?_));refine show wpAny _ _ (pure d) _ _ s from hI (show wpAny _ _ (Builtin.Dict.showsAll d >>= _) _ _ s from ?_)
 have all:Builtin.Dict.showsAll d=pure Unit.unit:=by
  unfold Builtin.Dict.showsAll;rw[a];rfl
 rw[all];exact f' (hI (f' (pC (hI #[_,rZ,r]))))
def Jc{Q:VP}(a:s.heap.get? v=some (wr d))(L:Lies s.heap d f g)(q:Q (.ref s.heap.objs.size) {s with heap:=s.heap.push (uz .none false d 0 f.size g .none .none)}):wpAny (model P w) A (pyIter (.ref v)) Q E s:=by
 have ty:s.TypeIs (.ref v) "dict_items":=#[_,a,rZ];obtain⟨o,b,_,c⟩:=L;refine uq ty F.slot_dict_items_iter (nA F.slot_dict_items_iter ty F.entry_dict_items_iter ?_ (F.args_dict_items_iter_1 _));unfold Builtin.«dict_items.__iter__» Builtin.Dict_items.dictOf Builtin.Dict_items.newIterator;refine f' (hI (f' (f' (rK a rZ (x:= .ref d) rZ (hI (f' (f' (vC b c (f' (xU b c ?_))))))))));refine show wpAny _ _ (newFields "dict_itemiterator" [.none,.bool false,.ref d,rawInt 0,rawInt (f.size:Nat),rawInt (g:Nat),.none,.none]) _ _ s from pC (hI #[_,rZ,"dict_itemiterator",_,#[_,jp _ rZ,rZ],ze.lookup,q]) (by size_fits)
def KG{Q:Bool->Sh->Prop}(ty:s.TypeIs (.ref v) "dict_items")(q:Q false s):wpAny (model P w) A (Builtin.List.listLengthHint (.ref v)) Q E s:=PySem.W.kdx_hint ty q
def J4{Q:VP}(hh:A.handled=none)(N:s.heap.get? v=some (wr d))(L:Lies s.heap d f g)(D:f.size<=sizeLine)(q:∀j n c k,n.length=f.size->PMade f s.heap.objs.size j n->zN j s.heap.objs.size (n.map Value.ref).toArray c->(∀b o,s.heap.get? b=some o->j.get? b=some o)->Q (.ref s.heap.objs.size) {s with heap:=j,toks:=k}):
  wpAny (model P w) A (call (.type "list") [.ref v]) Q E s:=by
 let S:=s.heap.objs.size
 obtain⟨o,G,x,O⟩:=id L;have ld:d<S:=iu G;have lv:v<S:=iu N;refine callType_codes (Q₁:=λobj p=>obj=.ref S/\p={s with heap:=s.heap.push {cls:= .type "list",data:= .seq #v[]}}) F.called_list (F.typeCall_list_1 _) F.entry_list_init (code_list_new _ #[rfl,rfl]) λobj s1 z=>?_;obtain⟨rfl,rfl⟩:=z;have C:zN (s.heap.push {cls:= .type "list",data:= .seq #v[]}) S #v[] 0:=jp _ rfl;refine#[#[_,C,rZ],F.args_list_init_2 _ _,?_];unfold Builtin.«list.__init__» Builtin.List.listItems;refine f' (f' (wpAny_seqItems C rZ (hI ?_)));refine f' (m:=updateSeq S _) (vF C rZ (f' (vq ?_)));have H:=si (Obj.mapSeq (λ_=>(#v[]:AV))) C rfl
 let t:=(s.heap.push {cls:= .type "list",data:= .seq #v[]}).update S (Obj.mapSeq (λ_=>(#v[]:AV)))
 have k1:∀b o,s.heap.get? b=some o->t.get? b=some o:=λb o e=>(mW _ _ (pH (iu e))).trans (iG _ e);have I:t.objs.size=S+1:=by
  show(Heap.update _ _ _).objs.size=_;simp[Heap.update,Heap.push,S]
 have go:∀(l:Heap) (c k:Nat),zN l S #v[] c->(∀b o,b≠S->(t.push (uz .none false d 0 f.size g .none .none)).get? b=some o->l.get? b=some o)->
   codeAny (model P w) A.in1 (.builtin "list.extend.loop" #[[.ref S,.ref t.objs.size,.none],[]]) (wants (λr u=>r=Value.none/\Q (Value.ref S) u) E) {s with heap:=l,toks:=k}:=λl c k l2 k2=>by
  have y:S<t.objs.size:=by rw[I];exact rn _
  have k12:∀b o,s.heap.get? b=some o->l.get? b=some o:=λb o e=>k2 b o (i6 (iu e)) (iG _ (k1 b o e));refine fill (by simpa using hh) y (Nat.ne_of_lt ld) (Nat.ne_of_lt (Nat.lt_trans ld y)) D f.size 0 {s with heap:=l,toks:=k} [] c () rfl #[_,_,_,_,k2 _ _ (Nat.ne_of_gt y) (Heap.get?_push_size _ rfl),.inl rfl] #[o,k12 d o G,x,O] l2 .nil λj n c' l' J M k'=>?_;refine#[rZ,q j n c' k l' #[λa ha=>wP y (J.far a ha),J.up,J.is] M λb o e=>?_];have U:b<S:=iu e;exact k' b o (i6 U) (i6 (wP U y)) (k12 b o e)
 refine show wpAny _ _ (Builtin.List.listExtendWith (.ref S) (.ref v) .none) _ _ _ from ?_
 unfold Builtin.List.listExtendWith;have h:=k1 v _ N;refine f' (wpAny_typeOf (T:="dict_items") #[_,h,rZ] ?_);have no:(Builtin.List.listSameRef (.ref S) (.ref v) || Value.type "dict_items"==Value.type "list" || Value.type "dict_items"==Value.type "tuple")=false:=by
  have z:Builtin.List.listSameRef (.ref S) (.ref v)=false:=by simp[Builtin.List.listSameRef,Nat.ne_of_gt lv]
  rw[z];decide
 rw[no,wA (by decide)];refine f' (Jc h #[o,k1 d o G,x,O] (f' (lL (KG #[_,iG _ h,rZ] ?_))));have i:=iG (uz .none false d 0 f.size g .none .none) H;refine Cy (λ_=>?_) λ_=>hI #[pN zK _,go _ _ _ i λ_ _ _ e=>e];unfold Builtin.List.listTouch Builtin.List.listUpdate;refine f' (rJ (f' (f' (m:=updateSeq S _) (vF i rZ ?_))));have B:=si (Obj.mapSeq (·.push Value.none)) i rfl;refine show wpAny _ _ (updateSeq S (·.pop)) _ _ _ from vF (hz:=by seq_fits) B rZ (hI #[pN zK _,go _ _ _ (si (Obj.mapSeq (·.pop)) B rZ) λb o Y e=>?_])
 rw[mW _ _ (jq Y),mW _ _ (jq Y)];exact e
end
def qe(H:Hp):List (Ad×HO)->Hp
 | []=>H
 |p::l=>qe (hA H p.1 p.2) l
theorem C6:∀{l:List (Ad×HO)} {H:Hp} {b:Ad},(∀p∈l,b≠p.1)->qe H l b=H b
 | [],_,_,_=>rfl
 |p::l,H,b,n=>by
  show qe (hA H p.1 p.2) l b=_;rw[C6 λq a=>n q (jr _ a),hK (n p (i7 ..))]
theorem Em:∀{l:List (Ad×HO)} {H:Hp} {p:Ad×HO},(l.map (·.1)).Nodup->p∈l->qe H l p.1=some p.2
 | q::l,H,p,a,hp=>by
  obtain⟨b,c⟩:=oM.mp a
  rcases iM.mp hp with rfl|hp
  .show qe (hA H p.1 p.2) l p.1=_;rw[C6 λr d z=>b (iK.mpr #[r,d,z.symm]),hO]
  .exact Em (l:=l) c hp
def Aa{c d:Type}{F:c->d->Prop}{l:List c}{m:List d}{j:Nat}{a:c}(r:Paired F l m)(e:l[j]?=some a):∃b,m[j]?=some b/\F a b:=by
 induction r generalizing j with
 |nil=>simp at e
 | cons h _ f=>
  cases j with
  |zero=>
   have z:=lW e;subst z;exact#[_,rZ,h]
  |succ j=>exact f (by simpa using e)
section
variable{X:Cx}
theorem Inv.tracks{Z:AO}{a:St}{g:Hp}{s s1:Sh}(I:Inv X Z a g s):∀(l:List (Ad×HO)) (H:Hp),Inv X Z a H s1->(∀p∈l,s.heap.objs.size<=p.1/\H p.1=none/\∀h,ObjOk X.prog X.w h s1.heap p.1 p.2)->(l.map (·.1)).Nodup->
  Inv X Z a (qe H l) s1
 | [],_,c,_,_=>c
 |p::l,H,c,ok,i=>by
  obtain⟨j,k⟩:=oM.mp i;obtain⟨d,n,o⟩:=ok p (i7 ..);obtain⟨u,m,v,w,r,t⟩:=I.fpOk (b:=p.1) (H':=H) d n;refine Inv.tracks I l _ (c.track n (o _) (i5 I.sz d) m r t) (λq f=>?_) k;obtain⟨x,y,z⟩:=ok q (jr _ f);exact#[x,by rw[hK λe=>j (iK.mpr #[q,f,e])];exact y,z]
structure Listed(H H':Hp)(kvs:List (List iH×V))(l:Ad)(as:As):Prop where
 new:H l=none
 news:∀a∈as,H a=none
 out:l∉as
 nd:as.Nodup
 len:as.length=kvs.length
 lst:H' l=some (.lst (as.map .ref))
 is:∀(j:Nat) (a:Ad),as[j]?=some a->∃k v b,kvs[j]?=some (k,v)/\H b=some (.tup (k.map kV))/\H' a=some (.tup [.ref b,v])
 rest:∀b,b≠l->b∉as->H' b=H b
def vB(v d:Ad):HO:= .ext λh=>h.get? v=some (wr d)
def KD:V->List V->Hp->VK->Prop:=λx c H Q=>c=[]/\∃a b,x=.ref a/\H a=some (.dT b)/\∀v,H v=none->Q (.ref v) (hA H v (vB v a))
def Ii:BW X "dict.items" KD:=by
 intro Z s n H x p u r Q I b c h;obtain⟨rfl,a,d,rfl,f,q⟩:=h;cases b;cases c;obtain⟨z,g,t,i,o,v,w,j,l,m,_⟩:=I.hok a _ f;refine NH g #[o,j,l,m] #[.ref s.heap.objs.size,_,I.laid (a:=s.heap.objs.size) (o:=vB s.heap.objs.size a) (t':=s.toks) (λ_ _ q=>iG _ q) (ig _) ?_,rZ,q _ I.fresh];have e:(s.heap.push (wr a)).get? s.heap.objs.size=some (wr a):=jp _ rfl;exact#[e,#[_,e],λA B y k=>k _ y]
inductive mu(c:List V)(H:Hp)(Q:VK):Prop|mk:∀v a b,c=[.ref v]->H v=some (vB v a)->H a=some (.dT b)->(∀l e d,Listed H d b l e->Q (.ref l) d)->mu c H Q
def HJ(hc:X.calm=true):CallR X (.type "list") mu:=by
 intro Z s σ H xs us Q I r h;obtain⟨v,a,t,rfl,hv,ha,q⟩:=h;obtain⟨u,rfl,ru⟩:=m7 r;cases ru;obtain⟨ev,_,_⟩:=I.hok v _ hv;obtain⟨z,na,ys,E,o,es,ep,e1,e2,e3,e4,_⟩:=I.hok a _ ha;have el:es.size=t.length:=by rw[A1 e4,<-r3 E]
 refine J4 (I.ok.hd hc) ev #[o,e1,e2,e3] () λD f c tk ln M lS k=>?_;have I1:Inv X Z σ H {s with heap:=D,toks:=tk}:=I.kept k;have big:∀b,s.heap.objs.size<=b->H b=none:=λb n=>I.hok.fresh n;have G:f.Nodup:=M.up.imp λz=>i6 z;have A:s.heap.objs.size∉f:=λm=>oi _ (M.far _ m);have J:∀(j:Nat) (b:Ad),f[j]?=some b->∃k x y,t[j]?=some (k,x)/\H y=some (.tup (k.map kV))/\∃u,RelV x u/\D.get? b=some (oN (.ref y) u):=λj b d=>by
  obtain⟨en,ee,g⟩:=M.is j b d;obtain⟨jl,_⟩:=ik.mp d;obtain⟨⟨k,x⟩,ek⟩:∃p,t[j]?=some p:=#[_,hV ()];obtain⟨⟨k',y,u⟩,ey,p1,p2,p3⟩:=Aa E ek;rw[entry_at e4,ey]at ee;cases ee;exact#[k,x,y,ek,p2,u,p3,g]
 have w:∀b,∃o:HO,∀j:Nat,f[j]?=some b->∃k x y,t[j]?=some (k,x)/\H y=some (.tup (k.map kV))/\o=.tup [.ref y,x]/\∃u,RelV x u/\D.get? b=some (oN (.ref y) u):=λb=>by
  by_cases n:b∈f
  .obtain⟨j,d⟩:=kr.mp n;obtain⟨k,x,y,N,O,u,T,U⟩:=J j b d;refine#[.tup [.ref y,x],λi ei=>?_];have ij:j=i:=se (ik.mp d).1 G |>.mp (d.trans ei.symm)
   subst ij;exact#[k,x,y,N,O,rZ,u,T,U]
  .exact#[.tup [],λj d=>wC (iV d) n]
 let L:Ad->HO:=λb=>Classical.choose (w b)
 have B:∀(j:Nat) (b:Ad),f[j]?=some b->∃k x y,t[j]?=some (k,x)/\H y=some (.tup (k.map kV))/\L b=.tup [.ref y,x]/\∃u,RelV x u/\D.get? b=some (oN (.ref y) u):=λj b d=>Ba (w b) j d;have C:(f.map λb=>(b,L b)).map (·.1)=f:=by simp[List.map_map,Function.comp_def]
 have Y:∀b∈f,∀H2,ObjOk X.prog X.w H2 D b (L b):=λb n H2=>by
  obtain⟨j,d⟩:=kr.mp n;obtain⟨k,x,y,N,O,T,u,U,h5⟩:=B j b d;rw[T];exact#[by show 2<=sizeLine;decide,[.ref y,u],.cons rZ (.cons U .nil),_,h5,rZ,0,rZ,rZ]
 have vs:∀l:As,Vals (l.map V.ref) (l.map Value.ref):=λl=>by
  induction l with
  |nil=>exact .nil
  |cons x l ih=>exact .cons rZ ih
 have I2:=Inv.tracks (s1:={s with heap:=D,toks:=tk}) I ((s.heap.objs.size,.lst (f.map .ref))::f.map λb=>(b,L b)) H I1 (λp hp=>by
   rcases iM.mp hp with rfl|hp
   .exact#[ig _,big _ (ig _),λH2=>#[by rw[hJ];lia,_,c,vs f,lS]]
   .obtain⟨b,n,rfl⟩:=iK.mp hp;exact#[nZ (M.far b n),big _ (nZ (M.far b n)),Y b n]) (by
   rw[lH,C];exact oM.mpr #[A,G])
 refine#[.ref s.heap.objs.size,_,I2,rZ,q _ f _ #[big _ (ig _),λb n=>big _ (nZ (M.far b n)),A,G,(),?_,λj b d=>?_,λb N O=>?_]]
 .exact Em (p:=(s.heap.objs.size,.lst (f.map .ref))) (by rw[lH,C];exact oM.mpr #[A,G]) (i7 ..)
 .obtain⟨k,x,y,g1,g2,g3,_⟩:=B j b d;refine#[k,x,y,g1,g2,?_];rw[<-g3];exact Em (p:=(b,L b)) (by rw[lH,C];exact oM.mpr #[A,G]) (jr _ (iK.mpr #[b,iV d,rZ]))
 .refine C6 λp hp=>?_
  rcases iM.mp hp with rfl|hp
  .exact N
  .obtain⟨y,hy,rfl⟩:=iK.mp hp;exact λe=>O (e▸hy)
end
def a3u(b:TW)(c:As):List (List iH×V):=List.zipWith (λp a=>(nk p.1,V.ref a)) b c
def Gn{ws:TW}{as:As}{p:g9×g9}{a:Ad}(h:as.length=ws.length):a3u (ws++[p]) (as++[a])=a3u ws as++[(nk p.1,.ref a)]:=by
 unfold a3u;rw[List.zipWith_append h.symm];rfl
def xx{a:TW}{b:As}(h:b.length=a.length):(a3u a b).length=a.length:=by
 unfold a3u;rw[List.length_zipWith];lia
def DV{b:TW}{c:As}{j:Nat}{p:g9×g9}{a:Ad}(d:b[j]?=some p)(e:c[j]?=some a):(a3u b c)[j]?=some (nk p.1,.ref a):=by
 unfold a3u;rw[List.getElem?_zipWith,d,e]
theorem y3:∀{b:TW} {c:As} {x:g9},x∉b.map (·.1)->lY (a3u b c) (nk x)=none
 | [],_,_,_=>rfl
 |_::_,[],_,_=>rfl
 |p::b,a::c,x,h=>by
  have d: ¬(nk p.1:List iH)=nk x:=λz=>h (iK.mpr #[p,i7 ..,uc z]);exact(sd (p:=(nk p.1,V.ref a)) (r:=a3u b c) d).trans (y3 λz=>h (jr _ z))
theorem Dw:∀{c:TW} {d:As} {j:Nat} {p:g9×g9} {a:Ad},(c.map (·.1)).Nodup->c[j]?=some p->d[j]?=some a->lY (a3u c d) (nk p.1)=some (.ref a)
 |q::c,b::d,0,p,a,_,e,f=>by
  cases e;cases f;exact wH (p:=(nk q.1,V.ref b)) (r:=a3u c d) rfl
 |q::c,b::d,j+1,p,a,h,e,f=>by
  obtain⟨i,k⟩:=oM.mp h;have g:c[j]?=some p:=by simpa using e
  have n: ¬(nk q.1:List iH)=nk p.1:=λz=>i (iK.mpr #[p,iV g,(uc z).symm]);exact(sd (p:=(nk q.1,V.ref b)) (r:=a3u c d) n).trans (Dw k g (by simpa using f))
 | [],_,_,_,_,_,e,_=>by simp at e
 |_::_,[],_,_,_,_,_,f=>by simp at f
structure WordsAt(H:Hp)(D:Ad)(ws:TW)(as:As):Prop where
 len:as.length=ws.length
 dict:H D=some (.dT (a3u ws as))
 list:∀(j:Nat) (a:Ad) (p:g9×g9),as[j]?=some a->ws[j]?=some p->H a=some (.lst (p.2.map nv))
def WordsAt.same{H b:Hp}{D:Ad}{c:TW}{d:As}(W:WordsAt H D c d)(g:Same H b):WordsAt b D c d:=#[W.len,g _ _ W.dict,λj a p e f=>g _ _ (W.list j a p e f)]
def WordsAt.word{H:Hp}{D:Ad}{b:TW}{c:As}{p:g9×g9}(W:WordsAt H D b c)(f:(b.map (·.1)).Nodup)(g:p∈b):∃a,lY (a3u b c) (nk p.1)=some (.ref a)/\H a=some (.lst (p.2.map nv)):=by
 obtain⟨j,e⟩:=kr.mp g;obtain⟨h,_⟩:=ik.mp e;obtain⟨a,d⟩:∃a,c[j]?=some a:=#[_,hV (by rw[W.len];exact h)];exact#[a,Dw f e d,W.list j a p d e]
def WordsAt.put{H:Hp}{D l:Ad}{c:TW}{e:As}{p:g9×g9}(W:WordsAt H D c e)(f:H l=some (.lst (p.2.map nv))):WordsAt (hA H D (.dT (a3u c e++[(nk p.1,.ref l)]))) D (c++[p]) (e++[l]):=by
 have g:∀{a:Ad} {k:List V},H a=some (.lst k)->a≠D:=λh=>nE h W.dict;refine#[by simp[W.len],by rw[hO,Gn W.len],λj a q d b=>?_];by_cases i:j<c.length
 .rw[j5 (by rw[W.len];exact i)]at d;rw[j5 i]at b;have z:=W.list j a q d b;rw[hK (g z)];exact z
 .rw[ku (by rw[W.len];lia)]at d;rw[ku ()]at b;have z:j-c.length=0:=by
   have:=(ik.mp b).1;simp at this;lia
  rw[W.len,z]at d;rw[z]at b;cases d;cases b;rw[hK (g f)];exact f
def noT(H:Hp):Hp:=λa=>match H a with
 |some (.tbl _)=>none
 |o=>o
def uZ{H:Hp}{a:Ad}{o:HO}(h:H a=some o)(n:∀b,o≠ .tbl b):noT H a=some o:=by
 unfold noT;rw[h];cases o<;>first|rfl|exact wC rZ (n _)
def NS:HO->Bool
 |.tbl _=>true
 |_=>false
def nU{H:Hp}{a:Ad}{o:HO}(h:H a=some o)(d:NS o=false:=by rfl):noT H a=some o:=uZ h λb e=>by subst e;cases d
def vE{H:Hp}{a:Ad}{o:HO}(h:noT H a=some o):H a=some o/\∀b,o≠ .tbl b:=by
 unfold noT at h;split at h
 .cases h
 .rename_i n
  exact#[h,λb z=>n b (by rw[h,z])]
def KJ{H:Hp}{a:Ad}(h:H a=none):noT H a=none:=by
 unfold noT;rw[h]
def Keeps(H a:Hp):Prop:=Same (noT H) a
def Same.keeps{H b:Hp}(g:Same H b):Keeps H b:=λa o h=>g a o (vE h).1
def Keeps.refl(H:Hp):Keeps H H:=(Same.refl H).keeps
def Keeps.trans{H d e:Hp}(a:Keeps H d)(b:Keeps d e):Keeps H e:=λc o h=>b c o (uZ (a c o h) (vE h).2)
def TabOk(a:Str)(b:Pos)(H:Hp)(T:Ad):Prop:=H T=some (.tbl #v[])\/∃c,H T=some (.tbl (oQ b c))/\H c=some (oJ c a)
def TabOk.same{a:Str}{b:Pos}{H c:Hp}{T:Ad}(t:TabOk a b H T)(g:Same H c):TabOk a b c T:=by
 rcases t with t|⟨d,e,f⟩
 .exact .inl (g _ _ t)
 .exact .inr #[d,g _ _ e,g _ _ f]
def DefAt(K:O0)(x:Str)(st:Stmt)(f:Ad)(b:Fd)(g e:Vl):Prop:=
 PySem.W.codeIn K e x=true/\(∃kV a h i j,b=PySem.W.fnOf x x (ja st) (iS st) (hZ st) g kV a h i e j)/\∃c d sl,K.lookup f=some #[c,d,.func b,sl]
section
variable{P:Pg}{w:World}{K:O0}{mg:SV}{a:Heap}{x:Str}{st:Stmt}{f:Ad}{l:Fd}{n m:Vl}{N i:Ss}{k:Nat}{g:Sp}
def MQ(P:Pg)(w:World)(K:O0)(mg:SV)(a:Heap)(x:Str)(st:Stmt)(f:Ad)(m:Vl)(N:Ss)(k:Nat)(g:Sp):Prop:=
 ∀A b s H c Q E,g c H Q E->Room k (A.deeper (envOfC x (hZ st) s.heap.objs.size f m))->∃t:TS,t #[λ_ d=>Q .non d,Q,λ_ _=>False,λ_ _=>False] (start N c) H/\PSs (n9 iF P w K mg a N x (hZ st) f m A b s H E).nox (iS st) t
def DefAt.fnOk(d:DefAt K x st f l n m)(p:FnScope N i (hZ st))(len:∀j H Q E,g j H Q E->j.length=i.length)(b:MQ P w K mg a x st f m N k g):FnOk P w K mg a iF (k+1) f l i g:=by
 obtain⟨c,⟨kV,r,v,y,z,rfl⟩,_,_,_,lk⟩:=d;refine Ag lk c p len λA e s H j Q E u o=>?_;obtain⟨t,q,h⟩:=b A e s H j Q E o u;exact#[t,h.nox,q]
def Ea(P:Pg)(w:World)(K:O0)(mg:SV)(a:Heap)(x:Str)(k:Nat)(i:Ss)(g:Sp)(b:List V):Prop:=
 ∃f l c,FnOk P w K mg a iF k f l i g/\mg x=some (.ref f)/\PySem.W.keepIn K (.ref f)=true/\Binds K l i c/\Vals b c
def Lc{X:Cx}{x y:Str}{k j:Nat}{i:Ss}{g:Sp}{c:Ad}{a:List V}{e:Expr}{b:List Expr}{t:TA}{p d:Pos}(q:Ea X.prog X.w X.K X.mg X.base x k i g a)(r:Room k X.A)(s:Gl X x)(u:X.N[j]?=some y)(v:X.env.cells.lookup y=some c)(h:X.env.scope.names.lookup y=some .cell) (m:X.fn y=true) (w:PA X (e::b) t) (n:(x==("__debug__":Str))=false:=by decide) (z:starEach (e::b) X.env=(false,eval e X.env)::starEach b X.env:=by rfl)
  (o:(backTo d (starEach b X.env)).any (·.1)=false:=by rfl):PE X (.Call (.Name x p) (e::b) [] d) (FN g a j c t):=by
 obtain⟨f,l,E,F,A,B,C,D⟩:=q;exact LA F r s A B C D u v h m w n z o
end
def Gm{X:Cx}{P:Pg}{w:World}:va (CX1 P w) X E0:=λ_ _ _ _ _ _ _ ⟨_,_,_,_,_,_,_,_,_,_,h⟩=>h.elim
def D9(P:Pg)(w:World)(K:O0)(mg:SV)(base:Heap)(x:Str)(k:Nat)(a:Ss)(c:Sp):Prop:=
 ∃f b,FnOk P w K mg base (CX1 P w) k f b a c/\mg x=some (.ref f)/\PySem.W.keepIn K (.ref f)=true/\Binds K b a []
def BB{X:Cx}{x:Str}{k:Nat}{h:Ss}{g:Sp}{e:Expr}{a:List Expr}{t:TA}{p d:Pos}{E:XK}(c:D9 X.prog X.w X.K X.mg X.base x k h g)(i:Room k X.A)(j:va (CX1 X.prog X.w) X E)(l:Gl X x)(n:PA X (e::a) t)(o:(x==("__debug__":Str))=false:=by decide) (q:starEach (e::a) X.env=(false,eval e X.env)::starEach a X.env:=by rfl) (r:(backTo d (starEach a X.env)).any (·.1)=false:=by rfl):
  PE X (.Call (.Name x p) (e::a) [] d) (uo g [] E t):=by
 obtain⟨f,u,F,m,s,b⟩:=c;exact Dm F i l m s b .nil j n o q r
def CalleeDX(P:Pg)(w:World)(K:O0)(mg:SV)(a:Heap)(x:Str)(k:Nat)(c:Ss)(g:Sp)(b:List V):Prop:=
 ∃f d e,FnOk P w K mg a (CX1 P w) k f d c g/\mg x=some (.ref f)/\PySem.W.keepIn K (.ref f)=true/\Binds K d c e/\Vals b e
def EG{X:Cx}{x:Str}{k:Nat}{i:Ss}{h:Sp}{a:List V}{e:Expr}{d:List Expr}{t:TA}{p g:Pos}{E:XK}(c:CalleeDX X.prog X.w X.K X.mg X.base x k i h a)(j:Room k X.A)(l:va (CX1 X.prog X.w) X E)(n:Gl X x)(o:PA X (e::d) t)(q:(x==("__debug__":Str))=false:=by decide) (r:starEach (e::d) X.env=(false,eval e X.env)::starEach d X.env:=by rfl) (s:(backTo g (starEach d X.env)).any (·.1)=false:=by rfl):
  PE X (.Call (.Name x p) (e::d) [] g) (uo h a E t):=by
 obtain⟨f,w,y,F,m,u,b,v⟩:=c;exact Dm F j n m u b v l o q r s
section
variable{X:Cx}{Z:AO}{a:St}{H g:Hp}{s:Sh}
def K4{k:Nat}{y:Ss}{A:Sp}{b:List V}{x:Str}{p d:Pos}{e:Expr}{i:List Expr}{t:TA}(c:CalleeDX X.prog X.w X.K X.mg X.base x k y A b)(G:Room k X.A)(J:Gl X x)(L:PA X.nox (e::i) t) (m:(x==("__debug__":Str))=false:=by decide) (M:starEach (e::i) X.env=(false,eval e X.env)::starEach i X.env:=by rfl)
  (n:(backTo d (starEach i X.env)).any (·.1)=false:=by rfl):E3 X (.Call (.Name x p) (e::i) [] d) (λE=>uo A b E t):=by
 obtain⟨f,fd,o,F,N,O,T,U⟩:=c;intro Z s a H Q E Ex I h Y;refine qq (rG I J N ?_ m);refine xa (h₀:=X.base) I.ok.mod.kin O (ke (L d Z s a H _ (I.wish _) h) (λj w ⟨B,C,g,r,q⟩=>?_) λ_ _ z=>wE z) M n;have g:=g.unwish;refine#[g.kIn,?_];have D:Vals (B++b) (j++o):=r.append U;have hl:(j++o).length=y.length:=by rw[<-D.length];exact F.len _ _ _ _ q
 refine py (nG (F.run X.A X.stack w C #[j,[]] (j++o) (B++b) Q E G g.env0 (T w j g.kIn hl) D q) λr s' l=>?_);cases r with
 |error v=>exact Y C w v s' g l
 |ok fl=>
  cases fl with
  |ret u=>exact g.after l
  |next=>exact wE l
  |brk=>exact wE l
  |cont=>exact wE l
def Jh(h:Sp)(e:List V)(E:XK)(j:Nat)(c:Ad)(t:TA):TE:=λa H Q=>t a H λi g=>∃m,a[j]?=some (some (.ref m))/\∀f,g c=none->h (i++e) (hA g c (j0 c m f)) (λr b=>b c=some (j0 c m f)/\Q r (drop b c)) (λv d b=>b c=some (j0 c m f)/\E v d (drop b c))
def CX1.afterC{c m:Ad}{j:Obj}{E:XK}{v:Vl}{x:Sh}(l:H c=none)(y:s.heap.get? c=some j)(h:CX1 X.prog X.w X.stack (hA H c (j0 c m j)) s (λv d k=>k c=some (j0 c m j)/\E v d (drop k c)) v x):CX1 X.prog X.w X.stack H s E v x:=by
 obtain⟨e,C,d,k,rfl,os,f,un,g,⟨B,D,G,I,T,J,L,M,a,p,t,N,O,Q,U,Y,r⟩,A,q⟩:=h;obtain⟨⟨i,_⟩,_,_⟩:=g c _ A;refine#[e,C,d,drop k c,rZ,os,f,#[λb o e n u a=>?_,λb o e n u a=>?_,λb o e n a=>?_,un.there,λb xs e=>?_,λb o w e=>?_,λb ps e=>?_],g.drop A,#[B,sj D,G,I,T,J,L,M,a,p,t,N,O,Q,U,sj Y,r],q]
 .by_cases z:b=c
  .subst z;rw[y]at e;cases e;exact i
  .exact un.keep b o e (by rw[hK z];exact n) u a
 .by_cases z:b=c
  .subst z;rw[y]at e;cases e;exact#[j.slots,i]
  .exact un.slot b o e (by rw[hK z];exact n) u a
 .by_cases z:b=c
  .rw[z];exact xh
  .exact sj (un.free b o e (by rw[hK z];exact n) a)
 .have z:b≠c:=λz=>by rw[z,l]at e;cases e
  rw[j7 z];exact un.tups b xs (by rw[hK z];exact e)
 .have z:b≠c:=λz=>by rw[z,l]at e;cases e
  rw[j7 z];exact un.frzs b o w (by rw[hK z];exact e)
 .have z:b≠c:=λz=>by rw[z,l]at e;cases e
  rw[j7 z];exact un.tbls b ps (by rw[hK z];exact e)
def Js{x y:Str}{k j:Nat}{ps:Ss}{sp:Sp}{c:Ad}{i:List V}{e:Expr}{B:List Expr}{t:TA}{p v:Pos}{E:XK}(cl:CalleeDX X.prog X.w X.K X.mg X.base x k ps sp i)(hr:Room k X.A)(hx:va (CX1 X.prog X.w) X E)(hg:Gl X x)(hN:X.N[j]?=some y) (M:X.env.cells.lookup y=some c) (C:X.env.scope.names.lookup y=some .cell) (N:X.fn y=true) (ha:PA X (e::B) t)(O:(x==("__debug__":Str))=false:=by decide) (he:starEach (e::B) X.env=(false,eval e X.env)::starEach B X.env:=by rfl) (T:(backTo v (starEach B X.env)).any (·.1)=false:=by rfl):
  PE X (.Call (.Name x p) (e::B) [] v) (Jh sp i E j c t):=by
 obtain⟨f,fd,U,F,hm,hk,A,hd⟩:=cl;intro Z s a H Q I h;refine qq (rG I hg hm ?_ O);refine xa (h₀:=X.base) I.ok.mod.kin hk (ie (ha v Z s a H _ I h) λD G ⟨vs,Y,d,r,m,hj,q⟩=>#[d.kIn,?_]) he T;have l:Y c=none:=d.freeC y c M;obtain⟨mm,hn,look⟩:=d.loc;obtain⟨u,ru,lk⟩:=look j y (.ref m) hN hj (.inr (.inl C));cases ru;obtain⟨oc,ec,dc⟩:G.heap.IsCell c (some (.ref m)):=by
  rcases lk with⟨z,_⟩|⟨_,c',J,ic⟩
  .have z':X.env.scope.names.lookup y=some .local:=z;rw[C]at z';cases z'
  .rw[M]at J;cases J;exact ic
 have q1:=q oc l;have r2:Vals (vs++i) (D++U):=r.append hd;have hl:(D++U).length=ps.length:=by rw[<-r2.length];exact F.len _ _ _ _ q1
 have e1:Env0 X.prog X.w X.K X.mg X.base X.A X.stack G (hA Y c (j0 c m oc)):=by
  have n:=d.env0;have g:=d.ok.cab y c N M;have nb:∀b o,X.base.get? b=some o->b≠c:=λb o e z=>by
   subst z;exact wC (jy (iu e) (i5 d.ok.bsz g)) (oi _)
  have nf:∀b∈iI X.stack,b≠c:=λb A z=>by
   subst z
   rcases iM.mp (d.stkSub b A)with w|w
   .exact d.cne y b M w
   .obtain⟨_,o,ho,_⟩:=d.ok.funs.mem w;exact wC (jy (iu ho) g) (oi _)
  exact#[n.frames,n.mod,λb o e=>#[(n.bs b o e).1,by rw[hK (nb b o e)];exact(n.bs b o e).2],n.bsz,n.funs,λb A=>by rw[hK (nf b A)];exact n.frf b A,n.hok.back l (CO ec dc),n.bare]
 refine py (nG (F.run X.A X.stack G _ #[D,[]] (D++U) (vs++i) _ _ hr e1 (A G D d.kIn hl) r2 q1) λr s' L=>?_);cases r with
 |error e=>exact hx Z a Y G e s' d (CX1.afterC l ec L)
 |ok fl=>
  cases fl with
  |ret u=>exact d.afterC l ec L
  |next=>exact wE L
  |brk=>exact wE L
  |cont=>exact wE L
end
section
variable{P:Pg}{w:World}{K:O0}{mg:SV}{a:Heap}{x:Str}{st:Stmt}{f:Ad}{i:Fd}{j g:Vl}{N e:Ss}{k:Nat}{c:Sp}
def DefAt.fnOkX(d:DefAt K x st f i j g)(p:FnScope N e (hZ st))(len:∀m H Q E,c m H Q E->m.length=e.length)(b:∀A l s H m Q E,c m H Q E->Room k (A.deeper (envOfC x (hZ st) s.heap.objs.size f g))->∃t:TS,t #[λ_ r=>Q .non r,Q,λ_ _=>False,λ_ _=>False] (start N m) H/\PSs (n9 (CX1 P w) P w K mg a N x (hZ st) f g A l s H E) (iS st) t):FnOk P w K mg a (CX1 P w) (k+1) f i e c:=by
 obtain⟨n,⟨kV,u,y,z,B,rfl⟩,_,_,_,lk⟩:=d;refine Ag lk n p len λA l s H m Q E v o=>?_;obtain⟨t,q,h⟩:=b A l s H m Q E o v;exact#[t,h,q]
end
def CallR.kw{X:Cx}{K:O0}{w:World}{f:Vl}(r:O0->World->List V->Hp->VK->Prop)(h:CallR X f (r X.K X.w))(a:X.K=K)(hw:X.w=w):CallR X f (r K w):=hw▸a▸h
def CallR.kw1{X:Cx}{w:World}{f:Vl}(r:World->List V->Hp->VK->Prop)(h:CallR X f (r X.w))(hw:X.w=w):CallR X f (r w):=hw▸h
def FnOk.calm{P:Pg}{w:World}{K:O0}{mg:SV}{a:Heap}{k:Nat}{f:Ad}{g:Fd}{i:Ss}{j d:Sp}(F:FnOk P w K mg a (CX1 P w) k f g i j)(h:∀c H Q E,d c H Q E->j c H Q E0):FnOk P w K mg a iF k f g i d:=
 #[λc H Q E q=>F.len c H Q E0 (h _ _ _ _ q),λA b s H args m c Q E n o p t u=>nG (F.run A b s H args m c Q E0 n o p t (h _ _ _ _ u)) λr x l=>by
  cases r with
  |error e=>
   obtain⟨_,_,_,_,_,_,_,_,_,_,z⟩:=l;exact z.elim
  |ok v=>cases v<;>exact l]
def CalleeDX.calm{P:Pg}{w:World}{K:O0}{mg:SV}{g:Heap}{x:Str}{k:Nat}{l:Ss}{m i:Sp}{j:List V}(c:CalleeDX P w K mg g x k l m j)(h:∀n H Q E,i n H Q E->m n H Q E0):Ea P w K mg g x k l i j:=
 let⟨f,o,p,F,a,b,d,e⟩:=c;#[f,o,p,F.calm h,a,b,d,e]
def CalleeDX.imp{P:Pg}{w:World}{K:O0}{mg:SV}{g:Heap}{x:Str}{k:Nat}{l:Ss}{m i:Sp}{j:List V}(c:CalleeDX P w K mg g x k l m j)(h:∀n H Q E,i n H Q E->m n H Q E):CalleeDX P w K mg g x k l i j:=
 let⟨f,o,p,F,a,b,d,e⟩:=c;#[f,o,p,F.imp h,a,b,d,e]
def c4e{l:PySem.W.OpenLaw}{n k:Nat}{q:Pg}{i:Ss}{Q:SV->Heap->Prop}{z:World->Heap->Prop}{d:DefRec}{K:Params->O0}{sp:World->Sp}{x:Str}{tabs:As}(T:l.most=some n) (A:n<=sizeLine) (B:d.params.defaults=[]) (U:Room k callerA) (hY:∀(w:World) (h:Heap),z w h->(K w.params).In h)(hT:∀w:World,∀t∈tabs,(K w.params).lookup t=none/\((∃y c,PySem.W.tabIn (K w.params) y=some (c,t)/\∃e,(recsOf q).find? (λr=>r.name==y)=some e)\/((∃c,PySem.W.codeHdIn (K w.params) c t=true)/\∀h,z w h->h.get? t=some (PySem.W.tabObj #v[]))))(F:∀(w:World) (mg:SV) (fa:Ad) (h:Heap),(K w.params).In h->h.Ns mainGlobals mg->mg d.name=some (.ref fa)->
   ∃D:Fd,(∀(s:Sh) (u:Vl),BindsTo s D #[[u],[]] [(x,u)])/\∀b:Heap,(K w.params).In b->b.Ns mainGlobals mg->rX mg b->FnOk l.prog w (K w.params) mg b iF k fa D [x] (sp w))(E:∀(w:World) (H:Hp) (a:Ad) (p:Zs),p.length<=n->(∀t∈tabs,H t=some (.tbl #v[]))->SqL (K w.params) H a (p.map V.int)->sp w [.ref a] H (λv _=>v=.bl true) λ_ _ _=>False):
  PySem.W.WalkO q i Q z l.row.toRowW d [] (λf L=>PySem.call f L):=by
 refine Att.attach_call T B λw M N mg mb fa o pm cd aa a L p G Y ho hd ab hmg m j g hg=>?_;have KX:=hY w _ Y;obtain⟨D,hb,hF⟩:=F w mg fa _ KX G.T.g hmg;refine LU (tabs:=tabs) KX G.T.g G.T.b G.T.builtins G.T.nolimit hg G.T.bmain m j (i5 g A) U (λt ht=>?_) hF hb (λH hH hS=>E w H a p g hH hS);obtain⟨O,⟨y,c,I,e,J⟩|⟨⟨c,I⟩,J⟩⟩:=hT w t ht
 .obtain⟨C,eP⟩:=PySem.W.tab_of G.T KX J I;exact#[O,c,C.tab eP]
 .exact#[O,c,(PySem.W.codeHd_of_K KX I).tab (J _ Y)]
section
variable{X:Cx}
def G0(d e:TE):TE:=λc H Q=>∀p,H p=none->d c (hA H p (.dT [])) λx f=>e c f λy a=>a p=some (.dT [])/\∃b k,x=.ref b/\a b=some (.tup (k.map kV))/\Q (.ref p) (hA a p (.dT [(k,y)]))
def Ck{k v:Expr}{A B:TE}{pos:Pos}(hu:X.A.units+1<cLine)(D:PE X k A)(E:PE X v B):PE X (.Dict [some k] [v] pos) (G0 A B):=by
 intro Z s J H Q I q;have L:=I.hok.fresh (ig s.heap.objs.size);have M:=I.laid (a:=s.heap.objs.size) (o:= .dT []) (h':=s.heap.push {cls:= .type "dict",data:= .dict #v[]}) (t':=s.toks) (λ_ _ q=>iG _ q) (ig _) (EM s.heap I.big);have pairs:=L6 (X:=X) (pos:=pos) D E NL;have N:=q s.heap.objs.size L;rw[arm_eval_Dict];refine f' (vD ?_);have d:(evalEachOpt [some k] X.env).zip ((evalEach [v] X.env).map λv=>do let x <-v;standAt pos;pure x)=(pairTrees [some k] [v] X.env pos).map λp=>(some p.1,p.2):=rfl;rw[d,dictDisplay_pairs _ (by intro z;cases z) (by show 1<17;decide)];refine f' ?_;unfold subDict;refine f' (zX (f' (lL ?_)));rw[wB (by show 1<=15;decide)]
 let G:List (V×V)->Hp->Prop:=λf i=>match f with| [(x,y)]=>i s.heap.objs.size=some (.dT [])/\∃b k,x=.ref b/\i b=some (.tup (k.map kV))/\Q (.ref s.heap.objs.size) (hA i s.heap.objs.size (.dT [(k,y)]))|_=>False
 refine f' (ie (pairs Z _ J _ G M N) λO s2 ⟨f,i,l,m,g⟩=>?_);obtain⟨x,y,rfl⟩:∃x y,f=[(x,y)]:=by
  cases f with
  |nil=>exact wE g
  |cons p f=>
   cases f with
   |nil=>exact#[p.1,p.2,rZ]
   |cons _ _=>exact wE g
 obtain⟨e,b,c,rfl,n,T⟩:=g;obtain⟨u,r,rfl,U,Y⟩:∃u r,O=[(u,r)]/\RelV (.ref b) u/\RelV y r:=by
  cases m with
  | @cons _ q _ qs h t=>
   cases t;exact#[q.1,q.2,rZ,h.1,h.2]
 cases U;obtain⟨z,hd,xs,kt,dd⟩:=DQ l.hok e;cases kt;refine lL ?_;simp only[List.forIn_cons,List.forIn_nil];refine f' (f' (f' (wpAny_dictSet_heap (show X.A.units<cLine by lia) (wL l.hok n) dd (λh' w hs=>?_) (by show 0<=_;exact mC _))));refine hI (hI (hI (hI ?_)));obtain⟨o,es,ep,C,h2,h3,h4,_,h5⟩:=w;have j:hA i s.heap.objs.size (.dT [(c,y)]) b=some (.tup (c.map kV)):=by
  rw[hK (nE n e)];exact n
 have ok:ObjOk X.prog X.w (hA i s.heap.objs.size (.dT [(c,y)])) h' s.heap.objs.size (.dT [(c,y)]):=#[by show 1<=sizeLine;decide,hd,_,.cons #[rZ,j,Y] .nil,o,es,ep,C,h2,h3,h4,h5];exact hI #[.ref s.heap.objs.size,_,DM l (by rw[e];exact True.intro) hs #[o,C] ok,rfl,T]
end
inductive jg(G:Hp->Prop)(U:LN)(L:Nat)(g:g9->Nat->List Nat)(b:List V)(H:Hp)(Q:VK)(a:XK):Prop|mk:∀(t:Ad) (x:g9) (l:Nat),b=[.ref t,nv l]->G H->H t=some (.tup (x.map nv))->x∈U->l<L->tF H ((g x l).map nv) Q->jg G U L g b H Q a
def ThAt(H:Hp)(l:Ad)(b:TW):Prop:=∃a:As,H l=some (.lst (a.map .ref))/\a.length=b.length/\∀(j:Nat) (t:Ad) (p:g9×g9),a[j]?=some t->b[j]?=some p->H t=some (.tup (p.1.map nv))
def ThAt.same{H a:Hp}{l:Ad}{b:TW}(h:ThAt H l b)(g:Same H a):ThAt a l b:=by
 obtain⟨c,d,e,f⟩:=h;exact#[c,g _ _ d,e,λj t p i k=>g _ _ (f j t p i k)]
def ThAt.more{H:Hp}{l t:Ad}{c:TW}{d:As}{p:g9×g9}(i:H l=some (.lst (d.map .ref)))(f:d.length=c.length)(k:∀(j:Nat) (t:Ad) (p:g9×g9),d[j]?=some t->c[j]?=some p->H t=some (.tup (p.1.map nv)))(ht:H t=some (.tup (p.1.map nv))):
  ThAt (hA H l (.lst (d.map .ref++[.ref t]))) l (c++[p]):=by
 have g:∀{a:Ad} {m:List V},H a=some (.tup m)->a≠l:=λh=>nE h i;refine#[d++[t],by rw[hO,kS];rfl,by simp[f],λj a q e b=>?_];by_cases n:j<c.length
 .rw[j5 ()]at e;rw[j5 n]at b;have z:=k j a q e b;rw[hK (g z)];exact z
 .rw[ku ()]at e;rw[ku ()]at b;have z:j-c.length=0:=by
   have:=(ik.mp b).1;simp at this;lia
  rw[f,z]at e;rw[z]at b;cases e;cases b;rw[hK (g ht)];exact ht
structure Srch(H0 H:Hp)(D wa fa:Ad)(ts:As)(ws wv fo:TW)(as:As):Prop where
 g:Same H0 H
 nD:H0 D=none
 nF:H0 fa=none
 W:WordsAt H D ws as
 wl:H wa=some (.lst (ts.map .ref))
 wt:∀(j:Nat) (t:Ad) (p:g9×g9),ts[j]?=some t->wv[j]?=some p->H t=some (.tup (p.1.map nv))
 foll:ThAt H fa fo
 wf:wa≠fa
 fas:fa∉as
 new:∀b∈as,H0 b=none
def Srch.same{a H b:Hp}{D c fa:Ad}{d:As}{e f g:TW}{h:As}(S:Srch a H D c fa d e f g h)(k:Same H b):Srch a b D c fa d e f g h:=
 #[S.g.trans k,S.nD,S.nF,S.W.same k,k _ _ S.wl,λj t p i l=>k _ _ (S.wt j t p i l),S.foll.same k,S.wf,S.fas,S.new]
def Srch.more{k H:Hp}{D n fa l t:Ad}{v:As}{f w g:TW}{i d:As}{p:g9×g9}(S:Srch k H D n fa v f w g i)(A:H l=some (.lst (p.2.map nv)))(x:l≠fa)(B:k l=none)(ht:H t=some (.tup (p.1.map nv)))(o:H fa=some (.lst (d.map .ref))) (C:d.length=g.length) (E:∀(j:Nat) (t:Ad) (p:g9×g9),d[j]?=some t->g[j]?=some p->H t=some (.tup (p.1.map nv))):
  Srch k (hA (hA H D (.dT (a3u f i++[(nk p.1,.ref l)]))) fa (.lst (d.map .ref++[.ref t]))) D n fa v (f++[p]) w (g++[p]) (i++[l]):=by
 have y:fa≠D:=nE o S.W.dict;have r:∀{a:Ad} {s:List V},H a=some (.tup s)->a≠D:=λh=>nE h S.W.dict;have G:n≠D:=nE S.wl S.W.dict;have I:∀{a:Ad} {s:List V},H a=some (.tup s)->a≠fa:=λh=>nE h o;have u:=S.W.put (l:=l) (p:=p) A;have J:(hA H D (.dT (a3u f i++[(nk p.1,.ref l)]))) fa=some (.lst (d.map .ref)):=by rw[hK y];exact o
 refine#[oU (oU S.g S.nD) S.nF,S.nD,S.nF,#[u.len,?_,λj a q c e=>?_],?_,λj a q c e=>?_,?_,S.wf,?_,λb L=>(iN.mp L).elim (S.new b) λm=>by rw[iE.mp m];exact B]
 .rw[hK (jq y)];exact u.dict
 .have M:a≠fa:=λz=>by
   subst z
   rcases iN.mp (iV c)with m|m
   .exact S.fas m
   .exact x (iE.mp m).symm
  rw[hK M];exact u.list j a q c e
 .rw[hK S.wf,hK G];exact S.wl
 .have z:=S.wt j a q c e;rw[hK (I z),hK (r z)];exact z
 .refine ThAt.more J C (λj a q c e=>?_) ?_
  .have z:=E j a q c e;rw[hK (r z)];exact z
  .rw[hK (r ht)];exact ht
 .intro m
  rcases iN.mp m with m|m
  .exact S.fas m
  .exact x (iE.mp m).symm
section
variable{X:Cx}{c:Hp}{a st D e fa:Ad}{h:Fd}{k:Ss}{b:g9}{L:Nat}{U:LN}{g:g9->Nat->List Nat}
def Ja{d i j:Nat}{a c e:TW}(h:b∈U)(k:∀x∈U,∀l,l<L->g x l∈U)(B:Bfs g L b d a c e i j):a.length<=U.length:=by
 rw[<-hJ (f:=(·.1)) (as:=a)];exact rM B.keys λx m=>by
  obtain⟨p,n,rfl⟩:=iK.mp m;obtain⟨o,q⟩:=B.run p n;rw[<-q];exact vU h k p.2 o
end
abbrev vm(G:TW->Prop)(b:Sp)(c:V)(d:XK)(g:g9->Nat->List Nat)(L:Nat)(e:g9)(f:Hp):Prop:=∀(H:Hp) (D:Ad) (a:TW) (h:As) (Q:VK),Same f H->WordsAt H D a h->(a.map (·.1)).Nodup->(∀p∈a,(∀l∈p.2,l<L)/\ki g e p.2=p.1)->(G a->Q .non H)->b [.ref D,c] H Q d
section
variable{G:TW->Prop}{sR:Sp}{mo:V}{EE:XK}{X:Cx}{n:Hp}{a st D r fa:Ad}{s:Fd}{u:Ss}{o:g9}{L:Nat}{U:LN}{g:g9->Nat->List Nat}
abbrev FR(X:Cx)(sR:Sp)(EE:XK):TS:=rz (p6 (FS X 2 (oq (iO 7) (oq (iO 8) pr))) (md 9)) (yy (tB (Gh (iO 9) (iO 4)))
 (rz (Gq (iO 4) (iO 9) (zC (qc X.K) (ES (iO 4) (iO 7)) (yJ (oq (iO 8) pr)))) (rz (zO (uo sR [] EE (oq (iO 4) (oq (iO 3) pr)))) (zO (Au X.K "list" m9 (iO 6) (oq (iO 9) pr))))) EO)
def KU{d i j:Nat}{b Q M:TW}{T ts:As}{C:Ad}{t:g9×g9}{H:Hp}{En:Ends}{o9:Option V}(hR:vm G sR mo EE g L o n)(hr:Room 5 X.A)(Y:n st=some (mI st s))(h0:o∈U)(hU:∀x∈U,∀l,l<L->g x l∈U)(few:U.length<=4000)(hF:FnOk X.prog X.w X.K X.mg X.base iF 5 st s u (jg (Same n) U L g)) (hB:Binds X.K s u []) (gw:G b) (B:Bfs g L o d b Q M i j) (ht:Q[i]?=some t) (hj:j<L) (hd:d+1<=b.length) (S:Srch n H D r fa ts b Q M T) (aa:H C=some (.tup (t.1.map nv)))(next:∀A I ae H' v,G A->Bfs g L o d A Q I i (j+1)->Srch n H' D r fa ts A Q I ae->A.length+M.length=b.length+I.length->H' C=some (.tup (t.1.map nv))->En.nx [some (.ref a),some (nv L),some (.ref st),some mo,some (.ref D),some (.ref r),some (.ref fa),some (.ref C),some (nv j),some v] H'):
  FR X sR EE En [some (.ref a),some (nv L),some (.ref st),some mo,some (.ref D),some (.ref r),some (.ref fa),some (.ref C),some (nv j),o9] H:=by
 have tw:=(B.wave t (iV ht)).1;have tU:t.1∈U:=by
  obtain⟨r1,r2⟩:=B.run t tw;rw[<-r2];exact vU h0 hU t.2 r1
 have ai:b.length<=4000:=by
  have z:(b.map (·.1)).length<=U.length:=rM B.keys λx hx=>by
   obtain⟨p,w,rfl⟩:=iK.mp hx;obtain⟨r1,r2⟩:=B.run p w;rw[<-r2];exact vU h0 hU p.2 r1
  rw[hJ]at z;lia
 refine#[_,rZ,st,s,rZ,S.g _ _ Y,_,rZ,_,rZ,S.g _ _ Y,5,u,_,hF,hr,hB,C,t.1,j,rZ,S.g,aa,tU,hj,λfn H1 g1 N=>?_];have E:=S.same g1;have m:=g1 _ _ aa;refine#[_,rZ,_,rZ,D,_,rZ,DGet.t E.W.dict (by rw[nL];exact N),_,rZ,?_];by_cases O:g t.1 j∈b.map (·.1)
 .obtain⟨p,w,e⟩:=iK.mp O;obtain⟨c,v1,_⟩:=E.W.word B.keys w;rw[<-e,v1];rw[wA (by simp)];exact next b M T H1 _ gw (B.old ht O) E rZ m
 .rw[y3 O];refine lF ?_;obtain⟨tw,tl⟩:=B.wave t (iV ht);obtain⟨c,v1,v2⟩:=E.W.word B.keys tw;have dg:DGet H1 D (.ref C) (some (.ref c)):=v1▸DGet.t E.W.dict (by rw[nL];exact m);refine#[_,rZ,_,rZ,D,_,rZ,dg,_,rZ,by show 1<=sizeLine;decide,λp w=>?_];have k2:=iq w (.lst [nv j]);refine#[c,p,_,_,rZ,rZ,M2 (k2 _ _ v2),M2 hO,by rw[hJ,tl,iR];show d+1<=_;lia,λl hl=>?_];have k3:=k2.trans (iq hl (.lst (t.2.map nv++[nv j])));have y:=E.same k3;have e3:=k3 _ _ N;have J:hA (hA H1 p (.lst [nv j])) l (.lst (t.2.map nv++[nv j])) l=some (.lst ((t.2++[j]).map nv)):=by rw[hO,kS];rfl
  have k:=k3 _ _ m;obtain⟨tf,f1,f2,f3⟩:=y.foll;have lf:l≠fa:=λz=>by
   obtain⟨_,q1,_⟩:=E.foll;have q2:=k2 _ _ q1;rw[<-z,hl]at q2;cases q2
  generalize hA (hA H1 p (.lst [nv j])) l (.lst (t.2.map nv++[nv j]))=H3 at y e3 J k f1 f3|-;refine#[_,rZ,_,rZ,D,_,rZ,DPut.t y.W.dict (by rw[nL];exact e3) (by rw[xx y.W.len,iR];lia),?_];rw[Bz _ (y3 O)];have fD:fa≠D:=nE f1 y.W.dict;have af:C≠D:=nE k y.W.dict;have ag:C≠fa:=nE k f1;have ab:(hA H3 D (.dT (a3u b T++[(nk (g t.1 j),.ref l)]))) fa=some (.lst (tf.map .ref)):=by rw[hK fD];exact f1
  have fl:tf.length<=4000:=by
   have z:(M.map (·.1)).length<=b.length:=by
    rw[<-hJ (f:=(·.1)) (as:=b)];refine rM ?_ λx hx=>?_
    .refine(yb.mpr (B.fup.imp_of_mem λ{p q} w hq h z=>?_));have r1:=(B.run p (B.foll p w).1).2;have r2:=(B.run q (B.foll q hq).1).2;obtain⟨i1,N⟩:=kr.mp (B.foll p w).1;obtain⟨i2,e2⟩:=kr.mp (B.foll q hq).1;have ii:i1=i2:=(se (by rw[hJ];exact(ik.mp N).1) B.keys).mp (by rw[iB,iB,N,e2];exact jv some z);subst ii;rw[N]at e2;cases e2;exact AA h
    .obtain⟨p,w,rfl⟩:=iK.mp hx;exact iK.mpr #[p,(B.foll p w).1,rZ]
   rw[hJ]at z;lia
  have Bn:=B.new ht hj O;refine#[_,rZ,_,rZ,hR _ D (b++[(g t.1 j,t.2++[j])]) (T++[l]) _ (oU y.g y.nD) (y.W.put (l:=l) (p:=(g t.1 j,t.2++[j])) J) Bn.keys Bn.run λah=>?_];refine#[_,rZ,.inl #[rZ,_,M2 ab],_,rZ,fa,_,_,rZ,rZ,ab,by rw[hJ,iR];lia,?_];exact next (b++[(g t.1 j,t.2++[j])]) (M++[(g t.1 j,t.2++[j])]) (T++[l]) _ _ ah (B.new ht hj O) (y.more (p:=(g t.1 j,t.2++[j])) J lf ((E.g.trans k2).free hl) e3 f1 f2 f3) (by simp;lia) (by rw[hK ag,hK af];exact k)
abbrev FU(X:Cx)(sR:Sp)(EE:XK):TS:=vv (E9 X.K (iO 5)) (md 7) (vv (FM (oq (iO 1) pr)) (md 8) (FR X sR EE))
def K3{d:Nat}{c f:TW}{C y:As}{H:Hp}{En:Ends}{A k m:Option V}(hR:vm G sR mo EE g L o n)(hr:Room 5 X.A)(T:n st=some (mI st s))(h0:o∈U)(hU:∀x∈U,∀l,l<L->g x l∈U)(few:U.length<=4000)(aa:L<=4000)(hF:FnOk X.prog X.w X.K X.mg X.base iF 5 st s u (jg (Same n) U L g)) (hB:Binds X.K s u []) (gw:G c) (B:Bfs g L o d c f [] 0 0) (hd:d+1<=c.length) (S:Srch n H D r fa y c f [] C) (lt:y.length=f.length)(next:∀b e h q A k m,G b->Bfs g L o d b f e f.length 0->Srch n q D r fa y b f e h->b.length=c.length+e.length->En.nx [some (.ref a),some (nv L),some (.ref st),some mo,some (.ref D),some (.ref r),some (.ref fa),A,k,m] q):
  FU X sR EE En [some (.ref a),some (nv L),some (.ref st),some mo,some (.ref D),some (.ref r),some (.ref fa),A,k,m] H:=by
 let Pv:Nat->L2.St->Hp->Prop:=λi w q=>∃b e h A k m,G b/\Bfs g L o d b f e i 0/\Srch n q D r fa y b f e h/\b.length=c.length+e.length/\
  w=[some (.ref a),some (nv L),some (.ref st),some mo,some (.ref D),some (.ref r),some (.ref fa),A,k,m]
 refine#[_,rZ,r,rZ,#[_,M2 S.wl],vi (xs:=y.map .ref) Pv #[c,[],C,A,k,m,gw,B,S,by simp,rZ] (λi w q _ p=>?_) (λi x w q hx p=>?_) (λw q p=>?_)]
 .obtain⟨_,_,_,_,_,_,_,_,E,_⟩:=p;exact M2 E.wl
 .obtain⟨b,e,h,p7,Y,p9,g1,O,E,l1,rfl⟩:=p;rw[iB]at hx;obtain⟨th,I,rfl⟩:=ju.mp hx;obtain⟨hi,_⟩:=ik.mp I;obtain⟨t,ht⟩:∃t,f[i]?=some t:=#[_,hV ()]
  let Pj:Nat->L2.St->Hp->Prop:=λj w H2=>∃b e h k m,G b/\Bfs g L o d b f e i j/\Srch n H2 D r fa y b f e h/\b.length=c.length+e.length/\
   w=[some (.ref a),some (nv L),some (.ref st),some mo,some (.ref D),some (.ref r),some (.ref fa),some (.ref th),k,m]
  refine#[_,rZ,(L:Int),rZ,(),(),DR Pj #[b,e,h,Y,p9,g1,O,E,l1,rZ] (λj w H2 hj p=>?_) (λw H2 p=>?_)]
  .obtain⟨J,M,N,q8,q9,g2,B2,Q,l2,rfl⟩:=p;have z:(0:Int)+((j:Nat):Int)=((j:Nat):Int):=by lia
   rw[z];refine KU (t:=t) hR hr T h0 hU few hF hB g2 B2 ht (by simpa using hj) () Q (Q.wt i th t I ht) λw3 f3 a3 H3 v g3 B3 S3 l3 _=>#[w3,f3,a3,_,_,g3,B3,S3,(),rZ]
  .obtain⟨J,M,N,q8,q9,g2,B2,Q,l2,rfl⟩:=p;exact#[J,M,N,_,_,_,g2,Bfs.next (by simpa using B2) ht,Q,l2,rZ]
 .obtain⟨b,e,h,p7,Y,p9,g1,O,E,l1,rfl⟩:=p;rw[hJ,lt]at O;exact next b e h q p7 Y p9 g1 O E l1
abbrev Oj(X:Cx)(sR:Sp)(EE:XK):TS:=rz (p6 (G0 (iO 0) (yJ pr)) (md 4)) (rz (zO (uo sR [] EE (oq (iO 4) (oq (iO 3) pr)))) (rz (p6 (yJ (oq (iO 0) pr)) (md 5))
 (rz (Gf (λc a Q=>iO 5 c a λx b=>∃k,wh X.K x b k/\Q k b) (rz (p6 (yJ pr) (md 6)) (rz (FU X sR EE) (p6 (iO 6) (md 5))))) (zd (iO 4)))))
def GC{En:Ends}(hR:vm G sR mo EE g L o n)(hr:Room 5 X.A)(ha:n a=some (.tup (o.map nv)))(aa:n st=some (mI st s))(h0:o∈U)(hU:∀x∈U,∀l,l<L->g x l∈U)(few:U.length<=4000)(I:L<=4000)(hF:FnOk X.prog X.w X.K X.mg X.base iF 5 st s u (jg (Same n) U L g)) (hB:Binds X.K s u []) (q:∀D c k C,Same n C->WordsAt C D c k->(∀b∈D::k,n b=none)->Told g L o c->G c->En.rt (.ref D) C):
  Oj X sR EE En [some (.ref a),some (nv L),some (.ref st),some mo,none,none,none,none,none,none] n:=by
 intro D O;have kD:=iq O (.dT []);refine#[_,rZ,by show 0<=sizeLine;decide,λl E=>?_];have kl:=iq E (.lst []);refine#[kl _ _ hO,a,nk o,rZ,by rw[nL];exact(kD.trans kl) _ _ ha,?_];have lD:l≠D:=λz=>by
  subst z;rw[hO]at E;cases E
 have W0:WordsAt (hA (hA (hA n D (.dT [])) l (.lst [])) D (.dT [(nk o,.ref l)])) D [(o,[])] [l]:=#[rZ,hO,λj b p v J=>by
  cases j with
  |zero=>
   cases v;cases J;rw[hK lD,hO];rfl
  |succ j=>simp at v]
 have Q:Same n (hA (hA (hA n D (.dT [])) l (.lst [])) D (.dT [(nk o,.ref l)])):=oU (kD.trans kl) O;generalize hA (hA (hA n D (.dT [])) l (.lst [])) D (.dT [(nk o,.ref l)])=H1 at W0 Q|-;refine#[_,rZ,_,rZ,hR _ D [(o,[])] [l] _ Q W0 (by simp) (λp hp=>by rw[List.mem_singleton.mp hp];exact#[λl E=>(nomatch E),rZ]) λT=>?_];refine#[_,rZ,by show 1<=sizeLine;decide,λr hw=>?_];have kw:=iq hw (.lst [.ref a])
 let Wv:Nat->L2.St->Hp->Prop:=λm σ H=>∃(d:Nat) (c y:TW) (k:As) (r:Ad) (i:As) (o6 o7 o8 o9:Option V),G c/\Bfs g L o d c y [] 0 0/\WordsAt H D c k/\H r=some (.lst (i.map .ref))/\(∀(j:Nat) (t:Ad) (p:g9×g9),i[j]?=some t->y[j]?=some p->H t=some (.tup (p.1.map nv)))/\i.length=y.length/\Same n H/\(∀b∈k,n b=none)/\
   (y≠[]->d+1<=c.length)/\m=2 * (U.length-c.length)+(if y=[]then 0 else 1)/\σ=[some (.ref a),some (nv L),some (.ref st),some mo,some (.ref D),some (.ref r),o6,o7,o8,o9]
 refine#[Wv,#[_,0,[(o,[])],[(o,[])],[l],r,[a],none,none,none,none,T,Bfs.start,W0.same kw,hO,?_,rZ,Q.trans kw,λb hb=>(by rw[iE.mp hb];exact kD.free E),λ_=>ig _,rZ,rZ],λm σ H P=>?_]
 .intro j t p v J;cases j with
  |zero=>
   cases v;cases J;exact(Q.trans kw) _ _ ha
  |succ j=>simp at v
 .obtain⟨d,c,y,k,r,i,o6,o7,o8,o9,T,B,W,wl,wt,lt,gg,nw,A,hm,rfl⟩:=P;refine#[_,rZ,!(i.map V.ref).isEmpty,.inl #[_,M2 wl,rZ],?_];by_cases f:y=[]
  .subst f;have e:i=[]:=sm.mp lt;subst e;rw[wA (by simp)];exact#[_,rZ,q D c k H gg W (λb hb=>(iM.mp hb).elim (λe=>e▸O) (nw b)) B.told T]
  .have ne:i≠[]:=λz=>f (sm.mp (by rw[<-lt,z];rfl));have c1:(!(i.map V.ref).isEmpty)=true:=by
    cases i with
    |nil=>exact wC rZ ne
    |cons=>rfl
   rw[c1];refine lF ?_;refine#[λM C=>∃m',m'<m/\Wv m' M C,λM C h=>h,by show 0<=sizeLine;decide,λfa w=>?_];have Y:=iq w (.lst []);have ab:fa∉k:=λm=>by
    obtain⟨j,e⟩:=kr.mp m;obtain⟨hj,_⟩:=ik.mp e;have z:=W.list j fa _ e (hV (by rw[<-W.len];exact hj));rw[w]at z;cases z
   have S:Srch n (hA H fa (.lst [])) D r fa i c y [] k:=#[gg.trans Y,O,gg.free w,W.same Y,Y _ _ wl,λj t p v J=>Y _ _ (wt j t p v J),#[[],hO,rZ,λj t p v _=>by simp at v],jf wl w,ab,nw];refine K3 (En:={En with nx:=_,ct:=_,bk:=_}) hR hr aa h0 hU few I hF hB T B (A f) S lt λN fo ae C p7 p8 p9 af B' S' l'=>?_;obtain⟨tf,f1,f2,f3⟩:=S'.foll;have z1:=Ja h0 hU B';have z2:=A f;refine#[_,rZ,2 * (U.length-N.length)+(if fo=[]then 0 else 1),?_,d+1,N,fo,ae,fa,tf,_,_,_,_,af,B'.wave',S'.W,f1,f3,f2,S'.g,S'.new,λnf=>?_,rZ,rZ]
   .rw[hm,wA f];by_cases hf:fo=[]
    .subst hf;rw[wB rZ];simp at l';lia
    .have:=List.length_pos_iff.mpr hf;rw[wA hf];lia
   .have:=List.length_pos_iff.mpr nf;lia
end
structure Que(f:g9->Nat->List Nat)(L:Nat)(x0:g9)(ws:TW)(i j:Nat):Prop where
 head:ws[0]?=some (x0,[])
 keys:(ws.map (·.1)).Nodup
 run:∀p∈ws,(∀l∈p.2,l<L)/\ki f x0 p.2=p.1
 up:ws.Pairwise λp q=>sl p.2 q.2
 done:∀(a:Nat) p,a<i->ws[a]?=some p->∀l,l<L->Goes f ws p l
 part:∀p,ws[i]?=some p->∀l,l<j->Goes f ws p l
 front:∀t,ws[i]?=some t->∀p∈ws,sl p.2 (t.2++[j])
 short:∀(a:Nat) p,ws[a]?=some p->p.2.length<=a
section
variable{f:g9->Nat->List Nat}{L:Nat}{c:g9}{b:TW}{i j:Nat}{t:g9×g9}
def Que.start:Que f L c [(c,[])] 0 0 where
 head:=rfl
 keys:=by simp
 run:=λp b=>by
  rw[iE.mp b];exact#[λl d=>(nomatch d),rZ]
 up:=r9 _ _
 done:=λa p h=>wC h (rq _)
 part:=λp _ l h=>wC h (rq _)
 front:=λt _ p b=>by
  rw[iE.mp b];exact .inl (by simp)
 short:=λa p h=>by
  have z:p∈[(c,([]:g9))]:=iV h;rw[iE.mp z];exact mC _
def Que.old(q:Que f L c b i j)(ht:b[i]?=some t)(h:f t.1 j∈b.map (·.1)):Que f L c b i (j+1):=by
 refine#[q.head,q.keys,q.run,q.up,q.done,λp a l n=>?_,λo d p a=>?_,q.short]
 .by_cases e:l<j
  .exact q.part p a l e
  .have k:l=j:=by lia
   subst k;rw[ht]at a;cases a;obtain⟨r,g,m⟩:=iK.mp h;exact#[r.2,by rw[<-m];exact g,.inr (q.front t ht r g)]
 .rw[ht]at d;cases d;exact vc (q.front t ht p a) (xf _ (rn _))
def Que.new(q:Que f L c b i j)(ht:b[i]?=some t)(u:j<L)(h:f t.1 j∉b.map (·.1)):Que f L c (b++[(f t.1 j,t.2++[j])]) i (j+1):=by
 obtain⟨G,_⟩:=ik.mp ht;have g:∀{a:Nat} {p:g9×g9},a<=i->(b++[(f t.1 j,t.2++[j])])[a]?=some p->b[a]?=some p:=λ{a p} o e=>by
  rwa[j5 ()]at e
 refine#[?_,?_,λp d=>?_,?_,λa p o d l m=>?_,λp d l m=>?_,λH n p d=>?_,λa p d=>?_]
 .rw[j5 ()];exact q.head
 .rw[kS,yp];refine#[q.keys,by simp,λx v y w=>?_];have e:y=f t.1 j:=by simpa using w
  subst e;exact λz=>h (z▸v)
 .rcases iN.mp d with z|z
  .exact q.run p z
  .rw[iE.mp z];obtain⟨A,B⟩:=q.run t (iV ht);refine#[λl m=>?_,?_]
   .rcases iN.mp m with y|y
    .exact A l y
    .rw[iE.mp y];exact u
   .show(t.2++[j]).foldl f c=f t.1 j;rw[qk,<-B];rfl
 .refine mR.mpr #[q.up,r9 _ _,λp d r C=>?_];rw[iE.mp C];exact q.front t ht p d
 .exact(q.done a p o (g () d) l m).more
 .have k:=g (ig _) d;by_cases e:l<j
  .exact(q.part p k l e).more
  .have D:l=j:=by lia
   subst D;rw[ht]at k;cases k;exact#[_,jj _ (iE.mpr rZ),.inl rZ]
 .have e:=g (ig _) n;rw[ht]at e;cases e
  rcases iN.mp d with z|z
  .exact vc (q.front t ht p z) (xf _ (rn _))
  .rw[iE.mp z];exact xf _ (rn _)
 .by_cases e:a<b.length
  .rw[j5 e]at d;exact q.short a p d
  .have s:=(ik.mp d).1;rw[jk]at s;have E:a=b.length:=by
    have:a<b.length+1:=s;lia
   rw[E,ku (ig _),t5]at d;cases d;have:=q.short i t ht
   simp;lia
def Que.next(q:Que f L c b i L)(ht:b[i]?=some t):Que f L c b (i+1) 0:=by
 refine#[q.head,q.keys,q.run,q.up,λa p n d=>?_,λp _ l h=>wC h (rq _),λt' g p d=>?_,q.short]
 .by_cases e:a<i
  .exact q.done a p e d
  .have j:a=i:=by lia
   subst j;exact q.part p d
 .obtain⟨l1,k⟩:=ik.mp ht;obtain⟨l2,m⟩:=ik.mp g;have up:=pT.mp q.up i (i+1) l1 l2 (rn _);rw[k,m]at up;exact vc (q.front t ht p d) (Cu up)
def Que.told(q:Que f L c b i j)(h:b.length<=i):Told f L c b:=by
 refine#[q.head,q.keys,q.run,q.up,λp d=>?_,λp d=>?_]
 .obtain⟨a,e⟩:=kr.mp d;exact q.done a p (by have:=(ik.mp e).1;lia) e
 .obtain⟨a,e⟩:=kr.mp d;have:=(ik.mp e).1;have:=q.short a p e;lia
end
def Jl{g:TW}{d:As}{k:List iH}{a:Ad}(h:lY (a3u g d) k=some (.ref a)):a∈d:=by
 unfold lY at h;obtain⟨m,j,l⟩:=ju.mp h;obtain⟨i,c⟩:=kr.mp (List.mem_of_find?_eq_some j);unfold a3u at c;rw[List.getElem?_zipWith]at c;cases e:g[i]? with
 |none=>rw[e]at c;cases c
 | some p=>
  cases f:d[i]? with
  |none=>rw[e,f]at c;cases c
  |some b=>
   rw[e,f]at c;cases c;cases l;exact iV f
section
variable{X:Cx}
def J0{K:O0}{H:Hp}{n:Nat}{d f:Dt}{y z:V}{u:Vl}(g:Rep K H n d y)(j:Rep K H n f z)(k:RelV y u)(l:RelV z u):y=z:=by
 have c:∀{y:V} {d:Dt},Rep K H n d y->RelV y u->(y=.non/\u=.none)\/(∃i t,y=.int i/\u=.int i t)\/(∃x t,y=.str x/\u=.str x t)\/∃a,y=.ref a/\u=.ref a:=λh r=>by
  cases h with
  |non=>exact .inl #[rZ,r]
  |int _ i=>
   obtain⟨t,e⟩:=r;exact .inr (.inl #[i,t,rZ,e])
  |str _ x=>
   obtain⟨t,e⟩:=r;exact .inr (.inr (.inl #[x,t,rZ,e]))
  |lst=>exact .inr (.inr (.inr #[_,rZ,r]))
  |tup=>exact .inr (.inr (.inr #[_,rZ,r]))
 rcases c g k with⟨rfl,e⟩|⟨i,t,rfl,e⟩|⟨x,t,rfl,e⟩|⟨a,rfl,e⟩<;>rcases c j l with⟨rfl,b⟩|⟨o,m,rfl,b⟩|⟨p,m,rfl,b⟩|⟨q,rfl,b⟩<;>rw[e]at b<;>cases b<;>rfl
def D0{x y:Str}{p q e:Pos}{k:Nat}{a:Scope}(S:CompScope X [x,y] a)(f:X.calm=true)(b:a.names.lookup x=some .local)(c:a.names.lookup y=some .local):
  ∀C s H d,PG (lX X [x,y] a C s H d) (.Tuple [.Name x p,.Name y q] k e) (v6 X.K 2 (o0 (md 0) (o0 (md 1) ye))):=λC s H d=>
 DO f (xQ (mK S.nd rZ (.inl (xJ b)) (.inr (xJ b))) (xQ (mK S.nd rZ (.inl (xJ c)) (.inr (xJ c))) DF))
end
section
variable{X:Cx}
inductive mZ(K:O0)(x:V)(c:List V)(H:Hp)(Q:VK):Prop|mk:∀(l:Ad) (y:V) (n:Nat) (d:Dt) (a:List Dt) (b:List V) (j:Nat),x=.ref l->c=[y]->SqL K H l b->b.length=a.length->Rep K H n d y->((∀(i:Nat) e v,a[i]?=some e->b[i]?=some v->Rep K H n e v))->n<=30->a[j]?=some d->((∀i:Nat,i<j->a[i]? ≠some d))->Q (.int (j:Nat)) H->mZ K x c H Q
def OF{Z:AO}{M:St}{H:Hp}{s:Sh}{x:V}{v:Vl}{n:Nat}{d:Dt}{k:List Dt}{l:List V}{c:Vs}(hu:X.A.units+64<cLine)(I:Inv X Z M H s)(N:RelV x v)(r:Vals l c)(hl:l.length=k.length)(O:Rep X.K H n d x)(p:∀(i:Nat) a v,k[i]?=some a->l[i]?=some v->Rep X.K H n a v) (hn:n<=30):∃e:Vl->Bool,(∀u∈c,SeqAt.EqAt X.A.in1 s u v (e u))/\∀(i:Nat) u a,c[i]?=some u->k[i]?=some a->(e u=true↔a=d):=by
 have E:=r.length;have one:∀(i:Nat) u,c[i]?=some u->∃b a,k[i]?=some a/\SeqAt.EqAt X.A.in1 s u v b/\(b=true↔a=d):=λi u g=>by
  obtain⟨w,_⟩:=ik.mp g;obtain⟨y,m⟩:∃y,l[i]?=some y:=#[_,hV ()];obtain⟨a,o⟩:∃a,k[i]?=some a:=#[_,hV ()];obtain⟨u',q,Q⟩:=Vals.get r m;rw[g]at q;cases q;obtain⟨b,B,G⟩:=Bj I n (A:=X.A.in1) (by show X.A.units+1+n<cLine;lia) (p i a y o m) O Q N;exact#[b,a,o,B,G]
 have f:∀u,∃b,(∃i:Nat,c[i]?=some u)->SeqAt.EqAt X.A.in1 s u v b/\∃(i:Nat) (a:Dt),c[i]?=some u/\k[i]?=some a/\(b=true↔a=d):=λu=>by
  by_cases h:∃i:Nat,c[i]?=some u
  .obtain⟨i,t⟩:=h;obtain⟨b,a,w,E,B⟩:=one i u t;exact#[b,λ_=>#[E,i,a,t,w,B]]
  .exact#[true,λz=>wC z h]
 refine#[λu=>Classical.choose (f u),λu g=>(Ba (f u) (kr.mp g)).1,λi u d0 q o=>?_];obtain⟨_,j,a,T,C,U⟩:=Ba (f u) #[i,q];rw[U];obtain⟨w,_⟩:=ik.mp o;obtain⟨y,m⟩:∃y,l[i]?=some y:=#[_,hV ()];obtain⟨G,_⟩:=ik.mp C;obtain⟨z,D⟩:∃z,l[j]?=some z:=#[_,hV ()];obtain⟨u1,J,Y⟩:=Vals.get r m;obtain⟨u2,L,r2⟩:=Vals.get r D;rw[q]at J;rw[T]at L;cases J;cases L;have yz:y=z:=J0 (p i d0 y o m) (p j a z C D) Y r2;subst yz;have dd:a=d0:=Fs I n (p j a y C D) (p i d0 y o m);rw[dd]
def II(w:X.A.units+64<cLine):BW X "list.index" (mZ X.K):=by
 intro Z s σ H x vs v us Q I A B h;obtain⟨l,y,m,d,C,xs,j,rfl,rfl,D,E,G,J,L,f,M,q⟩:=h;cases A;obtain⟨u,rfl,N⟩:=B.one;obtain⟨a,r,⟨⟨c1,d1,k1,O⟩,n,e,g,i,o⟩,T⟩:=I.list D;simp only at g i o;subst g i o;obtain⟨b,U,p⟩:=OF w I N r E G J L;have lr:=r.length;have lj:=(ik.mp f).1;rw[iR]at T;refine call_meets F.slot_list_index #[_,e,rZ] F.entry_list_index (F.args_list_index_2 _ _) (SeqAt.list_indexAt l a.toArray n none O u b j (by simp only[List.size_toArray];lia) () ?_ ?_)
  #[e,λy Y=>U y (by simpa using Y),#[.int (j:Nat),H,I.tok _,#[_,rZ],q]]
 .show b a[j]=true;exact(p j _ d (hV ()) f).mpr rfl
 .intro k aa c;show b a[k]=false;have t:k<C.length:=by lia
  cases z:b a[k]with
  |false=>rfl
  |true=>
   have z2:=(p k _ _ (hV ()) (hV t)).mp z;exact wC (by rw[hV t,z2]) (M k c)
def IL{X:Cx}{K:O0}{e:Expr}{T:String}{to:TE}{t:TA}(r:O0->V->List V->Hp->VK->Prop)(a:X.K=K)(h:PE X e (Au X.K T (r X.K) to t)):PE X e (Au K T (r K) to t):=a▸h
end
section
variable{P:Pg}{w:World}{A:Ar}{E:VP}{s:Sh}{f d:Ad}{i g:Nat}{c:Array DictEntry}
abbrev ug(d:Ad)(i n g:Nat):Obj:={cls:= .type "dict_keyiterator",data:= .fields #v[.ref d,.int i 0,.int n 0,.int g 0]}
def Fj{h:DictEntry}{Q:Option Vl->Sh->Prop}(G:s.heap.get? f=some (ug d i c.size g))(L:Lies s.heap d c g)(r:c[i]?=some h)(q:∀k,k.get? f=some (ug d (i+1) c.size g)->Heap.SameBut f s.heap k->Q (some h.key) {s with heap:=k}):wpAny (model P w) A (pyNext (.ref f)) Q E s:=by
 obtain⟨o,n,_,p⟩:=L;have ty:s.TypeIs (.ref f) "dict_keyiterator":=#[_,G,rZ];unfold pyNext;refine f' (rm (rV (name:=Str.ofString "__next__") ty vj (nA vj ty G5 ?_ (Ik _))));refine f' (hI (f' (f' ?_)));refine f' (A6 ty (hI (f' (t9 G rZ ?_))));have a:Builtin.Dict_items.ownsTuple "dict_keyiterator"=false:=by decide
 simp only[a,Bool.false_eq_true,if_false];refine show wpAny _ _ (if(Value.ref d==Value.none)=true then _ else _) _ _ s from(wA (show ¬((Value.ref d==Value.none)=true)from mV))▸f' (hI (f' (vC n p ?_)))
 rw[wA (by simp)];refine f' (hI (f' (xU n p ?_)));rw[wA (by simp)];refine hI ?_;have l:(if((i:Nat):Int)<0 then none else c[((i:Nat):Int).toNat]?)=some h:=by
  rw[wA (),rc];exact r
 show wpAny _ _ (match (if((i:Nat):Int)<0 then none else c[((i:Nat):Int).toNat]?)with|some e=>_|none=>_) _ _ s;rw[l];refine f' (f' (A6 ty (hI (f' (wpAny_isOneOf_keyiter ty ?_)))));refine show wpAny _ _ (setField (.ref f) 1 (rawInt ((i:Int)+1)) >>= _) _ _ s from f' (pI G (by simp) λj t u=>wpAny_bind (wpAny_holding ?_))
 have b:j.get? f=some (ug d (i+1) c.size g):=by
  have z:((i+1:Nat):Int)=(i:Int)+1:=by lia
  unfold ug;rw[z];simpa[rawInt]using t
 have m:Shared.TypeIs {s with heap:=j} (.ref f) "dict_keyiterator":=#[_,b,rfl];refine f' (wpAny_isOneOf_keyiter m ?_);exact show wpAny _ _ (pure h.key) _ _ {s with heap:=j}from hI (hI #[_,rfl,hI (q j b u)])
def EI{Q:Option Vl->Sh->Prop}(p:A.handled=none)(G:s.heap.get? f=some (ug d i c.size g))(L:Lies s.heap d c g)(r:c[i]?=none)(q:∀k,Heap.ExtBut f s.heap k->Q none {s with heap:=k}):wpAny (model P w) A (pyNext (.ref f)) Q E s:=by
 obtain⟨o,l,_,n⟩:=L;have ty:s.TypeIs (.ref f) "dict_keyiterator":=#[_,G,rZ];unfold pyNext;refine f' (rm (rV (name:=Str.ofString "__next__") ty vj (nA vj ty G5 ?_ (Ik _))));refine f' (hI (f' (f' ?_)));refine f' (A6 ty (hI (f' (t9 G rZ ?_))));have h:Builtin.Dict_items.ownsTuple "dict_keyiterator"=false:=by decide
 simp only[h,Bool.false_eq_true,if_false];refine show wpAny _ _ (if(Value.ref d==Value.none)=true then _ else _) _ _ s from(wA (show ¬((Value.ref d==Value.none)=true)from mV))▸f' (hI (f' (vC l n ?_)))
 rw[wA (by simp)];refine f' (hI (f' (xU l n ?_)));rw[wA (by simp)];refine hI ?_;have j:(if((i:Nat):Int)<0 then none else c[((i:Nat):Int).toNat]?)=none:=by
  rw[wA (),rc];exact r
 show wpAny _ _ (match (if((i:Nat):Int)<0 then none else c[((i:Nat):Int).toNat]?)with|some e=>_|none=>_) _ _ s;rw[j];refine f' (f' (A6 ty (hI ?_)));refine show wpAny _ _ (setField (.ref f) 0 .none >>= _) _ _ s from f' (pI G (by simp) λv x t=>?_)
 refine f' (m:=newExc _ _) ?_;simp only[newExc,newTuple];refine f' (pC ?_ (by size_fits));refine f' (m:=firstArgMember _ _) (wO (a:=Value.none) (by first|rfl|(unfold firstArgMember;rfl)) (wpAny_newObj_type ?_ (by size_fits)));refine zR (by simpa using p) (wpAny_bind (wpAny_isInstance (T:="StopIteration") (b:=true) #[_,Heap.get?_push_size _ rZ,rZ] isSubtype_stop (wpAny_pure ?_)));exact q _ λb o u z=>iG _ (iG _ (t.extBut b o u z))
def Fg{Q:VP}(e:(d==sysModules)=false)(L:Lies s.heap d c g)(q:Q (.ref s.heap.objs.size) {s with heap:=s.heap.push (ug d 0 c.size g)}):wpAny (model P w) A (pyIter (.ref d)) Q E s:=by
 obtain⟨o,a,x,b⟩:=L;have ty:s.TypeIs (.ref d) "dict":=#[o,a,x.1];refine uq ty F.slot_dict_iter (nA F.slot_dict_iter ty F.entry_dict_iter ?_ (F.args_dict_iter_1 _));unfold Builtin.«dict.__iter__» Builtin.Dict.dictSlotNone;refine f' (f' (wpAny_notOrdered_dict ty ?_));refine show wpAny _ _ (pure (Value.ref d)) _ _ s from hI (show wpAny _ _ (Builtin.Dict.showsAll d >>= _) _ _ s from ?_)
 have all:Builtin.Dict.showsAll d=pure Unit.unit:=by
  unfold Builtin.Dict.showsAll;rw[e];rfl
 rw[all];refine f' (hI (f' (vC a b (f' (xU a b ?_)))));exact f' (pC (hI #[_,rZ,"dict_keyiterator",_,#[_,jp _ rZ,rZ],vj.lookup,q]))
def Ke(r:A.handled=none)(l:d≠f):Walks P w A f [f,d] [f] c.size (λi v=>∃a,c[i]?=some a/\v=a.key) (λi h=>h.get? f=some (ug d i c.size g)/\Lies h d c g) where
 sub:=λb t=>iM.mpr (.inl (iE.mp t))
 frame:=λi h j st k=>#[k f (i7 ..) _ st.1,let⟨o,e,x⟩:=st.2;#[o,k d (jr _ (iE.mpr rZ)) _ e,x]]
 item:=λi s Q E u st q=>by
  obtain⟨a,n⟩:∃a,c[i]?=some a:=#[_,nc u];refine Fj st.1 st.2 n λj y p=>q a.key j s.toks #[a,n,rZ] #[y,let⟨o,e,x⟩:=st.2;#[o,p.extBut _ _ l e,x]] λb o m e=>p.extBut _ _ (λz=>m (iE.mpr z)) e
 done:=λs Q E st q=>EI r st.1 st.2 (DX (ig _)) λj x=>q j s.toks λb o m e=>x b o (λz=>m (iE.mpr z)) e
 self:=λi s Q E st q=>by
  have ty:s.TypeIs (.ref f) "dict_keyiterator":=#[_,st.1,rZ];refine uq ty BF (nA BF ty Iq ?_ (Gw _));exact show wpAny _ _ (ret (.ref f)) _ _ s from hI #[_,rZ,"dict_keyiterator",_,ty,vj.lookup,q]
def DT(b:(d==sysModules)=false):PySem.W.KdlSrc P w "dict" d d c.size (λi v=>∃a,c[i]?=some a/\v=a.key) (λh=>Lies h d c g) where
 type:=λ_ e=>e.typeIs
 there:=λ_ ⟨_,e,_⟩=>#[iu e,iu e]
 keep:=λ_ _ ⟨o,e,x⟩ k=>#[o,k d (.inl rZ) _ e,x]
 notList:=by decide
 notTuple:=by decide
 hint:=λ_ _ _ _ e q=>PySem.W.kdl_hint_dict e.typeIs q
 iter:=λ_ _ f e=>#[_,_,λ_ _ q=>Fg b e q,Ke f (i6 (let⟨_,z,_⟩:=e;iu z)),jp _ rZ,let⟨o,z,x⟩:=e;#[o,iG _ z,x]]
end
open PySem PySem.W PyProof.Rows
section
variable(n:Nat)(k:Nat->Int)
def KOk{b:Type}:KasT b->(b->Prop)->Prop
 |.ret a,R=>R a
 |.ask i j f,R=>i<n/\j<n/\KOk (f (decide (k i<k j))) R
def Arr(p:Array Nat):Prop:=p.Perm (List.range n).toArray
def tr(p:Array Nat)(m:Nat):Prop:=∀a b,a<b->b<m->k (p.getD a 0)<k (p.getD b 0)
def OS(p:Array Nat)(m:Nat):Prop:=∀a b,a<b->b<m->k (p.getD b 0)<k (p.getD a 0)
variable{n k}
theorem KOk.bind{b c:Type}{f:b->KasT c}{R:b->Prop}{d:c->Prop}(h:∀a,R a->KOk n k (f a) d):∀t:KasT b,KOk n k t R->KOk n k (t.bind f) d
 |.ret a,q=>h a q
 |.ask i j g,q=>#[q.1,q.2.1,KOk.bind h (g _) q.2.2]
theorem KOk.wp{c:Type}{b:Nat->Nat->(Bool->Sh->Prop)->Sh->Prop}{s:Sh}{R:c->Prop}{Q:c->Sh->Prop}(d:∀i j (C:Bool->Sh->Prop),i<n->j<n->C (decide (k i<k j)) s->b i j C s)(e:∀a,R a->Q a s):
  ∀t:KasT c,KOk n k t R->t.kasWp b Q s
 |.ret a,q=>e a q
 |.ask i j g,q=>d i j _ q.1 q.2.1 (KOk.wp d e (g _) q.2.2)
def Arr.size{p:Array Nat}(h:Arr n p):p.size=n:=by
 have z:=(pS.mp h).length_eq;simpa using z
def Arr.at{p:Array Nat}(h:Arr n p){i:Nat}(b:i<n):p.getD i 0<n/\p[i]?=some (p.getD i 0):=by
 have c:=h.size;have e:p[i]?=some (p.getD i 0):=by
  rw[ud,nc ()];rfl
 refine#[?_,e];have m:p.getD i 0∈p:=Ej e;have a:=(DJ h).mp m;simpa using a
def Arr.inj{p:Array Nat}(h:Arr n p){i j:Nat}(b:i<n)(d:j<n)(e:p.getD i 0=p.getD j 0):i=j:=by
 have f:p.toList.Nodup:=(pS.mp h).nodup_iff.mpr (by simpa using List.nodup_range);have c:=(h.at b).2;have a:=(h.at d).2;rw[<-e]at a;rw[<-mF]at c a;exact(se (by rw[i4,h.size];exact b) f).mp (c.trans a.symm)
variable(inj:∀i j,i<n->j<n->k i=k j->i=j)
include inj
end
end L2
namespace L2
open PySem PySem.Spec PySem.W PyProof.Rows
section
variable{P:Pg}{w:World}{A:Ar}{E:VP}{s:Sh}{a:Ad}{c d:Vs}{k:Nat->Int}
def AD(P:Pg)(w:World)(A:Ar)(d:Vs)(lt:Nat->Nat->Bool)(s:Sh):Prop:=
 wpAny (model P w) A (keyKind' d.toArray) (λa b=>b=s/\∀i j (C:Bool->Sh->Prop),i<d.length->j<d.length->C (lt i j) s->kas_ask P w A a d i j C s) (λ_ _=>False) s
abbrev mB(c:Vs)(p:Array Nat):Vs:=p.toList.map λi=>c.getD i Value.none
def ET(c:Vs):mB c (List.range c.length).toArray=c:=by
 unfold mB;refine x9 λi=>?_;rw[u7,iB];by_cases h:i<c.length
 .rw[wT h,hV h];show some (c.getD i Value.none)=_;rw[j6,hV h];rfl
 .rw[pJ (by simp;lia),List.getElem?_eq_none ()];rfl
def Ie(a:d.length=c.length):(d.toArray.zip c.toArray).map (·.2)=c.toArray:=by
 apply D2.mp;rw[A',ksk_zip];exact List.map_snd_zip (by simp[a])
def zr{a:Heap}{b:Ad}{x:Obj}(e:a.get? b=some x)(c d:Obj):((a.push c).push d).get? b=some x:=iG _ (iG _ e)
end
theorem Ff{a:Type}{p q:a->Bool}:∀{xs:List a},(∀z∈xs,p z=true->q z=true)->(∃z∈xs,p z=false/\q z=true)->xs.countP p<xs.countP q
 | [],_,h=>by obtain⟨z,hz,_⟩:=h;cases hz
 | x::xs,mono,h=>by
  have g:xs.countP p<=xs.countP q:=List.countP_mono_left λz hz=>mono z (jr _ hz);rw[A8,A8];obtain⟨z,hz,b,c⟩:=h
  rcases iM.mp hz with e|hz
  .subst e;rw[b,c];simp;lia
  .have i:=Ff (xs:=xs) (λy d=>mono y (jr _ d)) #[z,hz,b,c];have m:=mono x (i7 ..);cases f:p x with
   |false=>cases q x<;>simp<;>lia
   |true=>rw[m f];simp;lia
structure Total{α:Type}(lt:α->α->Bool)(xs:List α):Prop where
 irr:∀x,lt x x=false
 trans:∀x y z,lt x y=true->lt y z=true->lt x z=true
 tot:∀x∈xs,∀y∈xs,x≠y->lt x y=true\/lt y x=true
def pj{a:Type}(lt:a->a->Bool)(xs:List a)(x:a):Int:=((xs.countP λy=>lt y x):Nat)
section
variable{a:Type}{lt:a->a->Bool}{xs:List a}(T:Total lt xs)
include T
def Total.up{x y:a}(b:x∈xs)(h:lt x y=true):pj lt xs x<pj lt xs y:=by
 unfold pj;have z:=Ff (xs:=xs) (p:=λz=>lt z x) (q:=λz=>lt z y) (λz _ c=>T.trans _ _ _ c h) #[x,b,T.irr x,h];lia
def Total.asks{x y:a}(b:x∈xs)(c:y∈xs):decide (pj lt xs x<pj lt xs y)=lt x y:=by
 by_cases e:x=y
 .subst e;rw[T.irr];exact j9 (Int.lt_irrefl _)
 .rcases T.tot x b y c e with h|h
  .rw[h];exact i0 (T.up b h)
  .have:=T.up c h;rw[j9 ()];cases z:lt x y with
   |false=>rfl
   |true=>
    have:=T.up b z;lia
def Total.same{x y:a}(b:x∈xs)(c:y∈xs)(h:pj lt xs x=pj lt xs y):x=y:=by
 refine A3 λe=>?_
 rcases T.tot x b y c e with z|z
 .have:=T.up b z;lia
 .have:=T.up c z;lia
end
theorem G6:∀(a b:g9),a≠b->lA a b=true\/lA b a=true
 | [],[],h=>wC rZ h
 | [],y::b,_=> .inl (by unfold lA;rw[show nY [] (y::b)=none from rfl];simp)
 |x::a,[],_=> .inr (by unfold lA;rw[show nY [] (x::a)=none from rfl];simp)
 | x::a,y::b,h=>by
  by_cases e:x=y
  .subst e
   rcases G6 a b (λz=>h (by rw[z]))with q|q
   .exact .inl (by rw[u9];exact q)
   .exact .inr (by rw[u9];exact q)
  .rw[oG e,oG (jq e)]
   rcases Nat.lt_or_gt_of_ne e with q|q
   .exact .inl (i0 q)
   .exact .inr (i0 q)
theorem EQ:∀(xs a d:g9),lA xs a=true->lA a d=true->lA xs d=true
 | xs,a,[],_,b=>by
  have:lA a []=false:=by
   unfold lA;rw[show nY a []=none by cases a<;>rfl];simp
  rw[this]at b;cases b
 | [],a,z::d,_,_=>by unfold lA;rw[show nY [] (z::d)=none from rfl];simp
 | x::xs,[],z::d,c,_=>by
  have:lA (x::xs) []=false:=by
   unfold lA;rw[show nY (x::xs) []=none from rfl];simp
  rw[this]at c;cases c
 | x::xs,y::a,z::d,c,b=>by
  by_cases f:x=y
  .subst f;by_cases e:x=z
   .subst e;rw[u9]at c b|-;exact EQ xs a d c b
   .rw[oG e]at b|-;exact b
  .rw[oG f]at c;have l1:=mT c;by_cases e:y=z
   .subst e;rw[oG f];exact c
   .rw[oG e]at b;have l2:=mT b;rw[oG ()];exact i0 ()
section
variable{P:Pg}{w:World}{A:Ar}{E:VP}{s:Sh}
def Np{i j:Int}{t u:Tok}(f:Bool){Q:Bool->Sh->Prop}(h:Q (decide (i<j)) s):wpAny (model P w) A (oneLt' f (.int i t) (.int j u)) Q E s:=by
 cases f with
 |true=>exact oneLt_int h
 |false=>exact kat_one _ _ (PyProof.Rows.lt_int h)
end
def JY{b:Type}{a:List b}{p:Array Nat}{d:b}(c:Arr a.length p):(p.toList.map λi=>a.getD i d).Perm a:=by
 have z:=(pS.mp c).map λi=>a.getD i d;refine z.trans (.of_eq ?_);refine x9 λi=>?_;rw[u7,iB];by_cases h:i<a.length
 .rw[wT h,hV h];show some (a.getD i d)=_;rw[j6,hV h];rfl
 .rw[pJ (by simp;lia),List.getElem?_eq_none ()];rfl
def Hq{p:Array Nat}{n i:Nat}(a:Arr n p)(b:i<n):p.toList[i]?=some (p.getD i 0):=by
 rw[mF];exact(a.at b).2
def L8{c:Type}{lt:c->c->Bool}{a:List c}{d:c}{p:Array Nat}(T:Total lt a)(b:Arr a.length p)(up:tr (λi=>pj lt a (a.getD i d)) p a.length):(p.toList.map λi=>a.getD i d).Pairwise λx y=>lt x y=true:=by
 rw[pT];intro i j e f o;have k:i<a.length:=by rw[hJ,i4,b.size]at e;exact e
 have g:j<a.length:=by rw[hJ,i4,b.size]at f;exact f
 have l:(p.toList.map λi=>a.getD i d)[i]?=some (a.getD (p.getD i 0) d):=by rw[iB,Hq b k];rfl
 have n:(p.toList.map λi=>a.getD i d)[j]?=some (a.getD (p.getD j 0) d):=by rw[iB,Hq b g];rfl
 rw[hV e]at l;rw[hV f]at n;rw[lW l,lW n];have u:=up i j o g;have m:∀{i:Nat},i<a.length->a.getD (p.getD i 0) d∈a:=λ{i} h=>by
  have:=(b.at h).1;rw[j6,hV this];exact qb _
 rw[<-T.asks (m k) (m g)];exact i0 u
structure TupsAt(H:Hp)(bs:As)(us:LN):Prop where
 len:bs.length=us.length
 is:∀(i:Nat) (b:Ad) (u:g9),bs[i]?=some b->us[i]?=some u->H b=some (.tup (u.map nv))
def TupsAt.same{H a:Hp}{bs:As}{c:LN}(h:TupsAt H bs c)(g:Same H a):TupsAt a bs c:=#[h.len,λi b u d e=>g _ _ (h.is i b u d e)]
def TupsAt.pick{H:Hp}{bs:As}{a:LN}(h:TupsAt H bs a){p:Array Nat}(f:Arr a.length p):TupsAt H (p.toList.map λi=>bs.getD i 0) (p.toList.map λi=>a.getD i []):=by
 refine#[by simp,λi b u d c=>?_];rw[iB]at d c;obtain⟨j,e,rfl⟩:=ju.mp d;rw[e]at c;cases c;have g:j<a.length:=by
  have m:=(pS.mp f).mem_iff.mp (iV e);simpa using m
 have k:=h.len;refine h.is j _ _ ?_ ?_
 .rw[j6,hV ()];rfl
 .show a[j]?=some (a.getD j []);rw[j6,hV g];rfl
section
variable{X:Cx}
theorem AN:∀{b:As} {c:Vs},Vals (b.map V.ref) c->c=b.map Value.ref
 | [],_,.nil=>rfl
 |a::b,_,.cons r t=>by
  have d:_=Value.ref a:=r;rw[d,AN t];rfl
def v7{b:Type}{a:List b}{d:b}{i:Nat}(h:i<a.length):a[i]?=some (a.getD i d)/\a.getD i d∈a:=by
 have e:a[i]?=some (a.getD i d):=by
  rw[j6,hV h];rfl
 exact#[e,iV e]
def J6{b:Type}{lt:b->b->Bool}{a:List b}{d:b}(T:Total lt a)(g:a.Nodup):∀i j,i<a.length->j<a.length->pj lt a (a.getD i d)=pj lt a (a.getD j d)->i=j:=λi j c f e=>by
 have z:=T.same (v7 c).2 (v7 f).2 e;refine(se c g).mp ?_;rw[(v7 (d:=d) c).1,(v7 (d:=d) f).1,z]
end
abbrev d0:Keyed:=(Value.none,Value.none)
structure Asks(M:Model)(A:Ar)(s:Sh)(κ:SortKind)(r:Keyed->Int)(a₀:Array Keyed):Prop where
 lt:∀(x y:Keyed) (C:Bool->Sh->Prop),x∈a₀->y∈a₀->C (decide (r x<r y)) s->wpAny M A (keyLt' κ x.1 y.1) C (λ_ _=>False) s
 ne:∀i j,i<a₀.size->j<a₀.size->i≠j->r (a₀.getD i d0)≠r (a₀.getD j d0)
structure StOk(κ:SortKind)(a₀:Array Keyed)(st:SortSt):Prop where
 kind:kindOf st=κ
 perm:(arrOf st).Perm a₀
 ok:failedOf st=none
section
variable{M:Model}{A:Ar}{E:VP}{s:Sh}{o:SortKind}{r:Keyed->Int}{f xs g:Array Keyed}
abbrev kx(r:Keyed->Int)(xs:Array Keyed)(i:Nat):Int:=r (xs.getD i d0)
def t7{i:Nat}(h:i<xs.size):xs[i]?=some (xs.getD i d0):=by
 rw[ud,nc h];rfl
def xN{i:Nat}{x:Keyed}(h:xs[i]?=some x):xs.getD i d0=x:=by
 rw[ud,h];rfl
def sv{i j:Nat}(h:xs[i]?=g[j]?):xs.getD i d0=g.getD j d0:=by
 rw[ud,ud,h]
def ux(p:xs.Perm f):xs.size=f.size:=by
 have z:=(pS.mp p).length_eq;simpa using z
def BV(p:xs.Perm f){i:Nat}(h:i<f.size):xs.getD i d0∈f:=(DJ p).mp (Ej (t7 (by rw[ux p];exact h)))
def Asks.pairs(K:Asks M A s o r f):(f.toList.map r).Nodup:=by
 refine pT.mpr λi j a b c=>?_;rw[yI,yI];rw[hJ,i4]at a b;have z:=K.ne i j a b ();rw[ud,ud,nc a,nc b]at z;exact z
def Asks.apart(K:Asks M A s o r f)(p:xs.Perm f){i j:Nat}(a:i<f.size)(b:j<f.size)(c:i≠j):kx r xs i≠kx r xs j:=by
 have d:(xs.toList.map r).Nodup:=((pS.mp p).map r).nodup_iff.mpr K.pairs;have sz:=ux p;intro z;have e:∀k,k<f.size->(xs.toList.map r)[k]?=some (kx r xs k):=λk g=>by
  rw[iB,mF,t7 ()];rfl
 exact c ((se (by rw[hJ,i4];lia) d).mp (by rw[e i a,e j b,z]))
def yf{st:SortSt}{x y:Keyed}{Q:Option Bool->SortSt->Prop}(K:Asks M A s o r f)(c:kindOf st=o)(d:x∈f)(e:y∈f)(h:Q (some (decide (r x<r y))) st):wpS M A E s (lt' x y) Q st:=by
 rw[lt'_eq];refine io (pZ ?_);rw[c];refine io (vJ (rm (ke (K.lt x y (λb a=>a=s/\b=decide (r x<r y)) d e #[rZ,rZ]) (λb a g=>?_) λ_ _ z=>z.elim)));obtain⟨rfl,rfl⟩:=g;exact#[rZ,iA h]
def mi{a:SortSt}{i:Nat}{Q:Keyed->SortSt->Prop}(b:i<xs.size)(h:Q (xs.getD i d0) a):wpS M A E s (elem' xs i) Q a:=by
 rw[elem'_eq,t7 b];exact iA h
def zP{st:SortSt}{i j:Nat}{Q:Option Bool->SortSt->Prop}(K:Asks M A s o r f)(B:StOk o f st)(a:i<f.size)(b:j<f.size)(h:Q (some (decide (kx r (arrOf st) i<kx r (arrOf st) j))) st):wpS M A E s (ltAt' i j) Q st:=by
 have sz:=ux B.perm;rw[ltAt'_eq];refine io (pZ ?_);exact io (mi () (io (mi () (yf K B.kind (BV B.perm a) (BV B.perm b) h))))
def Ris(r:Keyed->Int)(xs:Array Keyed)(lo c:Nat):Prop:=∀a b,lo<=a->a<b->b<c->kx r xs a<kx r xs b
def Fal(r:Keyed->Int)(xs:Array Keyed)(lo c:Nat):Prop:=∀a b,lo<=a->a<b->b<c->kx r xs b<kx r xs a
def Out(xs g:Array Keyed)(lo a:Nat):Prop:=∀k,k<lo\/a<=k->g[k]?=xs[k]?
def Out.refl(xs:Array Keyed)(lo a:Nat):Out xs xs lo a:=λ_ _=>rfl
def Out.trans{b:Array Keyed}{lo a:Nat}(h:Out xs g lo a)(c:Out g b lo a):Out xs b lo a:=λk z=>(c k z).trans (h k z)
def Out.wide{lo c a b:Nat}(h:Out xs g lo c)(d:a<=lo)(e:c<=b):Out xs g a b:=λk z=>h k ()
def Out.ris{lo c a b:Nat}(h:Out xs g lo c)(e:Ris r xs a b)(d:b<=lo\/c<=a):Ris r g a b:=λi j f k l=>by
 show r (g.getD i d0)<r (g.getD j d0);rw[sv (h i ()),sv (h j ())];exact e i j f k l
def Ris.one{lo:Nat}:Ris r xs lo (lo+1):=λa b c d e=>by lia
def Ris.snoc{lo c:Nat}(h:Ris r xs lo c)(i:lo<c)(l:kx r xs (c-1)<kx r xs c):Ris r xs lo (c+1):=λa b d f j=>by
 by_cases e:b=c
 .subst e;by_cases g:a=b-1
  .subst g;exact l
  .have:=h a (b-1) d () ();lia
 .exact h a b d f ()
def Fal.snoc{lo c:Nat}(h:Fal r xs lo c)(i:lo<c)(l:kx r xs c<kx r xs (c-1)):Fal r xs lo (c+1):=λa b d f j=>by
 by_cases e:b=c
 .subst e;by_cases g:a=b-1
  .subst g;exact l
  .have:=h a (b-1) d () ();lia
 .exact h a b d f ()
def StOk.set{st:SortSt}(B:StOk o f st)(p:g.Perm (arrOf st)):StOk o f (setArr st g):=#[B.kind,p.trans B.perm,B.ok]
def GL{i j:Nat}(b:j<=xs.size)(k:Nat):kx r (mirror xs i j ((j-i) /2)) k=if i<=k/\k<j then kx r xs (i+j-1-k)else kx r xs k:=by
 have e:=getElem?_mirror_all (i:=i) b k;by_cases a:i<=k/\k<j
 .rw[wB a]at e|-;exact jv r (sv e)
 .rw[wA a]at e|-;exact jv r (sv e)
def J5{st:SortSt}{lo g:Nat}{Q:Option Nat->SortSt->Prop}(K:Asks M A s o r f)(B:StOk o f st)(hn:lo+g<=f.size)(G:1<=g)(h:∀n l,StOk o f l->pendingOf l=pendingOf st->gallopOf l=gallopOf st->Out (arrOf st) (arrOf l) lo (lo+g)->1<=n->n<=g->Ris r (arrOf l) lo (lo+n)->Q (some n) l):wpS M A E s (countRun' lo g) Q st:=by
 rw[countRun'_eq];have x:∀(m:Nat) (l:SortSt) (H:Option (Option Nat)×Nat->SortSt->Prop),StOk o f l->1<=m->m<=g->Ris r (arrOf l) lo (lo+m)->(∀n,m<=n->n<=g->Ris r (arrOf l) lo (lo+n)->(n<g->kx r (arrOf l) (lo+n)<kx r (arrOf l) (lo+n-1))->H (none,n) l)->
   wpS M A E s (forIn [m:g] ((none,m):Option (Option Nat)×Nat) λ_ p=>do
    let J <-ltAt' (lo+p.snd) (lo+p.snd-1)
    match J with
    |some t=>if t=true then pure (ForInStep.done (none,p.snd))else pure (ForInStep.yield (none,p.snd+1))
    |_=>pure (ForInStep.done (some none,p.snd))) H l:=λm l H U m1 L up q=>by
  refine nP (I:=λi c d=>d=l/\c=(none,i)/\Ris r (arrOf l) lo (lo+i)) (λi c d pe yB v=>?_) (λc d v=>?_) #[rZ,rZ,up]
  .obtain⟨rfl,rfl,u⟩:=v;refine io (zP K U (by show lo+i<_;lia) (by show lo+i-1<_;lia) ?_);by_cases c:kx r (arrOf d) (lo+i)<kx r (arrOf d) (lo+i-1)
   .rw[i0 c];exact iA (q i pe () u λ_=>c)
   .rw[j9 c];have ne:=K.apart U.perm (i:=lo+i) (j:=lo+i-1) () () ();exact iA #[rZ,rZ,u.snoc () ()]
  .obtain⟨rfl,rfl,u⟩:=v;rw[show max m g=g by lia]at u|-;exact q g L (ig _) u λz=>wC z (oi _)
 refine io (x 1 st _ B (ig _) G Ris.one λn N D up stop=>?_);dsimp only;by_cases e:n=g
 .rw[wB (by simpa using e)];exact iA (h n st B rZ rZ (Out.refl _ _ _) N D up)
 rw[wA (by simpa using e)];have O:=stop ();by_cases Y:n>1
 .rw[wB Y];refine io (zP K B () () ?_);rw[i0 (up lo (lo+n-1) (ig _) () ())];exact iA (h n st B rZ rZ (Out.refl _ _ _) N D up)
 rw[wA Y];have en:n=1:=by lia
 subst en;refine io (vJ (rJ #[rZ,?_]));have y:Fal r (arrOf st) lo (lo+2):=λa b G h2 h3=>by
  have ea:a=lo:=by lia
  have eb:b=lo+1:=by lia
  subst ea eb;exact O
 refine io (n' (nP (I:=λi c d=>d=st/\c=(none,i,0)/\Fal r (arrOf st) lo (lo+i)) (Q:=λc d=>d=st/\∃m,c=(none,m,0)/\2<=m/\m<=g/\Fal r (arrOf st) lo (lo+m)) (λi c d pe yB v=>?_) (λc d v=>?_) #[rZ,rZ,y]) ?_)
 .obtain⟨rfl,rfl,fa⟩:=v;refine io (zP K B (by show lo+i<_;lia) (by show lo+i-1<_;lia) ?_);by_cases c:kx r (arrOf d) (lo+i)<kx r (arrOf d) (lo+i-1)
  .rw[i0 c];exact iA #[rZ,rZ,fa.snoc () c]
  .rw[j9 c];have ne:=K.apart B.perm (i:=lo+i) (j:=lo+i-1) () () ();refine io (zP K B (by show lo+i-1<_;lia) (by show lo+i<_;lia) ?_);rw[i0 (by show kx r (arrOf d) (lo+i-1)<kx r (arrOf d) (lo+i);lia)];exact iA #[rZ,i,rZ,(),(),fa]
 .obtain⟨rfl,rfl,fa⟩:=v;refine#[rZ,_,rZ,(),(),fa]
 .rintro c d ⟨rfl,m,rfl,m2,L,fa⟩;dsimp only;obtain⟨m,rfl⟩:∃k,m=k+1:=sw λz=>by rw[z]at m2;exact wC m2 (by decide)
  rw[wA (oi 0)];rw[reverseSlice'_eq];have sz:=ux B.perm;have w:lo+(m+1)<=(arrOf d).size:=by lia
  have B2:StOk o f (setArr d (mirror (arrOf d) lo (lo+(m+1)) ((lo+(m+1)-lo) /2))):=B.set (mirror_perm _ _ _ _);have T:Ris r (mirror (arrOf d) lo (lo+(m+1)) ((lo+(m+1)-lo) /2)) lo (lo+(m+1)):=λa b G h2 h3=>by
   rw[GL w,GL w,wB (),wB ()];exact fa _ _ (show lo<=lo+(lo+m)-b from DK ()) (show lo+(lo+m)-b<lo+(lo+m)-a from Nat.sub_lt_sub_left () h2) (show lo+(lo+m)-a<lo+(m+1)from zD () ())
  have C:Out (arrOf d) (mirror (arrOf d) lo (lo+(m+1)) ((lo+(m+1)-lo) /2)) lo (lo+g):=λk hk=>by
   rw[getElem?_mirror_all w,wA ()]
  refine io (rD (io (x (m+1) _ _ B2 () L T λn N D up stop=>?_)));exact iA (h n _ B2 rZ rZ C () D up)
end
section
variable{M:Model}{A:Ar}{E:VP}{s:Sh}{b:SortKind}{r:Keyed->Int}{a f g:Array Keyed}
def GA{a d:Nat}(g:a<f.size)(h:d<=a)(k:Nat):kx r (bubble f a d) k=if k=a-d then kx r f a else if a-d<k/\k<=a then kx r f (k-1)else kx r f k:=by
 have e:=getElem?_bubble g d h k;by_cases b:k=a-d
 .rw[wB b]at e|-;exact jv r (sv e)
 .rw[wA b]at e|-;by_cases c:a-d<k/\k<=a
  .rw[wB c]at e|-;exact jv r (sv e)
  .rw[wA c]at e|-;exact jv r (sv e)
def IP{st:SortSt}{lo n ok:Nat}{Q:Bool->SortSt->Prop}(K:Asks M A s b r a)(B:StOk b a st)(hn:lo+n<=a.size)(aa:ok<=n)(hs:Ris r (arrOf st) lo (lo+ok))(h:∀e,StOk b a e->pendingOf e=pendingOf st->gallopOf e=gallopOf st->Out (arrOf st) (arrOf e) lo (lo+n)->Ris r (arrOf e) lo (lo+n)->Q true e):wpS M A E s (binarySort' lo n ok) Q st:=by
 rw[binarySort'_eq];refine io (n' (nP (I:=λk c e=>c=(none,Unit.unit)/\StOk b a e/\pendingOf e=pendingOf st/\gallopOf e=gallopOf st/\Out (arrOf st) (arrOf e) lo (lo+n)/\Ris r (arrOf e) lo (lo+min k n))
  (Q:=λc e=>c=(none,Unit.unit)/\StOk b a e/\pendingOf e=pendingOf st/\gallopOf e=gallopOf st/\Out (arrOf st) (arrOf e) lo (lo+n)/\Ris r (arrOf e) lo (lo+n)) ?step ?fin ?init) ?post)
 case post=>
  rintro c e ⟨rfl,y,H,J,o,u⟩;exact iA (h e y H J o u)
 case init=>
  refine#[rZ,B,rZ,rZ,Out.refl _ _ _,λi j v C h3=>?_];exact hs i j v C ()
 case fin=>
  rintro c e ⟨hc,y,H,J,o,u⟩;refine#[hc,y,H,J,o,?_];rwa[show min (max (max ok 1) n) n=n by lia]at u
 case step=>
  rintro k c e ab ae ⟨rfl,y,H,J,o,w⟩;rw[show min k n=k by lia]at w;have sz:=ux y.perm;refine io (n' (nP (I:=λx c f=>f=e/\∃l q,c=(none,l,q)/\l<=q/\q<=k/\q+x<=k+l/\
    (∀i,i<l->kx r (arrOf e) (lo+i)<kx r (arrOf e) (lo+k))/\(∀i,q<=i->i<k->kx r (arrOf e) (lo+k)<kx r (arrOf e) (lo+i)))
   (Q:=λc f=>f=e/\∃l q,c=(none,l,q)/\l<=k/\
    (∀i,i<l->kx r (arrOf e) (lo+i)<kx r (arrOf e) (lo+k))/\(∀i,l<=i->i<k->kx r (arrOf e) (lo+k)<kx r (arrOf e) (lo+i))) ?istep ?ifin ?iinit) ?ipost)
  case iinit=>exact#[rZ,0,k,rZ,(),(),(),λi hi=>by lia,λi v C=>by lia]
  case ifin=>
   rintro c f ⟨rfl,l,q,rfl,N,t,hm,m,p⟩;have:l=q:=by lia
   subst this;exact#[rZ,l,l,rZ,t,m,p]
  case istep=>
   rintro x c f _ af ⟨rfl,l,q,rfl,N,t,hm,m,p⟩;dsimp only;by_cases D:l>=q
   .rw[wB D];have:l=q:=by lia
    subst this;exact iA #[rZ,l,l,rZ,t,m,p]
   .rw[wA D];have Y:l<=(l+q) /2:=by lia
    have O:(l+q) /2<q:=by lia
    clear D;generalize(l+q) /2=d at Y O|-;have dk:d<k:=jy O t;refine io (zP K y () () ?_);by_cases g:kx r (arrOf f) (lo+k)<kx r (arrOf f) (lo+d)
    .simp only[g,decide_true,if_true];refine iA #[rZ,l,d,rZ,Y,nZ dk,(),m,λi v C=>?_];by_cases z:i=d
     .subst z;exact g
     .exact yK g (w (lo+d) (lo+i) (tj ..) (BC (yl v (jq z)) _) (BC C _))
    .simp only[g,decide_false,Bool.false_eq_true,if_false];have ne:=K.apart y.perm (i:=lo+k) (j:=lo+d) () () ();refine iA #[rZ,d+1,q,rZ,O,t,(),λi v=>?_,p];by_cases z:i=d
     .subst z;exact Int.lt_iff_le_and_ne.mpr #[Int.not_lt.mp g,ne.symm]
     .exact Int.lt_of_lt_of_le (w (lo+i) (lo+d) (tj ..) (BC (yl (BR v) z) _) (BC dk _)) (Int.not_lt.mp g)
  case ipost=>
   rintro c f ⟨rfl,l,q,rfl,L,m,p⟩;show wpS _ _ _ _ (do moveDown' (lo+k) (lo+l);pure (ForInStep.yield (none,Unit.unit))) _ _
   rw[moveDown'_eq];have G:lo+k<(arrOf f).size:=by lia
   refine io (rD (iA #[rZ,y.set (bubble_perm _ _ _),H,J,o.trans λj hj=>?_,?_]))
   .show(bubble (arrOf f) (lo+k) (lo+k-(lo+l)))[j]?=_;rw[getElem?_bubble G _ (),Nat.sub_sub_self (zB L lo),wA (),wA ()]
   .rw[show min (k+1) n=k+1 by lia];intro i j v C h3;show kx r (bubble (arrOf f) (lo+k) (lo+k-(lo+l))) i<kx r (bubble (arrOf f) (lo+k) (lo+k-(lo+l))) j
    rw[GA G (),GA G (),Nat.sub_sub_self (zB L lo)];have T:∀i,lo<=i->i<lo+l->kx r (arrOf f) i<kx r (arrOf f) (lo+k):=λi v C=>by
     have:=m (i-lo) ();rwa[show lo+(i-lo)=i by lia]at this
    have U:∀i,lo+l<=i->i<lo+k->kx r (arrOf f) (lo+k)<kx r (arrOf f) i:=λi v C=>by
     have:=p (i-lo) () ();rwa[show lo+(i-lo)=i by lia]at this
    repeat' split
    all_goals first
     |(exfalso;lia)
     |exact T _ () ()
     |exact U _ () ()
     |exact w _ _ () () ()
def uw:Bool->Keyed->Array Keyed->Nat->Nat->Nat->StateT SortSt Sem (Option Nat):=sortPriv%PySem.Builtin.gallop
def MX(left:Bool)(e:Keyed)(g:Array Keyed)(d n a:Nat):uw left e g d n a=(do
 let c (i:Nat):StateT SortSt Sem (Option Bool):=do
  let x <-elem' g (d+i)
  if left then lt' x e else return (<-lt' e x).map (!·)
 let mut lastofs:=0
 let mut ofs:=1
 let mut lo:=0
 let mut hi:=0
 let some right <-c a|return none
 if right then
  let b:=n-a
  for _ in[0:n] do
   if ofs>=b then break
   let some more <-c (a+ofs)|return none
   if !more then break
   lastofs:=ofs
   ofs:=2 * ofs+1
  lo:=a+lastofs+1
  hi:=a+min ofs b
 else
  let b:=a+1
  for _ in[0:n] do
   if ofs>=b then break
   let some f <-c (a-ofs)|return none
   if f then break
   lastofs:=ofs
   ofs:=2 * ofs+1
  lo:=a+1-min ofs b
  hi:=a-lastofs
 for _ in[0:n] do
  if lo>=hi then break
  let m:=lo+(hi-lo) /2
  let some more <-c m|return none
  if more then lo:=m+1 else hi:=m
 return some hi):=rfl
end
section
variable{M:Model}{A:Ar}{E:VP}{s:Sh}{b:SortKind}{r:Keyed->Int}{a d m:Array Keyed}
def xM{st:SortSt}{left:Bool}{t:Keyed}{p:Array Keyed}{d n m:Nat}{Q:Option Nat->SortSt->Prop}(K:Asks M A s b r a)(hk:kindOf st=b)(hz:d+n<=p.size)(mem:∀i,i<n->p.getD (d+i) d0∈a)(mk:t∈a)(ne:∀i,i<n->kx r p (d+i)≠r t)(up:Ris r p d (d+n)) (N:m<n) (q:∀k,k<=n->(∀i,i<k->kx r p (d+i)<r t)->(∀i,k<=i->i<n->r t<kx r p (d+i))->Q (some k) st):wpS M A E s (uw left t p d n m) Q st:=by
 rw[MX];have C:∀(i:Nat) (Q:Option Bool->SortSt->Prop),i<n->Q (some (decide (kx r p (d+i)<r t))) st->wpS M A E s (do
   let x <-elem' p (d+i)
   if left then lt' x t else return (<-lt' t x).map (!·)) Q st:=λi Q w hQ=>by
  refine io (mi () ?_);cases left with
  |true=>exact yf K hk (mem i w) mk hQ
  | false=>
   refine io (yf K hk mk (mem i w) (iA ?_));have e:(!decide (r t<r (p.getD (d+i) d0)))=decide (kx r p (d+i)<r t):=by
    have:=ne i w;by_cases z:kx r p (d+i)<r t
    .rw[i0 z,j9 (show ¬r t<r (p.getD (d+i) d0)from λy=>by have:r t<kx r p (d+i):=y;lia)];rfl
    .rw[j9 z,i0 (show r t<r (p.getD (d+i) d0)from by show r t<kx r p (d+i);lia)];rfl
   show Q (some (!decide (r t<r (p.getD (d+i) d0)))) st;rw[e];exact hQ
 have T:∀i j,i<=j->j<n->kx r p (d+j)<r t->kx r p (d+i)<r t:=λi j ij jn l=>by
  by_cases z:i=j
  .subst z;exact l
  .have:=up (d+i) (d+j) () () ();lia
 have H:∀i j,i<=j->j<n-> ¬kx r p (d+i)<r t->r t<kx r p (d+j):=λi j ij jn l=>by
  have n1:=ne i ();by_cases z:i=j
  .subst z;lia
  .have:=up (d+i) (d+j) () () ();lia
 have fin:∀(lo w:Nat) (u:SortSt) (f:Nat->Option (Option Nat)×Nat×Nat->StateT SortSt Sem (ForInStep (Option (Option Nat)×Nat×Nat))) (g:Option (Option Nat)×Nat×Nat->StateT SortSt Sem (Option Nat)),u=st->lo<=w->w<=n->(∀i,i<lo->kx r p (d+i)<r t)->(∀i,w<=i->i<n->r t<kx r p (d+i))->
   (∀x l h (R:ForInStep (Option (Option Nat)×Nat×Nat)->SortSt->Prop),l>=h->R (.done (none,l,h)) st->wpS M A E s (f x (none,l,h)) R st)->
   (∀x l h (R:ForInStep (Option (Option Nat)×Nat×Nat)->SortSt->Prop),l<h->h<=n->R (.yield (if kx r p (d+(l+(h-l) /2))<r t then(none,l+(h-l) /2+1,h)else(none,l,l+(h-l) /2))) st->wpS M A E s (f x (none,l,h)) R st)->
   (∀h,Q (some h) st->wpS M A E s (g (none,h,h)) Q st)->wpS M A E s (forIn [0:n] (none,lo,w) f >>= g) Q u:=λlo w u f g e lh U dl du f1 f2 f3=>by
  subst e;refine io (n' (nP (I:=λx c v=>v=u/\∃l h,c=(none,l,h)/\l<=h/\h<=n/\h+x<=n+l/\(∀i,i<l->kx r p (d+i)<r t)/\∀i,h<=i->i<n->r t<kx r p (d+i))
   (Q:=λc v=>v=u/\∃h,c=(none,h,h)/\h<=n/\(∀i,i<h->kx r p (d+i)<r t)/\∀i,h<=i->i<n->r t<kx r p (d+i)) ?step ?stop #[rZ,lo,w,rZ,lh,U,(),dl,du]) ?post)
  case step=>
   rintro x c v _ hx ⟨rfl,l,h,rfl,l1,l2,l3,J,L⟩;by_cases z:l>=h
   .have:l=h:=by lia
    subst this;exact f1 x l l _ z #[rZ,l,rZ,l2,J,L]
   .refine f2 x l h _ () l2 ?_;by_cases c:kx r p (d+(l+(h-l) /2))<r t
    .rw[wB c];exact#[rZ,_,_,rZ,(),(),(),λi w=>T i _ () () c,L]
    .rw[wA c];exact#[rZ,_,_,rZ,(),(),(),J,λi D G=>H _ i D G c]
  case stop=>
   rintro c v ⟨rfl,l,h,rfl,l1,l2,l3,J,L⟩;have:l=h:=by lia
   subst this;exact#[rZ,l,rZ,l2,J,L]
  case post=>
   rintro c v ⟨rfl,h,rfl,G,J,L⟩;exact f3 h (q h G J L)
 refine io (C m _ N ?_);by_cases O:kx r p (d+m)<r t
 .rw[i0 O];dsimp only;rw[wB rZ];refine io (n' (nP (I:=λx c u=>u=st/\∃l o,c=(none,l,o)/\l<o/\x+1<=o/\l<n-m/\kx r p (d+(m+l))<r t)
   (Q:=λc u=>u=st/\∃l o,c=(none,l,o)/\l<o/\l<n-m/\kx r p (d+(m+l))<r t/\(o<n-m-> ¬kx r p (d+(m+o))<r t)) ?step ?stop #[rZ,0,1,rZ,(),(),(),O]) ?post)
  case step=>
   rintro x c u _ hx ⟨rfl,l,o,rfl,l1,l2,l3,l4⟩;dsimp only;by_cases z:o>=n-m
   .rw[wB z];exact iA #[rZ,l,o,rZ,l1,l3,l4,λy=>by lia]
   .rw[wA z];refine io (C _ _ () ?_);by_cases c:kx r p (d+(m+o))<r t
    .rw[i0 c];exact iA #[rZ,o,_,rZ,(),(),(),c]
    .rw[j9 c];exact iA #[rZ,l,o,rZ,l1,l3,l4,λ_=>c]
  case stop=>
   rintro c u ⟨rfl,l,o,rfl,l1,l2,l3,l4⟩;exact#[rZ,l,o,rZ,l1,l3,l4,λy=>by lia]
  case post=>
   rintro c u ⟨rfl,l,o,rfl,l1,l3,l4,l5⟩;dsimp only;refine fin (m+l+1) (m+min o (n-m)) _ _ _ rZ (zB (Nat.le_min.mpr #[l1,l3]) m) (i5 (zB (Nat.min_le_right ..) m) (u4 (r4 (nZ N)))) (λi w=>T i (m+l) (BR w) (Nat.add_lt_of_lt_sub' l3) l4) (λi D G=>by
    by_cases z:o<n-m
    .exact H (m+o) i (by rw[wR (nZ z)]at D;exact D) G (l5 z)
    .rw[Nat.min_eq_right (Bw z),r4 (nZ N)]at D;exact wC G (Nat.not_lt.mpr D)) (λx l h R z B=>?_) (λx l h R z U B=>?_) (λh Y=>iA Y)
   .dsimp only;rw[wB z];exact iA B
   .dsimp only;rw[wA ()];refine io (C _ _ () ?_);by_cases c:kx r p (d+(l+(h-l) /2))<r t
    .rw[wB c]at B;rw[i0 c];exact iA B
    .rw[wA c]at B;rw[j9 c];exact iA B
 .rw[j9 O];dsimp only;rw[wA (by decide)];refine io (n' (nP (I:=λx c u=>u=st/\∃l o,c=(none,l,o)/\l<o/\x+1<=o/\l<m+1/\ ¬kx r p (d+(m-l))<r t)
   (Q:=λc u=>u=st/\∃l o,c=(none,l,o)/\l<o/\l<m+1/\ ¬kx r p (d+(m-l))<r t/\(o<m+1->kx r p (d+(m-o))<r t)) ?step ?stop #[rZ,0,1,rZ,(),(),(),O]) ?post)
  case step=>
   rintro x c u _ hx ⟨rfl,l,o,rfl,l1,l2,l3,l4⟩;dsimp only;by_cases z:o>=m+1
   .rw[wB z];exact iA #[rZ,l,o,rZ,l1,l3,l4,λy=>by lia]
   .rw[wA z];refine io (C _ _ () ?_);by_cases c:kx r p (d+(m-o))<r t
    .rw[i0 c];exact iA #[rZ,l,o,rZ,l1,l3,l4,λ_=>c]
    .rw[j9 c];exact iA #[rZ,o,_,rZ,(),(),(),c]
  case stop=>
   rintro c u ⟨rfl,l,o,rfl,l1,l2,l3,l4⟩;exact#[rZ,l,o,rZ,l1,l3,l4,λy=>by lia]
  case post=>
   rintro c u ⟨rfl,l,o,rfl,l1,l3,l4,l5⟩;dsimp only;refine fin (m+1-min o (m+1)) (m-l) _ _ _ rZ (i5 (Nat.sub_le_sub_left (Nat.le_min.mpr #[l1,l3]) _) (u4 (Nat.add_sub_add_right ..))) (i5 (Nat.sub_le ..) (nZ N)) (λi w=>by
    by_cases z:o<m+1
    .rw[wR (nZ z),Nat.succ_sub (BR z)]at w;exact T i (m-o) (BR w) (yO (Nat.sub_le ..) N) (l5 z)
    .rw[Nat.min_eq_right (Bw z),t5]at w;exact wC w (rq _)) (λi D G=>H (m-l) i D G l4) (λx l h R z B=>?_) (λx l h R z U B=>?_) (λh Y=>iA Y)
   .dsimp only;rw[wB z];exact iA B
   .dsimp only;rw[wA ()];refine io (C _ _ () ?_);by_cases c:kx r p (d+(l+(h-l) /2))<r t
    .rw[wB c]at B;rw[i0 c];exact iA B
    .rw[wA c]at B;rw[j9 c];exact iA B
end
abbrev T5:Type:=Option (Array Keyed)×Array Keyed×Nat×Nat×Nat
abbrev T6:Type:=Option (Array Keyed)×Array Keyed×Nat×Nat×Nat×Nat
abbrev T7:Type:=Option (Array Keyed)×Array Keyed×Nat×Nat×Nat×Nat×Nat
def Cb:Array Keyed->Array Keyed->StateT SortSt Sem (Array Keyed):=sortPriv%PySem.Builtin.mergeLo
def C8:Array Keyed->Array Keyed->StateT SortSt Sem (Array Keyed):=sortPriv%PySem.Builtin.mergeHi
def wx:Nat->StateT SortSt Sem Unit:=sortPriv%PySem.Builtin.setMinGallop
def NO(g:Nat):wx g=modify λst=>SortSt.mk' (kindOf st) (arrOf st) (pendingOf st) g (failedOf st):=rfl
section
variable(a b:Array Keyed)
abbrev oW(c:Array Keyed)(d e:Nat):Array Keyed:=c++a.extract d a.size++b.extract e b.size
abbrev sE(c:Array Keyed)(d e:Nat):Array Keyed:=c++b.extract e b.size++a.extract d a.size
def D3(mg:Nat)(c:T6):StateT SortSt Sem (ForInStep T6):=do
 let some d <-lt' (<-elem' b c.2.2.2.1) (<-elem' a c.2.2.1)|pure (.done (some (oW a b c.2.1 c.2.2.1 c.2.2.2.1),c.2.1,c.2.2.1,c.2.2.2.1,c.2.2.2.2.1,c.2.2.2.2.2))
 if d then
  let x <-elem' b c.2.2.2.1
  if c.2.2.2.1+1==b.size then pure (.done (some (oW a b (c.2.1.push x) c.2.2.1 (c.2.2.2.1+1)),c.2.1.push x,c.2.2.1,c.2.2.2.1+1,0,c.2.2.2.2.2+1))
  else if c.2.2.2.2.2+1>=mg then pure (.done (none,c.2.1.push x,c.2.2.1,c.2.2.2.1+1,0,c.2.2.2.2.2+1))
  else pure (.yield (none,c.2.1.push x,c.2.2.1,c.2.2.2.1+1,0,c.2.2.2.2.2+1))
 else
  let x <-elem' a c.2.2.1
  if c.2.2.1+1+1==a.size then pure (.done (some (sE a b (c.2.1.push x) (c.2.2.1+1) c.2.2.2.1),c.2.1.push x,c.2.2.1+1,c.2.2.2.1,c.2.2.2.2.1+1,0))
  else if c.2.2.2.2.1+1>=mg then pure (.done (none,c.2.1.push x,c.2.2.1+1,c.2.2.2.1,c.2.2.2.2.1+1,0))
  else pure (.yield (none,c.2.1.push x,c.2.2.1+1,c.2.2.2.1,c.2.2.2.2.1+1,0))
def sk(c:Array Keyed)(d e mg k k1:Nat):StateT SortSt Sem (ForInStep T7):=do
 let x <-elem' a d
 if d+1+1==a.size then pure (.done (some (sE a b (c.push x) (d+1) e),c.push x,d+1,e,mg,k,k1))
 else if k<7&&k1<7 then pure (.done (none,c.push x,d+1,e,mg,k,k1))
 else pure (.yield (none,c.push x,d+1,e,mg,k,k1))
def tp(d:Array Keyed)(e c mg k f:Nat):StateT SortSt Sem (ForInStep T7):=do
 let y <-elem' b c
 if c+1==b.size then pure (.done (some (oW a b (d.push y) e (c+1)),d.push y,e,c+1,mg,k,f))
 else do
  let some k1 <-uw true (<-elem' a e) b (c+1) (b.size-(c+1)) 0|pure (.done (some (oW a b (d.push y) e (c+1)),d.push y,e,c+1,mg,k,f))
  if k1>0 then
   if c+1+k1==b.size then pure (.done (some (oW a b (d.push y++b.extract (c+1) (c+1+k1)) e (c+1+k1)),d.push y++b.extract (c+1) (c+1+k1),e,c+1+k1,mg,k,k1))
   else sk a b (d.push y++b.extract (c+1) (c+1+k1)) e (c+1+k1) mg k k1
  else sk a b (d.push y) e (c+1) mg k k1
def ss(c:T7)(mg:Nat):StateT SortSt Sem (ForInStep T7):=do
 wx mg
 let some k <-uw false (<-elem' b c.2.2.2.1) a c.2.2.1 (a.size-c.2.2.1) 0|pure (.done (some (oW a b c.2.1 c.2.2.1 c.2.2.2.1),c.2.1,c.2.2.1,c.2.2.2.1,mg,c.2.2.2.2.2.1,c.2.2.2.2.2.2))
 if k>0 then
  if c.2.2.1+k+1==a.size then pure (.done (some (sE a b (c.2.1++a.extract c.2.2.1 (c.2.2.1+k)) (c.2.2.1+k) c.2.2.2.1),c.2.1++a.extract c.2.2.1 (c.2.2.1+k),c.2.2.1+k,c.2.2.2.1,mg,k,c.2.2.2.2.2.2))
  else if c.2.2.1+k==a.size then pure (.done (some (oW a b (c.2.1++a.extract c.2.2.1 (c.2.2.1+k)) (c.2.2.1+k) c.2.2.2.1),c.2.1++a.extract c.2.2.1 (c.2.2.1+k),c.2.2.1+k,c.2.2.2.1,mg,k,c.2.2.2.2.2.2))
  else tp a b (c.2.1++a.extract c.2.2.1 (c.2.2.1+k)) (c.2.2.1+k) c.2.2.2.1 mg k c.2.2.2.2.2.2
 else tp a b c.2.1 c.2.2.1 c.2.2.2.1 mg k c.2.2.2.2.2.2
def DI(c:T7):StateT SortSt Sem (ForInStep T7):=if c.2.2.2.2.1>1 then ss a b c (c.2.2.2.2.1-1)else ss a b c c.2.2.2.2.1
def C5(c:T5):StateT SortSt Sem (ForInStep T5):=do
 let c1 <-forIn [0:a.size+b.size] ((none,c.2.1,c.2.2.1,c.2.2.2.1,0,0):T6) λ_ c1=>D3 a b c.2.2.2.2 c1
 match c1.1 with
 |some r=>pure (.done (some r,c1.2.1,c1.2.2.1,c1.2.2.2.1,c.2.2.2.2))
 | none=>do
  rule "list.sort.gallop"
  let c2 <-forIn [0:a.size+b.size] ((none,c1.2.1,c1.2.2.1,c1.2.2.2.1,c.2.2.2.2+1,c1.2.2.2.2.1,c1.2.2.2.2.2):T7) λ_ c2=>DI a b c2
  match c2.1 with
  |some r=>pure (.done (some r,c2.2.1,c2.2.2.1,c2.2.2.2.1,c2.2.2.2.2.1))
  |none=>do
   wx (c2.2.2.2.2.1+1)
   pure (.yield (none,c2.2.1,c2.2.2.1,c2.2.2.2.1,c2.2.2.2.2.1+1))
def FC:StateT SortSt Sem (Array Keyed):=do
 rule "list.sort.merge-lo"
 let x <-elem' b 0
 if 1==b.size then pure (oW a b #v[x] 0 1)
 else if 0+1==a.size then pure (sE a b #v[x] 0 1)
 else do
  let st <-get
  let c <-forIn [0:a.size+b.size] ((none,#v[x],0,1,gallopOf st):T5) λ_ c=>C5 a b c
  match c.1 with
  |some r=>pure r
  |none=>unsupported "internal:list.sort.merge-bound"
def MG:Cb a b=FC a b:=by
 refine jv (bind _) (funext λ_=>?_);refine jv (bind (elem' b 0)) (funext λx=>?_);refine ww rZ (λ_=>rfl) (λ_=>?_);refine ww rZ (λ_=>rfl) (λ_=>?_);refine jv (bind get) (funext λst=>?_);refine congr (jv bind (jv (forIn [0:a.size+b.size] _) (funext λu=>funext λc=>?_))) (funext λc=>?_)
 .refine congr (jv bind (jv (forIn [0:a.size+b.size] _) (funext λu=>funext λc1=>rfl))) (funext λc1=>?_);obtain⟨d,e,f,g,h,i⟩:=c1;cases d with
  |some d=>rfl
  | none=>
   refine jv (bind _) (funext λ_=>?_);refine congr (jv bind (jv (forIn [0:a.size+b.size] _) (funext λu=>funext λc2=>?_))) (funext λc2=>?_)
   .refine ww rZ (λ_=>?_) (λ_=>?_)
    .rfl
    .rfl
   .obtain⟨j,_⟩:=c2;cases j<;>rfl
 .obtain⟨r,_⟩:=c;cases r<;>rfl
end
abbrev Up(r:Keyed->Int)(l:List Keyed):Prop:=l.Pairwise λx y=>r x<r y
structure Mg(r:Keyed->Int)(la lb out:List Keyed)(ia ib:Nat):Prop where
 perm:(out++la.drop ia++lb.drop ib).Perm (la++lb)
 so:Up r out
 oa:∀x∈out,∀y∈la.drop ia,r x<r y
 ob:∀x∈out,∀y∈lb.drop ib,r x<r y
section
variable{r:Keyed->Int}{a b out:List Keyed}{c d:Nat}
def Ai{l:List Keyed}(h:Up r l)(i:Nat):Up r (l.drop i):=wI (List.drop_sublist i l) h
def GN{l:List Keyed}(h:Up r l)(i k:Nat):Up r ((l.drop i).take k)/\∀x∈(l.drop i).take k,∀y∈l.drop (i+k),r x<r y:=by
 have z:=Ai h i;rw[<-oS k (l.drop i)]at z;obtain⟨b,_,a⟩:=mR.mp z;rw[List.drop_drop]at a;exact#[b,a]
def Mg.len(m:Mg r a b out c d)(e:c<=a.length)(f:d<=b.length):out.length+(a.length-c)+(b.length-d)=a.length+b.length:=by
 have z:=m.perm.length_eq;rw[jk,jk,jk,yU,yU]at z;exact z
def Mg.moveA(m:Mg r a b out c d)(i:Up r a)(k:Nat)(h:∀x∈(a.drop c).take k,∀y∈b.drop d,r x<r y):Mg r a b (out++(a.drop c).take k) (c+k) d:=by
 obtain⟨j,l⟩:=GN i c k;have e:(a.drop c).take k++a.drop (c+k)=a.drop c:=by rw[<-List.drop_drop];exact oS k _
 have sub:∀y∈a.drop (c+k),y∈a.drop c:=λy f=>by rw[<-e];exact iN.mpr (.inr f)
 refine#[?_,mR.mpr #[m.so,j,λx g y f=>m.oa x g y (uv f)],λx g y f=>?_,λx g y f=>?_]
 .have z:=m.perm;rw[<-e,<-mD]at z;exact z
 .rcases iN.mp g with z|z
  .exact m.oa x z y (sub y f)
  .exact l x z y f
 .rcases iN.mp g with z|z
  .exact m.ob x z y f
  .exact h x z y f
def Mg.moveB(m:Mg r a b out c d)(i:Up r b)(k:Nat)(h:∀x∈(b.drop d).take k,∀y∈a.drop c,r x<r y):Mg r a b (out++(b.drop d).take k) c (d+k):=by
 obtain⟨j,l⟩:=GN i d k;have e:(b.drop d).take k++b.drop (d+k)=b.drop d:=by rw[<-List.drop_drop];exact oS k _
 have sub:∀y∈b.drop (d+k),y∈b.drop d:=λy f=>by rw[<-e];exact iN.mpr (.inr f)
 refine#[?_,mR.mpr #[m.so,j,λx g y f=>m.ob x g y (uv f)],λx g y f=>?_,λx g y f=>?_]
 .have z:=m.perm;rw[<-e]at z;refine List.Perm.trans ?_ z;rw[mD,mD,mD];refine zp _ ?_;rw[<-mD,<-mD];exact AX _ AE
 .rcases iN.mp g with z|z
  .exact m.oa x z y f
  .exact h x z y f
 .rcases iN.mp g with z|z
  .exact m.ob x z y (sub y f)
  .exact l x z y f
def lK(r:Keyed->Int)(a b out:List Keyed):Prop:=out.Perm (a++b)/\Up r out
def Mg.endB(m:Mg r a b out c d)(e:Up r a)(h:b.length<=d):lK r a b (out++a.drop c++b.drop d):=by
 refine#[m.perm,?_];rw[List.drop_of_length_le h,mq];exact mR.mpr #[m.so,Ai e c,m.oa]
def Mg.endA(m:Mg r a b out c d)(e:Up r b)(h:a.length<=c):lK r a b (out++a.drop c++b.drop d):=by
 refine#[m.perm,?_];rw[List.drop_of_length_le h,mq];exact mR.mpr #[m.so,Ai e d,m.ob]
def Mg.last(m:Mg r a b out c d)(f:Up r b)(h:c+1=a.length)(top:∀y∈b,∀x∈a.drop c,r y<r x):lK r a b (out++b.drop d++a.drop c):=by
 refine#[List.Perm.trans ?_ m.perm,?_]
 .rw[mD,mD];exact zp _ AE
 .obtain⟨x,g⟩:∃x,a.drop c=[x]:=List.length_eq_one_iff.mp (by rw[yU];lia);refine mR.mpr #[mR.mpr #[m.so,Ai f d,m.ob],by rw[g];exact r9 _ _,λy i x e=>?_]
  rcases iN.mp i with z|z
  .exact m.oa y z x e
  .exact top y (Bo z) x e
end
structure Eqv(st st':SortSt):Prop where
 kind:kindOf st'=kindOf st
 arr:arrOf st'=arrOf st
 pend:pendingOf st'=pendingOf st
 ok:failedOf st'=failedOf st
def Eqv.refl(st:SortSt):Eqv st st:=#[rZ,rZ,rZ,rZ]
def Eqv.trans{a b c:SortSt}(h:Eqv a b)(d:Eqv b c):Eqv a c:=#[d.kind.trans h.kind,d.arr.trans h.arr,d.pend.trans h.pend,d.ok.trans h.ok]
section
variable{M:Model}{A:Ar}{E:VP}{s:Sh}{κ:SortKind}{r:Keyed->Int}{a₀ a b out:Array Keyed}{ia ib:Nat}
def zV{g:Nat}{st:SortSt}{Q:Unit->SortSt->Prop}(h:∀a,Eqv st a->Q ⟨⟩ a):wpS M A E s (wx g) Q st:=by
 rw[NO];exact rD (h _ #[rZ,rZ,rZ,rZ])
def BI(a:Array Keyed)(i:Nat):(a.extract i a.size).toList=a.toList.drop i:=by
 rw[Ab,Bx,Aw (by rw[yU,i4];exact ig _)]
def GI(a:Array Keyed)(i k:Nat):(a.extract i (i+k)).toList=(a.toList.drop i).take k:=by
 rw[Ab,Bx,A7]
def yX:(oW a b out ia ib).toList=out.toList++a.toList.drop ia++b.toList.drop ib:=by
 rw[pV,pV,BI,BI]
def Bc:(sE a b out ia ib).toList=out.toList++b.toList.drop ib++a.toList.drop ia:=by
 rw[pV,pV,BI,BI]
def C3{i:Nat}(h:i<a.size):a.toList.drop i=a.getD i d0::a.toList.drop (i+1):=by
 have z:=t7 h;rw[<-mF]at z;obtain⟨b,c⟩:=ik.mp z;rw[Am b,c]
def BN{i:Nat}{x:Keyed}(h:x∈a.toList.drop i):∃j,i<=j/\j<a.size/\a.getD j d0=x:=by
 obtain⟨j,b⟩:=AR h;rw[yc,mF]at b;exact#[i+j,(),(ni.mp b).1,xN b]
def Dq{i k:Nat}{x:Keyed}(h:x∈(a.toList.drop i).take k):∃j,j<k/\i+j<a.size/\a.getD (i+j) d0=x:=by
 obtain⟨j,b⟩:=AR h;rw[C7]at b;split at b
 .next l=>
  rw[yc,mF]at b;exact#[j,l,(ni.mp b).1,xN b]
 .cases b
def wN{lo b:Nat}(h:Up r a.toList)(l:b<=a.size):Ris r a lo b:=λi j _ c m=>by
 have e:∀k,k<a.size->a.toList[k]?=some (a.getD k d0):=λk d=>by rw[mF];exact t7 d
 obtain⟨l1,f⟩:=ik.mp (e i ());obtain⟨l2,g⟩:=ik.mp (e j ());have z:=pT.mp h i j l1 l2 c;rw[f,g]at z;exact z
def mU{i:Nat}(h:i<a.size):a.getD i d0∈a.toList:=by
 rw[Di];exact Ej (t7 h)
structure Two(κ:SortKind)(r:Keyed->Int)(a₀ a b:Array Keyed):Prop where
 ma:∀x∈a.toList,x∈a₀
 mb:∀x∈b.toList,x∈a₀
 sa:Up r a.toList
 sb:Up r b.toList
 ap:∀x∈a.toList,∀y∈b.toList,r x≠r y
 a1:0<a.size
 b1:0<b.size
 lo:∀x∈a.toList,r (b.getD 0 d0)<r x
 top:∀y∈b.toList,r y<r (a.getD (a.size-1) d0)
abbrev Gd(r:Keyed->Int)(a b m:Array Keyed):Prop:=lK r a.toList b.toList m.toList
def Two.tops(t:Two κ r a₀ a b){i:Nat}(h:i+1=a.size):∀y∈b.toList,∀x∈a.toList.drop i,r y<r x:=λy c x d=>by
 obtain⟨j,f,g,rfl⟩:=BN d;have e:j=a.size-1:=by lia
 subst e;exact t.top y c
def Bb{x:Keyed}:(out.push x).toList=out.toList++[x]:=xt
def FQ(t:Two κ r a₀ a b)(m:Mg r a.toList b.toList out.toList ia ib)(c:ia<a.size)(h:∀y∈b.toList.drop ib,r (a.getD ia d0)<r y):Mg r a.toList b.toList (out.push (a.getD ia d0)).toList (ia+1) ib:=by
 have e:(a.toList.drop ia).take 1=[a.getD ia d0]:=by rw[C3 c];rfl
 have z:=m.moveA t.sa 1 (by rw[e];intro x d;rw[iE.mp d];exact h);rw[e]at z;rw[Bb];exact z
def Dv(t:Two κ r a₀ a b)(m:Mg r a.toList b.toList out.toList ia ib)(c:ib<b.size)(h:∀y∈a.toList.drop ia,r (b.getD ib d0)<r y):Mg r a.toList b.toList (out.push (b.getD ib d0)).toList ia (ib+1):=by
 have e:(b.toList.drop ib).take 1=[b.getD ib d0]:=by rw[C3 c];rfl
 have z:=m.moveB t.sb 1 (by rw[e];intro x d;rw[iE.mp d];exact h);rw[e]at z;rw[Bb];exact z
def below{x:Int}{i:Nat}(b:Up r a.toList)(f:i<a.size)(h:x<r (a.getD i d0)):∀y∈a.toList.drop i,x<r y:=λy c=>by
 obtain⟨j,g,d,rfl⟩:=BN c;by_cases e:j=i
 .subst e;exact h
 .have:=wN (lo:=0) b (ig _) i j (mC _) () d;show x<kx r a j;have:x<kx r a i:=h;lia
def Jb{e:SortSt}{mg old t:Nat}{c:T6}{st:SortSt}{Q:ForInStep T6->SortSt->Prop}(K:Asks M A s κ r a₀)(T:Two κ r a₀ a b)(n:Eqv e st)(o:kindOf e=κ)(p:c=(none,out,ia,ib,c.2.2.2.2.1,c.2.2.2.2.2))(m:Mg r a.toList b.toList out.toList ia ib)(q:ia+1<a.size)(d:ib<b.size)(B:old+t<=out.size)(k:∀w rest,Gd r a b w->Q (.done (some w,rest)) st) (l:∀out ia ib x y,Mg r a.toList b.toList out.toList ia ib->ia+1<a.size->ib<b.size->old+t+1<=out.size->Q (.done (none,out,ia,ib,x,y)) st/\Q (.yield (none,out,ia,ib,x,y)) st):wpS M A E s (D3 a b mg c) Q st:=by
 have h:=n.kind.trans o;unfold D3;rw[p];dsimp only;have u:=T.ma _ (mU (show ia<a.size by lia));have v:=T.mb _ (mU d);refine io (mi d (io (mi () (io (yf K h v u ?_)))));by_cases w:r (b.getD ib d0)<r (a.getD ia d0)
 .rw[i0 w];refine io (mi d ?_);have f:=Dv T m d (below T.sa () w);by_cases z:ib+1=b.size
  .rw[wB (by simpa using z)];refine iA (k _ _ ?_);show lK r _ _ (oW a b _ _ _).toList
   rw[yX];exact f.endB T.sa (by rw[i4];lia)
  .rw[wA (by simpa using z)];obtain⟨i,j⟩:=l _ _ _ 0 (c.2.2.2.2.2+1) f q () (by rw[tv];lia);by_cases g:c.2.2.2.2.2+1>=mg
   .rw[wB g];exact iA i
   .rw[wA g];exact iA j
 .rw[j9 w];refine io (mi () ?_);have C:=T.ap _ (mU (show ia<a.size by lia)) _ (mU d);have f:=FQ T m () (below T.sb d ());by_cases z:ia+1+1=a.size
  .rw[wB (by simpa using z)];refine iA (k _ _ ?_);show lK r _ _ (sE a b _ _ _).toList
   rw[Bc];exact f.last T.sb (by rw[i4];lia) (T.tops ())
  .rw[wA (by simpa using z)];obtain⟨i,j⟩:=l _ _ _ (c.2.2.2.2.1+1) 0 f () d (by rw[tv];lia);by_cases g:c.2.2.2.2.1+1>=mg
   .rw[wB g];exact iA i
   .rw[wA g];exact iA j
end
section
variable{M:Model}{A:Ar}{E:VP}{s:Sh}{κ:SortKind}{r:Keyed->Int}{a₀ a b out:Array Keyed}{ia ib:Nat}
structure Rnd(r:Keyed->Int)(a b:Array Keyed)(st0:SortSt)(old:Nat)(Q:ForInStep T7->SortSt->Prop):Prop where
 q1:∀st w rest,Eqv st0 st->Gd r a b w->Q (.done (some w,rest)) st
 q2:∀st (out:Array Keyed) ia ib x y z,Eqv st0 st->Mg r a.toList b.toList out.toList ia ib->ia+1<a.size->ib<b.size->old<=out.size->Q (.done (none,out,ia,ib,x,y,z)) st/\Q (.yield (none,out,ia,ib,x,y,z)) st
def HD{c st:SortSt}{mg k k1 old:Nat}{Q:ForInStep T7->SortSt->Prop}(T:Two κ r a₀ a b)(d:Eqv c st)(m:Mg r a.toList b.toList out.toList ia ib)(j:ia+1<a.size)(f:ib<b.size)(l:old<=out.size)(lt:∀y∈b.toList.drop ib,r (a.getD ia d0)<r y)(q:Rnd r a b c old Q):wpS M A E s (sk a b out ia ib mg k k1) Q st:=by
 unfold sk;refine io (mi () ?_);have e:=FQ T m () lt;by_cases z:ia+1+1=a.size
 .rw[wB (by simpa using z)];refine iA (q.q1 _ _ _ d ?_);show lK r _ _ (sE a b _ _ _).toList;rw[Bc];exact e.last T.sb (by rw[i4];lia) (T.tops ())
 .rw[wA (by simpa using z)];obtain⟨h,i⟩:=q.q2 st _ _ _ mg k k1 d e () f (by rw[tv];lia);by_cases g:(decide (k<7)&&decide (k1<7))=true
  .rw[wB g];exact iA h
  .rw[wA g];exact iA i
def HM{c st:SortSt}{mg k G old:Nat}{Q:ForInStep T7->SortSt->Prop}(K:Asks M A s κ r a₀)(H:kindOf c=κ)(T:Two κ r a₀ a b)(d:Eqv c st)(m:Mg r a.toList b.toList out.toList ia ib)(v:ia+1<a.size)(w:ib<b.size)(L:old<=out.size)(lt:∀y∈a.toList.drop ia,r (b.getD ib d0)<r y)(q:Rnd r a b c old Q):wpS M A E s (tp a b out ia ib mg k G) Q st:=by
 have o:=d.kind.trans H;unfold tp;refine io (mi w ?_);have n:=Dv T m w lt;have f:old<=(out.push (b.getD ib d0)).size:=by rw[tv];lia
 generalize out.push (b.getD ib d0)=h at n f;by_cases z:ib+1=b.size
 .rw[wB (by simpa using z)];refine iA (q.q1 _ _ _ d ?_);show lK r _ _ (oW a b _ _ _).toList;rw[yX];exact n.endB T.sa (by rw[i4];lia)
 rw[wA (by simpa using z)];have B:=mU (show ia<a.size by lia);refine io (mi () (io (xM K o () (λi I=>T.mb _ (mU ())) (T.ma _ B) (λi I=>(T.ap _ B _ (mU (show ib+1+i<b.size by lia))).symm) (wN T.sb ()) () λk1 N k2 k3=>?_)));dsimp only;have C:∀y∈b.toList.drop (ib+1+k1),r (a.getD ia d0)<r y:=λy p=>by
  obtain⟨j,l,D,rfl⟩:=BN p;have:=k3 (j-(ib+1)) (DK (Nat.add_comm .. ▸l)) (Nat.sub_lt_sub_right (i5 (tj ..) l) D);rw[r4 (i5 (tj ..) l)]at this;exact this
 by_cases g:k1>0
 .rw[wB g];have t:=n.moveB T.sb k1 (λx J y p=>by
   obtain⟨j,l,D,rfl⟩:=Dq J;exact below T.sa () (k2 j l) y p)
  rw[<-GI,<-pV]at t;have u:old<=(h++b.extract (ib+1) (ib+1+k1)).size:=by rw[Ap];lia
  by_cases z2:ib+1+k1=b.size
  .rw[wB (by simpa using z2)];refine iA (q.q1 _ _ _ d ?_);show lK r _ _ (oW a b _ _ _).toList
   rw[yX];exact t.endB T.sa (by rw[i4];lia)
  .rw[wA (by simpa using z2)];exact HD T d t v () u C q
 .rw[wA g];have e:k1=0:=Nat.eq_zero_of_not_pos g;subst e;exact HD T d n v () f C q
def Fq{d st:SortSt}{c:T7}{mg old:Nat}{Q:ForInStep T7->SortSt->Prop}(K:Asks M A s κ r a₀)(o:kindOf d=κ)(T:Two κ r a₀ a b)(B:Eqv d st)(C:c.2.1=out/\c.2.2.1=ia/\c.2.2.2.1=ib)(m:Mg r a.toList b.toList out.toList ia ib)(D:ia+1<a.size)(f:ib<b.size)(G:old<=out.size)(q:Rnd r a b d old Q):wpS M A E s (ss a b c mg) Q st:=by
 obtain⟨H,I,J⟩:=C;unfold ss;rw[H,I,J];refine io (zV λL N=>?_);have h:=B.trans N;have p:=h.kind.trans o;have v:=mU f;refine io (mi f (io (xM K p () (λi O=>T.ma _ (mU ())) (T.mb _ v) (λi O=>T.ap _ (mU (show ia+i<a.size by lia)) _ v) (wN T.sa ()) () λk Y k2 k3=>?_)));dsimp only;have w:∀y∈a.toList.drop (ia+k),r (b.getD ib d0)<r y:=λy t=>by
  obtain⟨j,l,z,rfl⟩:=BN t;have:=k3 (j-ia) (DK (Nat.add_comm .. ▸l)) (Nat.sub_lt_sub_right (i5 (tj ..) l) z);rw[r4 (i5 (tj ..) l)]at this;exact this
 by_cases g:k>0
 .rw[wB g];have n:=m.moveA T.sa k (λx U y t=>by
   obtain⟨j,l,z,rfl⟩:=Dq U;exact below T.sb f (k2 j l) y t)
  rw[<-GI,<-pV]at n;have u:old<=(out++a.extract ia (ia+k)).size:=by rw[Ap];lia
  by_cases z1:ia+k+1=a.size
  .rw[wB (by simpa using z1)];refine iA (q.q1 _ _ _ h ?_);show lK r _ _ (sE a b _ _ _).toList
   rw[Bc];exact n.last T.sb (by rw[i4];lia) (T.tops ())
  rw[wA (by simpa using z1)];by_cases z2:ia+k=a.size
  .rw[wB (by simpa using z2)];refine iA (q.q1 _ _ _ h ?_);show lK r _ _ (oW a b _ _ _).toList
   rw[yX];exact n.endA T.sb (by rw[i4];lia)
  rw[wA (by simpa using z2)];exact HM K o T h n () f u w q
 .rw[wA g];have e:k=0:=Nat.eq_zero_of_not_pos g;subst e;exact HM K o T h m D f G w q
def Jq{d st:SortSt}{c:T7}{old:Nat}{Q:ForInStep T7->SortSt->Prop}(K:Asks M A s κ r a₀)(e:kindOf d=κ)(T:Two κ r a₀ a b)(f:Eqv d st)(g:c.2.1=out/\c.2.2.1=ia/\c.2.2.2.1=ib)(m:Mg r a.toList b.toList out.toList ia ib)(h:ia+1<a.size)(i:ib<b.size)(j:old<=out.size)(q:Rnd r a b d old Q):wpS M A E s (DI a b c) Q st:=by
 unfold DI;split
 .exact Fq K e T f g m h i j q
 .exact Fq K e T f g m h i j q
def JU{f st:SortSt}{c:T5}{Q:ForInStep T5->SortSt->Prop}{mg:Nat}(K:Asks M A s κ r a₀)(hk:kindOf f=κ)(T:Two κ r a₀ a b)(e0:Eqv f st)(ec:c=(none,out,ia,ib,mg))(m:Mg r a.toList b.toList out.toList ia ib)(ha:ia+1<a.size)(hb:ib<b.size)(q1:∀st w rest,Eqv f st->Gd r a b w->Q (.done (some w,rest)) st) (q2:∀st (k:Array Keyed) ia ib g,Eqv f st->Mg r a.toList b.toList k.toList ia ib->ia+1<a.size->ib<b.size->out.size+1<=k.size->Q (.yield (none,k,ia,ib,g)) st):wpS M A E s (C5 a b c) Q st:=by
 subst ec;unfold C5;dsimp only;have aa:0<a.size+b.size:=by lia
 refine io (n' (nP (I:=λx (c1:T6) d=>Eqv f d/\∃(o:Array Keyed) (i j u v:Nat),c1=(none,o,i,j,u,v)/\Mg r a.toList b.toList o.toList i j/\i+1<a.size/\j<b.size/\out.size+x<=o.size)
  (Q:=λc1 d=>Eqv f d/\((∃w rest,c1=(some w,rest)/\Gd r a b w)\/∃(o:Array Keyed) (i j u v:Nat),c1=(none,o,i,j,u,v)/\Mg r a.toList b.toList o.toList i j/\i+1<a.size/\j<b.size/\out.size+1<=o.size)) ?step ?stop #[e0,out,ia,ib,0,0,rZ,m,ha,hb,ig _]) ?post)
 case step=>
  rintro x c1 d _ hx ⟨p,o,i,j,u,v,rfl,z,B,C,h3⟩;refine Jb (old:=out.size) (t:=x) K T p hk rZ z B C h3 (λw rest g=>#[p,.inl #[w,rest,rZ,g]]) λD G H u' v' J l n q=>#[#[p,.inr #[D,G,H,u',v',rZ,J,l,n,()]],#[p,D,G,H,u',v',rZ,J,l,n,()]]
 case stop=>
  rintro c1 d ⟨p,o,i,j,u,v,rfl,z,B,C,h3⟩;exact#[p,.inr #[o,i,j,u,v,rZ,z,B,C,()]]
 case post=>
  rintro c1 d ⟨p,h⟩
  rcases h with⟨w,rest,rfl,g⟩|⟨o,i,j,u,v,rfl,z,B,C,h3⟩
  .exact iA (q1 _ _ _ p g)
  dsimp only;refine io (vJ (rJ #[rZ,?_]));refine io (n' (nP (I:=λx (c2:T7) d=>Eqv f d/\∃(o:Array Keyed) (i j u v w:Nat),c2=(none,o,i,j,u,v,w)/\Mg r a.toList b.toList o.toList i j/\i+1<a.size/\j<b.size/\out.size+1<=o.size)
   (Q:=λc2 d=>Eqv f d/\((∃w rest,c2=(some w,rest)/\Gd r a b w)\/∃(o:Array Keyed) (i j u v w:Nat),c2=(none,o,i,j,u,v,w)/\Mg r a.toList b.toList o.toList i j/\i+1<a.size/\j<b.size/\out.size+1<=o.size)) ?step2 ?stop2 #[p,o,i,j,mg+1,u,v,rZ,z,B,C,h3]) ?post2)
  case step2=>
   rintro x c2 L _ hx ⟨y,o,i,j,u,v,w,rfl,N,O,U,Y⟩;exact Jq K hk T y #[rZ,rZ,rZ] N O U Y #[λst w rest e g=>#[e,.inl #[w,rest,rZ,g]],λst D G H x' y' z' e J l n q=>#[#[e,.inr #[D,G,H,x',y',z',rZ,J,l,n,q]],#[e,D,G,H,x',y',z',rZ,J,l,n,q]]]
  case stop2=>
   rintro c2 L ⟨y,o,i,j,u,v,w,rfl,N,O,U,Y⟩;exact#[y,.inr #[o,i,j,u,v,w,rZ,N,O,U,Y]]
  case post2=>
   rintro c2 L ⟨y,h⟩
   rcases h with⟨w,rest,rfl,g⟩|⟨o,i,j,u,v,w,rfl,N,O,U,Y⟩
   .exact iA (q1 _ _ _ y g)
   .dsimp only;exact io (zV λab x3=>iA (q2 _ _ _ _ _ (y.trans x3) N O U Y))
def N9{st:SortSt}{Q:Array Keyed->SortSt->Prop}(K:Asks M A s κ r a₀)(v:kindOf st=κ)(T:Two κ r a₀ a b)(q:∀m d,Eqv st d->Gd r a b m->Q m d):wpS M A E s (Cb a b) Q st:=by
 rw[MG];unfold FC;refine io (vJ (rJ #[rZ,io (mi T.b1 ?_)]));have B:Mg r a.toList b.toList (#v[]:Array Keyed).toList 0 0:=#[by simp,List.Pairwise.nil,λx f=>(nomatch f),λx f=>(nomatch f)];have k:Mg r a.toList b.toList (#v[b.getD 0 d0]:Array Keyed).toList 0 1:=Dv (out:= #v[]) T B T.b1 (λy C=>T.lo y C);have a1:=T.a1;have U:=T.b1;by_cases z1:1=b.size
 .rw[wB (by simpa using z1)];refine iA (q _ _ (Eqv.refl _) ?_);show lK r _ _ (oW a b _ _ _).toList;rw[yX];exact k.endB T.sa (by rw[i4];lia)
 rw[wA (by simpa using z1)];by_cases z2:0+1=a.size
 .rw[wB (by simpa using z2)];refine iA (q _ _ (Eqv.refl _) ?_);show lK r _ _ (sE a b _ _ _).toList;rw[Bc];exact k.last T.sb (by rw[i4];lia) (T.tops ())
 rw[wA (by simpa using z2)];refine io (pZ (io (n' (nP (I:=λx (c:T5) d=>Eqv st d/\∃(o:Array Keyed) (i j g:Nat),c=(none,o,i,j,g)/\Mg r a.toList b.toList o.toList i j/\i+1<a.size/\j<b.size/\x+1<=o.size)
  (Q:=λc d=>Eqv st d/\∃w rest,c=(some w,rest)/\Gd r a b w) ?step ?stop #[Eqv.refl _,_,0,1,_,rZ,k,(),(),ig _]) ?post)))
 case step=>
  rintro x c d _ f ⟨h,o,i,j,g,rfl,l,t,u,D⟩;exact JU K v T h rZ l t u (λst w rest e g=>#[e,w,rest,rZ,g]) λd G H J L e N n p O=>#[e,G,H,J,L,rZ,N,n,p,()]
 case stop=>
  rintro c d ⟨h,o,i,j,g,rfl,l,t,u,D⟩;have z:=l.len (by rw[i4];lia) (by rw[i4];lia);rw[i4,i4,i4]at z
  exfalso
  lia
 case post=>
  rintro c d ⟨h,w,rest,rfl,g⟩;exact iA (q _ _ h g)
end
abbrev U5:Type:=Option (Array Keyed)×Nat×Nat×Array Keyed×Nat
abbrev U6:Type:=Option (Array Keyed)×Nat×Nat×Array Keyed×Nat×Nat
abbrev U7:Type:=Option (Array Keyed)×Nat×Nat×Array Keyed×Nat×Nat×Nat
section
variable(a b:Array Keyed)
abbrev pc(c:Array Keyed)(d e:Nat):Array Keyed:=a.extract 0 d++b.extract 0 e++c.reverse
abbrev sf(c:Array Keyed)(d e:Nat):Array Keyed:=b.extract 0 e++a.extract 0 d++c.reverse
def pe(mg:Nat)(c:U6):StateT SortSt Sem (ForInStep U6):=do
 let some d <-lt' (<-elem' b (c.2.2.1-1)) (<-elem' a (c.2.1-1))|pure (.done (some (pc a b c.2.2.2.1 c.2.1 c.2.2.1),c.2.1,c.2.2.1,c.2.2.2.1,c.2.2.2.2.1,c.2.2.2.2.2))
 if d then
  let x <-elem' a (c.2.1-1)
  if c.2.1-1==0 then pure (.done (some (pc a b (c.2.2.2.1.push x) (c.2.1-1) c.2.2.1),c.2.1-1,c.2.2.1,c.2.2.2.1.push x,c.2.2.2.2.1+1,0))
  else if c.2.2.2.2.1+1>=mg then pure (.done (none,c.2.1-1,c.2.2.1,c.2.2.2.1.push x,c.2.2.2.2.1+1,0))
  else pure (.yield (none,c.2.1-1,c.2.2.1,c.2.2.2.1.push x,c.2.2.2.2.1+1,0))
 else
  let x <-elem' b (c.2.2.1-1)
  if c.2.2.1-1==1 then pure (.done (some (sf a b (c.2.2.2.1.push x) c.2.1 (c.2.2.1-1)),c.2.1,c.2.2.1-1,c.2.2.2.1.push x,0,c.2.2.2.2.2+1))
  else if c.2.2.2.2.2+1>=mg then pure (.done (none,c.2.1,c.2.2.1-1,c.2.2.2.1.push x,0,c.2.2.2.2.2+1))
  else pure (.yield (none,c.2.1,c.2.2.1-1,c.2.2.2.1.push x,0,c.2.2.2.2.2+1))
def tz(d e:Nat)(c:Array Keyed)(mg k k1:Nat):StateT SortSt Sem (ForInStep U7):=do
 let x <-elem' a (d-1)
 if d-1==0 then pure (.done (some (pc a b (c.push x) (d-1) e),d-1,e,c.push x,mg,k,k1))
 else if k<7&&k1<7 then pure (.done (none,d-1,e,c.push x,mg,k,k1))
 else pure (.yield (none,d-1,e,c.push x,mg,k,k1))
def su(e d:Nat)(c:Array Keyed)(mg k f:Nat):StateT SortSt Sem (ForInStep U7):=do
 let y <-elem' b (d-1)
 if d-1==1 then pure (.done (some (sf a b (c.push y) e (d-1)),e,d-1,c.push y,mg,k,f))
 else do
  let some t <-uw true (<-elem' a (e-1)) b 0 (d-1) (d-1-1)|pure (.done (some (pc a b (c.push y) e (d-1)),e,d-1,c.push y,mg,k,f))
  if d-1-t>0 then
   if t==1 then pure (.done (some (sf a b (c.push y++(b.extract t (d-1)).reverse) e t),e,t,c.push y++(b.extract t (d-1)).reverse,mg,k,d-1-t))
   else if t==0 then pure (.done (some (pc a b (c.push y++(b.extract t (d-1)).reverse) e t),e,t,c.push y++(b.extract t (d-1)).reverse,mg,k,d-1-t))
   else tz a b e t (c.push y++(b.extract t (d-1)).reverse) mg k (d-1-t)
  else tz a b e (d-1) (c.push y) mg k (d-1-t)
def tm(c:U7)(mg:Nat):StateT SortSt Sem (ForInStep U7):=do
 wx mg
 let some t <-uw false (<-elem' b (c.2.2.1-1)) a 0 c.2.1 (c.2.1-1)|pure (.done (some (pc a b c.2.2.2.1 c.2.1 c.2.2.1),c.2.1,c.2.2.1,c.2.2.2.1,mg,c.2.2.2.2.2.1,c.2.2.2.2.2.2))
 if c.2.1-t>0 then
  if t==0 then pure (.done (some (pc a b (c.2.2.2.1++(a.extract t c.2.1).reverse) t c.2.2.1),t,c.2.2.1,c.2.2.2.1++(a.extract t c.2.1).reverse,mg,c.2.1-t,c.2.2.2.2.2.2))
  else su a b t c.2.2.1 (c.2.2.2.1++(a.extract t c.2.1).reverse) mg (c.2.1-t) c.2.2.2.2.2.2
 else su a b c.2.1 c.2.2.1 c.2.2.2.1 mg (c.2.1-t) c.2.2.2.2.2.2
def yB(c:U7):StateT SortSt Sem (ForInStep U7):=if c.2.2.2.2.1>1 then tm a b c (c.2.2.2.2.1-1)else tm a b c c.2.2.2.2.1
def C4(c:U5):StateT SortSt Sem (ForInStep U5):=do
 let c1 <-forIn [0:a.size+b.size] ((none,c.2.1,c.2.2.1,c.2.2.2.1,0,0):U6) λ_ c1=>pe a b c.2.2.2.2 c1
 match c1.1 with
 |some r=>pure (.done (some r,c1.2.1,c1.2.2.1,c1.2.2.2.1,c.2.2.2.2))
 | none=>do
  rule "list.sort.gallop"
  let c2 <-forIn [0:a.size+b.size] ((none,c1.2.1,c1.2.2.1,c1.2.2.2.1,c.2.2.2.2+1,c1.2.2.2.2.1,c1.2.2.2.2.2):U7) λ_ c2=>yB a b c2
  match c2.1 with
  |some r=>pure (.done (some r,c2.2.1,c2.2.2.1,c2.2.2.2.1,c2.2.2.2.2.1))
  |none=>do
   wx (c2.2.2.2.2.1+1)
   pure (.yield (none,c2.2.1,c2.2.2.1,c2.2.2.2.1,c2.2.2.2.2.1+1))
def HX:StateT SortSt Sem (Array Keyed):=do
 rule "list.sort.merge-hi"
 let x <-elem' a (a.size-1)
 if a.size-1==0 then pure (pc a b #v[x] (a.size-1) b.size)
 else if b.size==1 then pure (sf a b #v[x] (a.size-1) b.size)
 else do
  let st <-get
  let c <-forIn [0:a.size+b.size] ((none,a.size-1,b.size,#v[x],gallopOf st):U5) λ_ c=>C4 a b c
  match c.1 with
  |some r=>pure r
  |none=>unsupported "internal:list.sort.merge-bound"
def Nc:C8 a b=HX a b:=by
 refine jv (bind _) (funext λ_=>?_);refine jv (bind (elem' a (a.size-1))) (funext λx=>?_);refine ww rZ (λ_=>rfl) (λ_=>?_);refine ww rZ (λ_=>rfl) (λ_=>?_);refine jv (bind get) (funext λst=>?_);refine congr (jv bind (jv (forIn [0:a.size+b.size] _) (funext λu=>funext λc=>?_))) (funext λc=>?_)
 .refine congr (jv bind (jv (forIn [0:a.size+b.size] _) (funext λu=>funext λc1=>rfl))) (funext λc1=>?_);obtain⟨d,e,f,g,h,i⟩:=c1;cases d with
  |some d=>rfl
  | none=>
   refine jv (bind _) (funext λ_=>?_);refine congr (jv bind (jv (forIn [0:a.size+b.size] _) (funext λu=>funext λc2=>?_))) (funext λc2=>?_)
   .refine ww rZ (λ_=>?_) (λ_=>?_)
    .rfl
    .rfl
   .obtain⟨j,_⟩:=c2;cases j<;>rfl
 .obtain⟨r,_⟩:=c;cases r<;>rfl
end
structure Mh(r:Keyed->Int)(la lb out:List Keyed)(na nb:Nat):Prop where
 perm:(la.take na++lb.take nb++out.reverse).Perm (la++lb)
 so:Up r out.reverse
 ao:∀x∈la.take na,∀y∈out,r x<r y
 bo:∀x∈lb.take nb,∀y∈out,r x<r y
section
variable{r:Keyed->Int}{b a out:List Keyed}{f d:Nat}
def Hj{l:List Keyed}(h:Up r l){n t:Nat}(ht:t<=n):l.take t++(l.take n).drop t=l.take n/\Up r ((l.take n).drop t)/\∀x∈l.take t,∀y∈(l.take n).drop t,r x<r y:=by
 have e:l.take t++(l.take n).drop t=l.take n:=by
  have z:=oS t (l.take n);rwa[List.take_take,wR ht]at z
 have z:Up r (l.take n):=wI (wg n l) h;rw[<-e]at z;obtain⟨_,a,b⟩:=mR.mp z;exact#[e,a,b]
def Mh.len(m:Mh r b a out f d)(c:f<=b.length)(e:d<=a.length):f+d+out.length=b.length+a.length:=by
 have z:=m.perm.length_eq;rw[jk,jk,jk,mS,mS,List.length_reverse]at z;lia
def Mh.moveA(m:Mh r b a out f d)(l:Up r b){t:Nat}(ht:t<=f)(h:∀x∈a.take d,∀y∈(b.take f).drop t,r x<r y):Mh r b a (out++((b.take f).drop t).reverse) t d:=by
 obtain⟨e,u,c⟩:=Hj l ht;have sub:∀x∈b.take t,x∈b.take f:=λx g=>by rw[<-e];exact iN.mpr (.inl g)
 have i:∀x∈(b.take f).drop t,x∈b.take f:=λx g=>Bo g;have k:(out++((b.take f).drop t).reverse).reverse=(b.take f).drop t++out.reverse:=by rw[List.reverse_append,List.reverse_reverse]
 refine#[?_,?_,λx g y j=>?_,λx g y j=>?_]
 .rw[k];refine List.Perm.trans ?_ m.perm
  conv=>rhs;rw[<-e]
  rw[mD,mD,mD];refine zp _ ?_;rw[<-mD,<-mD];exact AX _ AE
 .rw[k];exact mR.mpr #[u,m.so,λx g y j=>m.ao x (i x g) y (rb.mp j)]
 .rcases iN.mp j with z|z
  .exact m.ao x (sub x g) y z
  .exact c x g y (rb.mp z)
 .rcases iN.mp j with z|z
  .exact m.bo x g y z
  .exact h x g y (rb.mp z)
def Mh.moveB(m:Mh r b a out f d)(l:Up r a){t:Nat}(ht:t<=d)(h:∀x∈b.take f,∀y∈(a.take d).drop t,r x<r y):Mh r b a (out++((a.take d).drop t).reverse) f t:=by
 obtain⟨e,u,c⟩:=Hj l ht;have sub:∀x∈a.take t,x∈a.take d:=λx g=>by rw[<-e];exact iN.mpr (.inl g)
 have i:∀x∈(a.take d).drop t,x∈a.take d:=λx g=>Bo g;have k:(out++((a.take d).drop t).reverse).reverse=(a.take d).drop t++out.reverse:=by rw[List.reverse_append,List.reverse_reverse]
 refine#[?_,?_,λx g y j=>?_,λx g y j=>?_]
 .rw[k];refine List.Perm.trans ?_ m.perm
  conv=>rhs;rw[<-e]
  rw[mD,mD,mD]
 .rw[k];exact mR.mpr #[u,m.so,λx g y j=>m.bo x (i x g) y (rb.mp j)]
 .rcases iN.mp j with z|z
  .exact m.ao x g y z
  .exact h x g y (rb.mp z)
 .rcases iN.mp j with z|z
  .exact m.bo x (sub x g) y z
  .exact c x g y (rb.mp z)
def Mh.endA(m:Mh r b a out f d)(c:Up r a)(h:f=0):lK r b a (b.take f++a.take d++out.reverse):=by
 refine#[m.perm,?_];subst h;rw[List.take_zero,DH];exact mR.mpr #[wI (wg d a) c,m.so,λx e y g=>m.bo x e y (rb.mp g)]
def Mh.endB(m:Mh r b a out f d)(c:Up r b)(h:d=0):lK r b a (b.take f++a.take d++out.reverse):=by
 refine#[m.perm,?_];subst h;rw[List.take_zero,mq];exact mR.mpr #[wI (wg f b) c,m.so,λx e y g=>m.ao x e y (rb.mp g)]
def Mh.first(m:Mh r b a out f d)(g:Up r b)(h:Up r a)(bot:∀y∈a.take d,∀x∈b,r y<r x):lK r b a (a.take d++b.take f++out.reverse):=by
 refine#[List.Perm.trans (AX _ AE) m.perm,?_];refine mR.mpr #[mR.mpr #[wI (wg d a) h,wI (wg f b) g,λy c x e=>bot y c x (uv e)],m.so,λx e y c=>?_]
 rcases iN.mp e with z|z
 .exact m.bo x z y (rb.mp c)
 .exact m.ao x z y (rb.mp c)
end
section
variable{M:Model}{A:Ar}{E:VP}{s:Sh}{κ:SortKind}{r:Keyed->Int}{a₀ a b out:Array Keyed}{na nb:Nat}
def A4(a:Array Keyed)(i:Nat):(a.extract 0 i).toList=a.toList.take i:=by
 rw[Ab,Bx,List.drop_zero,Nat.sub_zero]
def B8(a:Array Keyed)(t n:Nat):(a.extract t n).toList=(a.toList.take n).drop t:=by
 rw[Ab,Bx,List.drop_take]
def yG:(pc a b out na nb).toList=a.toList.take na++b.toList.take nb++out.toList.reverse:=by
 rw[pV,pV,A4,A4,zZ]
def Bs:(sf a b out na nb).toList=b.toList.take nb++a.toList.take na++out.toList.reverse:=by
 rw[pV,pV,A4,A4,zZ]
def Br{n:Nat}{x:Keyed}(h:x∈a.toList.take n):∃j,j<n/\j<a.size/\a.getD j d0=x:=by
 obtain⟨j,d,b,c⟩:=Dq (i:=0) (k:=n) (by rw[List.drop_zero];exact h);rw[vg]at b c;exact#[j,d,b,c]
def AU{t n:Nat}{x:Keyed}(h:x∈(a.toList.take n).drop t):∃j,t<=j/\j<n/\j<a.size/\a.getD j d0=x:=by
 obtain⟨j,b⟩:=AR h;rw[yc,C7]at b;split at b
 .next l=>
  rw[mF]at b;exact#[t+j,(),l,(ni.mp b).1,xN b]
 .cases b
def Ay{n:Nat}(h:n<a.size):(a.toList.take (n+1)).drop n=[a.getD n d0]:=by
 rw[List.drop_take,C3 h,A7];rfl
def AS{x:Int}{n:Nat}(b:Up r a.toList)(c:n<a.size)(h:r (a.getD n d0)<x):∀y∈a.toList.take (n+1),r y<x:=λy d=>by
 obtain⟨j,f,g,rfl⟩:=Br d;by_cases e:j=n
 .subst e;exact h
 .have:=wN (lo:=0) b (ig _) j n (mC _) () c;show kx r a j<x;have:kx r a n<x:=h;lia
def C9(t:Two κ r a₀ a b)(m:Mh r a.toList b.toList out.toList (na+1) nb)(c:na<a.size)(h:∀y∈b.toList.take nb,r y<r (a.getD na d0)):Mh r a.toList b.toList (out.push (a.getD na d0)).toList na nb:=by
 have z:=m.moveA t.sa (t:=na) (vp _) (by rw[Ay c];intro x d y e;rw[iE.mp e];exact h x d);rw[Ay c]at z;rw[Bb];exact z
def Hi(t:Two κ r a₀ a b)(m:Mh r a.toList b.toList out.toList na (nb+1))(c:nb<b.size)(h:∀y∈a.toList.take na,r y<r (b.getD nb d0)):Mh r a.toList b.toList (out.push (b.getD nb d0)).toList na nb:=by
 have z:=m.moveB t.sb (t:=nb) (vp _) (by rw[Ay c];intro x d y e;rw[iE.mp e];exact h x d);rw[Ay c]at z;rw[Bb];exact z
def Two.bot(t:Two κ r a₀ a b):∀y∈b.toList.take 1,∀x∈a.toList,r y<r x:=λy c x d=>by
 obtain⟨j,f,g,rfl⟩:=Br c;have e:j=0:=by lia
 subst e;exact t.lo x d
def JK{h:SortSt}{mg old t:Nat}{c:U6}{st:SortSt}{Q:ForInStep U6->SortSt->Prop}(K:Asks M A s κ r a₀)(T:Two κ r a₀ a b)(p:Eqv h st)(q:kindOf h=κ)(u:c=(none,na+1,nb+2,out,c.2.2.2.2.1,c.2.2.2.2.2))(m:Mh r a.toList b.toList out.toList (na+1) (nb+2))(d:na<a.size)(e:nb+1<b.size)(C:old+t<=out.size)(n:∀w rest,Gd r a b w->Q (.done (some w,rest)) st) (o:∀na nb (out:Array Keyed) x y,Mh r a.toList b.toList out.toList (na+1) (nb+2)->na<a.size->nb+1<b.size->old+t+1<=out.size->Q (.done (none,na+1,nb+2,out,x,y)) st/\Q (.yield (none,na+1,nb+2,out,x,y)) st):wpS M A E s (pe a b mg c) Q st:=by
 have j:=p.kind.trans q;unfold pe;rw[u];dsimp only;have v:=T.ma _ (mU d);have B:=T.mb _ (mU e);rw[show nb+2-1=nb+1 by lia,show na+1-1=na by lia];refine io (mi e (io (mi d (io (yf K j B v ?_)))));by_cases w:r (b.getD (nb+1) d0)<r (a.getD na d0)
 .rw[i0 w];refine io (mi d ?_);have i:=C9 T m d (AS T.sb e w);by_cases z:na=0
  .rw[wB (by simpa using z)];refine iA (n _ _ ?_);show lK r _ _ (pc a b _ _ _).toList
   rw[yG];exact i.endA T.sb z
  .rw[wA (by simpa using z)];obtain⟨f,rfl⟩:∃f,na=f+1:=sw (by first|assumption|lia);obtain⟨k,l⟩:=o f nb _ (c.2.2.2.2.1+1) 0 i () e (by rw[tv];lia);by_cases g:c.2.2.2.2.1+1>=mg
   .rw[wB g];exact iA k
   .rw[wA g];exact iA l
 .rw[j9 w];refine io (mi e ?_);have D:=T.ap _ (mU d) _ (mU e);have i:=Hi T m e (AS T.sa d ());by_cases z:nb+1=1
  .rw[wB (by simpa using z)];refine iA (n _ _ ?_);show lK r _ _ (sf a b _ _ _).toList
   rw[Bs];exact i.first T.sa T.sb (by rw[z];exact T.bot)
  .rw[wA (by simpa using z)];obtain⟨f,rfl⟩:∃f,nb=f+1:=sw (by first|assumption|lia);obtain⟨k,l⟩:=o na f _ 0 (c.2.2.2.2.2+1) i d () (by rw[tv];lia);by_cases g:c.2.2.2.2.2+1>=mg
   .rw[wB g];exact iA k
   .rw[wA g];exact iA l
structure RndH(r:Keyed->Int)(a b:Array Keyed)(st0:SortSt)(old:Nat)(Q:ForInStep U7->SortSt->Prop):Prop where
 q1:∀st w rest,Eqv st0 st->Gd r a b w->Q (.done (some w,rest)) st
 q2:∀st na nb (out:Array Keyed) x y z,Eqv st0 st->Mh r a.toList b.toList out.toList (na+1) (nb+2)->na<a.size->nb+1<b.size->old<=out.size->Q (.done (none,na+1,nb+2,out,x,y,z)) st/\Q (.yield (none,na+1,nb+2,out,x,y,z)) st
def Gc{c st:SortSt}{mg k k1 old:Nat}{Q:ForInStep U7->SortSt->Prop}(T:Two κ r a₀ a b)(e:Eqv c st)(m:Mh r a.toList b.toList out.toList (na+1) (nb+2))(f:na<a.size)(i:nb+1<b.size)(n:old<=out.size)(lt:∀y∈b.toList.take (nb+2),r y<r (a.getD na d0))(q:RndH r a b c old Q):wpS M A E s (tz a b (na+1) (nb+2) out mg k k1) Q st:=by
 unfold tz;rw[show na+1-1=na by lia];refine io (mi f ?_);have h:=C9 T m f lt;by_cases z:na=0
 .rw[wB (by simpa using z)];refine iA (q.q1 _ _ _ e ?_);show lK r _ _ (pc a b _ _ _).toList;rw[yG];exact h.endA T.sb z
 .rw[wA (by simpa using z)];obtain⟨d,rfl⟩:∃d,na=d+1:=sw (by first|assumption|lia);obtain⟨j,l⟩:=q.q2 st d nb _ mg k k1 e h () i (by rw[tv];lia);by_cases g:(decide (k<7)&&decide (k1<7))=true
  .rw[wB g];exact iA j
  .rw[wA g];exact iA l
def Ge{c st:SortSt}{mg k H old:Nat}{Q:ForInStep U7->SortSt->Prop}(K:Asks M A s κ r a₀)(I:kindOf c=κ)(T:Two κ r a₀ a b)(d:Eqv c st)(m:Mh r a.toList b.toList out.toList (na+1) (nb+2))(f:na<a.size)(C:nb+1<b.size)(O:old<=out.size)(lt:∀y∈a.toList.take (na+1),r y<r (b.getD (nb+1) d0))(q:RndH r a b c old Q):wpS M A E s (su a b (na+1) (nb+2) out mg k H) Q st:=by
 have u:=d.kind.trans I;unfold su;rw[show nb+2-1=nb+1 by lia,show na+1-1=na by lia];refine io (mi C ?_);have o:=Hi T m C lt;have h:old<=(out.push (b.getD (nb+1) d0)).size:=by rw[tv];lia
 generalize out.push (b.getD (nb+1) d0)=l at o h;by_cases z:nb+1=1
 .rw[wB (by simpa using z)];refine iA (q.q1 _ _ _ d ?_);show lK r _ _ (sf a b _ _ _).toList;rw[Bs];exact o.first T.sa T.sb (by rw[z];exact T.bot)
 rw[wA (by simpa using z)];have D:=mU f;refine io (mi f (io (xM K u () (λi J=>T.mb _ (mU ())) (T.ma _ D) (λi J=>(T.ap _ D _ (mU (show 0+i<b.size by lia))).symm) (wN T.sb ()) () λt U k2 k3=>?_)));dsimp only;have G:∀y∈b.toList.take t,r y<r (a.getD na d0):=λy v=>by
  obtain⟨j,w,L,rfl⟩:=Br v;have:=k2 j w;rw[vg]at this;exact this
 by_cases g:nb+1-t>0
 .rw[wB g];have p:=o.moveB T.sb (t:=t) () (λx N y v=>by
   obtain⟨j,w,L,Y,rfl⟩:=AU v;have:=k3 j w ()
   rw[vg]at this;exact AS T.sa f this x N)
  rw[<-B8,<-zZ,<-pV]at p;have B:old<=(l++(b.extract t (nb+1)).reverse).size:=by rw[Ap];lia
  by_cases z1:t=1
  .rw[wB (by simpa using z1)];refine iA (q.q1 _ _ _ d ?_);show lK r _ _ (sf a b _ _ _).toList
   rw[Bs];exact p.first T.sa T.sb (by rw[z1];exact T.bot)
  rw[wA (by simpa using z1)];by_cases z2:t=0
  .rw[wB (by simpa using z2)];refine iA (q.q1 _ _ _ d ?_);show lK r _ _ (pc a b _ _ _).toList
   rw[yG];exact p.endB T.sa z2
  rw[wA (by simpa using z2)];obtain⟨n,rfl⟩:∃n,t=n+2:=#[t-2,()];exact Gc T d p f () B G q
 .rw[wA g];have e:t=nb+1:=by lia
  obtain⟨n,rfl⟩:∃n,nb=n+1:=sw (by first|assumption|lia);subst e;exact Gc T d o f () h G q
def HC{d st:SortSt}{c:U7}{mg old:Nat}{Q:ForInStep U7->SortSt->Prop}(K:Asks M A s κ r a₀)(k:kindOf d=κ)(T:Two κ r a₀ a b)(B:Eqv d st)(C:c.2.1=na+1/\c.2.2.1=nb+2/\c.2.2.2.1=out)(m:Mh r a.toList b.toList out.toList (na+1) (nb+2))(D:na<a.size)(f:nb+1<b.size)(G:old<=out.size)(q:RndH r a b d old Q):wpS M A E s (tm a b c mg) Q st:=by
 obtain⟨H,I,J⟩:=C;unfold tm;rw[H,I,J];rw[show nb+2-1=nb+1 by lia,show na+1-1=na by lia];refine io (zV λL N=>?_);have h:=B.trans N;have l:=h.kind.trans k;have v:=mU f;refine io (mi f (io (xM K l () (λi O=>T.ma _ (mU ())) (T.mb _ v) (λi O=>T.ap _ (mU (show 0+i<a.size by lia)) _ v) (wN T.sa ()) () λt kn k2 k3=>?_)));dsimp only;have w:∀y∈a.toList.take t,r y<r (b.getD (nb+1) d0):=λy n=>by
  obtain⟨j,o,U,rfl⟩:=Br n;have:=k2 j o;rw[vg]at this;exact this
 by_cases g:na+1-t>0
 .rw[wB g];have p:=m.moveA T.sa (t:=t) () (λx Y y n=>by
   obtain⟨j,o,U,h3,rfl⟩:=AU n;have:=k3 j o ()
   rw[vg]at this;exact AS T.sb f this x Y)
  rw[<-B8,<-zZ,<-pV]at p;have u:old<=(out++(a.extract t (na+1)).reverse).size:=by rw[Ap];lia
  by_cases z2:t=0
  .rw[wB (by simpa using z2)];refine iA (q.q1 _ _ _ h ?_);show lK r _ _ (pc a b _ _ _).toList
   rw[yG];exact p.endA T.sb z2
  rw[wA (by simpa using z2)];obtain⟨z,rfl⟩:∃z,t=z+1:=sw (by first|assumption|lia);exact Ge K k T h p () f u w q
 .rw[wA g];have e:t=na+1:=by lia
  subst e;exact Ge K k T h m D f G w q
def Km{d st:SortSt}{c:U7}{old:Nat}{Q:ForInStep U7->SortSt->Prop}(K:Asks M A s κ r a₀)(e:kindOf d=κ)(T:Two κ r a₀ a b)(f:Eqv d st)(g:c.2.1=na+1/\c.2.2.1=nb+2/\c.2.2.2.1=out)(m:Mh r a.toList b.toList out.toList (na+1) (nb+2))(h:na<a.size)(i:nb+1<b.size)(j:old<=out.size)(q:RndH r a b d old Q):wpS M A E s (yB a b c) Q st:=by
 unfold yB;split
 .exact HC K e T f g m h i j q
 .exact HC K e T f g m h i j q
def Mc{f st:SortSt}{c:U5}{Q:ForInStep U5->SortSt->Prop}{mg:Nat}(K:Asks M A s κ r a₀)(hk:kindOf f=κ)(T:Two κ r a₀ a b)(e0:Eqv f st)(ec:c=(none,na+1,nb+2,out,mg))(m:Mh r a.toList b.toList out.toList (na+1) (nb+2))(ha:na<a.size)(hb:nb+1<b.size)(q1:∀st w rest,Eqv f st->Gd r a b w->Q (.done (some w,rest)) st) (q2:∀st na nb (k:Array Keyed) g,Eqv f st->Mh r a.toList b.toList k.toList (na+1) (nb+2)->na<a.size->nb+1<b.size->out.size+1<=k.size->Q (.yield (none,na+1,nb+2,k,g)) st):wpS M A E s (C4 a b c) Q st:=by
 subst ec;unfold C4;dsimp only;have aa:0<a.size+b.size:=by lia
 refine io (n' (nP (I:=λx (c1:U6) d=>Eqv f d/\∃(i j:Nat) (o:Array Keyed) (u v:Nat),c1=(none,i+1,j+2,o,u,v)/\Mh r a.toList b.toList o.toList (i+1) (j+2)/\i<a.size/\j+1<b.size/\out.size+x<=o.size)
  (Q:=λc1 d=>Eqv f d/\((∃w rest,c1=(some w,rest)/\Gd r a b w)\/∃(i j:Nat) (o:Array Keyed) (u v:Nat),c1=(none,i+1,j+2,o,u,v)/\Mh r a.toList b.toList o.toList (i+1) (j+2)/\i<a.size/\j+1<b.size/\out.size+1<=o.size)) ?step ?stop #[e0,na,nb,out,0,0,rZ,m,ha,hb,ig _]) ?post)
 case step=>
  rintro x c1 d _ hx ⟨p,i,j,o,u,v,rfl,z,B,C,h3⟩;refine JK (old:=out.size) (t:=x) K T p hk rZ z B C h3 (λw rest g=>#[p,.inl #[w,rest,rZ,g]]) λD G H u' v' J l n q=>#[#[p,.inr #[D,G,H,u',v',rZ,J,l,n,()]],#[p,D,G,H,u',v',rZ,J,l,n,()]]
 case stop=>
  rintro c1 d ⟨p,i,j,o,u,v,rfl,z,B,C,h3⟩;exact#[p,.inr #[i,j,o,u,v,rZ,z,B,C,()]]
 case post=>
  rintro c1 d ⟨p,h⟩
  rcases h with⟨w,rest,rfl,g⟩|⟨i,j,o,u,v,rfl,z,B,C,h3⟩
  .exact iA (q1 _ _ _ p g)
  dsimp only;refine io (vJ (rJ #[rZ,?_]));refine io (n' (nP (I:=λx (c2:U7) d=>Eqv f d/\∃(i j:Nat) (o:Array Keyed) (u v w:Nat),c2=(none,i+1,j+2,o,u,v,w)/\Mh r a.toList b.toList o.toList (i+1) (j+2)/\i<a.size/\j+1<b.size/\out.size+1<=o.size)
   (Q:=λc2 d=>Eqv f d/\((∃w rest,c2=(some w,rest)/\Gd r a b w)\/∃(i j:Nat) (o:Array Keyed) (u v w:Nat),c2=(none,i+1,j+2,o,u,v,w)/\Mh r a.toList b.toList o.toList (i+1) (j+2)/\i<a.size/\j+1<b.size/\out.size+1<=o.size)) ?step2 ?stop2 #[p,i,j,o,mg+1,u,v,rZ,z,B,C,h3]) ?post2)
  case step2=>
   rintro x c2 L _ hx ⟨y,i,j,o,u,v,w,rfl,N,O,U,Y⟩;exact Km K hk T y #[rZ,rZ,rZ] N O U Y #[λst w rest e g=>#[e,.inl #[w,rest,rZ,g]],λst D G H x' y' z' e J l n q=>#[#[e,.inr #[D,G,H,x',y',z',rZ,J,l,n,q]],#[e,D,G,H,x',y',z',rZ,J,l,n,q]]]
  case stop2=>
   rintro c2 L ⟨y,i,j,o,u,v,w,rfl,N,O,U,Y⟩;exact#[y,.inr #[i,j,o,u,v,w,rZ,N,O,U,Y]]
  case post2=>
   rintro c2 L ⟨y,h⟩
   rcases h with⟨w,rest,rfl,g⟩|⟨i,j,o,u,v,w,rfl,N,O,U,Y⟩
   .exact iA (q1 _ _ _ y g)
   .dsimp only;exact io (zV λab x3=>iA (q2 _ _ _ _ _ (y.trans x3) N O U Y))
def Md{st:SortSt}{Q:Array Keyed->SortSt->Prop}(K:Asks M A s κ r a₀)(H:kindOf st=κ)(T:Two κ r a₀ a b)(q:∀m d,Eqv st d->Gd r a b m->Q m d):wpS M A E s (C8 a b) Q st:=by
 rw[Nc];unfold HX;have a1:=T.a1;have b1:=T.b1;obtain⟨n,hn⟩:∃n,a.size=n+1:=sw (by first|assumption|lia);have C:a.size-1=n:=by lia
 rw[C];refine io (vJ (rJ #[rZ,io (mi () ?_)]));have J:Mh r a.toList b.toList (#v[]:Array Keyed).toList (n+1) b.size:=#[by rw[Aw (by rw[i4];lia),Aw (by rw[i4];exact ig _)];simp,List.Pairwise.nil,λx _ y f=>(nomatch f),λx _ y f=>(nomatch f)];have k:Mh r a.toList b.toList (#v[a.getD n d0]:Array Keyed).toList n b.size:=C9 (out:= #v[]) T J () (λy f=>by have:=T.top y (uv f);rw[C]at this;exact this);by_cases z1:n=0
 .rw[wB (by simpa using z1)];refine iA (q _ _ (Eqv.refl _) ?_);show lK r _ _ (pc a b _ _ _).toList;rw[yG];exact k.endA T.sb z1
 rw[wA (by simpa using z1)];by_cases z2:b.size=1
 .rw[wB (by simpa using z2)];refine iA (q _ _ (Eqv.refl _) ?_);show lK r _ _ (sf a b _ _ _).toList;rw[Bs];exact k.first T.sa T.sb (by rw[z2];exact T.bot)
 rw[wA (by simpa using z2)];obtain⟨p,rfl⟩:∃p,n=p+1:=sw (by first|assumption|lia);obtain⟨t,h⟩:∃t,b.size=t+2:=#[b.size-2,()];rw[h]at k;refine io (pZ (io (n' (nP (I:=λx (c:U5) d=>Eqv st d/\∃(i j:Nat) (o:Array Keyed) (g:Nat),c=(none,i+1,j+2,o,g)/\Mh r a.toList b.toList o.toList (i+1) (j+2)/\i<a.size/\j+1<b.size/\x+1<=o.size)
  (Q:=λc d=>Eqv st d/\∃w rest,c=(some w,rest)/\Gd r a b w) ?step ?stop #[Eqv.refl _,p,t,_,_,by rw[h],k,(),(),ig _]) ?post)))
 case step=>
  rintro x c d _ hx ⟨l,i,j,o,g,rfl,u,D,G,L⟩;exact Mc K H T l rZ u D G (λst w rest e g=>#[e,w,rest,rZ,g]) λd N O U Y e m' v B aa=>#[e,N,O,U,Y,rZ,m',v,B,()]
 case stop=>
  rintro c d ⟨l,i,j,o,g,rfl,u,D,G,L⟩;have z:=u.len (by rw[i4];lia) (by rw[i4];lia);rw[i4,i4,i4]at z
  exfalso
  lia
 case post=>
  rintro c d ⟨l,w,rest,rfl,g⟩;exact iA (q _ _ l g)
end
def KY(i:Nat):mergeAt' i=(do
 let s <-get
 let(some (b,c,d),some (f,e,_)):=((pendingOf s)[i]?,(pendingOf s)[i+1]?)|unsupported "internal:list.sort.pending"
 set (setPending s (((pendingOf s).setIfInBounds i (b,c+e,d)).eraseIdxIfInBounds (i+1)))
 let some k <-uw false (<-elem' (arrOf s) f) (arrOf s) b c 0|return false
 let(b,c):=(b+k,c-k)
 if c==0 then return true
 let some e <-uw true (<-elem' (arrOf s) (b+c-1)) (arrOf s) f e (e-1)|return false
 if e==0 then return true
 let x:=(arrOf s).extract b f
 let y:=(arrOf s).extract f (f+e)
 let merged <-if c<=e then Cb x y else C8 x y
 modify λs=>setArr s (merged.toList.zipIdx.foldl (λa (p,j)=>a.setIfInBounds (b+j) p) (arrOf s))
 return (failedOf (<-get)).isNone):=rfl
section
variable{M:Model}{A:Ar}{E:VP}{s:Sh}{g:SortKind}{r:Keyed->Int}{d xs f:Array Keyed}
def NZ{st a:SortSt}{Q:PUnit->SortSt->Prop}(h:Q ⟨⟩ a):wpS M A E s (set a:StateT SortSt Sem PUnit) Q st:=by
 unfold wpS;rw[StateT.run_set];exact hI #[rZ,h]
theorem laid:∀(c:List Keyed) (j b:Nat) (xs:Array Keyed),b+j+c.length<=xs.size->((c.zipIdx j).foldl (λa (p,j)=>a.setIfInBounds (b+j) p) xs).toList=xs.toList.take (b+j)++c++xs.toList.drop (b+j+c.length)
 | [],j,b,xs,_=>by
  rw[mq,Ac,zg];exact(oS _ _).symm
 | m::c,j,b,xs,h=>by
  rw[oo]at h;rw[List.zipIdx_cons,tc,laid c (j+1) b _ (by rw[Array.size_setIfInBounds];lia),Cr,oo];have d:b+j<xs.toList.length:=by rw[i4];lia
  have e:(xs.toList.set (b+j) m).take (b+(j+1))=xs.toList.take (b+j)++[m]:=by
   rw[show b+(j+1)=b+j+1 by lia,List.take_succ_eq_append_getElem (by rw[vw];exact d),List.getElem_set_self,List.take_set_of_le (ig _)]
  have f:(xs.toList.set (b+j) m).drop (b+(j+1)+c.length)=xs.toList.drop (b+j+(c.length+1)):=by
   rw[List.drop_set_of_lt ()]
   congr 1
   lia
  rw[e,f,mD,mD,mD];rfl
def AI(xs:Array Keyed)(t n:Nat):(xs.extract t n).toList=(xs.toList.take n).drop t:=B8 xs t n
def A2{t n:Nat}(h:n<=xs.size):(xs.extract t n).size=n-t:=by rw[Array.size_extract];lia
def DG{t n i:Nat}(h:n<=xs.size)(a:t+i<n):(xs.extract t n).getD i d0=xs.getD (t+i) d0:=by
 refine sv ?_;rw[Array.getElem?_extract,wB ()]
def EJ{l:List Keyed}{f:Array Keyed}(h:f.toList=l)(i:Nat):f[i]?=l[i]? :=by rw[<-h,mF]
def Jr{st:SortSt}{i b o pw Y L ag:Nat}{Q:Bool->SortSt->Prop}(K:Asks M A s g r d)(B:StOk g d st)(h1:(pendingOf st)[i]?=some (b,o,pw))(h2:(pendingOf st)[i+1]?=some (Y,L,ag))(es:Y=b+o)(aq:1<=o)(ar:1<=L)(hz:Y+L<=d.size)(N:Ris r (arrOf st) b (b+o)) (O:Ris r (arrOf st) Y (Y+L))(q:∀u,StOk g d u->pendingOf u=((pendingOf st).setIfInBounds i (b,o+L,pw)).eraseIdxIfInBounds (i+1)->Out (arrOf st) (arrOf u) b (Y+L)->Ris r (arrOf u) b (Y+L)->Q true u):wpS M A E s (mergeAt' i) Q st:=by
 have sz:=ux B.perm;subst es;rw[KY];refine io (pZ ?_);rw[h1,h2];dsimp only;refine io (NZ ?_);generalize hP:((pendingOf st).setIfInBounds i (b,o+L,pw)).eraseIdxIfInBounds (i+1)=P at q|-;have B1:StOk g d (setPending st P):=#[B.kind,B.perm,B.ok];generalize D:arrOf st=xs at N O q sz|-;have pm:xs.Perm d:=D▸B.perm;have mem:∀j,j<d.size->xs.getD j d0∈d:=λj H=>BV pm H;have ap:∀i j,i<d.size->j<d.size->i≠j->kx r xs i≠kx r xs j:=λi j hi H ij=>K.apart pm hi H ij;refine io (mi () (io (xM K B1.kind () (λj H=>mem _ ()) (mem _ ()) (λj H=>ap _ _ () () ()) N () λk kn k2 k3=>?_)));dsimp only;by_cases z0:o-k=0
 .rw[wB (by simpa using z0)];refine iA (q _ B1 rZ (by show Out xs (arrOf st) _ _;rw[D];exact Out.refl _ _ _) ?_);show Ris r (arrOf st) _ _;rw[D];intro i j w C G;by_cases c1:j<b+o
  .exact N i j w C c1
  by_cases c2:b+o<=i
  .exact O i j c2 C G
  have l1:=k2 (i-b) ();rw[r4 w]at l1;have l1:kx r xs i<kx r xs (b+o):=l1;by_cases c3:j=b+o
  .rw[c3];exact l1
  .exact yK l1 (O (b+o) j (ig _) (yl (Nat.not_lt.mp c1) (jq c3)) G)
 rw[wA (by simpa using z0)];have kl:k<o:=by lia
 clear z0;have dk:∀_:Unit,b+k+(o-k)=b+o:=λ_=>by lia
 rw[dk Unit.unit];refine io (mi () (io (xM K B1.kind () (λj H=>mem _ ()) (mem _ ()) (λj H=>ap _ _ () () ()) O () λv nn ah ae=>?_)));dsimp only;have bk:kx r xs (b+o)<kx r xs (b+k):=by
  have:=k3 k (ig _) ();exact this
 have aa:kx r xs (b+k)<=kx r xs (b+o-1):=by
  by_cases c:b+k=b+o-1
  .rw[c];exact Int.le_refl _
  .exact Int.le_of_lt (N (b+k) (b+o-1) () () ())
 have ai:v≠0:=λz=>by
  subst z;have:=ae 0 (ig _) ();rw[zg]at this;exact wC this (Int.not_lt.mpr (Int.le_trans (Int.le_of_lt bk) aa))
 rw[wA (by simpa using ai)];have sx:(xs.extract (b+k) (b+o)).size=o-k:=by rw[A2 ()];exact Nat.add_sub_add_left ..
 have sy:(xs.extract (b+o) (b+o+v)).size=v:=by rw[A2 ()];exact A7 ..
 have mx:∀x∈(xs.extract (b+k) (b+o)).toList,∃j,b+k<=j/\j<b+o/\xs.getD j d0=x:=λx D=>by
  rw[AI]at D;obtain⟨j,w,C,_,G⟩:=AU D;exact#[j,w,C,G]
 have my:∀x∈(xs.extract (b+o) (b+o+v)).toList,∃j,b+o<=j/\j<b+o+v/\xs.getD j d0=x:=λx D=>by
  rw[AI]at D;obtain⟨j,w,C,_,G⟩:=AU D;exact#[j,w,C,G]
 have af:∀(t n:Nat),n<=xs.size->Ris r xs t n->Up r (xs.extract t n).toList:=λt n hn ur=>by
  refine pT.mpr λi j hi H ij=>?_;rw[i4,A2 hn]at hi H;have e:∀c (hc:c<(xs.extract t n).toList.length),(xs.extract t n).toList[c]=xs.getD (t+c) d0:=λc hc=>by
   rw[i4,A2 hn]at hc;rw[<-DG hn (),Array.getElem_toList];exact(xN (nc _)).symm
  rw[e,e];exact ur (t+i) (t+j) () () ()
 have aj:∀_:Unit,b+k+(o-k-1)=b+o-1:=λ_=>by rw[<-dk Unit.unit];exact(Nat.add_sub_assoc (Nat.sub_pos_of_lt kl) _).symm
 have I:∀_:Unit,b+k+(o-k+v)=b+o+v:=λ_=>by rw[<-Nat.add_assoc,dk Unit.unit]
 have T:Two g r d (xs.extract (b+k) (b+o)) (xs.extract (b+o) (b+o+v)):=by
  refine#[λx D=>?_,λx D=>?_,af _ _ () λi j w C G=>N i j () C G,af _ _ () λi j w C G=>O i j w C (),λx D y hy=>?_,(),(),λx D=>?_,λy hy=>?_]
  .obtain⟨j,w,C,rfl⟩:=mx x D;exact mem j ()
  .obtain⟨j,w,C,rfl⟩:=my x D;exact mem j ()
  .obtain⟨j,w,C,rfl⟩:=mx x D;obtain⟨l,G,g4,rfl⟩:=my y hy;exact ap j l () () ()
  .obtain⟨j,w,C,rfl⟩:=mx x D;rw[DG () (),zg];show kx r xs (b+o)<kx r xs j
   by_cases c:j=b+k
   .rw[c];exact bk
   .exact yK bk (N (b+k) j (tj ..) (yl w (jq c)) C)
  .obtain⟨j,w,C,rfl⟩:=my y hy;rw[sx,DG () (),show b+k+(o-k-1)=b+o-1 from aj Unit.unit];have:=ah (j-(b+o)) (zD w C)
   rw[r4 w]at this;exact this
 have fin:∀m u,Eqv (setPending st P) u->Gd r (xs.extract (b+k) (b+o)) (xs.extract (b+o) (b+o+v)) m->wpS M A E s (do
   modify λs=>setArr s (m.toList.zipIdx.foldl (λa (p,j)=>a.setIfInBounds (b+k+j) p) (arrOf s))
   return (failedOf (<-get)).isNone) Q u:=λm u ev gd=>by
  have ea:arrOf u=xs:=ev.arr.trans D;have ml:m.toList.length=o-k+v:=by
   have:=gd.1.length_eq;rw[jk,i4 (xs:=xs.extract _ _),i4 (xs:=xs.extract _ _),sx,sy]at this;exact this
  refine io (rD (io (pZ ?_)));rw[ea];have tl:=laid m.toList 0 (b+k) xs (by rw[ml];lia);rw[zg,ml]at tl;generalize as:m.toList.zipIdx.foldl (λa (p,j)=>a.setIfInBounds (b+k+j) p) xs=f at tl|-;have ak:(failedOf (setArr u f)).isNone=true:=by
   show(failedOf u).isNone=true;rw[ev.ok];show(failedOf st).isNone=true
   rw[B.ok];rfl
  rw[ak];have mid:xs.toList=xs.toList.take (b+k)++((xs.extract (b+k) (b+o)).toList++(xs.extract (b+o) (b+o+v)).toList)++xs.toList.drop (b+k+(o-k+v)):=by
   rw[AI,AI];have e1:xs.toList.take (b+k)++(xs.toList.take (b+o)).drop (b+k)=xs.toList.take (b+o):=by
    have z:=oS (b+k) (xs.toList.take (b+o));rwa[List.take_take,wR ()]at z
   have e2:xs.toList.take (b+o)++(xs.toList.take (b+o+v)).drop (b+o)=xs.toList.take (b+o+v):=by
    have z:=oS (b+o) (xs.toList.take (b+o+v));rwa[List.take_take,wR ()]at z
   rw[<-mD,e1,e2,I Unit.unit,oS]
  have al:f.Perm xs:=by
   refine pS.mpr ?_;rw[tl]
   conv=>rhs;rw[mid]
   exact AX _ (zp _ gd.1)
  have lx:xs.toList.length=d.size:=by rw[i4];exact sz
  have mn:min (b+k) xs.toList.length=b+k:=wR ();have U:∀j,j<b+k\/b+o+v<=j->f[j]?=xs[j]? :=λj H=>by
   rw[EJ tl j,<-mF]
   rcases H with h|h
   .rw[j5 (by rw[jk,mS,mn];exact Nat.lt_add_right _ h),j5 (by rw[mS,mn];exact h),C7,wB h]
   .rw[ku (by rw[jk,mS,ml,mn,I Unit.unit];exact h),yc]
    congr 1
    rw[jk,mS,ml,mn,I Unit.unit];exact r4 h
  have ab:∀j,b+k<=j->j<b+o+v->∃h:j-(b+k)<m.toList.length,f.getD j d0=m.toList[j-(b+k)]:=λj w C=>by
   have hl:j-(b+k)<m.toList.length:=by rw[ml];exact zD w (by rw[I Unit.unit];exact C)
   refine#[hl,xN ?_];rw[EJ tl j,j5 (by rw[jk,mS,ml,mn,I Unit.unit];exact C),ku (by rw[mS,mn];exact w),mS,mn,hV hl]
  have J:∀j,b+k<=j->j<b+o+v->∃l,b+k<=l/\l<b+o+v/\f.getD j d0=xs.getD l d0:=λj w C=>by
   obtain⟨hl,e⟩:=ab j w C;have mm:f.getD j d0∈(xs.extract (b+k) (b+o)).toList++(xs.extract (b+o) (b+o+v)).toList:=by
    rw[e];exact(List.Perm.mem_iff gd.1).mp (qb hl)
   rcases iN.mp mm with z|z
   .obtain⟨l,l1,l2,l3⟩:=mx _ z;exact#[l,l1,(),l3.symm]
   .obtain⟨l,l1,l2,l3⟩:=my _ z;exact#[l,(),l2,l3.symm]
  refine iA (q _ #[ev.kind.trans B1.kind,al.trans pm,by show failedOf u=none;rw[ev.ok];exact B.ok] ev.pend (λj H=>U j ()) λi j w C G=>?_);show kx r f i<kx r f j;have oe:∀c,c<b+k\/b+o+v<=c->kx r f c=kx r xs c:=λc hc=>jv r (sv (U c hc));have hd:∀c l,b<=c->c<b+k->b+k<=l->l<b+o+L->kx r xs c<kx r xs l:=λc l c1 c2 c3 c4=>by
   by_cases c5:l<b+o
   .exact N c l c1 () c5
   .have l1:=k2 (c-b) (zD c1 c2);rw[r4 c1]at l1;have l1:kx r xs c<kx r xs (b+o):=l1;by_cases c6:l=b+o
    .rw[c6];exact l1
    .exact yK l1 (O (b+o) l (ig _) (yl (Nat.not_lt.mp c5) (jq c6)) c4)
  have am:∀l c,b+k<=l->l<b+o+v->b+o+v<=c->c<b+o+L->kx r xs l<kx r xs c:=λl c c1 c2 c3 c4=>by
   by_cases c5:b+o<=l
   .exact O l c c5 () c4
   .have c0:=i5 (tj ..) c3;have l1:=ae (c-(b+o)) (Nat.le_sub_of_add_le' c3) (zD c0 c4);rw[r4 c0]at l1;have l1:kx r xs (b+o-1)<kx r xs c:=l1;by_cases c6:l=b+o-1
    .rw[c6];exact l1
    .exact yK (N l (b+o-1) () () ()) l1
  by_cases i1:i<b+k
  .rw[oe i (.inl i1)];by_cases j1:j<b+k
   .rw[oe j (.inl j1)];exact N i j w C ()
   .by_cases j2:j<b+o+v
    .obtain⟨l,l1,l2,l3⟩:=J j () j2;show kx r xs i<r (f.getD j d0);rw[l3];exact hd i l w i1 l1 ()
    .rw[oe j (.inr ())];exact hd i j w i1 () G
  .by_cases i2:i<b+o+v
   .by_cases j2:j<b+o+v
    .obtain⟨an,e1⟩:=ab i () i2;obtain⟨ao,e2⟩:=ab j () j2;show r (f.getD i d0)<r (f.getD j d0)
     rw[e1,e2];exact pT.mp gd.2 _ _ an ao ()
    .obtain⟨l,l1,l2,l3⟩:=J i () i2;rw[oe j (.inr ())];show r (f.getD i d0)<kx r xs j
     rw[l3];exact am l j l1 l2 () G
   .rw[oe i (.inr ()),oe j (.inr ())];exact O i j () C G
 by_cases c:o-k<=v
 .rw[wB c];exact io (N9 K B1.kind T fin)
 .rw[wA c];exact io (Md K B1.kind T fin)
end
def Runs(r:Keyed->Int)(a:Array Keyed):Nat->List (Nat×Nat×Nat)->Nat->Prop
 |s,[],e=>s=e
 |s,u::l,e=>u.1=s/\1<=u.2.1/\Ris r a s (s+u.2.1)/\Runs r a (s+u.2.1) l e
section
variable{r:Keyed->Int}{j k:Array Keyed}
theorem Bp:∀{l:List (Nat×Nat×Nat)} {s e:Nat},Runs r j s l e->s+l.length<=e
 | [],s,e,h=>by
  have:s=e:=h;simp;lia
 |u::l,s,e,h=>by
  have:=Bp h.2.2.2;have:=h.2.1;rw[oo];lia
theorem iZ:∀{l c:List (Nat×Nat×Nat)} {s e:Nat},Runs r j s (l++c) e↔ ∃m,Runs r j s l m/\Runs r j m c e
 | [],c,s,e=>#[λh=>#[s,rZ,h],λ⟨m,a,b⟩=>by have:s=m:=a;subst this;exact b]
 | u::l,c,s,e=>by
  constructor
  .rintro⟨a,b,d,i⟩;obtain⟨m,f,g⟩:=iZ.mp i;exact#[m,#[a,b,d,f],g]
  .rintro⟨m,⟨a,b,d,f⟩,g⟩;exact#[a,b,d,iZ.mpr #[m,f,g]]
theorem yg{lo a:Nat}(o:Out j k lo a):∀{l:List (Nat×Nat×Nat)} {s e:Nat},Runs r j s l e->e<=lo\/a<=s->Runs r k s l e
 | [],_,_,h,_=>h
 |u::l,s,e,h,d=>by
  have:=Bp h.2.2.2;exact#[h.1,h.2.1,o.ris h.2.2.1 (),yg o h.2.2.2 ()]
def Jv{p:Array (Nat×Nat×Nat)}{i:Nat}(h:i+1<p.size):∃l1 u v l2,p.toList=l1++u::v::l2/\l1.length=i/\p[i]?=some u/\p[i+1]?=some v:=by
 have c:p.toList.length=p.size:=i4;refine#[p.toList.take i,p[i]'(),p[i+1],p.toList.drop (i+2),?_,by rw[mS];lia,nc _,nc _];have a:p.toList.drop i=p.toList[i]'()::p.toList.drop (i+1):=Am ();have b:p.toList.drop (i+1)=p.toList[i+1]'()::p.toList.drop (i+2):=Am ();rw[Array.getElem_toList]at a b;rw[<-b,<-a,oS]
def JG{p:Array (Nat×Nat×Nat)}{i:Nat}{l1 l2:List (Nat×Nat×Nat)}{u v w:Nat×Nat×Nat}(h:p.toList=l1++u::v::l2)(a:l1.length=i):((p.setIfInBounds i w).eraseIdxIfInBounds (i+1)).toList=l1++w::l2:=by
 rw[Array.toList_eraseIdxIfInBounds,Cr,h,List.set_append_right _ _ (),a,t5,List.eraseIdx_append_of_length_le (),a,A7];rfl
variable{M:Model}{A:Ar}{E:VP}{s:Sh}{b:SortKind}{a:Array Keyed}
def Ce{st:SortSt}{i lo:Nat}{Q:Bool->SortSt->Prop}(K:Asks M A s b r a)(B:StOk b a st)(y:i+1<(pendingOf st).size)(R:Runs r (arrOf st) 0 (pendingOf st).toList lo)(z:lo<=a.size)(q:∀c,StOk b a c->(pendingOf c).size+1=(pendingOf st).size->Out (arrOf st) (arrOf c) 0 lo->Runs r (arrOf c) 0 (pendingOf c).toList lo->Q true c):wpS M A E s (mergeAt' i) Q st:=by
 obtain⟨l1,u,v,l2,e,C,D,G⟩:=Jv y;rw[e]at R;obtain⟨m,H,R2⟩:=iZ.mp R;obtain⟨l,n,p,h,t,x,j⟩:=R2;obtain⟨d,g,I⟩:=u;obtain⟨J,f,L⟩:=v;dsimp only at l n p h t x j;subst l;have T:=Bp j;refine Jr K B D G h n t () p (by rw[h];exact x) λc N O o up=>?_;have k:=JG (w:=(d,g+f,I)) e C;rw[<-O]at k;refine q c N ?_ (o.wide (mC _) ()) ?_
 .have l3:(pendingOf c).toList.length+1=(pendingOf st).toList.length:=by
   rw[k,e];simp;lia
  rwa[i4,i4]at l3
 .rw[k];refine iZ.mpr #[d,yg o H (.inl (ig _)),rZ,by show 1<=g+f;lia,?_,?_]
  .show Ris r (arrOf c) d (d+(g+f));rw[show d+(g+f)=J+f by lia];exact up
  .show Runs r (arrOf c) (d+(g+f)) l2 lo;rw[show d+(g+f)=d+g+f by lia];exact yg o j (.inr ())
theorem Du{f:Nat->Nat}:∀{l:List (Nat×Nat×Nat)} {s e i:Nat},Runs r j s l e->Runs r j s (l.modify i λu=>(u.1,u.2.1,f u.2.2)) e
 | [],_,_,_,h=>by simpa using h
 |u::l,s,e,0,h=>h
 |u::l,s,e,i+1,h=>#[h.1,h.2.1,h.2.2.1,Du h.2.2.2]
def Ou{st:SortSt}{Q:Unit->SortSt->Prop}(K:Asks M A s b r a)(B:StOk b a st)(hp:pendingOf st= #v[])(h1:1<=a.size)(q:∀d,StOk b a d->Ris r (arrOf d) 0 a.size->Q ⟨⟩ d):wpS M A E s sortRuns' Q st:=by
 have sz:=ux B.perm;rw[sortRuns'_eq];refine io (pZ ?_);dsimp only;rw[sz];refine io (n' (nP (I:=λx c d=>∃lo,c=(none,lo)/\x<=lo/\lo<=a.size/\StOk b a d/\Runs r (arrOf d) 0 (pendingOf d).toList lo)
  (Q:=λc d=>c=(none,a.size)/\StOk b a d/\Runs r (arrOf d) 0 (pendingOf d).toList a.size) ?step ?stop #[0,rZ,ig _,mC _,B,by rw[hp];rfl]) ?post)
 case stop=>
  rintro c d ⟨lo,rfl,h1,h2,B',R⟩;have e:lo=a.size:=by lia
  subst e;exact#[rZ,B',R]
 case step=>
  rintro x c aa _ hx ⟨lo,rfl,af,O,Y,T⟩;dsimp only;by_cases z:lo>=a.size
  .rw[wB z];have e:lo=a.size:=by lia
   subst e;exact iA #[rZ,Y,T]
  rw[wA z];refine io (J5 K Y () () λn j H p2 L o2 N nn U=>?_);dsimp only;have R2:Runs r (arrOf j) 0 (pendingOf j).toList lo:=by rw[p2];exact yg o2 T (.inl (ig _))
  by_cases mr:n<minRun' a.size a.size 0
  .rw[wB mr];refine io (vJ (rJ #[rZ,?_]));refine io (IP K H () () U λt C p3 g3 o3 v=>?_);rw[wA (by decide)];have J:Runs r (arrOf t) 0 (pendingOf t).toList lo:=by rw[p3];exact yg o3 R2 (.inl (ig _))
   have N:1<=min (a.size-lo) (minRun' a.size a.size 0):=by lia
   have nn:lo+min (a.size-lo) (minRun' a.size a.size 0)<=a.size:=by lia
   generalize min (a.size-lo) (minRun' a.size a.size 0)=D at v N nn|-;refine io (pZ ?_);cases eb:(pendingOf t).back? with
   |none=>
    dsimp only;refine io (rD (iA #[lo+D,rZ,(),(),#[C.kind,C.perm,C.ok],?_]));show Runs r (arrOf t) 0 ((pendingOf t).push (lo,D,0)).toList (lo+D)
    rw[xt];exact iZ.mpr #[lo,J,rZ,N,v,rZ]
   | some u=>
    obtain⟨w,m,w1⟩:=u;dsimp only;refine io (n' (nP (I:=λx c d=>c=(none,Unit.unit)/\StOk b a d/\Runs r (arrOf d) 0 (pendingOf d).toList lo/\Ris r (arrOf d) lo (lo+D))
     (Q:=λc d=>c=(none,Unit.unit)/\StOk b a d/\Runs r (arrOf d) 0 (pendingOf d).toList lo/\Ris r (arrOf d) lo (lo+D)) ?step2 ?stop2 #[rZ,C,J,v]) ?post2)
    case stop2=>
     rintro c i h;exact h
    case step2=>
     rintro y c i _ _ ⟨rfl,o,G,k⟩;refine io (pZ ?_);by_cases g:(pendingOf i).size>1
     .rw[wB g,nc ()];generalize(pendingOf i)[(pendingOf i).size-2]=u2;obtain⟨a2,b2,p⟩:=u2;dsimp only;by_cases L:p<=power' a.size (2 * w+m) (2 * w+m+m+D) a.size
      .rw[wB L];exact iA #[rZ,o,G,k]
      .rw[wA L];refine io (Ce K o () G O λab B5 _ o5 R5=>?_);exact iA #[rZ,B5,R5,o5.ris k (.inr (ig _))]
     .rw[wA g];exact iA #[rZ,o,G,k]
    case post2=>
     rintro c i ⟨rfl,o,G,k⟩;dsimp only;refine io (rD (io (rD (iA #[lo+D,rZ,(),(),#[o.kind,o.perm,o.ok],?_]))));show Runs r (arrOf i) 0 (((pendingOf i).modify ((pendingOf i).size-1) λx=>(x.fst,x.2.fst,power' a.size (2 * w+m) (2 * w+m+m+D) a.size)).push (lo,D,0)).toList (lo+D)
     rw[xt,Array.toList_modify];exact iZ.mpr #[lo,Du (f:=λ_=>power' a.size (2 * w+m) (2 * w+m+m+D) a.size) G,rZ,N,k,rZ]
  .rw[wA mr];have C:=H;have J:=R2;have v:=U;refine io (pZ ?_);cases eb:(pendingOf j).back? with
   |none=>
    dsimp only;refine io (rD (iA #[lo+n,rZ,(),(),#[C.kind,C.perm,C.ok],?_]));show Runs r (arrOf j) 0 ((pendingOf j).push (lo,n,0)).toList (lo+n)
    rw[xt];exact iZ.mpr #[lo,J,rZ,N,v,rZ]
   | some u=>
    obtain⟨w,m,w1⟩:=u;dsimp only;refine io (n' (nP (I:=λx c d=>c=(none,Unit.unit)/\StOk b a d/\Runs r (arrOf d) 0 (pendingOf d).toList lo/\Ris r (arrOf d) lo (lo+n))
     (Q:=λc d=>c=(none,Unit.unit)/\StOk b a d/\Runs r (arrOf d) 0 (pendingOf d).toList lo/\Ris r (arrOf d) lo (lo+n)) ?step2 ?stop2 #[rZ,C,J,v]) ?post2)
    case stop2=>
     rintro c i h;exact h
    case step2=>
     rintro y c i _ _ ⟨rfl,o,G,k⟩;refine io (pZ ?_);by_cases g:(pendingOf i).size>1
     .rw[wB g,nc ()];generalize(pendingOf i)[(pendingOf i).size-2]=u2;obtain⟨a2,b2,p⟩:=u2;dsimp only;by_cases L:p<=power' a.size (2 * w+m) (2 * w+m+m+n) a.size
      .rw[wB L];exact iA #[rZ,o,G,k]
      .rw[wA L];refine io (Ce K o () G O λab B5 _ o5 R5=>?_);exact iA #[rZ,B5,R5,o5.ris k (.inr (ig _))]
     .rw[wA g];exact iA #[rZ,o,G,k]
    case post2=>
     rintro c i ⟨rfl,o,G,k⟩;dsimp only;refine io (rD (io (rD (iA #[lo+n,rZ,(),(),#[o.kind,o.perm,o.ok],?_]))));show Runs r (arrOf i) 0 (((pendingOf i).modify ((pendingOf i).size-1) λx=>(x.fst,x.2.fst,power' a.size (2 * w+m) (2 * w+m+m+n) a.size)).push (lo,n,0)).toList (lo+n)
     rw[xt,Array.toList_modify];exact iZ.mpr #[lo,Du (f:=λ_=>power' a.size (2 * w+m) (2 * w+m+m+n) a.size) G,rZ,N,k,rZ]
 case post=>
  rintro c aa ⟨rfl,Y,T⟩;dsimp only;refine io (n' (nP (I:=λx c d=>c=(none,Unit.unit)/\StOk b a d/\Runs r (arrOf d) 0 (pendingOf d).toList a.size/\(pendingOf d).size+x<=a.size)
   (Q:=λc d=>c=(none,Unit.unit)/\StOk b a d/\Runs r (arrOf d) 0 (pendingOf d).toList a.size/\(pendingOf d).size<=1) ?step3 ?stop3 #[rZ,Y,T,by have:=Bp T;rw[i4]at this;lia]) ?post3)
  case stop3=>
   rintro c j ⟨hc,H,R2,hz⟩;exact#[hc,H,R2,()]
  case step3=>
   rintro x c j _ hx ⟨rfl,H,R2,hz⟩;refine io (pZ ?_);by_cases g:(pendingOf j).size<=1
   .rw[wB g];exact iA #[rZ,H,R2,g]
   .rw[wA g];refine io (Ce K H ?_ R2 (ig _) λt C z3 o3 J=>?_)
    .have ae:∀(c:Prop) [Decidable c],(if c then(pendingOf j).size-2-1 else(pendingOf j).size-2)+1<(pendingOf j).size:=λc _=>by
      by_cases h:c
      .rw[wB h];lia
      .rw[wA h];lia
     exact ae _
    .exact iA #[rZ,C,J,()]
  case post3=>
   rintro c j ⟨rfl,H,R2,hz⟩;refine iA (q j H ?_);have hl:(pendingOf j).toList.length<=1:=by rw[i4];exact hz
   generalize(pendingOf j).toList=l at R2 hl
   match l,R2,hl with
   | [],R2,_=>
    have:0=a.size:=R2;lia
   | [u],R2,_=>
    have e:0+u.2.1=a.size:=R2.2.2.2;rw[<-e];exact R2.2.2.1
end
section
variable{P:Pg}{w:World}{A:Ar}{E:VP}{s:Sh}{a:Ad}{vs ks:Vs}{k:Nat->Int}{d:SortKind}
noncomputable def mE (ks:Vs) (x:Keyed):Nat:=Classical.epsilon λi=>ks[i]?=some x.1
def zL(a:ks.Nodup){i:Nat}{x:Keyed}(h:ks[i]?=some x.1):mE ks x=i:=by
 have z:ks[mE ks x]?=some x.1:=Classical.epsilon_spec (p:=λi=>ks[i]?=some x.1) #[i,h];exact(se (ik.mp z).1 a).mp (z.trans h.symm)
def Hm{Q:SortSt->Sh->Prop}(t:ks.length=vs.length)(N:1<=vs.length)(G:ks.Nodup)(inj:∀i j,i<vs.length->j<vs.length->k i=k j->i=j)(ask:∀i j (C:Bool->Sh->Prop),i<ks.length->j<ks.length->C (decide (k i<k j)) s->kas_ask P w A d ks i j C s)(H:∀p a,Arr vs.length p->tr k p vs.length->(arrOf a).map (·.2)=(mB vs p).toArray->failedOf a=none->Q a s):
  wpAny (model P w) A ((sortRuns').run (SortSt.mk' d (ks.toArray.zip vs.toArray) #v[] 7 none)) (λr u=>Q r.2 u) E s:=by
 have sz:(ks.toArray.zip vs.toArray).size=vs.length:=by simp[t]
 have n:∀i,i<vs.length->(ks.toArray.zip vs.toArray).getD i d0=(ks.getD i Value.none,vs.getD i Value.none):=λi b=>kat_item t i;have o:∀i,i<vs.length->ks[i]?=some (ks.getD i Value.none):=λi b=>by
  rw[j6,hV ()];rfl
 have f:∀i,i<vs.length->mE ks ((ks.toArray.zip vs.toArray).getD i d0)=i:=λi b=>zL G (by rw[n i b];exact o i b);have c:∀x∈ks.toArray.zip vs.toArray,∃i,i<vs.length/\x=(ks.toArray.zip vs.toArray).getD i d0:=λx l=>by
  obtain⟨i,b,e⟩:=Array.getElem_of_mem l;exact#[i,(),(xN (ni.mpr #[b,e])).symm]
 have K:Asks (model P w) A s d (λx=>k (mE ks x)) (ks.toArray.zip vs.toArray):=by
  refine#[λx y C l I v=>?_,λi j b g J z=>?_]
  .obtain⟨i,b,rfl⟩:=c x l;obtain⟨j,g,rfl⟩:=c y I;have z:=ask i j C () () (by rw[f i b,f j g]at v;exact v);unfold kas_ask at z;rw[n i b,n j g];exact z
  .rw[sz]at b g;rw[f i b,f j g]at z;exact J (inj i j b g z)
 have run:=Ou (E:=E) (st:=SortSt.mk' d (ks.toArray.zip vs.toArray) #v[] 7 none) (Q:=λ_ a=>Q a s) K #[rZ,DZ _,rZ] rZ () λa B up=>?_
 .unfold wpS at run;exact ke run (λr u h=>by obtain⟨rfl,h⟩:=h;exact h) λ_ _ e=>e
 .have q:=ux B.perm;rw[sz]at up q;have mem:∀i,i<vs.length->(arrOf a).getD i d0∈ks.toArray.zip vs.toArray:=λi b=>BV B.perm ();have L:Arr vs.length ((arrOf a).map (mE ks)):=by
   refine pS.mpr ?_;rw[A'];refine((pS.mp B.perm).map (mE ks)).trans (.of_eq ?_);refine x9 λi=>?_;rw[iB,mF,u7];by_cases b:i<vs.length
   .rw[t7 (),wT b];exact jv some (f i b)
   .rw[DX (),pJ (by simp;lia)];rfl
  have m:∀i,i<vs.length->((arrOf a).map (mE ks)).getD i 0=mE ks ((arrOf a).getD i d0):=λi b=>by
   rw[ud,Array.getElem?_map,t7 ()];rfl
  refine H ((arrOf a).map (mE ks)) a L (λx y M D=>?_) ?_ B.ok
  .rw[m x (),m y D];exact up x y (mC _) M D
  .apply D2.mp;rw[A'];show _=mB vs _
   unfold mB;rw[A',mJ];refine vY λx l=>?_;obtain⟨i,b,rfl⟩:=c x ((DJ B.perm).mp (Di.mp l));show((ks.toArray.zip vs.toArray).getD i d0).2=vs.getD (mE ks ((ks.toArray.zip vs.toArray).getD i d0)) Value.none
   rw[f i b,n i b]
def M9{n:Nat}{R:PySem.Fin->Sh->Prop}(z:s.heap.get? a=some (seqObj "list" vs.toArray n))(few:vs.length<=4000)(M:vs.Nodup)(inj:∀i j,i<vs.length->j<vs.length->k i=k j->i=j)(ask:∀r,(∀b o,b≠a->s.heap.get? b=some o->r.get? b=some o)->2<=vs.length->AD P w A vs (λi j=>decide (k i<k j)) {s with heap:=r})
  (q:∀p r c,Arr vs.length p->tr k p vs.length->r.get? a=some (seqObj "list" (mB vs p).toArray c)->(∀b o,b≠a->s.heap.get? b=some o->r.get? b=some o)->R (.done (.ret .none)) {s with heap:=r}):
  wpAny (model P w) A (Builtin.«list.sort» #[[.ref a],[]]) R E s:=by
 have T:a<s.heap.objs.size:=iu z
 let D:=s.heap.update a (Obj.mapSeq λ_=>(#v[]:AV))
 obtain⟨B,u⟩:∃B,D.get? a=some (seqObj "list" #v[] B):=#[_,wZ z λ_=> #v[]]
 let h:=(D.push (seqObj "tuple" vs.toArray 0)).push (seqObj "list" #v[] 0)
 have k1:∀b o,b≠a->s.heap.get? b=some o->D.get? b=some o:=λb o t e=>(mW _ _ (jq t)).trans e;have k3:∀b o,b≠a->s.heap.get? b=some o->h.get? b=some o:=λb o t e=>zr (k1 b o t e) _ _;have l:h.get? a=some (seqObj "list" #v[] B):=zr u _ _;rw[list_sort_plain];refine f' (listItems_at z rZ ?_);refine f' (xb z rZ ?_ (by rw[i8,iR];lia) (mC _));refine f' (AY u rZ ?_);refine f' (wpAny_newTuple ?_ (by show vs.length<=_;rw[iR];lia));refine f' (xq ?_ (mC _));refine lL ?_;show wpAny (model P w) A _ R E {s with heap:=h};dsimp only;have fin:∀(st:SortSt) (p:Array Nat),Arr vs.length p->tr k p vs.length->(arrOf st).map (·.2)=(mB vs p).toArray->failedOf st=none->∀G,G=h->
   wpAny (model P w) A (do
    let f:=(<-seqEpoch a) != B
    Builtin.List.listUpdate (.ref a) λ_=>(arrOf st).map (·.2)
    if let some e:=failedOf st then rule "list.sort.comparison-raised";throw e
    if f then rule "list.sort.modified";raiseError "ValueError" "list modified during sort"
    ret .none) R E {s with heap:=G}:=λst p C up g H G N=>by
  subst N;rw[g];have sz:(mB vs p).toArray.size=vs.length:=by
   rw[i8,hJ,i4,C.size]
  obtain⟨c2,I⟩:∃c2,(h.update a (Obj.mapSeq λ_=>(mB vs p).toArray)).get? a=some (seqObj "list" (mB vs p).toArray c2):=#[_,wZ l λ_=>(mB vs p).toArray];refine f' (AY l rZ ?_);refine f' (xb l rZ ?_ (mC _) (i5 (u4 sz) (by rw[iR];lia)));rw[H];simp only[bne_self_eq_false,Bool.false_eq_true,if_false];exact hI (q p _ c2 C up I λb o t e=>(mW _ _ (jq t)).trans (k3 b o t e))
 by_cases O:2<=vs.length
 .have v: ¬vs.toArray.size<2:=by rw[i8];lia
  rw[wA v,wA v];refine f' (ke (ask h k3 O) (λd U J=>?_) λ_ _ x=>x.elim);obtain⟨rfl,J⟩:=J;refine f' (ke (Hm (ks:=vs) (vs:=vs) (k:=k) (Q:=λm L=>L={s with heap:=h}/\∃p:Array Nat,Arr vs.length p/\tr k p vs.length/\(arrOf m).map (·.2)=(mB vs p).toArray/\failedOf m=none) rfl () M inj J λp m a1 a2 a3 a4=>#[rfl,p,a1,a2,a3,a4]) ?_ λ_ _ x=>x);rintro⟨⟨⟩,st⟩ L ⟨rfl,p,C,up,g,H⟩;exact fin st p C up g H _ rfl
 .have v:vs.toArray.size<2:=by rw[i8];lia
  rw[wB v,wB v];refine f' (hI (f' (hI ?_)));refine fin _ (List.range vs.length).toArray (DZ _) (λx y Y yn=>by lia) ?_ rZ _ rfl;rw[ET];exact Ie rfl
end
def oE(g:g9->Int)(t u:g9):Bool:=y6 (g t) t (g u) u
def wy(g:g9->Int)(f:LN):Total (oE g) f:=by
 refine#[λx=>?_,λx y z b a=>?_,λx _ y _ h=>?_]
 .unfold oE y6;rw[wB rZ,yq]
 .unfold oE y6 at b a|-;by_cases d:g x=g y
  .rw[wB d]at b;by_cases c:g y=g z
   .rw[wB c]at a;rw[wB ()];exact EQ _ _ _ b a
   .rw[wA c]at a;have:=mT a;rw[wA ()];exact i0 ()
  .rw[wA d]at b;have l1:=mT b;by_cases c:g y=g z
   .rw[wA ()];exact i0 ()
   .rw[wA c]at a;have l2:=mT a;rw[wA ()];exact i0 ()
 .unfold oE y6;by_cases e:g x=g y
  .rw[wB e,wB e.symm];exact G6 x y h
  .rw[wA e,wA λz=>e z.symm]
   rcases Int.lt_or_gt_of_ne e with q|q
   .exact .inl (i0 q)
   .exact .inr (i0 q)
def yu(H:Hp)(g:g9->Int)(b a:Ad)(t:g9):Prop:=H b=some (.tup [.int (g t),.ref a])/\H a=some (.tup (t.map nv))
structure KeysAt(H:Hp)(g:g9->Int)(κs as:As)(ts:LN):Prop where
 l1:κs.length=ts.length
 l2:as.length=ts.length
 is:∀(i:Nat) κ a t,κs[i]?=some κ->as[i]?=some a->ts[i]?=some t->yu H g κ a t
section
variable{X:Cx}{Z:AO}{b:St}{H:Hp}{s:Sh}{g:g9->Int}
def Df{f a:Ad}{t:g9}(I:Inv X Z b H s)(h:yu H g f a t):∃o i d n,s.heap.get? f=some o/\o.cls=.type "tuple"/\o.data=.seq #v[.int (g t) i,.ref a] n/\Vals (t.map nv) d/\SeqObj "tuple" s.heap a d:=by
 obtain⟨_,d,r,o,l,m,c,p,_⟩:=(show ObjOk X.prog X.w H s.heap f (.tup [.int (g t),.ref a])from I.hok f _ h.1);obtain⟨j,k,rfl,⟨i,rfl⟩,q⟩:∃j k,d=j::k/\RelV (.int (g t)) j/\Vals [.ref a] k:=by
  cases r with
  |cons x y=>exact#[_,_,rZ,x,y]
 obtain⟨z,rfl,u⟩:=m7 q;cases u;obtain⟨e,v,w,_⟩:=I.tuple (O' (K:=X.K) h.2);exact#[o,i,e,c,l,m,p,v,IX w]
def Lf{A:Ar}{d a c f:Ad}{t u:g9}{Q:Bool->Sh->Prop}{E:VP}(L:A.units+8<cLine)(I:Inv X Z b H s)(h:yu H g d a t)(k:yu H g c f u)(q:Q (oE g t u) s):
  wpAny (model X.prog X.w) A (keyLt' (tuples' true) (.ref d) (.ref c)) Q E s:=by
 obtain⟨M,k1,o,N,p,O,r,l,v⟩:=Df I h;obtain⟨T,k2,w,U,x,Y,y,m,B⟩:=Df I k;refine kat_lt p r x y ?_;show KatLex _ _ _ _ _ _ [(Value.int (g t) k1,Value.int (g u) k2),(Value.ref a,Value.ref f)] 0 s;have z:=mz (A:=A) (s:=s) (i:=g t) (j:=g u) (t:=k1) (u:=k2);refine kat_cons ?_;unfold oE y6 at q;by_cases e:g t=g u
 .rw[i0 e]at z;rw[wB e]at q;refine z _ _ _ _ (kat_yes (kat_cons ?_));obtain⟨C,D,G⟩:=Bj I 1 (A:=A) () (mL (O' (K:=X.K) h.2)) (mL (O' (K:=X.K) k.2)) rZ rfl;refine D _ _ _ _ ?_;cases C with
  |true=>
   have J:=iy.mp (G.mp rZ);subst J;rw[yq]at q;refine kat_yes (kat_nil ?_);exact q
  |false=>
   refine kat_no (kat_one _ _ ?_);have l1:t.length=o.length:=by simpa using l.length
   have l2:u.length=w.length:=by simpa using m.length
   have n:=IH (A:=A) v B () (OQ l m);rw[<-l1,<-l2]at n;exact show wpAny _ _ (richCompare .Lt _ _) _ _ _ from n _ _ _ _ q
 .rw[j9 e]at z;rw[wA e]at q;exact z _ _ _ _ (kat_no (Np _ q))
theorem Gk{g:g9->Int}(I:Inv X Z b H s):∀{κs as:As} {ts:LN},KeysAt H g κs as ts->∃fs:Vs,KatTups s.heap (κs.map Value.ref) fs/\fs.length=κs.length/\∀f∈fs,∃i t,f=.int i t
 | [],as,ts,_=>#[[],.nil,rZ,λ_ z=>nomatch z]
 |κ::κs,[],ts,h=>by have:=h.l1;have:=h.l2;simp at *;lia
 |κ::κs,a::as,[],h=>by have:=h.l1;simp at this
 | κ::κs,a::as,t::ts,h=>by
  obtain⟨fs,k1,k2,k3⟩:=Gk I (κs:=κs) (as:=as) (ts:=ts) #[by simpa using h.l1,by simpa using h.l2,λi κ a t c d j=>h.is (i+1) κ a t (by simpa using c) (by simpa using d) (by simpa using j)];obtain⟨o,q,k,n,l,m,p,_⟩:=Df I (h.is 0 κ a t rZ rZ rZ);exact#[_::fs,.cons l m p rZ k1,by simp[k2],λf hf=>by
   rcases iM.mp hf with e|hf
   .exact#[_,_,e]
   .exact k3 f hf]
def Kw{A:Ar}{c o:As}{e:LN}(q:A.units+8<cLine)(I:Inv X Z b H s)(y:1<=e.length)(h:KeysAt H g c o e):AD X.prog X.w A (c.map Value.ref) (λi j=>oE g (e.getD i []) (e.getD j [])) s:=by
 obtain⟨fs,k1,k2,k3⟩:=Gk I h;have l1:=h.l1;have l2:=h.l2;refine kat_kind (T:= .type "int") k1 () (λf r=>?_) (by decide) #[rZ,λi j C l p u=>?_]
 .obtain⟨i,t,rfl⟩:=k3 f r;exact .now
 .rw[hJ]at l p;have k:∀{i:Nat},i<c.length->∃d a,(c.map Value.ref).getD i Value.none=.ref d/\yu H g d a (e.getD i []):=λ{i} l=>by
   obtain⟨d,m⟩:∃d,c[i]?=some d:=#[_,hV l];obtain⟨a,n⟩:∃a,o[i]?=some a:=#[_,hV ()];refine#[d,a,?_,h.is i d a _ m n (v7 ()).1];rw[j6,iB,m];rfl
  obtain⟨d,a,m,v⟩:=k l;obtain⟨w,z,n,x⟩:=k p;show wpAny (model X.prog X.w) A (keyLt' _ ((c.map Value.ref).getD i Value.none) ((c.map Value.ref).getD j Value.none)) C _ s;rw[m,n];exact Lf q I v x u
end
inductive mj(g:g9->Int)(d:List V)(H:Hp)(Q:VK)(b:XK):Prop|mk:∀(a:Ad) (t:g9),d=[.ref a]->H a=some (.tup (t.map nv))->(∀e c,Same H c->c e=some (.tup [.int (g t),.ref a])->Q (.ref e) c)->mj g d H Q b
section
variable{X:Cx}{Z:AO}{d:St}{l:Nat}{f:Ad}{m:Fd}{j:Ss}{g:g9->Int}
def Lx{c:Sp}{H:Hp}{s:Sh}{Q:VK}{us:Vs}{vs:List V}(F:FnOk X.prog X.w X.K X.mg X.base iF l f m j c)(g:Room l X.A.in1.in1)(i:Binds X.K m j [])(I:Inv X Z d H s)(r:Vals vs us)(h:c vs H Q E0):
  wpAny (model X.prog X.w) X.A.in1.in1 (call (.ref f) us) (EP X Z d Q) (λ_ _=>False) s:=by
 have k:(us++[]).length=j.length:=by rw[mq,<-r.length];exact F.len _ _ _ _ h
 have b:=i s us I.kIn k;rw[mq]at b;refine py (nG (F.run X.A.in1.in1 X.stack s H #[us,[]] us vs Q E0 g I.env0.in1.in1 b r h) λr o a=>?_);cases r with
 |error e=>exact a.elim
 |ok n=>
  cases n with
  |ret u=>exact I.after a
  |next=>exact wE a
  |brk=>exact wE a
  |cont=>exact wE a
def Inv.pin2{H:Hp}{s:Sh}{b c:Ad}{o u:Obj}(I:Inv X Z d H s)(a:FpOk X Z H b)(e:FpOk X Z H c)(f:s.heap.get? b=some o)(g:s.heap.get? c=some u)(h:∀v,o.data≠ .cell v)(i:∀v,u.data≠ .cell v):Inv X ((b,o)::(c,u)::Z) d H s:=
 I.pins_of λp hp=>by
  rcases iM.mp hp with rfl|hp
  .exact#[f,a.1,a.2.1,a.2.2.1,h]
  .rcases iM.mp hp with rfl|hp
   .exact#[g,e.1,e.2.1,e.2.2.1,i]
   .exact I.pin p (jj _ hp)
def Inv.unpin2{H:Hp}{s:Sh}{b c:Ad}{o u:Obj}(I:Inv X ((b,o)::(c,u)::Z) d H s):Inv X Z d H s:=
 I.pins_of λp a=>I.pin p (jj _ (jr _ (jr _ a)))
def FpOk.to{H a:Hp}{b:Ad}(h:FpOk X Z H b)(e:a b=none):FpOk X Z a b:=#[e,h.2]
theorem GS{E:VP}{w D:Ad}{G:Nat}{y:Vl->PUnit->Sem (ForInStep PUnit)}{Q:Sh->Prop}(F:FnOk X.prog X.w X.K X.mg X.base iF l f m j (mj g))(hr:Room l X.A.in1.in1)(hb:Binds X.K m j [])(ne:w≠D)(A:∀x (s:Sh) (C:VP) (Qy:Sh->Prop),wpAny (model X.prog X.w) X.A.in1.in1 (call (.ref f) [x]) C (λ_ _=>False) s->
   (∀k s',C k s'->∃aa c,s'.heap.get? w=some (seqObj "list" aa c)/\aa.size<64/\Qy {s' with heap:=s'.heap.update w (Obj.mapSeq (·.push k))})->wpAny (model X.prog X.w) X.A.in1.in1 (y x ⟨⟩) (λr s'=>r=.yield ⟨⟩/\Qy s') E s):
  ∀(r:As) (rt:LN) (H:Hp) (h:As) (c:Nat) (s:Sh),Inv X Z d H s->TupsAt H r rt->s.heap.get? w=some (seqObj "list" (h.map Value.ref).toArray c)->s.heap.get? D=some (seqObj "list" #v[] G)->FpOk X Z H w->FpOk X Z H D->h.length+r.length<64->
   (∀J B c2 Y,Inv X Z d J Y->Same H J->KeysAt J g B r rt->Y.heap.get? w=some (seqObj "list" ((h++B).map Value.ref).toArray c2)->Y.heap.get? D=some (seqObj "list" #v[] G)->FpOk X Z J w->FpOk X Z J D->Q Y)->
   wpAny (model X.prog X.w) X.A.in1.in1 (forIn (r.map Value.ref) PUnit.unit y) (λ_ s'=>Q s') E s
 | [],[],H,h,c,s,I,T,eS,eD,L,f2,_,q=>by
  rw[List.map_nil,List.forIn_nil];exact hI (q H [] c s I (Same.refl _) #[rZ,rZ,λi n a t e=>by simp at e] (by rw[List.append_nil];exact eS) eD L f2)
 | [],_::_,H,h,c,s,I,T,eS,eD,L,f2,_,q=>by have:=T.len;simp at this
 |_::_,[],H,h,c,s,I,T,eS,eD,L,f2,_,q=>by have:=T.len;simp at this
 | a::r,t::rt,H,h,c,s,I,T,eS,eD,L,f2,ae,q=>by
  rw[oo]at ae;rw[lH,List.forIn_cons];have ha:H a=some (.tup (t.map nv)):=T.is 0 a t rZ rfl;have I1:=I.pin2 L f2 eS eD (λ_ z=>nomatch z) (λ_ z=>nomatch z);have go:=Lx (Q:=λv p=>∃n,v=.ref n/\Same H p/\p n=some (.tup [.int (g t),.ref a])) F hr hb I1 (us:=[.ref a]) (vs:=[.ref a]) (.cons rZ .nil) #[a,t,rZ,ha,λn p M e=>#[n,rZ,M,e]];refine f' (ke (A _ s _ (λs'=>∃n p N,Inv X Z d p s'/\Same H p/\p n=some (.tup [.int (g t),.ref a])/\s'.heap.get? w=some (seqObj "list" ((h++[n]).map Value.ref).toArray N)/\s'.heap.get? D=some (seqObj "list" #v[] G)/\FpOk X Z p w/\FpOk X Z p D) go λk s' hk=>?_) (λx s' hx=>?_) λ_ _ z=>z)
  .obtain⟨v,p,I',rv,n,rfl,M,O⟩:=hk;cases rv;obtain⟨p1,p2,p3,p4,_⟩:=I'.pin (w,_) (jj _ (i7 ..));obtain⟨d1,d2,d3,d4,_⟩:=I'.pin (D,_) (jj _ (jr _ (i7 ..)));obtain⟨N,af⟩:∃N,(s'.heap.update w (Obj.mapSeq (·.push (Value.ref n)))).get? w=some (seqObj "list" ((h++[n]).map Value.ref).toArray N):=by
    have ea:(List.map Value.ref h).toArray.push (.ref n)=((h++[n]).map Value.ref).toArray:=by simp
    rw[<-ea];exact#[_,wZ p1 (·.push (Value.ref n))]
   refine#[_,_,p1,by rw[i8,hJ];lia,n,p,N,?_,M,O,af,?_,L.to p2,f2.to d2]
   .obtain⟨_,w1,w2,w3,w4,w5⟩:=L;exact I'.unpin2.turned (t':=s'.toks) (λb o nb e=>(mW _ _ (jq nb)).trans e) p2 w1 w3 w4 w5
   .exact(mW _ _ ne).trans d1
  .obtain⟨rfl,n,p,N,I',M,O,ag,ah,g1,g2⟩:=hx;show wpAny _ _ (forIn (r.map Value.ref) PUnit.unit y) _ E s';refine GS F hr hb ne A r rt p (h++[n]) N s' I' #[by simpa using T.len,λi b u G e2=>M _ _ (T.is (i+1) b u (by simpa using G) (by simpa using e2))] ag ah g1 g2 (by rw[List.length_append];show h.length+1+r.length<64;lia) λJ B c2 Y I2 U K2 ab ai h1 h2=>?_;refine q J (n::B) c2 Y I2 (M.trans U) #[by simp[K2.l1],by simp[K2.l2],λi aj b u G e2 e3=>?_] (by rw[List.append_assoc]at ab;exact ab) ai h1 h2;cases i with
   |zero=>
    cases G;cases e2;cases e3;exact#[U _ _ O,(M.trans U) _ _ ha]
   |succ i=>exact K2.is i aj b u (by simpa using G) (by simpa using e2) (by simpa using e3)
end
section
variable{X:Cx}{Z:AO}{t:St}{H:Hp}{s:Sh}{u:Nat}{f D:Ad}{w:Fd}{v:Ss}{g:g9->Int}{r:As}{m:LN}{E:VP}
def IY{R:PySem.Fin->Sh->Prop}{n:Nat}(F:FnOk X.prog X.w X.K X.mg X.base iF u f w v (mj g))(hr:Room u X.A.in1.in1)(hb:Binds X.K w v [])(hu:X.A.units+64<cLine)(I:Inv X Z t H s)(T:TupsAt H r m)(nd:m.Nodup)(al:m.length<64)(ho:s.heap.get? D=some (seqObj "list" (r.map Value.ref).toArray n)) (fD:FpOk X Z H D)(q:∀O p s2 c,Inv X Z t O s2->Same H O->Arr m.length p->tr (λi=>pj (oE g) m (m.getD i [])) p m.length->s2.heap.get? D=some (seqObj "list" (mB (r.map Value.ref) p).toArray c)->FpOk X Z O D->R (.done (.ret .none)) s2):
  wpAny (model X.prog X.w) X.A.in1.in1 (ksk_tree D (.ref f) false) R E s:=by
 have la:=T.len;have lv:(r.map Value.ref).length=m.length:=by rw[hJ,la]
 have lD:D<s.heap.objs.size:=iu ho;obtain⟨d0,d1,d2,d3,d4,d5⟩:=fD
 let h1:=s.heap.update D (Obj.mapSeq λ_=>(#v[]:AV))
 obtain⟨J,U⟩:∃J,h1.get? D=some (seqObj "list" #v[] J):=#[_,wZ ho λ_=> #v[]];have I1:Inv X Z t H {s with heap:=h1}:=I.turned (t':=s.toks) (λb o Y e=>(mW _ _ (jq Y)).trans e) d0 d1 d3 d4 d5
 let B:=h1.push (seqObj "tuple" (r.map Value.ref).toArray 0)
 have I3:Inv X Z t H {s with heap:=B.push (seqObj "list" #v[] 0)}:=I1.kept (t':=s.toks) λb o e=>zr e _ _;have af:(B.push (seqObj "list" #v[] 0)).get? D=some (seqObj "list" #v[] J):=zr U _ _;have ag:(B.push (seqObj "list" #v[] 0)).get? B.objs.size=some (seqObj "list" ((([]:As)).map Value.ref).toArray 0):=jp _ rfl;have lk:s.heap.objs.size<=B.objs.size:=by
  show _<=(h1.push _).objs.size;rw[size_push'];show _<=(s.heap.update D _).objs.size+1;rw[Heap.size_update];exact vp _
 have fk:FpOk X Z H B.objs.size:=I.fpOk lk (I.hok.fresh lk);have ne:B.objs.size≠D:=pH (jy lD lk);unfold ksk_tree;refine f' (listItems_at ho rZ ?_);refine f' (xb ho rZ ?_ (by rw[i8,iR];lia) (mC _));refine f' (AY U rZ ?_);refine f' (wpAny_newTuple ?_ (by show(r.map Value.ref).length<=_;rw[iR];lia));refine f' (xq ?_ (mC _));refine lL ?_;show wpAny (model X.prog X.w) X.A.in1.in1 (ksk_rest D (.ref f) false (r.map Value.ref).toArray J (.ref B.objs.size)) R E {s with heap:=B.push (seqObj "list" #v[] 0)};unfold ksk_rest;refine f' (rJ ?_);rw[List.forIn_toArray];refine f' (GS F hr hb ne (λx s0 C Qy hx hC=>?_) r m H [] 0 _ I3 T ag af fk #[d0,d1,d2,d3,d4,d5] (by simp;lia) λO G c2 s2 I2 gg K2 eS eD f1 f2=>?_)
 .refine f' (rm (ke hx (λk s' hk=>?_) λ_ _ z=>z.elim));obtain⟨ah,c,e,l,qy⟩:=hC k s' hk;refine f' (xb e rZ ?_ (by rw[iR];lia) (by show(ah.push k).size<=_;rw[tv,iR];lia));exact hI #[rZ,qy]
 rw[DH]at eS;have aa:(G.map Value.ref).length=(r.map Value.ref).length:=by rw[hJ,lv,K2.l1]
 refine f' (listItems_at eS rZ ?_);have fin:∀(st:SortSt) (p:Array Nat),Arr m.length p->tr (λi=>pj (oE g) m (m.getD i [])) p m.length->(arrOf st).map (·.2)=(mB (r.map Value.ref) p).toArray->failedOf st=none->
   wpAny (model X.prog X.w) X.A.in1.in1 (ksk_tail D false J (.ref B.objs.size) st) R E s2:=λst p ar up L hf=>by
  have sz:(mB (r.map Value.ref) p).toArray.size=m.length:=by
   rw[i8,hJ,i4,ar.size]
  unfold ksk_tail
  try dsimp only
  rw[L];have I4:Inv X Z t O {s2 with heap:=s2.heap.update B.objs.size (Obj.mapSeq λ_=>(#v[]:AV))}:=by
   obtain⟨w0,w1,w2,w3,w4,w5⟩:=f1;exact I2.turned (t':=s2.toks) (λb o Y e=>(mW _ _ (jq Y)).trans e) w0 w1 w3 w4 w5
  have M:(s2.heap.update B.objs.size (Obj.mapSeq λ_=>(#v[]:AV))).get? D=some (seqObj "list" #v[] J):=(mW _ _ ne).trans eD;obtain⟨c5,ai⟩:∃c5,((s2.heap.update B.objs.size (Obj.mapSeq λ_=>(#v[]:AV))).update D (Obj.mapSeq λ_=>(mB (r.map Value.ref) p).toArray)).get? D=some (seqObj "list" (mB (r.map Value.ref) p).toArray c5):=#[_,wZ M λ_=>(mB (r.map Value.ref) p).toArray];refine f' (xb eS rZ ?_ (by rw[i8,iR];lia) (mC _));refine f' (vq ?_);refine f' (AY M rZ ?_);refine f' (xb M rZ ?_ (mC _) (by show(mB (r.map Value.ref) p).toArray.size<=_;rw[sz,iR];lia));rw[hf];simp only[bne_self_eq_false,Bool.false_eq_true,if_false];refine hI (q O p _ c5 ?_ gg ar up ai f2);obtain⟨w0,w1,w2,w3,w4,w5⟩:=f2;exact I4.turned (t':=s2.toks) (λb o Y e=>(mW _ _ (jq Y)).trans e) w0 w1 w3 w4 w5
 unfold ksk_end;simp only[Bool.false_eq_true,if_false];by_cases am:2<=m.length
 .have n2: ¬(r.map Value.ref).toArray.size<2:=by rw[i8];lia
  rw[wA n2,wA n2];have To:=wy g m;have inj:=J6 (d:=([]:g9)) To nd;refine f' (ke (Kw (A:=X.A.in1.in1) (by show X.A.units+1+1+8<cLine;lia) I2 () K2) (λκ s0 hk=>?_) λ_ _ x=>x.elim);obtain⟨rfl,hk⟩:=hk;have ak:G.length=m.length:=K2.l1;have ab:(G.map Value.ref).Nodup:=by
   refine pT.mpr λi j hi hj ij z=>?_;rw[yI,yI]at z;rw[hJ]at hi hj;have z:=Value.ref.inj z;have J:=K2.is i G[i] (r[i]'()) (m[i]'()) (hV hi) (hV _) (hV _);have e2:=K2.is j G[j] (r[j]'()) (m[j]'()) (hV hj) (hV _) (hV _);obtain⟨J,aj⟩:=J;obtain⟨e2,ae⟩:=e2;rw[z,e2]at J;have ea:r[j]'()=r[i]'():=by
    have y:=lW J;injection y with y
    injection y with _ y
    injection y with y
    exact V.ref.inj y
   rw[ea]at ae;have et:m[j]'()=m[i]'():=by
    have y:=lW (ae.symm.trans aj);injection y with y
    exact(List.map_inj_right (f:=nv) λa b h=>Int.ofNat.inj (V.int.inj h)).mp y
   have e4:=(se (i:=j) (j:=i) () nd).mp (by rw[hV (),hV (),et]);lia
  refine f' (ke (Hm (ks:=G.map Value.ref) (vs:=r.map Value.ref) (k:=λi=>pj (oE g) m (m.getD i [])) (Q:=λN s'=>s'=s0/\∃p:Array Nat,Arr m.length p/\tr (λi=>pj (oE g) m (m.getD i [])) p m.length/\(arrOf N).map (·.2)=(mB (r.map Value.ref) p).toArray/\failedOf N=none) aa () ab (by rw[lv];exact inj) (λi j C li lj hC=>hk i j C () () (by
   have e:=To.asks (v7 (d:=([]:g9)) (show i<m.length by lia)).2 (v7 (d:=([]:g9)) (show j<m.length by lia)).2;show C (oE g (m.getD i []) (m.getD j [])) _
   rw[<-e];exact hC)) λp N a1 a2 a3 a4=>#[rZ,p,by rw[<-lv];exact a1,by rw[<-lv];exact a2,a3,a4]) ?_ λ_ _ x=>x)
  rintro⟨⟨⟩,st⟩ s' ⟨rfl,p,ar,up,L,hf⟩;exact fin st p ar up L hf
 .have n2:(r.map Value.ref).toArray.size<2:=by rw[i8];lia
  rw[wB n2,wB n2];refine f' (hI (f' (hI ?_)));refine fin _ (List.range m.length).toArray (DZ _) (λx y xy yn=>by lia) ?_ rfl;rw[<-lv,ET];exact Ie aa
end
section
variable{X:Cx}{Z:AO}{j:St}{H:Hp}{s:Sh}{d:Ad}{c:List (List iH×V)}{g:LN}
def L1(I:Inv X Z j H s)(h:H d=some (.dT c))(e:c.map (·.1)=g.map nk):∃J m B,Lies s.heap d m B/\(d==sysModules)=false/\TupsAt H J g/\(∀(i:Nat) (C:DictEntry),m[i]?=some C->∃a,J[i]?=some a/\C.key=.ref a)/\m.size=g.length/\g.Nodup/\g.length<=sizeLine:=by
 obtain⟨z,T,r,l,o,m,B,U,Y,e3,L,M⟩:=(show ObjOk X.prog X.w H s.heap d (.dT c)from I.hok d _ h);have l1:c.length=r.length:=r3 l;have l2:c.length=g.length:=by rw[<-hJ (f:=(·.1)) (as:=c),e,hJ]
 have le:m.size=r.length:=A1 L;have D:∀(i:Nat) (t:g9),g[i]?=some t->∃k v y u,c[i]?=some (k,v)/\r[i]?=some (k,y,u)/\k=nk t/\H y=some (.tup (t.map nv)):=λi t A=>by
  have li:=(ik.mp A).1;obtain⟨⟨k,v⟩,n⟩:∃p,c[i]?=some p:=#[_,hV ()];obtain⟨⟨k',y,u⟩,w,E,p2,p3⟩:=Aa l n;have N:k=nk t:=by
   have z1:(c.map (·.1))[i]?=some k:=by rw[iB,n];rfl
   rw[e,iB,A]at z1;exact(lW z1).symm
  have G:k=k':=E;subst G;refine#[k,v,y,u,n,w,N,?_];have x:H y=some (.tup (k.map kV)):=p2;rw[N,nL]at x;exact x
 refine#[r.map (·.2.1),m,B,#[o,U,Y,e3],T,#[by rw[hJ];lia,λi b t O A=>?_],λi C Q=>?_,(),?_,()]
 .obtain⟨k,v,y,u,_,w,_,hy⟩:=D i t A;rw[iB,w]at O;cases O;exact hy
 .rw[entry_at L]at Q;obtain⟨q,eq,rfl⟩:=ju.mp Q;exact#[q.2.1,by rw[iB,eq];rfl,rZ]
 .have z1:(r.map (·.1))=g.map nk:=by
   rw[<-e];refine x9 λi=>?_;rw[iB,iB];cases n:c[i]? with
   |none=>rw[pJ (by rw[<-l1];exact List.getElem?_eq_none_iff.mp n)];rfl
   |some p=>
    obtain⟨q,w,E,_⟩:=Aa l n;rw[w];exact jv some E.symm
  rw[z1]at M;exact(yb.mp M).imp λh z=>h (jv nk z)
def OJ{e:As}{d:Array DictEntry}{b:AV}(is:∀(i:Nat) (c:DictEntry),d[i]?=some c->∃a,e[i]?=some a/\c.key=.ref a)(n:e.length=d.size)(f:ItemsOf (λi v=>∃c,d[i]?=some c/\v=c.key) b d.size):b.toList=e.map Value.ref:=by
 refine x9 λi=>?_;by_cases h:i<d.size
 .obtain⟨v,g⟩:∃v,b[i]?=some v:=#[_,nc (by rw[f.1];exact h)];obtain⟨c,j,k⟩:=f.2 i v g;obtain⟨a,l,m⟩:=is i c j;rw[mF,g,iB,l,k,m];rfl
 .rw[pJ (by rw[i4,f.1];lia),pJ (by rw[hJ];lia)]
theorem Hx:∀l:As,Vals (l.map V.ref) (l.map Value.ref)
 | []=> .nil
 |x::l=> .cons rZ (Hx l)
end
section
variable{X:Cx}
inductive nh(g:g9->Int)(f:List V)(H:Hp)(Q:VK):Prop|mk:∀d a c,f=[V.ref d]->H d=some (.dT a)->a.map (·.1)=c.map nk->c.length<64->(∀D bs e b,Same H b->H D=none->b D=some (.lst (bs.map V.ref))->TupsAt b bs e->e.Perm c->e.Pairwise (λx y=>oE g x y=true)->Q (.ref D) b)->nh g f H Q
def IE{a:As}{p:Array Nat}(b:Arr a.length p):mB (a.map Value.ref) p=(p.toList.map λi=>a.getD i 0).map Value.ref:=by
 unfold mB;rw[mJ];refine vY λi c=>?_;have d:i<a.length:=by
  have m:=(pS.mp b).mem_iff.mp c;simpa using m
 show(a.map Value.ref).getD i Value.none=Value.ref (a.getD i 0);rw[j6,j6,iB,hV d];rfl
def OE{w:Nat}{f:Ad}{x:Fd}{y:Ss}{g:g9->Int}{Z:AO}{l:St}{H:Hp}{s:Sh}{Q:VK}{d:Ad}(J:X.calm=true)(M:X.A.units+64<cLine)(F:FnOk X.prog X.w X.K X.mg X.base iF w f x y (mj g))(N:Room w X.A.in1.in1)(O:Binds X.K x y [])(I:Inv X Z l H s)(h:nh g [.ref d] H Q):wpAny (model X.prog X.w) X.A (call (.builtin "sorted") [.ref d] [(Str.ofString "key",.ref f)]) (EP X Z l Q) X.xe s:=by
 obtain⟨d',U,Y,e0,hd,e,t,q⟩:=h;cases e0;obtain⟨a,es,ep,L,nm,T,is,le,nd,u⟩:=L1 I hd e;refine call_function_entry_kw kind_sorted plain_sorted entry_sorted (ksk_s1 _ _) ?_;unfold Builtin.«sorted»;refine f' (m:=checkCount "sorted" 1 1 _) (hI ?_);refine f' (kdu_collect (A:=X.A.in1) (DT nm) (by simpa using I.ok.hd J) L () λj n aa keep it=>?_);have ea:=OJ is (by rw[T.len,le]) it;rw[ea];have r:Inv X Z l H {s with heap:=j,toks:=n}:=I.kept keep;refine f' (xq ?_ (by rw[hJ,T.len,iR];lia));have B:(j.push (seqObj "list" (a.map Value.ref).toArray 0)).get? j.objs.size=some (seqObj "list" (a.map Value.ref).toArray 0):=jp _ rfl;have I2:Inv X Z l H {s with heap:=j.push (seqObj "list" (a.map Value.ref).toArray 0),toks:=n}:=r.kept (t':=n) λb o z=>iG _ z;have C:H j.objs.size=none:=r.hok.fresh (ig _);have fD:FpOk X Z H j.objs.size:=r.fpOk (ig _) C;refine f' (lL (wpAny_call_entry_kw slot_list_sort #[_,B,rZ] CV (IY (s:={s with heap:=j.push (seqObj "list" (a.map Value.ref).toArray 0),toks:=n}) F N O M I2 T nd t B fD λH2 p s2 c Iz D k up E f2=>#[_,rfl,?_]) (ksk_l1 _ _)));have v:Arr a.length p:=by rw[T.len];exact k
 rw[IE v]at E;have T2:=(T.same D).pick k;obtain⟨G,w1,w2,w3,w4,w5⟩:=f2;have few:((p.toList.map λi=>a.getD i 0).map V.ref).length<=sizeLine:=by
  rw[hJ,hJ,i4,k.size];exact u
 have I5:=Iz.track (o:= .lst ((p.toList.map λi=>a.getD i 0).map V.ref)) G #[few,_,c,Hx _,E] (i5 r.sz (ig _)) w1 w4 w5;have k5:=iq G (.lst ((p.toList.map λi=>a.getD i 0).map V.ref));exact hI #[_,rZ,.ref j.objs.size,_,I5,rZ,q _ _ _ _ (D.trans k5) C hO (T2.same k5) (JY k) (L8 (wy g Y) k up)]
def Ji(g:g9->Int)(a:TE):TE:=λb H Q=>a b H λx c=>∃d,x=.ref d/\nh g [.ref d] c Q
def Ks{n:Nat}{v:Ss}{g:g9->Int}{b:Str}{e:Expr}{c:TE}{p w y a:Pos}(z:X.calm=true)(A:X.A.units+64<cLine)(B:iD X.prog X.w X.K X.mg X.base b n v (mj g))(C:Room (n+2) X.A)(D:Gl X "sorted")(E:X.mg "sorted"=none)(i:Gl X b)(G:PE X e c)(j:(b==("__debug__":Str))=false:=by decide) (k:starEach [e] X.env=[(false,eval e X.env)]:=by rfl):PE X (.Call (.Name "sorted" p) [e] [#[some "key",.Name b w,y]] a) (Ji g c):=by
 intro Z s J H Q I h;obtain⟨f,O,F,l,T,L⟩:=B;refine qq (xO I D E zU ?_);refine callWith_kw ?_ (by rw[k];rfl) (by rw[k];rfl);have M:PA X [e] (oq c pr):=ir G im k;refine ie (M a Z s J H (λm o=>match m with| [x]=>∃d,x=.ref d/\nh g [.ref d] o Q|_=>False) I h) λU Y ⟨m,o,t,r,q⟩=>?_
 match m,r,q with
 | [x],r,q=>
  obtain⟨d,rfl,q⟩:=q;obtain⟨u,rfl,N⟩:=m7 r;cases N;refine kws_cons (rG t i l (kws_nil ?_) j);exact OE z A F C.in1.in1 L t q
end
end L2
namespace L2
open PySem PySem.Spec PyProof.Rows
section
variable{X:Cx}{Z:AO}{j:St}{H:Hp}{s:Sh}{d:Ad}{c:List (List iH×V)}{g:LN}{o:Obj}
def Inv.freeze(I:Inv X Z j H s)(h:H d=some (.dT c))(e:s.heap.get? d=some o):Inv X Z j (hA H d (.frz o (.dT c))) s:=by
 obtain⟨z,b,f,a,g,i,k,l,m,n,t,u⟩:=(show ObjOk X.prog X.w H s.heap d (.dT c)from I.hok d _ h);refine I.write (x:=d) (e:=d) (h':=s.heap) (t':=s.toks) (by rw[h];exact True.intro) (.inl rfl) (λ_ _ _ q=>q) #[o,e] #[e,z,b,f,Paired.mapP a λp q r=>#[r.1,?_,r.2.2],g,i,k,l,m,n,t,u];rw[hK (nE r.2.1 h)];exact r.2.1
def Ef(I:Inv X Z j H s)(h:H d=some (.frz o (.dT c)))(e:c.map (·.1)=g.map nk):∃A l r,s.heap.get? d=some o/\o.ExactDict/\o.data=.dict l r/\(d==sysModules)=false/\TupsAt H A g/\(∀(i:Nat) (w:DictEntry),l[i]?=some w->∃a,A[i]?=some a/\w.key=.ref a)/\l.size=g.length:=by
 obtain⟨B,z,M,x,m,o',l,r,C,N,O,D,nd⟩:=(show ObjOk X.prog X.w H s.heap d (.frz o (.dT c))from I.hok d _ h);rw[B]at C;cases C;have l1:c.length=x.length:=r3 m;have l2:c.length=g.length:=by rw[<-hJ (f:=(·.1)) (as:=c),e,hJ]
 have le:l.size=x.length:=A1 D;refine#[x.map (·.2.1),l,r,B,N,O,M,#[by rw[hJ];lia,λi b t E G=>?_],λi w J=>?_,()]
 .have li:=(ik.mp G).1;obtain⟨⟨k,v⟩,L⟩:∃p,c[i]?=some p:=#[_,hV ()];obtain⟨⟨k',y,u⟩,Q,p1,T,p3⟩:=Aa m L;have U:k=nk t:=by
   have z1:(c.map (·.1))[i]?=some k:=by rw[iB,L];rfl
   rw[e,iB,G]at z1;exact(lW z1).symm
  rw[iB,Q]at E;cases E;have n:H y=some (.tup (k.map kV)):=T;rw[U,nL]at n;exact n
 .rw[entry_at D]at J;obtain⟨q,Y,rfl⟩:=ju.mp J;exact#[q.2.1,by rw[iB,Y];rfl,rZ]
end
def vH(d:Ad)(o:Obj):It:=
  #[λi H=>∃(b:List (List iH×V)) (c:LN) (t:g9),H d=some (.frz o (.dT b))/\b.map (·.1)=c.map nk/\c[i]?=some t,
   λi H x e=>e=H/\∃a,x=.ref a/\∀(b:List (List iH×V)) (c:LN),H d=some (.frz o (.dT b))->b.map (·.1)=c.map nk->∃t:g9,c[i]?=some t/\H a=some (.tup (t.map nv)),
   λi H=>∃b,∃c:LN,H d=some (.frz o (.dT b))/\b.map (·.1)=c.map nk/\c.length<=i]
def Kb{c d:LN}(h:c.map nk=d.map nk):c=d:=xB (λa b e=>uc e) h
def J7{P:Pg}{w:World}{K:O0}{tg:Expr}{d c:Ad}{o:Obj}{y:Array DictEntry}{ep:Nat}(ne:d≠c)(l:o.data=.dict y ep)(ox:o.ExactDict):Turn P w K tg (vH d o) [c] c (λi h=>h.get? c=some (ug d i y.size ep)) where
 mem:=by simp
 obj:=λi h st b f=>by
  have e:b=c:=by simpa using f
  subst e;exact#[_,st,λv z=>by
   have z':Data.fields _=Data.cell v:=z;cases z']
 keep:=λi h m st k=>k c (by simp) _ st
 item:=by
  intro X A hw B hc i Z s σ H E I p st C;subst A hw B;obtain⟨D,ts,t,r,u,x⟩:=C;obtain⟨as,G,J,L,e2,g,nm,T,is,le⟩:=Ef I r u;rw[l]at g;cases g;obtain⟨M,N,f2,O,U,Y⟩:=p c (by simp);have li:=(ik.mp x).1;obtain⟨en,ee⟩:∃en,y[i]?=some en:=#[_,nc ()];obtain⟨a,ea,ek⟩:=is i en ee;refine Fj st #[o,L,ox,l] ee λm j sb=>?_;have I1:Inv X Z σ H {s with heap:=m}:=I.turned (t':=s.toks) (λb o f e=>(sb.2 b f).trans e) M N O U Y;refine#[_,rZ,Ax (s:={s with heap:=m}) (n:="dict_keyiterator") j rfl rfl (by decide) #[.ref a,H,I1,ek,#[rfl,a,rfl,λaa ab g1 g2=>?_],j,λb f=>(p b f).1]];rw[r]at g1;cases g1;have tt:=Kb (u.symm.trans g2);subst tt;exact#[t,x,T.is i a t ea x]
 done:=by
  intro X A hw B hc i Z s σ H E I p st C;subst A hw B;obtain⟨D,ts,r,u,x⟩:=C;obtain⟨as,G,J,L,e2,g,nm,T,is,le⟩:=Ef I r u;rw[l]at g;cases g;obtain⟨M,N,f2,O,U,Y⟩:=p c (by simp);exact EI (I.ok.hd hc) st #[o,L,ox,l] (DX ()) λm eb=>#[rZ,I.turned (t':=s.toks) (λb o f e=>eb b o f e) M N O U Y]
 self:=λ_ i s Q E st q=>by
  have ty:s.TypeIs (.ref c) "dict_keyiterator":=#[_,st,rZ];refine uq ty BF (nA BF ty Iq ?_ (Gw _));exact show wpAny _ _ (ret (.ref c)) _ _ s from hI #[_,rZ,"dict_keyiterator",_,ty,vj.lookup,q]
section
variable{X:Cx}{a:Expr}
def IC(H:Hp)(d:Ad)(o:Obj)(a:List (List iH×V))(b:Hp):Prop:=(H d=some (.frz o (.dT a))/\b=H)\/(H d=some (.dT a)/\b=hA H d (.frz o (.dT a)))
def y9(e:TE):TI:=λf H R=>e f H λx b=>∃d a,∃g:LN,x=.ref d/\a.map (·.1)=g.map nk/\(b d=some (.dT a)\/∃o,b d=some (.frz o (.dT a)))/\∀o c,IC b d o a c->R (vH d o) c
def FE{l:Expr}{p:TE}(z:PE X l p):PI X a l (y9 p):=by
 intro Z s m H R I h;refine ie (z Z s m H _ I h) λv f ⟨x,t,n,A,B⟩=>?_;obtain⟨d,g,G,e,C,w,q⟩:=B;subst e;cases A;have go:∀(i:Hp) (o:Obj),Inv X Z m i f->i d=some (.frz o (.dT g))->R (vH d o) i->wpAny (model X.prog X.w) X.A (pyIter (.ref d)) (B6 X Z m a R) X.xe f:=λi o j c r=>by
  obtain⟨J,L,M,k,u,y,D,T,is,N⟩:=Ef j c C;refine Fg D #[o,k,u,y] ?_;refine#[f.heap.objs.size,[f.heap.objs.size],_,_,i,rZ,j.kept (t':=f.toks) λb o e=>iG _ e,J7 (i6 (iu k)) y u,jp _ rZ,λb E=>?_,r];have e:b=f.heap.objs.size:=by simpa using E
  subst e;exact j.fpOk (ig _) (j.hok.fresh (ig _))
 rcases w with c|⟨o,c⟩
 .obtain⟨_,_,_,_,o,_,_,k,_⟩:=(show ObjOk X.prog X.w t f.heap d (.dT g)from n.hok d _ c);exact go _ o (n.freeze c k) hO (q o _ (.inr #[c,rZ]))
 .exact go t o n c (q o _ (.inl #[c,rZ]))
end
section
variable{d:Ad}{o:Obj}{f:List (List iH×V)}{c:LN}{h:Ss}{g:TG}{k:TT}{l:TE}{j:St}{H:Hp}{Fin:List V->Hp->Prop}
def LY(u:f.map (·.1)=c.map nk)(Pv:Nat->List V->Hp->Prop)(N:c.length<=sizeLine)(x:Pv 0 [] H)(z:∀i n H,i<=c.length->Pv i n H->H d=some (.frz o (.dT f))/\n.length<=i)(A:∀i a t n H,c[i]?=some t->H a=some (.tup (t.map nv))->Pv i n H->g (.ref a) (mQ h j) H λr B=>vN (mQ h j) r/\k r B λb w=>if b=true then l r w λy C=>Pv (i+1) (n++[y]) C else Pv (i+1) n w)(D:∀n H,Pv c.length n H->Fin n H):tD h g k l j (vH d o) H Fin:=by
 refine#[λi m n H=>m=c.length-i/\i<=c.length/\Pv i n H,#[c.length,by simp,Nat.zero_le _,x],?_];rintro i m n H ⟨rfl,E,p⟩;obtain⟨q,O⟩:=z i n H E p;by_cases s:i<c.length
 .refine .inr #[#[f,c,c[i],q,u,by simp[s]],(),Pv (i+1),λQ G I=>#[c.length-(i+1),Nat.sub_succ_lt_self _ _ s,rZ,s,I],λv G y=>?_];obtain⟨e,a,J,y⟩:=y;subst e J;obtain⟨t,L,M⟩:=y f c q u;exact A i a t n _ L M p
 .have e:i=c.length:=by lia
  subst e;exact .inl #[#[f,c,q,u,ig _],(),D n H p]
end
section
variable{d:Ad}{o:Obj}{c:List (List iH×V)}{ts:LN}{g:TG}{f:TS}{D:Ends}{b:St}{H:Hp}
def KQ(n:c.map (·.1)=ts.map nk)(Pv:Nat->St->Hp->Prop)(u:Pv 0 b H)(v:∀i b H,i<=ts.length->Pv i b H->H d=some (.frz o (.dT c)))(w:∀i a t b H,ts[i]?=some t->H a=some (.tup (t.map nv))->Pv i b H->g (.ref a) b H λh r=>f {D with nx:=Pv (i+1),ct:=Pv (i+1),bk:=D.nx} h r) (z:∀b H,Pv ts.length b H->D.nx b H):
  ∃W:Nat->Nat->St->Hp->Prop,(∃m,W 0 m b H)/\∀i m b H,W i m b H->
   ((vH d o).stop i H/\D.nx b H)\/((vH d o).go i H/\∃N:St->Hp->Prop,(∀j k,N j k->∃s,s<m/\W (i+1) s j k)/\∀x k,(vH d o).yld i H x k->g x b k λh r=>f {D with nx:=N,ct:=N,bk:=D.nx} h r):=by
 refine#[λi m b H=>m=ts.length-i/\i<=ts.length/\Pv i b H,#[ts.length,by simp,Nat.zero_le _,u],?_];rintro i m b H ⟨rfl,A,p⟩;have q:=v i b H A p;by_cases l:i<ts.length
 .refine .inr #[#[c,ts,ts[i],q,n,by simp[l]],Pv (i+1),λj k B=>#[ts.length-(i+1),Nat.sub_succ_lt_self _ _ l,rZ,l,B],λx k y=>?_];obtain⟨e,a,C,y⟩:=y;subst e C;obtain⟨t,E,G⟩:=y c ts q n;exact w i a t b _ E G p
 .have e:i=ts.length:=by lia
  subst e;exact .inl #[#[c,ts,q,n,ig _],z b H p]
end
structure CompScope1(X:Cx)(vs:Ss)(x:Str)(sc:Scope):Prop where
 kind:sc.kind=.function
 spl:∃l1 l2,sc.names=l1++(x,.cell)::l2/\(∀y∈l1,y.2≠ .cell)/\∀y∈l2,y.2≠ .cell
 look:sc.names.lookup x=some .cell
 locs:∀y∈sc.names,y.2=.local->sc.names.lookup y.1=some .local
 own:∀y∈X.N.map (me vs),sc.names.lookup y≠some .local/\y≠x
 hid:∀y∈vs,sc.names.lookup (wX y)=none
 nd:(vs++X.N.map (me vs)).Nodup
 free:∀y∈sc.names,y.2=.free->X.env.kindOf y.1=some .cell\/X.env.kindOf y.1=some .free
def nH(X:Cx)(a:Ss)(x:Str)(b:Scope)(C:Ad)(s:Sh)(H:Hp)(c:As):Cx where
 prog:=X.prog
 w:=X.w
 K:=X.K
 mg:=X.mg
 base:=X.base
 A:=X.A
 N:=a++X.N.map (me a)
 s₀:=s
 H₀:=H
 env:=compEnvC b ((x,C+1)::lV X.env b) C X.env
 outer:=X.stack
 stack:=X.stack
 ex:=c
 fn:=λy=>y==x
 calm:=X.calm
 pn:=X.pn
 xe:=λ_ _=>False
section
variable{M:Model}{A:Ar}{E:VP}{s:Sh}{d:Scope}{x:Str}{c:List (Str×Ad)}{globals:Ad}{qual:Str}{a:Env}
def MZ{Q:Env->Sh->Prop}(p:∃l1 l2,d.names=l1++(x,.cell)::l2/\(∀y∈l1,y.2≠ .cell)/\∀y∈l2,y.2≠ .cell)(q:Q {scope:=d,locals:=s.heap.objs.size,globals:=globals,cells:=(x,s.heap.objs.size+1)::c,qual:=qual,func:=none,code:=a.code,frame:=a.frame,builtins:=a.builtins}
      {s with heap:=(s.heap.push {cls:= .type "dict",data:= .dict #v[]}).push {cls:= .type "cell",data:= .cell none}}):wpAny M A (newFunctionEnv d globals c [] qual none .none (some a)) Q E s:=by
  obtain⟨l1,l2,e,r,t⟩:=p;unfold newFunctionEnv;refine f' (zX ?_);rw[e];have sz:(s.heap.push {cls:= .type "dict",data:= .dict #v[]}).objs.size=s.heap.objs.size+1:=vh ..;refine f' (wpAny_forIn_list _ (λrest cells i=>(∃f,rest=f++(x,.cell)::l2/\(∀y∈f,y.2≠ .cell)/\cells=c/\i={s with heap:=s.heap.push {cls:= .type "dict",data:= .dict #v[]}})\/((∀y∈rest,y.2≠ .cell)/\cells=(x,s.heap.objs.size+1)::c/\i={s with heap:=(s.heap.push {cls:= .type "dict",data:= .dict #v[]}).push {cls:= .type "cell",data:= .cell none}})) _ (λz rest b i k=>?_) (λb i k=>?_) _ _ (.inl #[l1,rfl,r,rfl,rfl]))
  · rcases k with⟨f,j,g,rfl,rfl⟩|⟨h,rfl,rfl⟩
    · cases f with
      | nil=>
        injection j with l n
        subst l n;dsimp only;rw[wB (by rfl)];refine f' (zX (hI (.inr #[t,?_,rZ])));rw[sz]
      | cons y f=>
        injection j with l n
        subst l n;have o:=g z (i7 ..);dsimp only;rw[wA (by simpa using o)];exact hI (.inl #[f,rZ,λw hw=>g w (jr _ hw),rZ,rZ])
    · have o:=h z (i7 ..)
      dsimp only;rw[wA (by simpa using o)];exact hI (.inr #[λw hw=>h w (jr _ hw),rZ,rZ])
  · rcases k with⟨f,j,_⟩|⟨_,rfl,rfl⟩
    · cases f<;>cases j
    · refine f' (m:=forIn [] _ _) ?_
      rw[List.forIn_nil];exact hI (hI q)
end
section
variable{X:Cx}{Z:AO}{g:St}{H:Hp}{s:Sh}{f:Ss}{x:Str}{a:Scope}
def NU{C:Ad}{fp:As}{T:Heap}{tk:Nat}{m0:SV}(S:CompScope1 X f x a)(I:Inv X Z g H s)(hf:∀b∈fp,FpOk X Z H b)(ho:∀b∈fp,∃o,s.heap.get? b=some o)(k:∀b o,s.heap.get? b=some o->T.get? b=some o) (af:T.Ns C m0) (E:s.heap.objs.size<=C) (ag:T.IsCell (C+1) none):Inv (nH X f x a C s H fp) Z (mQ f g) H {s with heap:=T,toks:=tk}:=by
 have j:∀y c,(lV X.env a).lookup y=some c->X.env.cells.lookup y=some c:=vP a.names [] λy c e=>by simp at e
 have A:∀y c,List.lookup y ((x,C+1)::lV X.env a)=some c->(y=x/\c=C+1)\/(y≠x/\(lV X.env a).lookup y=some c):=λy c e=>by
  rw[ng]at e;cases L:y==x with
  |true=>
   rw[L]at e;cases e;exact .inl #[eq_of_beq L,rZ]
  |false=>
   rw[L]at e;exact .inr #[λz=>by rw[z]at L;simp at L,e]
 have U:List.lookup x ((x,C+1)::lV X.env a)=some (C+1):=by rw[ng];simp
 have Y:∀y,y≠x->List.lookup y ((x,C+1)::lV X.env a)=(lV X.env a).lookup y:=λy ny=>by
  rw[ng];have:(y==x)=false:=by simpa using ny
  rw[this]
 have fr:∀y,a.names.lookup y=some .free->X.env.kindOf y=some .cell\/X.env.kindOf y=some .free:=λy e=>S.free (y,.free) (qo e) rfl;have ah:∀y,(X.env.kindOf y=some .cell\/X.env.kindOf y=some .free)->∃c,X.env.cells.lookup y=some c:=λy e=>I.ok.has y e;have M:∀y,a.names.lookup y=some .cell->y=x:=λy e=>by
  obtain⟨l1,l2,en,n1,n2⟩:=S.spl;have m:=qo e;rw[en]at m
  rcases iN.mp m with z|z
  .exact wC rZ (n1 _ z)
  .rcases iM.mp z with z|z
   .injection z
   .exact wC rZ (n2 _ z)
 have l:∀{y:Str} {kd:NameKind},(relabel a X.env).names.lookup y=some kd->kd=.cell\/kd=.free->y=x\/a.names.lookup y=some .free:=λ{y kd} e hk=>by
  rcases vZ (names:=a.names) e with z|⟨z,_⟩
  .rcases hk with q|q
   .subst q;exact .inl (M y z)
   .subst q;exact .inr z
  .exact .inr z
 have has:∀y,a.names.lookup y=some .free->∃c,(lV X.env a).lookup y=some c:=λy e=>CS a.names [] y e (ah y (fr y e));have aa:∀y c,X.env.cells.lookup y=some c->c<s.heap.objs.size:=λy c e=>let⟨_,z⟩:=I.cell y c e;z.lt
 have kc:∀{c v},s.heap.IsCell c v->T.IsCell c v:=λ{c v} ⟨o,e,d⟩=>#[o,k _ _ e,d];have w:∀y,y=x\/a.names.lookup y=some .free->∃c,List.lookup y ((x,C+1)::lV X.env a)=some c:=λy h=>by
  by_cases e:y=x
  .rw[e];exact#[_,U]
  .rcases h with h|h
   .exact wC h e
   .rw[Y y e];exact has y h
 refine#[#[I.ok.mod,S.kind,I.ok.glob,I.ok.blt,E,λy z c h1 O=>?_,λy L=>?_,λy c z O=>?_,I.ok.hd,I.ok.frames,.inl rZ,λb N=>#[?_,λy c e=>?_],I.bs,i5 I.ok.bsz I.sz,λb o e N=>?_,λb N hs=>?_,I.stack,I.stkFree],
  rfl,I.bare,Un.kept k,#[m0,af,λi y v e1 Q e3=>?_],λy c e=>?_,I.hok.fresh E,λy c e=>?_,λp hp=>?_,I.hok.kept k,?_]
 .rcases A y c h1 with⟨rfl,rfl⟩|⟨_,J⟩
  .rcases A z _ O with⟨rfl,_⟩|⟨_,q2⟩
   .rfl
   .exact wC (jy (aa _ _ (j _ _ q2)) (zE E)) (oi _)
  .rcases A z c O with⟨rfl,rfl⟩|⟨_,q2⟩
   .exact wC (jy (aa _ _ (j _ _ J)) (zE E)) (oi _)
   .exact I.ok.inj y z c (j y c J) (j z c q2)
 .have ai:(relabel a X.env).names.lookup y=some .cell\/(relabel a X.env).names.lookup y=some .free:=L
  rcases ai with z|z
  .exact w y (l z (.inl rZ))
  .exact w y (l z (.inr rZ))
 .have ey:y=x:=eq_of_beq z;subst ey;have ab:List.lookup y ((y,C+1)::lV X.env a)=some c:=O;rw[U]at ab;cases ab;exact zE E
 .obtain⟨o,e⟩:=ho b N;exact i6 (jy (iu e) E)
 .rcases A y c e with⟨_,rfl⟩|⟨_,J⟩
  .obtain⟨o,e⟩:=ho b N;exact pH (wn (jy (iu e) E))
  .exact(hf b N).2.2.2.2.1 y c (j y c J)
 .obtain⟨_,_,_,z,_⟩:=hf b N
  rcases z with z|z
  .exact I.ok.noex b o e z
  .exact wC (jy (iu (I.ok.bs b o e).1) z) (oi _)
 .obtain⟨_,h1,O,_⟩:=hf b N
  rcases iM.mp (I.stkSub b hs)with z|z
  .exact h1 z
  .exact O z
 .have B:(f++X.N.map (me f))[i]?=some y:=e1;have D:(List.replicate f.length none++g)[i]?=some (some v):=Q;have hi:f.length<=i:=by
   by_cases z:i<f.length
   .rw[j5 (by simpa using z),List.getElem?_replicate]at D;split at D<;>cases D
   .lia
  rw[ku hi]at B;rw[ku (by simpa using hi),List.length_replicate]at D;have yN:y∈X.N.map (me f):=iV B;obtain⟨nl,nx⟩:=S.own y yN;have ae:(relabel a X.env).names.lookup y=some .local\/(relabel a X.env).names.lookup y=some .cell\/(relabel a X.env).names.lookup y=some .free:=e3;have G:a.names.lookup y=some .free:=by
   rcases ae with z|z|z
   .rcases vZ (names:=a.names) z with q|⟨_,q⟩
    .exact wC q nl
    .cases q
   .exact(l z (.inl rZ)).resolve_left nx
   .exact(l z (.inr rZ)).resolve_left nx
  have B:X.N[i-f.length]?=some y:=by
   have t:(X.N.map (me f))[i-f.length]?=some y:=B;rw[iB]at t;cases e:X.N[i-f.length]? with
   |none=>rw[e]at t;cases t
   | some y0=>
    rw[e]at t;have Q:me f y0=y:=lW t;unfold me at Q
    split at Q
    .rename_i hc
     rw[<-Q,S.hid y0 (by simpa using hc)]at G;cases G
    .rw[Q]
  have ok:=fr y G;obtain⟨m,_,hl⟩:=I.loc;obtain⟨u,r,lk⟩:=hl (i-f.length) y v B D (.inr ok);refine#[u,r,?_]
  rcases lk with⟨q,_⟩|⟨_,c,ec,hc⟩
  .rcases ok with z|z<;>rw[z]at q<;>cases q
  .obtain⟨c',e'⟩:=has y G;have:c'=c:=lW ((j y c' e').symm.trans ec);subst this;refine .inr #[?_,c',(Y y nx).trans e',kc hc]
   rcases ae with z|z|z
   .rcases vZ (names:=a.names) z with q|⟨_,q⟩
    .exact wC q nl
    .cases q
   .exact .inl z
   .exact .inr z
 .rcases A y c e with⟨_,rfl⟩|⟨_,J⟩
  .exact#[none,ag]
  .obtain⟨v,z⟩:=I.cell y c (j y c J);exact#[v,kc z]
 .rcases A y c e with⟨_,rfl⟩|⟨_,J⟩
  .exact I.hok.fresh (zE E)
  .exact I.freeC y c (j y c J)
 .obtain⟨e,n,ne,nf,d⟩:=I.pin p hp;refine#[k _ _ e,n,i6 (jy (iu e) E),λz=>?_,d]
  rcases iM.mp (I.stkSub p.1 z)with q|q
  .exact ne q
  .exact nf q
 .show(List.replicate f.length none++g).length=(f++X.N.map (me f)).length;rw[jk,jk,EF,hJ,I.len]
end
section
variable{X:Cx}{Z:AO}{k:St}{H:Hp}{s:Sh}{f:Ss}{j:Str}{a:Scope}{w q l:Expr}{m:List Expr}{t:Pos}{g:TG}{A:TT}{B:TE}
def IS{J:It}{L:As}{it:Ad}{tn:Nat->Heap->Prop}{E:VP}{RR:Vl->Ad->Result->Sh->Prop}{Fin:List V->Hp->Prop}(S:CompScope1 X f j a) (hc:X.calm=true) (hg:∀C s H L,PG (nH X f j a C s H L) w g) (ht:∀C s H L,rH (nH X f j a C s H L) m A) (he:∀C s H L,PE (nH X f j a C s H L) q B)(I:Inv X Z k H s) (T:Turn X.prog X.w X.K w J L it tn) (st:tn 0 s.heap) (hf:∀b∈L,FpOk X Z H b) (hW:tD f g A B k J H Fin)(aA:∀D C Y G ys m',Inv X Z k (hA G D (.lst ys)) Y->G D=none->FpOk X Z (hA G D (.lst ys)) C->Y.heap.Ns C m'->Fin ys G->RR (.ref D) C (.ok .next) Y):
  wpAny (model X.prog X.w) X.A (newList []) (λau s3=>wpAny (model X.prog X.w) X.A (newFunctionEnv a X.env.globals (lV X.env a) [] X.env.qual none .none (some X.env)) (λcenv s4=>
   codeAny (model X.prog X.w) X.A (.compStart (.ListComp q [#[w,l,m,0]] a t) 0 (.ref it) au {cenv with scope:=relabel a X.env}) (RR au cenv.locals) s4) E s3) E s:=by
 obtain⟨W,⟨m0,w0⟩,av⟩:=hW;refine pC (MZ S.spl ?_);dsimp only;generalize an:s.heap.push {cls:= .type "list",dict:=none,data:= .seq ([]:Vs).toArray}=H2;have hC:H2.objs.size=s.heap.objs.size+1:=by rw[<-an,vh]
 have aj:=(Heap.Ns.new H2 (.type "dict")).push {cls:= .type "cell",data:= .cell none};have U:((H2.push {cls:= .type "dict",data:= .dict #v[]}).push {cls:= .type "cell",data:= .cell none}).get? (H2.objs.size+1)=some {cls:= .type "cell",data:= .cell none}:=by
  rw[<-vh (h:=H2) (o:={cls:= .type "dict",data:= .dict #v[]})];exact jp _ rfl
 have aa:∀b o,H2.get? b=some o->((H2.push {cls:= .type "dict",data:= .dict #v[]}).push {cls:= .type "cell",data:= .cell none}).get? b=some o:=λb o e=>iG _ (iG _ e);generalize(H2.push {cls:= .type "dict",data:= .dict #v[]}).push {cls:= .type "cell",data:= .cell none}=h1 at aj U aa|-;have aw:=aj;have ab:h1.IsCell (H2.objs.size+1) none:=#[_,U,rZ];generalize aN:H2.objs.size=C at aw hC ab|-;generalize ae:s.heap.objs.size=D at hC|-;have ao:D≠C:=by lia
 have below:∀b o,s.heap.get? b=some o->b≠D/\b≠C:=λb o e=>by
  have z:b<s.heap.objs.size:=iu e;rw[ae]at z;exact#[i6 z,i6 (by rw[hC];exact wn z)]
 have old:∀b o,s.heap.get? b=some o->h1.get? b=some o:=λb o e=>aa b o (an▸iG _ e);have aB:h1.get? D=some {cls:= .type "list",data:= .seq ([]:Vs).toArray}:=aa _ _ (by rw[<-an,<-ae];exact jp _ rZ);have af:∀b∈L,∃o,s.heap.get? b=some o:=λb M=>let⟨o,e,_⟩:=T.obj 0 _ st b M;#[o,e]
 have ap:∀b∈L,b≠D/\b≠C:=λb M=>let⟨o,e⟩:=af b M;below b o e
 have fD:∀G,G D=none->FpOk X Z G D:=λG n=>I.fpOk () n;have fC:∀G,G C=none->FpOk X Z G C:=λG n=>I.fpOk () n;have aC:∀p∈X.pn++Z,p.1≠D:=λp hp=>(below _ _ (I.pin p hp).1).1;have ax:∀y c,List.lookup y ((j,C+1)::lV X.env a)=some c->c=C+1\/(lV X.env a).lookup y=some c:=λy c e=>by
  rw[ng]at e;cases hy:y==j with
  |true=>
   rw[hy]at e;cases e;exact .inl rfl
  |false=>
   rw[hy]at e;exact .inr e
 have aq:∀y c,List.lookup y ((j,C+1)::lV X.env a)=some c->c≠D:=λy c e=>by
  rcases ax y c e with rfl|e
  .lia
  .have e':=vP a.names [] (λy c e=>by simp at e) y c e;obtain⟨v,z⟩:=I.cell y c e';have z':c<s.heap.objs.size:=z.lt;rw[ae]at z';exact i6 z'
 have aD:∀b,b∈iI X.stack->∃o,s.heap.get? b=some o:=λb M=>let⟨_,o,ho,_⟩:=I.stack.mem M;#[o,ho]
 have aE:D∉iI X.stack:=λz=>let⟨o,e⟩:=aD D z;(below _ _ e).1 rfl
 have ar:∀{pl:AO} {G:Hp},(∀p∈pl,p.1=D)->(∀b∈L,G b=none)->∀b∈L,FpOk (nH X f j a C s H L) (Z++pl) G b:=λ{pl G} aF hn b M=>by
  obtain⟨_,q1,q2,q3,q4,q5⟩:=hf b M;refine#[hn b M,(ap b M).2,λz=>?_,.inl M,λy c e=>?_,λp hp=>?_]
  .rcases iM.mp (I.stkSub b z)with y|y
   .exact q1 y
   .exact q2 y
  .rcases ax y c e with rfl|e
   .obtain⟨o,eo⟩:=af b M;have z:b<s.heap.objs.size:=iu eo;rw[ae]at z;intro ez;have z2:C+1<D:=by rw[ez];exact z
    lia
   .exact q4 y c (vP a.names [] (λy c e=>by simp at e) y c e)
  .rcases iN.mp hp with z|z
   .exact q5 p (pA _ z)
   .rcases iN.mp z with y|y
    .exact q5 p (jj _ y)
    .rw[aF p y];exact jq (ap b M).1
 have ak:∀s3:Sh,s3={s with heap:=h1}->
   codeAny (model X.prog X.w) X.A (.compLoop (.ListComp q [#[w,l,m,0]] a t) 0 (.ref it) (.ref D) (compEnvC a ((j,C+1)::lV X.env a) C X.env)) (RR (.ref D) C) s3:=by
  rintro s3 rfl;have I0:Inv (nH X f j a C s H L) Z (mQ f k) H {s with heap:=h1}:=NU (tk:=s.toks) S I hf af old aw () ab;refine E8 (λn Y=>∃i ys O no G,Inv (nH X f j a C s H L) Z (mQ f k) G Y/\tn i Y.heap/\(∀b∈L,G b=none)/\G D=none/\
   Y.heap.get? D=some {cls:= .type "list",data:= .seq O.toArray no}/\Vals ys O/\W i n ys G) ?_ m0
   #[0,[],[],0,H,I0,T.keep 0 _ _ st λb M o e=>old b o e,λb M=>(hf b M).1,I.hok.fresh (),aB,.nil,w0]
  rintro n Y ⟨i,ys,O,no,G,I1,ay,az,ah,aG,ai,w1⟩;have al:Inv (nH X f j a C s H L) (Z++[(D,{cls:= .type "list",data:= .seq O.toArray no})]) (mQ f k) G Y:=I1.pins_of λp hp=>by
   rcases iN.mp hp with z|z
   .exact I1.pin p (jj _ z)
   .have e:p=(D,{cls:= .type "list",data:= .seq O.toArray no}):=by simpa using z
    subst e;exact#[aG,ah,ao,aE,λv z=>by have z':Data.seq _ _=Data.cell v:=z;cases z']
  have Q:∀p∈[((D,{cls:= .type "list",data:= .seq O.toArray no}):Ad×Obj)],p.1=D:=λp hp=>by
   have e:p=(D,{cls:= .type "list",data:= .seq O.toArray no}):=by simpa using hp
   rw[e]
  rcases av i n ys G w1 with⟨stop,hz,fin⟩|⟨go,hz,N,hN,step⟩
  .refine ie (T.done (nH X f j a C s H L) rZ rZ rZ hc i _ Y _ G (λ_ _=>False) al (ar Q az) ay stop) λr s4 ⟨hr,I4⟩=>?_;subst hr;have d4:s4.heap.get? D=some {cls:= .type "list",data:= .seq O.toArray no}:=(I4.pin (D,_) (jj _ (jj _ (i7 ..)))).1;have Io:Inv X Z k G s4:=I.call' (H':=G) (ch:=L) I4.os I4.base I4.hok I4.bare λb M=>by
    obtain⟨_,q1,_,q3,q4,q5⟩:=hf b M;exact#[q3,q1,q4,q5]
   obtain⟨_,a1,_,a3,a4,a5⟩:=fD G ah;have Ia:=Io.adopt hz ai ah d4 (i5 I.sz ()) a1 a4 a5;obtain⟨m4,aH,_⟩:=I4.loc;refine aA D C s4 G ys m4 Ia ah (fC _ ?_) aH fin;rw[hK (jq ao)];exact I4.free
  .refine ie (T.item (nH X f j a C s H L) rZ rZ rZ hc i _ Y _ G (λ_ _=>False) al (ar Q az) ay go) λr s4 ⟨u,hr,h4⟩=>?_;subst hr;refine ie h4 λ_ s5 ⟨x,H5,I5,r5,y5,as,aI⟩=>?_;have aJ:=I5.pinned (ar Q aI) (T.obj _ _ as);refine ie (hg C s H L _ s5 _ H5 x u _ aJ r5 (step x H5 y5)) λ_ s6 ⟨ag,H6,I6,k6,q6⟩=>?_;refine ie (ht C s H L _ s6 ag H6 _ I6 q6) λok s7 ⟨H7,I7,q7⟩=>?_;have am:(mQ f k).length=ag.length:=by rw[I1.len,I6.len]
   have pinned:∀{H8:Hp} {s8:Sh},Inv (nH X f j a C s H L) (Z++[(D,{cls:= .type "list",data:= .seq O.toArray no})]++xj L s5.heap) ag H8 s8->
     tn (i+1) s8.heap/\(∀b∈L,H8 b=none)/\H8 D=none/\s8.heap.get? D=some {cls:= .type "list",data:= .seq O.toArray no}:=λ{H8 s8} I8=>by
    refine#[T.keep _ _ _ as λb M o e=>(I8.pin (b,o) (jj _ (jj _ (xW M e)))).1,λb M=>?_,?_,?_]
    .obtain⟨o,e,d⟩:=T.obj _ _ as b M;exact(I8.pin (b,o) (jj _ (jj _ (xW M e)))).2.1
    .exact(I8.pin (D,_) (jj _ (pA _ (jj _ (i7 ..))))).2.1
    .exact(I8.pin (D,_) (jj _ (pA _ (jj _ (i7 ..))))).1
   cases ok with
   |false=>
    rw[wA (by decide)]at q7|-;obtain⟨m',hm,w7⟩:=hN _ _ q7;obtain⟨a1,a2,a3,a4⟩:=pinned I7;exact#[m',hm,i+1,ys,O,no,H7,(I7.unpinned.unpinned).weak am k6,a1,a2,a3,a4,ai,w7]
   | true=>
    rw[wB rZ]at q7|-;refine ie (he C s H L _ s7 ag H7 _ I7 q7) λyv s8 ⟨y,H8,I8,r8,n8⟩=>?_;obtain⟨m',hm,w8⟩:=hN _ _ n8;obtain⟨a1,a2,a3,a4⟩:=pinned I8;have aK:O.toArray.size<=sizeLine:=by
     have:=ai.length;rw[i8];lia
    refine wpAny_list_append_plain #[no,a4] (λh' pl sb=>?_) aK;obtain⟨aL,aM⟩:=pl;have I9:Inv (nH X f j a C s H L) Z ag H8 {s8 with heap:=h'}:=(I8.unpinned.unpinned).turned (t':=s8.toks) (it:=D) (λb o M e=>(sb.2 b M).trans e) a3 ao (.inr (u4 ae)) aq aC;refine#[m',hm,i+1,ys++[y],O++[yv],aL,H8,I9.weak am k6,T.keep _ _ _ a1 λb M o e=>(sb.2 b (ap b M).1).trans e,a2,a3,?_,ai.append (.cons r8 .nil),w8];rw[aM]
    simp
 exact codeAny_compStart_list (ak _ rZ) (T.self _ 0 _ _ _ (T.keep 0 _ _ st λb M o e=>old b o e) (ak _ rZ))
end
section
variable{X:Cx}{Z:AO}{u:St}{H:Hp}{s:Sh}{d:Scope}{m f c:Expr}{i:List Expr}{l:Pos}{g:TG}{q:TT}{t:TE}
theorem G'{b:Env}{x:Str}:∀{a:List (Str×NameKind)},a.lookup x=some .cell->(a.map λ(n,k)=>if(k==NameKind.free&&b.scope.kind== .function&&b.kindOf n==some .cell)then(n,NameKind.cell)else(n,k)).lookup x=some .cell
 | [],h=>by simp at h
 | (n,k)::r,h=>by
  have d:=@G' b x r;rw[ng]at h;rw[lH];cases c:x==n with
  |true=>
   rw[c]at h;cases h;dsimp only;rw[wA (by simp),List.lookup_cons,c]
  | false=>
   rw[c]at h;dsimp only;split
   .rw[ng,c];exact d h
   .rw[ng,c];exact d h
def CompScope1.clos{a:Ss}{x:Str}(S:CompScope1 X a x d)(I:Inv X Z u H s):closureFor d X.env=pure (lV X.env d):=
 FT λy b c=>I.ok.has y.1 (S.free y b c)
def ND{x:Str}{p:Pos}(S:CompScope1 X [x] x d):∀C s H a,PG (nH X [x] x d C s H a) (.Name x p) (md 0):=λC s H a=>
 mK S.nd rZ (.inr (G' S.look)) (.inl (show(x==x)=true by simp))
def LF{N:TI}{r:Ss}{x:Str}{j:Nat}{y:Str}{n k:Pos}(S:CompScope1 X r x d)(U:X.calm=true)(Y:X.N.Nodup)(hj:X.N[j]?=some y)(O:X.env.scope.names.lookup y=some .local)(hi:PI X m c N)(hg:∀C s H p,PG (nH X r x d C s H p) m g)(ht:∀C s H p,rH (nH X r x d C s H p) i q)(he:∀C s H p,PE (nH X r x d C s H p) f t) (B:swapsWith (.ListComp f [#[m,c,i,0]] d l) (some (.Name y n)) k.line X.env=pure true:=by rfl) (hs:∀x,foldedSetIterable c X.env x=pure x:=by intro _;rfl):
  PS X (.Assign [.Name y n] (.ListComp f [#[m,c,i,0]] d l) k) (p6 (xX r N g q t) (md j)):=by
 intro Z s u H D I h;rw[exec_Assign_Name_used _ _ _ _ B];refine f' (vD (f' ?_));show wpAny _ X.A (do let _ <-comprehension (.ListComp f [#[m,c,i,0]] d l) d X.env _ (newList []) false (eval c X.env) (some (assign (.Name y n) X.env))) _ _ s;refine f' (ke (D5 (use:=some (assign (.Name y n) X.env)) (Q:=λ_ w=>SP X Z D .next w) rZ hs (S.clos I) S.kind S.locs ?_) (λ_ w hq=>hI (hI hq)) λ_ _ e=>e);refine ie (hi Z s u H _ I h) λv s1 h1=>ie h1 λaa s2 h2=>?_;obtain⟨it,p,tn,J,H2,e,I2,T,E,f2,hW⟩:=h2;subst e;refine IS (RR:=λG C=>compPost (model X.prog X.w) X.A X.xe (some (assign (.Name y n) X.env)) (λ_ w=>SP X Z D .next w) G C) S U hg ht he I2 T E f2 hW λA C w H' ys m' I' hD fC ns fin=>?_;obtain⟨c0,c1,c2,c3,c4,c5⟩:=fC;show wpAny _ X.A (assign (.Name y n) X.env (.ref A)) _ _ _;refine Db (DA (v:= .ref A) I' Y hj (.inl O) (show RelV (.ref A) (.ref A)from rfl) (λs3 I3 ⟨a,sb,ha⟩=>?_) (.inr O));have L:a≠C:=by
  rcases ha with z|z
  .rw[z];exact jq c1
  .exact c4 y a z
 refine#[m',ns.sameBut sb (jq L),λh' M=>#[_,_,I3.turned (t':=s3.toks) (it:=C) (λb o hb e=>(M.2 b hb).trans e) c0 c1 c3 c4 c5,fin A hD]]
def Jn{g:TI}{j:Nat}{x y:Str}{p h a:Pos}(S:CompScope1 X [x] x d)(k:X.calm=true)(m:X.N.Nodup)(n:X.N[j]?=some y)(o:X.env.scope.names.lookup y=some .local)(r:PI X (.Name x p) c g)(ht:∀C s H b,rH (nH X [x] x d C s H b) i q) (u:∀C s H b,PE (nH X [x] x d C s H b) f t)(e:swapsWith (.ListComp f [#[.Name x p,c,i,0]] d l) (some (.Name y h)) a.line X.env=pure true:=by rfl) (v:∀x,foldedSetIterable c X.env x=pure x:=by intro _;rfl):
  PS X (.Assign [.Name y h] (.ListComp f [#[.Name x p,c,i,0]] d l) a) (p6 (xX [x] g (md 0) q t) (md j)):=LF S k m n o r (ND S) ht u e v
end
structure CompSc1(N:Ss)(osc:Scope)(vs:Ss)(x:Str)(sc:Scope):Prop where
 kind:sc.kind=.function
 one:(sc.names.filter λy=>y.2== .cell)=[(x,.cell)]
 look:sc.names.lookup x=some .cell
 locs:∀y∈sc.names,y.2=.local->sc.names.lookup y.1=some .local
 own:∀y∈N.map (me vs),sc.names.lookup y≠some .local/\y≠x
 hid:∀y∈vs,sc.names.lookup (wX y)=none
 nd:(vs++N.map (me vs)).Nodup
 free:∀y∈sc.names,y.2=.free->osc.names.lookup y.1=some .cell\/osc.names.lookup y.1=some .free
theorem FY{x:Str}:∀{l:List (Str×NameKind)},(l.filter λy=>y.2== .cell)=[(x,.cell)]->∃l1 l2,l=l1++(x,.cell)::l2/\(∀y∈l1,y.2≠ .cell)/\∀y∈l2,y.2≠ .cell
 | [],h=>by cases h
 | y::l,h=>by
  rw[List.filter_cons]at h;by_cases c:(y.2==NameKind.cell)=true
  .rw[wB c]at h;injection h with a b
   refine#[[],l,by rw[a];rfl,λ_ z=>(nomatch z),λz hz e=>?_];have:=List.filter_eq_nil_iff.mp b z hz
   exact this (by rw[e];rfl)
  .rw[wA c]at h;obtain⟨l1,l2,e,d,f⟩:=FY h;refine#[y::l1,l2,by rw[e];rfl,λz hz=>?_,f]
   rcases iM.mp hz with rfl|hz
   .exact λe=>c (by rw[e];rfl)
   .exact d z hz
def CompSc1.to{X:Cx}{N:Ss}{osc:Scope}{vs:Ss}{x:Str}{a:Scope}(h:CompSc1 N osc vs x a)(b:X.N=N:=by rfl)(c:X.env.scope=osc:=by rfl):CompScope1 X vs x a:=by
 subst b c;exact#[h.kind,FY h.one,h.look,h.locs,h.own,h.hid,h.nd,h.free]
def Oo(a osc:Scope):Bool:=a.names.all λy=> !(y.2== .free) || (osc.names.lookup y.1==some .cell || osc.names.lookup y.1==some .free)
def CompSc.toN{X:Cx}{N:Ss}{vs:Ss}{a:Scope}(d:X.N=N)(k:a.kind=.function)(c:∀y∈a.names,y.2≠ .cell)(l:∀y∈a.names,y.2=.local->a.names.lookup y.1=some .local)(o:∀y∈N.map (me vs),a.names.lookup y≠some .local)(h:∀y∈vs,a.names.lookup (wX y)=none) (f:(vs++N.map (me vs)).Nodup) (g:Oo a X.env.scope=true):CompScope X vs a:=by
 subst d;refine#[k,c,l,o,h,f,λy i e=>?_];have z:=BA.mp g y i;rw[e]at z;have b:(X.env.scope.names.lookup y.1==some .cell || X.env.scope.names.lookup y.1==some .free)=true:=by simpa using z
 rw[Bool.or_eq_true]at b;exact b.imp (λq=>eq_of_beq q) (λq=>eq_of_beq q)
def Mv{K:O0}{X:Cx}{b l:Expr}{a:TE}(c:PE X l a)(d:X.K=K):PI X b l (yr K a):=by
 subst d;exact za c
def t8(a:Zs)(x:Int):Zs:=if x∈a then a else a++[x]
def vl(a:Zs):Zs:=a.foldl t8 []
def IsSetI(P:Pg)(w:World)(h:Heap)(a:Ad)(b:Zs):Prop:=h.SetOf (intKind P w) a (λk=>decide (k∈b)) b.length
section
variable{P:Pg}{w:World}{A:Ar}{E:VP}{S a l:Ad}{xs:Zs}{vs:Vs}
def IsSetI.ext{h h':Heap}{a:Zs}(b:IsSetI P w h S a)(k:∀o,h.get? S=some o->h'.get? S=some o):IsSetI P w h' S a:=by
 obtain⟨o,c,d,t,e,r⟩:=b;exact#[o,c,d,t,k _ e,r]
theorem GH{R:Result->Sh->Prop}(M:A.handled=none)(m:S≠a)(N:S≠l)(O:a≠l)(v:Vals (xs.map V.int) vs)(few:xs.length<=4000):
  ∀(rest:Zs) (i:Nat) (c:Zs) (s:Sh),xs.drop i=rest->c.length<=i->s.heap.IsTupleIter a l i->s.heap.IsTuple l vs.toArray->IsSetI P w s.heap S c->
   (∀d B,IsSetI P w d S (rest.foldl t8 c)->(∀b o,b≠S->b≠a->s.heap.get? b=some o->d.get? b=some o)->R (.ok (.ret .none)) {s with heap:=d,toks:=B})->
   codeAny (model P w) A (.builtin "set.update.loop" #[[.ref S,.ref a],[]]) R s
 | [],i,c,s,n,Y,C,p,D,q=>by
  have Q:vs.length<=i:=by
   have E:vs.length=xs.length:=by simpa using v.length.symm
   have r:=Eo.mp n;lia
  refine ot xE ?_;rw[pO sr _];show wpAny _ A.in1 (pyNext (.ref a) >>= _) _ _ s;refine f' (wpAny_pyNext_tuple_end (by simpa using M) C p (by simp;lia) λd keep=>?_);exact hI (q d s.toks (D.ext λo e=>keep _ _ m e) λb o _ r e=>keep b o r e)
 | x::rest,i,c,s,n,Y,C,p,D,q=>by
  have h:xs[i]?=some x:=by rw[<-BP,n];rfl
  have next:xs.drop (i+1)=rest:=by rw[<-AH,n];rfl
  have il:i<xs.length:=(ik.mp h).1;obtain⟨u,hu,t,rfl⟩:=v.get (i:=i) (x:=V.int x) (by rw[iB,h];rfl);refine ot xE ?_;rw[pO sr _];show wpAny _ A.in1 (pyNext (.ref a) >>= _) _ _ s;refine f' (wpAny_pyNext_tuple_item C p (x:= .int x t) (by simpa using hu) λE pe f=>?_);show wpAny _ A.in1 (holding [Value.int x t] (setAdd S (.int x t)) >>= _) _ _ _;refine f' (lL ?_);unfold setAdd;have j:(intKind P w).is x (.int x t)=true:=qf _ _ _ _;refine lL (f' ((intKind P w).pyHash (k:=x) j ?_));have G:IsSetI P w E S c:=D.ext λo e=>f.extBut _ _ m e;refine wpAny_setAddHashed_of (knd:=intKind P w) j rZ (s:=#[E,_,_,_,_]) G (by show c.length+1<4096;lia) λr g H=>?_;have I:IsSetI P w r S (t8 c x):=by
   unfold IsSetI;refine SetOf_congr H (λk=>?_) ?_
   .unfold t8;by_cases e:x∈c
    .rw[wB e,px];simp only[Bool.or_eq_true,decide_eq_true_iff];exact#[λz=>z.elim id λy=>y▸e,.inl]
    .rw[wA e,px];simp only[Bool.or_eq_true,decide_eq_true_iff,List.mem_append,List.mem_singleton]
   .unfold t8;by_cases e:x∈c
    .rw[wB e,wB (by simpa using e)]
    .rw[wA e,wA (by simpa using e),List.length_append];rfl
  have J:(t8 c x).length<=i+1:=by
   unfold t8;split
   .lia
   .rw[jk];show c.length+1<=_;lia
  refine hI #[pN sr _,GH M m N O v few rest (i+1) (t8 c x) _ next J (pe.extBut g.extBut m.symm) ((p.extBut f.extBut O.symm).extBut g.extBut N.symm) I λd B L keep=>?_];exact q d B L λb o T U e=>keep b o T U (g.extBut _ _ T (f.extBut _ _ U e))
set_option maxHeartbeats 4000000 in
def Ms{h:Heap}{j:Obj}{m:Array GenState}{n:Drawn}{k:Nat}{os:OsState}{R:PySem.Fin->Sh->Prop}(v:∃a,j={cls:= .type "set",dict:=none,data:= .set #v[] 0 (.fresh 0 0 a)})(x:A.handled=none)(p:h.IsTuple l vs.toArray)(y:Vals (xs.map V.int) vs)(few:xs.length<=4000)
  (q:∀c f,IsSetI P w c h.objs.size (vl xs)->(∀b o,h.get? b=some o->c.get? b=some o)->R (.done (.ret .none)) #[c,m,n,f,os]):
  wpAny (model P w) A (Builtin.«set.__init__» #[[.ref h.objs.size,.ref l],[]]) R E #[h.push j,m,n,k,os]:=by
 obtain⟨a,rfl⟩:=v;obtain⟨⟨G,dl,z,sl⟩,r,c2,B,s⟩:=id p;simp only at c2 s;subst c2 s;have H:(h.push {cls:= .type "set",dict:=none,data:= .set #v[] 0 (.fresh 0 0 a)}).get? l=some #[.type "tuple",dl,.seq vs.toArray B,sl]:=iG _ r;have C:(h.push {cls:= .type "set",dict:=none,data:= .set #v[] 0 (.fresh 0 0 a)}).get? h.objs.size=some {cls:= .type "set",dict:=none,data:= .set #v[] 0 (.fresh 0 0 a)}:=jp _ rfl;have I:=F.sub_tuple_set;have J:=F.sub_tuple_frozenset;have L:(Value.type "tuple"==Value.type "dict")=false:=by decide
 unfold Builtin.«set.__init__» noKeywords Builtin.Frozenset.updateFrom;generalize g:pyIter=t
 wp_walk
 subst g;have d:(h.push {cls:= .type "set",dict:=none,data:= .set #v[] 0 (.fresh 0 0 a)}).IsTuple l vs.toArray:=p.push _;refine wpAny_pyIter_tuple d (f' (wpAny_runValue ?_));have lt:l<h.objs.size:=iu r;have sz:(h.push {cls:= .type "set",dict:=none,data:= .set #v[] 0 (.fresh 0 0 a)}).objs.size=h.objs.size+1:=vh ..;have i:IsSetI P w ((h.push {cls:= .type "set",dict:=none,data:= .set #v[] 0 (.fresh 0 0 a)})) h.objs.size []:=by
  refine#[_,_,_,_,C,#[rZ,rZ,rZ],rZ,λe D=>?_,λk=>?_,by decide,by cases a<;>rfl,rZ]
  .simp at D
  .simp
 refine GH (vs:=vs) (xs:=xs) (by simpa using x) (by rw[sz];exact Nat.ne_of_lt (Nat.lt_succ_self _)) (Nat.ne_of_gt lt) (by rw[sz];exact Nat.ne_of_gt (Nat.lt_succ_of_lt lt)) y few xs 0 [] _ rZ (Nat.le_refl _) #[_,Heap.get?_push_size _ rZ,rZ,rZ] (d.push _) (i.ext λo e=>Heap.get?_push_of_some _ e) λc f z1 z2=>?_;refine hI (hI (q c f z1 λb o e=>?_));have u:=iu e;exact z2 b o (i6 u) (by rw[sz];exact i6 (wn u)) (iG _ (iG _ e))
def JC{s:Sh}{Q:VP}(x:A.handled=none)(p:s.heap.IsTuple l vs.toArray)(y:Vals (xs.map V.int) vs)(few:xs.length<=4000)(q:∀a d,IsSetI P w a s.heap.objs.size (vl xs)->(∀b o,s.heap.get? b=some o->a.get? b=some o)->Q (.ref s.heap.objs.size) {s with heap:=a,toks:=d}):
  wpAny (model P w) A (call (.type "set") [.ref l]) Q E s:=by
 have lt:l<s.heap.objs.size:=let⟨_,e,_⟩:=p;iu e
 obtain⟨c,I,B⟩:=lU.mro;have t:=lU.made;have sub:=lU.sub;have j:=lU.notType;have C:=lU.canCreate;have args:=D4 (.ref l);have look:=lU.init.lookup;have D:=lU.init.bind (.ref s.heap.objs.size);refine py (yS (show wpAny _ _ (callAny (.type "set") _) _ _ _ from hI #[yd _ (by decide+kernel),ot Dn ?_]));rw[Ew (Eg "set" [.ref l] []) rZ]
 repeat (any_goals (first|assumption|wp_step))
 refine nG (code_set_new_1 (.ref l) (E:=E) (Q₁:=λobj i=>∃g,(∃h,g={cls:= .type "set",dict:=none,data:= .set #v[] 0 (.fresh 0 0 h)})/\obj=.ref s.heap.objs.size/\i={s with heap:=s.heap.push g}) λh=>#[_,#[h,rfl],rfl,rfl]) λr J z=>?_;cases r with
 |error _=>exact z
 | ok f=>
  cases f<;>first|exact z.elim|skip
  obtain⟨g,k,m,n⟩:=z;subst m n;have G:g.cls=.type "set":=by obtain⟨_,rfl⟩:=k;rfl
  have H:(s.heap.push g).get? s.heap.objs.size=some g:=jp _ (by obtain⟨_,rfl⟩:=k;rfl);have ty:Shared.TypeIs {s with heap:=s.heap.push g} (.ref s.heap.objs.size) "set":=#[_,H,G]
  repeat (any_goals (first|assumption|wp_step))
  refine nG (x4 (R:=wants (λv u=>v=.none/\∃a d,u={s with heap:=a,toks:=d}/\IsSetI P w a s.heap.objs.size (vl xs)/\∀b o,s.heap.get? b=some o->a.get? b=some o) E)
   lU.init.plain Eh (Cw ty ?_)) λr u z=>?_
  .exact Ms (A:=A.in1.in1) k (by simpa using x) p y few λa d z1 z2=>#[rZ,a,d,rZ,z1,z2]
  .cases r with
   |error _=>exact z
   |ok f=>
    cases f<;>first|exact z.elim|skip
    obtain⟨m,a,d,n,z1,z2⟩:=z;subst m n
    repeat (any_goals (first|assumption|wp_step))
    exact q a d z1 z2
end
section
variable{X:Cx}
def v9(a:Ad)(b:Zs):HO:= .ext λh=>∃P w,IsSetI P w h a (vl b)
inductive t6(K:O0)(c:List V)(H:Hp)(Q:VK):Prop|mk:∀p b,c=[.ref p]->SqT K H p (b.map V.int)->b.length<=4000->(∀a,H a=none->Q (.ref a) (hA H a (v9 a b)))->t6 K c H Q
def Cs(c:X.calm=true):CallR X (.type "set") (t6 X.K):=by
 intro Z s d H x A Q I r h;obtain⟨p,a,rfl,f,few,q⟩:=h;obtain⟨u,rfl,g⟩:=m7 r;cases g;obtain⟨i,j,l,_⟩:=I.tuple f;refine JC (I.ok.hd c) l j few λb m z keep=>?_;have n:Inv X Z d H {s with heap:=b,toks:=m}:=I.kept keep;obtain⟨o,B,C,t,v,r⟩:=id z;have ok:ObjOk X.prog X.w (hA H s.heap.objs.size (v9 s.heap.objs.size a)) b s.heap.objs.size (v9 s.heap.objs.size a):=#[#[_,_,z],#[_,v],λD E ⟨P,w,y⟩ k=>#[P,w,y.ext λo e=>k _ e]];exact#[.ref s.heap.objs.size,_,Inv.trackNew I n ok,rZ,q _ I.fresh]
inductive ua(b:List V)(H:Hp)(Q:VK):Prop|mk:∀a c,b=[.ref a]->H a=some (v9 a c)->Q (.int (vl c).length) H->ua b H Q
def CL:CallR X (.builtin "len") ua:=by
 intro Z s k H l m Q I r h;obtain⟨a,b,rfl,c,q⟩:=h;obtain⟨u,rfl,d⟩:=m7 r;cases d;obtain⟨⟨_,_,o,n,p,t,e,f,g,_,_,v,i,j⟩,_⟩:=(show ObjOk X.prog X.w H s.heap a (v9 a b)from I.hok a _ c);refine call_len_set e f g i (by have:scanBound=4096:=rfl;lia) ?_;exact#[.int (vl b).length,H,I.tok _,#[_,by rw[j]],q]
end
theorem Ee{b:Array Nat}{j:Nat}(m:b.toList.Pairwise (· < ·)):∀(fuel lo a:Nat),a-lo<=fuel->a<=b.size->lo<=a->(∀i x,b[i]?=some x->i<lo->x<j)->(∀i x,b[i]?=some x->a<=i->j<=x)->
  (∀i x,b[i]?=some x->i<SetTable.below.go b j fuel lo a->x<j)/\(∀i x,b[i]?=some x->SetTable.below.go b j fuel lo a<=i->j<=x)/\SetTable.below.go b j fuel lo a<=b.size
 |0,lo,a,p,f,q,g,k=>by
  have e:lo=a:=by lia
  subst e;exact#[g,k,f]
 | fuel+1,lo,a,p,f,q,g,k=>by
  unfold SetTable.below.go;by_cases c:lo<a
  .rw[wB c];dsimp only;have l:(lo+a) /2<b.size:=by lia
   have em:b[(lo+a) /2]?=some b[(lo+a) /2]:=nc l;have mono:∀i x,b[i]?=some x->(i<(lo+a) /2->x<b[(lo+a) /2])/\((lo+a) /2<i->b[(lo+a) /2]<x):=λi x e=>by
    obtain⟨o,rfl⟩:=ni.mp e;have z:=pT.mp m;exact#[λh=>z i _ (by simpa using o) (by simpa using l) h,λh=>z _ i (by simpa using l) (by simpa using o) h]
   have r:b.getD ((lo+a) /2) j=b[(lo+a) /2]:=by simp[Array.getD,l]
   rw[r];by_cases d:b[(lo+a) /2]<j
   .rw[wB d];refine Ee m fuel _ _ () f () (λi x e n=>?_) k;by_cases z:i=(lo+a) /2
    .subst z;rw[em]at e;cases e;exact d
    .exact wP ((mono i x e).1 ()) d
   .rw[wA d];refine Ee m fuel _ _ () () () g λi x e n=>?_;by_cases z:i=(lo+a) /2
    .subst z;rw[em]at e;cases e;lia
    .have:=(mono i x e).2 ();lia
  .rw[wA c];have e:lo=a:=by lia
   subst e;exact#[g,k,f]
def Eu{a:Array Nat}(b:a.toList.Pairwise (· < ·))(j:Nat):(∀i x,a[i]?=some x->i<SetTable.below a j->x<j)/\(∀i x,a[i]?=some x->SetTable.below a j<=i->j<=x)/\SetTable.below a j<=a.size:=
 Ee b a.size 0 a.size () (ig _) (mC _) (λi x e h=>wC h (rq i)) λi x e h=>by
  have:=(ni.mp e).1;lia
def LZ{c:Array Nat}(d:c.toList.Pairwise (· < ·)){i x:Nat}(e:c[i]?=some x):SetTable.below c (x+1)=i+1:=by
 obtain⟨f,g,k⟩:=Eu d (x+1);have a: ¬SetTable.below c (x+1)<=i:=λh=>by have:=g i x e h;lia
 have b: ¬i+1<SetTable.below c (x+1):=λh=>by
  have l1:i+1<c.size:=by lia
  have z:=f (i+1) c[i+1] (nc l1) h;obtain⟨j,rfl⟩:=ni.mp e;have y:=pT.mp d i (i+1) (by simpa using j) (by simpa using l1) (Nat.lt_succ_self i);have l:c[i]<c[i+1]:=by simpa using y
  lia
 lia
def Ix{a:Array Nat}(b:a.toList.Pairwise (· < ·)):SetTable.below a 0=0:=by
 obtain⟨d,_,e⟩:=Eu b 0;by_cases c:SetTable.below a 0=0
 .exact c
 .exact wC (d 0 a[0] (nc ()) ()) (rq _)
def Hr{t:SetTable}(a:t.dummies= #v[])(j:Nat):t.slot j≠ .dummy:=by
 unfold SetTable.slot;rw[a];dsimp only;split
 .exact λz=>nomatch z
 .rw[show SetTable.has #v[] j=false by unfold SetTable.has;simp];exact λz=>nomatch z
theorem Ig{t:SetTable}(g:t.dummies= #v[]){f:Nat->Int}{h:Int}:∀(fuel:Nat) (p:SetTable.Probe) (j:Nat) (d:Option Nat),p.dummy=none->SetTable.probe.go t f h fuel p=some (.empty j d)->d=none/\t.slot j=.empty
 |0,_,_,_,_,e=>by cases e
 | fuel+1,p,j,d,b,e=>by
  unfold SetTable.probe.go at e;have c:(t.advance p).dummy=none:=by
   unfold SetTable.advance;split
   .exact b
   .exact b
  cases a:t.slot p.j with
  |empty=>
   rw[a]at e;injection e with e
   injection e with k l
   subst k;exact#[l.symm.trans b,a]
  |dummy=>exact wC a (Hr g _)
  | live i=>
   rw[a]at e;dsimp only at e;split at e
   .injection e with e
    cases e
   .exact Ig g fuel _ j d c e
def JV{t:SetTable}(a:t.dummies= #v[]){h:Int}{j:Nat}{d:Bool}(e:t.freeSlot h=some (j,d)):d=false/\t.slot j=.empty:=by
 unfold SetTable.freeSlot at e;split at e
 .rename_i b c f
  obtain⟨rfl,z⟩:=Ig a _ _ b c rZ f;cases e;exact#[rZ,z]
 .cases e
def NF{t:SetTable}{j:Nat}(e:t.slot j=.empty):t.place[SetTable.below t.place j]? ≠some j:=λz=>by
 unfold SetTable.slot at e;dsimp only at e;rw[z]at e;simp at e
def Nf{t:SetTable}{j:Nat}(up:t.place.toList.Pairwise (· < ·))(h:t.slot j=.empty):(SetTable.insertAt t.place (SetTable.below t.place j) j).toList.Pairwise (· < ·):=by
 obtain⟨k,b,p⟩:=Eu up j;have l:=NF h;have m:(SetTable.insertAt t.place (SetTable.below t.place j) j).toList=t.place.toList.take (SetTable.below t.place j)++j::t.place.toList.drop (SetTable.below t.place j):=by
  have z:=A9 t.place.toList (SetTable.below t.place j) j;rw[Array.toArray_toList]at z;rw[z]
 rw[m];have c:∀x∈t.place.toList.drop (SetTable.below t.place j),j<x:=λx a=>by
  obtain⟨i,e⟩:=kr.mp a;rw[yc,mF]at e;have q:=b _ x e (tj _ _);by_cases z:x=j
  .subst z;cases i with
   |zero=>exact wC e l
   |succ i=>
    have d:SetTable.below t.place x<t.place.size:=by have:=(ni.mp e).1;lia
    have r:=b _ _ (nc d) (ig _);obtain⟨n,f⟩:=ni.mp e;have y:=pT.mp up (SetTable.below t.place x) (SetTable.below t.place x+(i+1)) (by simpa using d) (by simpa using n) ();have s:t.place[SetTable.below t.place x]<t.place[SetTable.below t.place x+(i+1)]:=by simpa using y
    lia
  .lia
 refine mR.mpr #[up.sublist (wg _ _),ym.mpr #[c,up.sublist (List.drop_sublist _ _)],λx a y o=>?_];obtain⟨i,u,f⟩:=List.mem_take_iff_getElem.mp a;have g:x<j:=k i x (by rw[<-mF,hV (),f]) ()
 rcases iM.mp o with rfl|z
 .exact g
 .exact wP g (c y z)
def Jo{mask g i:Nat}{c j:Bool}{d:Array Int}{t:SetTable}{k:Array Nat}(e:SetTable.laid mask g i c j d=some (t,k)):t.place.toList.Pairwise (· < ·)/\t.dummies= #v[]/\t.led=c:=by
 unfold SetTable.laid at e;cases f:SetTable.layClean mask d with
 |none=>rw[f]at e;cases e
 |some o=>
  rw[f]at e;injection e with e
  injection e with l _
  subst l;refine#[?_,rZ,rZ];rw[u7,yb,List.pairwise_filterMap];refine List.Pairwise.imp (λ{a b} h x m y n=>?_) List.pairwise_lt_range;obtain⟨u,_,rfl⟩:=ju.mp m;obtain⟨v,_,rfl⟩:=ju.mp n;exact h
def pp:Nat->Nat->Nat
 |0,i=>i
 |n+1,i=>pp n (5 * i+1)
def Hz(a b i:Nat):pp (a+b) i=pp b (pp a i):=by
 induction a generalizing i with
 |zero=>rw[vg];rfl
 |succ a c=>rw[Nat.add_right_comm];exact c _
def K'(m:Nat):∃c d,∀i,pp (2 ^ m) i=(1+2 ^ (m+2) * c) * i+2 ^ m * (2 * d+1):=by
 induction m with
 |zero=>exact#[1,0,λi=>by show 5 * i+1=_;lia]
 |succ m a=>
  obtain⟨c,d,h⟩:=a;refine#[c * (1+2 ^ (m+1) * c),d+(2 * d+1) * 2 ^ m * c,λi=>?_];rw[show 2 ^ (m+1)=2 ^ m+2 ^ m by lia,Hz,h,h]
  grind
def L5(n i M:Nat):pp n (i%M)%M=pp n i%M:=by
 induction n generalizing i with
 |zero=>exact Nat.mod_mod _ _
 |succ n a=>
  show pp n (5 * (i%M)+1)%M=pp n (5 * i+1)%M;rw[<-a (5 * (i%M)+1),<-a (5 * i+1)]
  congr 2
  rw[Nat.add_mod,Nat.mul_mod,Nat.mod_mod,<-Nat.mul_mod,<-Nat.add_mod]
def JH(m:Nat):∀i j,j<2 ^ m->∃n,n<2 ^ m/\pp n i%2 ^ m=j:=by
 induction m with
 |zero=>exact λi j h=>#[0,by decide,by simp at h;subst h;exact Nat.mod_one _]
 | succ m k=>
  intro i j p;have l:2 ^ (m+1)=2 * 2 ^ m:=by lia
  have a:j<2 * 2 ^ m:=by lia
  have b:0<2 ^ m:=Nat.two_pow_pos m;obtain⟨n,q,e⟩:=k i (j%2 ^ m) (rT _ b);by_cases c:pp n i%2 ^ (m+1)=j
  .exact#[n,(),c]
  .refine#[n+2 ^ m,(),?_];obtain⟨c1,d,h⟩:=K' m;rw[Hz,h];generalize pp n i=x at *;have o:(1+2 ^ (m+2) * c1) * x+2 ^ m * (2 * d+1)=x+2 ^ m+2 ^ (m+1) * (2 * c1 * x+d):=by grind
   rw[o,Nat.add_mul_mod_self_left];have a1:x%2 ^ (m+1)%2 ^ m=x%2 ^ m:=Nat.mod_mod_of_dvd _ #[2,()];have a2:x%2 ^ (m+1)<2 ^ (m+1):=rT _ ();rw[Nat.add_mod];generalize x%2 ^ (m+1)=y at *;have a3:2 ^ m%2 ^ (m+1)=2 ^ m:=wJ ();rw[a3];rw[<-a1]at e;rw[l]at *;generalize 2 ^ m=M at *;have f:∀z,z<2 * M->z%M=if z<M then z else z-M:=λz r=>by
    split
    .exact wJ (by assumption)
    .rw[Nat.mod_eq_sub_mod (),wJ ()]
   rw[f y a2,f j a]at e;by_cases g:y<M
   .rw[wB g]at e;rw[wJ ()];split at e<;>lia
   .rw[wA g]at e;rw[Nat.mod_eq_sub_mod (),wJ ()];split at e<;>lia
def lp(mask:Nat):Nat->Nat->Nat->Nat
 |0,i,_=>i
 |n+1,i,p=>lp mask n ((i * 5+1+p/32)%(mask+1)) (p/32)
def JI(mask n i:Nat)(a:i<=mask):lp mask n i 0=pp n i%(mask+1):=by
 induction n generalizing i with
 |zero=>exact(wJ (Nat.lt_succ_of_le a)).symm
 |succ n b=>
  show lp mask n ((i * 5+1+0/32)%(mask+1)) (0/32)=pp n (5 * i+1)%(mask+1);rw[Nat.zero_div,b _ (by have:=rT (i * 5+1+0) (show 0<mask+1 by lia);lia),L5,Nat.mul_comm]
theorem Ez{mask m:Nat}(b:mask+1=2 ^ m){j:Nat}(d:j<=mask):∀(q i p:Nat),i<=mask->p<32 ^ q->∃n,n<=q+mask/\lp mask n i p=j
 |0,i,p,c,a=>by
  have:p=0:=by simp at a;exact a
  subst this;obtain⟨n,f,e⟩:=JH m i j ();exact#[n,(),by rw[JI _ _ _ c,b];exact e]
 |q+1,i,p,c,a=>by
  obtain⟨n,f,e⟩:=Ez b d q ((i * 5+1+p/32)%(mask+1)) (p/32) (by have:=rT (i * 5+1+p/32) (show 0<mask+1 by lia);lia) (Nat.div_lt_of_lt_mul (by rw[Bi]at a;lia));exact#[n+1,(),e]
def Hs(h:Int):SetTable.bits h<32 ^ 13:=by
 unfold SetTable.bits;have:=Bu h (show(0:Int)<2 ^ 64 by decide);have a:=yA h (show(2 ^ 64:Int)≠0 by decide);lia
section
variable{t:SetTable}{h:Int}
def wc(x:Option SetTable.Met):Prop:=∃j d,x=some (.empty j d)
def FL(b:t.dummies= #v[]){a:Nat}{p:SetTable.Probe}(k:wc (SetTable.probe.go t (λ_=>h+1) h a (t.advance p))):wc (SetTable.probe.go t (λ_=>h+1) h (a+1) p):=by
 unfold SetTable.probe.go;cases c:t.slot p.j with
 |empty=>exact#[_,_,rZ]
 |dummy=>exact wC c (Hr b _)
 |live i=>
  dsimp only;rw[show((h+1==h)=false)from by simp;lia];exact k
theorem EV(c:t.dummies= #v[]):∀(k:Nat) (p:SetTable.Probe) (a:Nat),p.more=k->(∀b:SetTable.Probe,b.j=b.i->b.i=(p.i * 5+1+p.perturb/32)%(t.mask+1)->b.perturb=p.perturb/32->b.more<=9->wc (SetTable.probe.go t (λ_=>h+1) h a b))->
  wc (SetTable.probe.go t (λ_=>h+1) h (a+k+1) p)
 |0,p,a,e,q=>by
  refine FL c ?_;unfold SetTable.advance;rw[wA ()];refine q _ rZ rZ rZ ?_;show SetTable.runEnd _ _-_<=9;unfold SetTable.runEnd;split<;>lia
 |k+1,p,a,e,q=>by
  refine FL c ?_;unfold SetTable.advance;rw[wB ()];exact EV c k _ a (by show p.more-1=k;lia) q
theorem CP:∀(a b:Nat) (p:SetTable.Probe),wc (SetTable.probe.go t (λ_=>h+1) h a p)->a<=b->wc (SetTable.probe.go t (λ_=>h+1) h b p)
 |0,_,_,⟨_,_,e⟩,_=>by cases e
 |a+1,0,_,_,l=>wC l (Nat.not_succ_le_zero a)
 | a+1,b+1,p,f,l=>by
  unfold SetTable.probe.go at f|-;cases c:t.slot p.j with
  |empty=>exact#[_,_,rZ]
  |dummy=>rw[c]at f;exact CP a b _ f ()
  |live i=>
   rw[c]at f;dsimp only at f|-;rw[show((h+1==h)=false)from by simp;lia]at f|-;exact CP a b _ f ()
theorem Fm(c:t.dummies= #v[]):∀(n:Nat) (p:SetTable.Probe) (a:Nat),p.j=p.i->p.more<=9->10 * n<a->t.slot (lp t.mask n p.i p.perturb)=.empty->wc (SetTable.probe.go t (λ_=>h+1) h a p)
 |0,p,a,d,em,e,b=>by
  obtain⟨f,rfl⟩:=sw (show a≠0 by lia);unfold SetTable.probe.go;rw[d,show t.slot p.i=.empty from b];exact#[_,_,rZ]
 |n+1,p,a,d,em,e,b=>by
  refine CP (10 * n+1+p.more+1) a p (EV c p.more p (10 * n+1) rZ λg i j k l=>?_) ();exact Fm c n g _ i l () (by rw[j,k];exact b)
def MP{m:Nat}(c:t.dummies= #v[])(f:t.mask+1=2 ^ m){j:Nat}(g:j<=t.mask)(a:t.slot j=.empty):∃b d,t.freeSlot h=some (b,d):=by
 have i:SetTable.bits h%(t.mask+1)<=t.mask:=by have:=rT (SetTable.bits h) (show 0<t.mask+1 by lia);lia
 obtain⟨n,k,e⟩:=Ez f g 13 (SetTable.bits h%(t.mask+1)) (SetTable.bits h) i (Hs h);obtain⟨b,d,z⟩:=Fm (h:=h) c n (t.probeStart h) (10 * SetTable.turns t.mask) rZ (by show SetTable.runEnd _ _-_<=9;unfold SetTable.runEnd;split<;>lia) (by unfold SetTable.turns;lia) (by rw[<-e]at a;exact a);unfold SetTable.freeSlot SetTable.probe;rw[z];exact#[_,_,rZ]
end
def JL{place:Array Nat}{mask:Nat}(few:place.size<=mask):∃j,j<=mask/\j∉place.toList:=by
 refine A3 λz=>?_;have all:∀x∈List.range (mask+1),x∈place.toList:=λx a=>A3 λy=>z #[x,by have:=nj.mp a;lia,y];have:=Hk List.nodup_range all;rw[qt,i4]at this;lia
def MK{t:SetTable}{j:Nat}(a:t.dummies= #v[])(b:j∉t.place.toList):t.slot j=.empty:=by
 unfold SetTable.slot;dsimp only;have e:(t.place[SetTable.below t.place j]? ==some j)=false:=by
  rw[u3];exact λz=>b (iV (by rw[mF];exact z))
 rw[e,a,show SetTable.has #v[] j=false by unfold SetTable.has;simp];rfl
theorem FV{mask:Nat}{a:Array (Option Nat)}(sz:a.size=mask+1):∀(fuel i p j:Nat),i<=mask->SetTable.layClean.free mask a fuel i p=some j->a[j]?=some none
 |0,_,_,_,_,e=>by cases e
 | fuel+1,i,p,j,c,e=>by
  unfold SetTable.layClean.free at e;split at e
  .rename_i k b
   injection e with e
   subst e;have z:=List.find?_some b;have lt:i+k<a.size:=by
    have y:=nj.mp (List.mem_of_find?_eq_some b);unfold SetTable.runEnd at y;split at y<;>lia
   simp only[Array.getD,lt,dif_pos]at z;rw[nc lt]
   congr 1
   simpa using z
  .exact FV sz fuel _ _ j (by show(i * 5+1+p/32)%(mask+1)<=mask;have:=rT (i * 5+1+p/32) (show 0<mask+1 by lia);lia) e
theorem FH{mask:Nat}{a:Array (Option Nat)}(sz:a.size=mask+1):∀(n b i p:Nat),i<=mask->n<b->a[lp mask n i p]?=some none->∃j,SetTable.layClean.free mask a b i p=some j
 |n,0,_,_,_,l,_=>wC l (rq n)
 | n,b+1,i,p,g,l,e=>by
  unfold SetTable.layClean.free;split
  .exact#[_,rZ]
  .rename_i d
   cases n with
   |zero=>
    have z:=List.find?_eq_none.mp d 0 (nj.mpr (by unfold SetTable.runEnd;split<;>lia));have c:a[i]?=some none:=e;have lt:=(ni.mp c).1;have f:=(ni.mp c).2;simp[Array.getD,lt,f]at z
   |succ n=>exact FH sz n b _ _ (by show(i * 5+1+p/32)%(mask+1)<=mask;have:=rT (i * 5+1+p/32) (show 0<mask+1 by lia);lia) () e
def MD{b:Array (Option Nat)}{k:Nat}(c:(b.toList.filterMap id).Perm (List.range k))(few:k<b.size):∃j:Nat,b[j]?=some none:=by
 refine A3 λz=>?_;have all:∀l:List (Option Nat),(∀x∈l,x≠none)->(l.filterMap id).length=l.length:=λl=>by
  induction l with
  |nil=>intro _;rfl
  | cons x l d=>
   intro h;cases x with
   |none=>exact wC rZ (h none (i7 ..))
   |some a=>
    show((a::l.filterMap id).length)=_;rw[oo,oo,d λy f=>h y (jr _ f)]
 have e:=all b.toList λx g e=>by
  subst e;obtain⟨j,i⟩:=kr.mp g;exact z #[j,by rw[<-mF];exact i]
 have:=c.length_eq;rw[e,qt,i4]at this;lia
def J3{a:Array (Option Nat)}{j k:Nat}(e:a[j]?=some none):((a.setIfInBounds j (some k)).toList.filterMap id).Perm (k::a.toList.filterMap id):=by
 have lt:j<a.toList.length:=by rw[i4];exact(ni.mp e).1
 have b:a.toList[j]=none:=by
  have:=e;rw[<-mF,hV lt]at this;exact lW this
 have c:a.toList=a.toList.take j++none::a.toList.drop (j+1):=by
  rw[<-b,List.getElem_cons_drop,oS]
 rw[Cr,List.set_eq_take_append_cons_drop,wB lt,BZ]
 conv=>rhs;rw[c,BZ]
 exact CU
theorem E4{mask m:Nat}(g:mask+1=2 ^ m)(f:Option (Array (Option Nat)×Nat)->Int->Option (Array (Option Nat)×Nat))(i:∀a k h,f (some (a,k)) h=(SetTable.layClean.free mask a (SetTable.turns mask) (SetTable.bits h%(mask+1)) (SetTable.bits h)).map λj=>(a.setIfInBounds j (some k),k+1)):
  ∀(b:Zs) (a:Array (Option Nat)) (k:Nat),a.size=mask+1->(a.toList.filterMap id).Perm (List.range k)->k+b.length<=mask+1->
   ∃c,b.foldl f (some (a,k))=some (c,k+b.length)/\c.size=mask+1/\(c.toList.filterMap id).Perm (List.range (k+b.length))
 | [],a,k,sz,d,_=>#[a,rZ,sz,d]
 | h::b,a,k,sz,d,l=>by
  rw[oo]at l;obtain⟨q,o⟩:=MD d ();have r:q<=mask:=by have:=(ni.mp o).1;lia
  have e:SetTable.bits h%(mask+1)<=mask:=by have:=rT (SetTable.bits h) (show 0<mask+1 by lia);lia
  obtain⟨n,u,s⟩:=Ez g r 13 _ _ e (Hs h);obtain⟨j,p⟩:=FH sz n (SetTable.turns mask) _ _ e (by unfold SetTable.turns;lia) (by rw[s];exact o);have t:=FV sz _ _ _ _ e p;have st:f (some (a,k)) h=some (a.setIfInBounds j (some k),k+1):=by rw[i,p];rfl
  obtain⟨c,a1,a2,a3⟩:=E4 g f i b (a.setIfInBounds j (some k)) (k+1) (by rw[Array.size_setIfInBounds];exact sz) ((J3 t).trans (by rw[wm];exact(d.cons k).trans (Fb _ _).symm)) ();refine#[c,?_,a2,?_]
  .rw[tc,st,a1,oo,show k+1+b.length=k+(b.length+1) by lia]
  .rw[oo,<-show k+1+b.length=k+(b.length+1) by lia];exact a3
def L3{mask m:Nat}(e:mask+1=2 ^ m)(c:Array Int)(few:c.size<=mask):∃b,SetTable.layClean mask c=some b/\b.size=mask+1/\(b.toList.filterMap id).Perm (List.range c.size):=by
 unfold SetTable.layClean;rw[<-Array.foldl_toList];generalize g:(λ(d:Option (Array (Option Nat)×Nat)) (h:Int)=>do
  let(a,k) <-d
  let j <-SetTable.layClean.free mask a (SetTable.turns mask) (SetTable.bits h%(mask+1)) (SetTable.bits h)
  pure (a.setIfInBounds j (some k),k+1))=f
 obtain⟨b,a1,a2,a3⟩:=E4 e f (λa k h=>by
  subst g;show(Option.bind (some (a,k)) _)=_;dsimp only[Option.bind];cases SetTable.layClean.free mask a (SetTable.turns mask) (SetTable.bits h%(mask+1)) (SetTable.bits h)<;>rfl) c.toList (Array.replicate (mask+1) none) 0 (Array.size_replicate) (by
   rw[Array.toList_replicate,List.filterMap_replicate_of_none rZ];exact List.Perm.refl _) (by rw[i4];lia)
 rw[a1];rw[vg,i4]at a3;exact#[b,rZ,a2,a3]
def IB(a:Array (Option Nat)):((List.range a.size).filterMap λj=>(a.getD j none).map (j,·)).map (·.2)=a.toList.filterMap id:=by
 rw[List.map_filterMap];have e:a.toList=(List.range a.size).map λj=>a.getD j none:=by
  refine xi (by simp) λi b c=>?_;simp[Array.getD,show i<a.size by simpa using b]
 conv=>rhs;rw[e,List.filterMap_map]
 congr 1
 funext j
 simp only[Function.comp];cases a.getD j none<;>rfl
theorem G7:∀(fuel a n:Nat),∃m,SetTable.sizeAbove.go n fuel (2 ^ a)=2 ^ m/\a<=m
 |0,a,n=>#[a,rZ,ig _]
 | fuel+1,a,n=>by
  unfold SetTable.sizeAbove.go;split
  .obtain⟨m,e,l⟩:=G7 fuel (a+1) n;exact#[m,by rw[<-Bi];exact e,()]
  .exact#[a,rZ,ig _]
theorem G9:∀(fuel s n:Nat),n<s * 2 ^ fuel->n<SetTable.sizeAbove.go n fuel s
 |0,s,n,h=>by rw[Nat.pow_zero,Nat.mul_one]at h;exact h
 |fuel+1,s,n,h=>by
  unfold SetTable.sizeAbove.go;split
  .exact G9 fuel (s * 2) n (by rw[Bi,Nat.mul_comm (2 ^ fuel),<-Nat.mul_assoc]at h;exact h)
  .lia
def OM{n:Nat}(h:n<2 ^ 60):∃m,SetTable.sizeAbove n=2 ^ m/\n<2 ^ m/\3<=m:=by
 unfold SetTable.sizeAbove;obtain⟨m,e,l⟩:=G7 64 3 n;have g:=G9 64 8 n ();exact#[m,e,by rw[<-e];exact g,l]
def MR{t:SetTable}{hs:Array Int}{n:Nat}(h:n<2 ^ 60)(few:hs.size<n):∃a c,t.relaid hs n=some (a,c)/\c.toList.Perm (List.range hs.size)/\a.place.size=hs.size/\(∃m,a.mask+1=2 ^ m)/\n<=a.mask/\(∀j∈a.place.toList,j<=a.mask)/\a.plain=t.plain:=by
 obtain⟨m,e,l,_⟩:=OM h;unfold SetTable.relaid SetTable.laid;rw[e];obtain⟨g,a1,a2,a3⟩:=L3 (mask:=2 ^ m-1) (m:=m) () hs ();rw[a1];have lv:=IB g;rw[a2]at lv;have d:=jv List.length lv;rw[a3.length_eq,hJ,qt]at d;refine#[_,_,rZ,?_,?_,#[m,?_],?_,?_,rZ]
 .rw[u7,lv];exact a3
 .rw[i8,hJ];exact d
 .show 2 ^ m-1+1=_;lia
 .show n<=2 ^ m-1;lia
 .intro j f;show j<=2 ^ m-1;rw[u7]at f;obtain⟨x,i,rfl⟩:=iK.mp f;obtain⟨k,b,o⟩:=BG.mp i;obtain⟨_,_,rfl⟩:=ju.mp o;have:=nj.mp b;show k<=_;lia
structure TabG(t:SetTable)(n:Nat)(led:Bool):Prop where
 fits:t.fits n=true
 up:t.place.toList.Pairwise (· < ·)
 no:t.dummies= #v[]
 led:t.led=led
 plain:t.plain=true
 pow:∃m,t.mask+1=2 ^ m
def TabG.size{t:SetTable}{n:Nat}{led:Bool}(h:TabG t n led):t.place.size=n:=by
 have z:=h.fits;unfold SetTable.fits at z;rw[tA]at z;exact eq_of_beq z.1
def TabG.mask{t:SetTable}{n:Nat}{a:Bool}(h:TabG t n a):n<=t.mask:=by
 have z:=h.fits;have s:=h.size;unfold SetTable.fits SetTable.fill at z;rw[tA,h.no]at z;have y:=mT z.2;rw[s]at y;exact y
def Oy{t:SetTable}{n:Nat}{a:Bool}(h:TabG t n a)(b:t.tooFull=false):n * 5<t.mask * 3:=by
 unfold SetTable.tooFull SetTable.fill at b;rw[h.no,h.size]at b;have z:=of_decide_eq_false b;have e:(#v[]:Array Nat).size=0:=rfl;rw[e]at z;lia
def EW{t:SetTable}{n:Nat}(a:t.dummies= #v[])(sz:t.place.size=n)(l:n<=t.mask):t.fits n=true:=by
 unfold SetTable.fits SetTable.fill;rw[a,sz];have e:(#v[]:Array Nat).size=0:=rfl;rw[e,i0 (show n+0<=t.mask from l)];simp
def rj(e:Int×Vl):Int:=match e.2 with
 |.int k _=>k
 |_=>0
def zA(e:Int×Vl):Prop:=∃k t,e=(hashInt k,.int k t)
def IsSetG(h:Heap)(a:Ad)(d:Bool)(b:Zs):Prop:=∃c f t,h.get? a=some (nz c f t)/\(∀e∈c,zA e)/\(c.map rj).Perm b/\TabG t c.length d/\t.tooFull=false/\b.Nodup
def oB(a:Zs)(x:Int):Zs:=if x∈a then a else a++[x]
def IsSetG.ext{h h':Heap}{S:Ad}{a:Bool}{b:Zs}(c:IsSetG h S a b)(k:∀o,h.get? S=some o->h'.get? S=some o):IsSetG h' S a b:=by
 obtain⟨d,f,t,e,r⟩:=c;exact#[d,f,t,k _ e,r]
def Lz{t:SetTable}{c:List (Int×Vl)}{g:Bool}{i:Zs}{k:Int}{tk:Tok}(n:∀e∈c,zA e)(r:(c.map rj).Perm i)(b:TabG t c.length g)(s:t.tooFull=false):
  ∃(f:List (Int×Vl)) (o:SetTable),layNew t c.toArray (hashInt k) (.int k tk)=(f.toArray,o,false,false)/\(∀e∈f,zA e)/\(f.map rj).Perm (i++[k])/\TabG o f.length g/\f.length=c.length+1:=by
 have few:=Oy b s;have new:zA (hashInt k,Value.int k tk):=#[k,tk,rZ];obtain⟨m,u⟩:=b.pow;obtain⟨D,v,w⟩:=JL (place:=t.place) (mask:=t.mask) (by rw[b.size];exact b.mask);obtain⟨j,d,p⟩:=MP (h:=hashInt k) b.no u v (MK b.no w);obtain⟨rfl,x⟩:=JV b.no p;have up:=Nf b.up x;have y:SetTable.insertAt c.toArray (SetTable.below t.place j) (hashInt k,Value.int k tk)=(c.take (SetTable.below t.place j)++(hashInt k,Value.int k tk)::c.drop (SetTable.below t.place j)).toArray:=A9 ..;have l:(c.take (SetTable.below t.place j)++(hashInt k,Value.int k tk)::c.drop (SetTable.below t.place j)).length=c.length+1:=by
  rw[jk,oo,<-Nat.add_assoc,<-jk,oS]
 have A:SetTable.has #v[] j=false:=by unfold SetTable.has;simp
 have sz:(SetTable.insertAt t.place (SetTable.below t.place j) j).size=c.length+1:=by
  have z:=A9 t.place.toList (SetTable.below t.place j) j;rw[Array.toArray_toList]at z;rw[z,i8,jk,oo,<-Nat.add_assoc,<-jk,oS,i4,b.size]
 have q:({t with place:=SetTable.insertAt t.place (SetTable.below t.place j) j}:SetTable).fits (c.length+1)=true:=EW b.no sz (by show _<=t.mask;lia);refine#[c.take (SetTable.below t.place j)++(hashInt k,Value.int k tk)::c.drop (SetTable.below t.place j),{t with place:=SetTable.insertAt t.place (SetTable.below t.place j) j},?_,λe B=>?_,?_,?_,l]
 .unfold layNew;rw[p];dsimp only[SetTable.put];rw[y,b.no,A];rw[wA (by decide),i8,l];have C:({t with place:=SetTable.insertAt t.place (SetTable.below t.place j) j,dummies:= #v[]}:SetTable)={t with place:=SetTable.insertAt t.place (SetTable.below t.place j) j}:=by rw[<-b.no]
  rw[C];unfold SetTable.orStandIn;rw[q,wB rZ];rfl
 .rcases iN.mp B with z|z
  .exact n e (uv z)
  .rcases iM.mp z with rfl|z
   .exact new
   .exact n e (Bo z)
 .refine(List.Perm.map rj (CU (a:=(hashInt k,Value.int k tk)))).trans ?_;rw[oS,lH];exact(r.cons _).trans (Fb _ _).symm
 .rw[l];exact#[q,up,b.no,b.led,b.plain,b.pow]
def MC{b:Type}{a:List b}:(List.range a.length).filterMap (a[·]?)=a:=by
 refine x9 λi=>?_;have e:∀n,n<=a.length->(List.range n).filterMap (a[·]?)=a.take n:=λn=>by
  induction n with
  |zero=>intro _;simp
  |succ n c=>
   intro h;rw[wm,BZ,c (),ow,hV ()];simp[List.getElem?_eq_getElem (show n<a.length by lia)]
 rw[e _ (ig _),mH]
def Li{t:SetTable}{a:List (Int×Vl)}{d:Bool}(j:TabG t a.length d)(w:0<a.length)(x:a.length<=4000):∃(b:List (Int×Vl)) (c:SetTable),relayAll t a.toArray (SetTable.grown a.toArray.size)=(b.toArray,c,false)/\b.Perm a/\TabG c b.length d/\c.tooFull=false:=by
 have m:SetTable.grown a.toArray.size=a.length * 4:=by
  unfold SetTable.grown;rw[i8,wA ()]
 rw[m];have o:(a.toArray.map (·.1)).size=a.length:=by simp
 obtain⟨c,f,k,g,sz,p,y,_,q⟩:=MR (t:=t) (hs:=a.toArray.map (·.1)) (n:=a.length * 4) () ();rw[o]at g sz;obtain⟨r,h,s⟩:=Jo k;have u:f.filterMap (a.toArray[·]?)=(f.toList.filterMap (a[·]?)).toArray:=by
  apply D2.mp;rw[Array.toList_filterMap];simp
 have i:(f.toList.filterMap (a[·]?)).Perm a:=by
  have z:=g.filterMap (a[·]?);rw[MC]at z;exact z
 have l:c.fits a.length=true:=EW h sz ();have v:coversAll f a.toArray.size=true:=by
  unfold coversAll;rw[i8];exact List.isPerm_iff.mpr g
 refine#[_,c,?_,i,?_,?_]
 .unfold relayAll;rw[k];dsimp only;rw[v,u,i8,i.length_eq,l,wB (by decide)]
 .rw[i.length_eq];exact#[l,r,h,s.trans j.led,q.trans j.plain,p]
 .unfold SetTable.tooFull SetTable.fill;rw[h,sz];have e:(#v[]:Array Nat).size=0:=rfl;rw[e];exact j9 ()
section
variable{P:Pg}{w:World}{A:Ar}{E:VP}{s:Sh}{a:Ad}{d:Bool}{c:Zs}{k:Int}{t:Tok}
def MB{a:Type}{R:a->Sh->Prop}{rest:Bool->Sem a}{b:Bool}(h:wpAny (model P w) A (rest true) R E s):wpAny (model P w) A (if b=true then hashByValue 8 (Value.int k t) >>= rest else pure true >>= rest) R E s:=by
 cases b
 .exact f' (hI h)
 .exact f' (show wpAny _ _ (pure true) _ _ _ from hI h)
def Nh{Q:Sh->Prop}(hS:IsSetG s.heap a d c)(few:c.length<4000)(q:∀M,IsSetG M a d (oB c k)->Heap.SameBut a s.heap M->Q {s with heap:=M}):
  wpAny (model P w) A (setAddHashed a (.int k t) (hashInt k)) (λ_ s'=>Q s') E s:=by
 obtain⟨o,ep,t0,e,L,N,tb,nf,nd⟩:=id hS;have ln:o.length=c.length:=by rw[<-N.length_eq,hJ]
 have p:t0.fits o.toArray.size=true:=by rw[i8];exact tb.fits
 have el:ElemsOf (intKind P w) o.toArray.toList:=λx b=>by
  obtain⟨n,O,rfl⟩:=L x (by simpa using b);exact#[#[n,qf _ _ _ _,rZ],rZ]
 have sc:byScan (.int k t) o.toArray=true:=by
  unfold byScan;have e3:o.toArray.all (·.2.scannable)=true:=by
   rw[Hn];exact λx b=>(el x (by simpa using b)).2
  rw[e3,i0 (show o.toArray.size<scanBound by rw[i8];unfold scanBound;lia)];rfl
 have mem:k∈c↔ ∃x∈o,(intKind P w).is k x.2=true:=by
  rw[<-N.mem_iff,iK];constructor
  .rintro⟨x,b,rfl⟩;obtain⟨n,O,rfl⟩:=L x b;exact#[_,b,qf _ _ _ _]
  .rintro⟨x,b,h⟩;obtain⟨n,O,rfl⟩:=L x b;exact#[_,b,((intKind P w).inj _ _ _ h (qf _ _ _ O)).symm]
 unfold setAddHashed setAddHashedIn;refine lL (f' (oV e rZ p ?_));dsimp only;rw[sc,wB rZ];unfold setAddByScan;refine f' (f' (rJ (f' (wpAny_setScan_of (knd:=intKind P w) (k:=k) (adding:=true) (qf _ _ _ _) e rZ p el ?_))));rw[u7];cases hf:o.findIdx? λe=>(intKind P w).is k e.2 with
 |some j=>
  obtain⟨hj,T,_⟩:=HU.mp hf;have i:k∈c:=mem.mpr #[_,qb hj,T];refine hI (hI ?_);have z:=q s.heap (by unfold oB;rw[wB i];exact hS) (Heap.SameBut.refl a s.heap);cases s;exact z
 | none=>
  have i:k∉c:=λz=>by
   obtain⟨x,b,h⟩:=mem.mp z;have y:=List.findIdx?_eq_none_iff.mp hf x b;rw[h]at y;cases y
  obtain⟨l,r,qe,D,G,H,oh⟩:=Lz (k:=k) (tk:=t) L N tb nf;dsimp only;rw[qe];dsimp only;have f:oB c k=c++[k]:=by unfold oB;rw[wA i]
  have I:(oB c k).Nodup:=by
   rw[f];exact yp.mpr #[nd,oM.mpr #[List.not_mem_nil,List.nodup_nil],λx b y hy=>by rw[iE.mp hy];exact λz=>i (z▸b)]
  refine f' (m:=(pure Unit.unit:Sem Unit)) (hI ?_);refine MB ?_;simp only[if_true];refine f' (Bh e rZ ?_ (by rw[i8,iR];lia));have U:=AQ (h:=s.heap) (fs:=l) (u:=r) e;have g:Heap.SameBut a s.heap (s.heap.update a (Obj.putSet l.toArray r)):=BD ..;show wpAny _ _ (if(!false&&r.tooFull)=true then _ else _) _ _ _;by_cases tf:r.tooFull=true
  .rw[tf,wB (by decide)];obtain⟨v,Y,aa,B,ab,ae⟩:=Li H () ();rw[aa];dsimp only;refine f' (m:=(pure Unit.unit:Sem Unit)) (hI ?_);refine f' (Bh U rZ ?_ (by rw[i8,B.length_eq,iR];lia));have e2:=AQ (fs:=v) (u:=Y) U;have C:=Heap.SameBut.trans g (BD (s.heap.update a (Obj.putSet l.toArray r)) a (Obj.putSet v.toArray Y));exact hI (hI (q _ #[v,ep+1+1,Y,e2,λx b=>D x (B.mem_iff.mp b),by rw[f];exact(B.map rj).trans G,ab,ae,I] C))
  .have J:r.tooFull=false:=by simpa using tf
   rw[J,wA (by decide)];exact hI (hI (q _ #[l,ep+1,r,U,D,by rw[f];exact G,H,J,I] g))
end
def tq(a:Zs):Zs:=a.foldl oB []
section
variable{P:Pg}{w:World}{A:Ar}{E:VP}{S d l:Ad}{led:Bool}{a:Zs}{vs:Vs}
theorem GB{R:Result->Sh->Prop}(H:A.handled=none)(m:S≠d)(I:S≠l)(J:d≠l)(r:Vals (a.map V.int) vs)(few:a.length<=4000):
  ∀(rest:Zs) (i:Nat) (c:Zs) (s:Sh),a.drop i=rest->c.length<=i->s.heap.IsListIter d l i->s.heap.IsList l vs.toArray->IsSetG s.heap S led c->
   (∀f v,IsSetG f S led (rest.foldl oB c)->(∀b o,b≠S->b≠d->s.heap.get? b=some o->f.get? b=some o)->R (.ok (.ret .none)) {s with heap:=f,toks:=v})->
   codeAny (model P w) A (.builtin "set.update.loop" #[[.ref S,.ref d],[]]) R s
 | [],i,c,s,n,Q,y,p,z,q=>by
  have L:vs.length<=i:=by
   have M:vs.length=a.length:=by simpa using r.length.symm
   have B:=Eo.mp n;lia
  refine ot xE ?_;rw[pO sr _];show wpAny _ A.in1 (pyNext (.ref d) >>= _) _ _ s;refine f' (Ah (by simpa using H) y p (by simp;lia) λf keep=>?_);exact hI (q f s.toks (z.ext λo e=>keep _ _ m e) λb o _ B e=>keep b o B e)
 | x::rest,i,c,s,n,Q,y,p,z,q=>by
  have j:a[i]?=some x:=by rw[<-BP,n];rfl
  have next:a.drop (i+1)=rest:=by rw[<-AH,n];rfl
  have U:i<a.length:=(ik.mp j).1;obtain⟨u,T,t,rfl⟩:=r.get (i:=i) (x:=V.int x) (by rw[iB,j];rfl);refine ot xE ?_;rw[pO sr _];show wpAny _ A.in1 (pyNext (.ref d) >>= _) _ _ s;refine f' (AT y p (x:= .int x t) (by simpa using T) λM pe g=>?_);show wpAny _ A.in1 (holding [Value.int x t] (setAdd S (.int x t)) >>= _) _ _ _;refine f' (lL ?_);unfold setAdd;refine lL (f' ((intKind P w).pyHash (k:=x) (qf _ _ _ _) ?_));have C:IsSetG M S led c:=z.ext λo e=>g.extBut _ _ m e;refine Nh C () λB D h=>?_;have E:(oB c x).length<=i+1:=by
   unfold oB;split
   .lia
   .rw[jk];show c.length+1<=_;lia
  refine hI #[pN sr _,GB H m I J r few rest (i+1) (oB c x) _ next E (pe.extBut h.extBut m.symm) ((p.extBut g.extBut J.symm).extBut h.extBut I.symm) D λf v G keep=>?_];exact q f v G λb o N O e=>keep b o N O (h.extBut _ _ N (g.extBut _ _ O e))
set_option maxHeartbeats 4000000 in
def JJ{h:Heap}{i:Array GenState}{j:Drawn}{k:Nat}{os:OsState}{R:PySem.Fin->Sh->Prop}(t:A.handled=none)(m:h.IsList l vs.toArray)(u:Vals (a.map V.int) vs)(few:a.length<=4000)(q:∀c f,IsSetG c h.objs.size led (tq a)->(∀b o,h.get? b=some o->c.get? b=some o)->R (.done (.ret .none)) #[c,i,j,f,os]):
  wpAny (model P w) A (Builtin.«set.__init__» #[[.ref h.objs.size,.ref l],[]]) R E #[h.push (rF led),i,j,k,os]:=by
 obtain⟨⟨B,dl,v,sl⟩,n,c2,x,p⟩:=id m;simp only at c2 p;subst c2 p;have C:(h.push (rF led)).get? l=some #[.type "list",dl,.seq vs.toArray x,sl]:=iG _ n;have y:(h.push (rF led)).get? h.objs.size=some {cls:= .type "set",dict:=none,data:= .set #v[] 0 (.fresh 0 0 led)}:=jp _ rfl;have D:=F.sub_list_set;have G:=F.sub_list_frozenset;have H:(Value.type "list"==Value.type "dict")=false:=by decide
 unfold Builtin.«set.__init__» noKeywords Builtin.Frozenset.updateFrom;generalize g:pyIter=r
 wp_walk
 subst g;have d:(h.push (rF led)).IsList l vs.toArray:=m.push _;refine xz d (f' (wpAny_runValue ?_));have lt:l<h.objs.size:=iu n;have sz:(h.push (rF led)).objs.size=h.objs.size+1:=vh ..;refine GB (vs:=vs) (led:=led) (by simpa using t) (by rw[sz];exact Nat.ne_of_lt (Nat.lt_succ_self _)) (Nat.ne_of_gt lt) (by rw[sz];exact Nat.ne_of_gt (Nat.lt_succ_of_lt lt)) u few a 0 [] _ rZ (Nat.le_refl _) #[_,Heap.get?_push_size _ rZ,rZ,rZ] (d.push _) #[[],0,_,Heap.get?_push_of_some _ y,(λe z=>nomatch z),List.Perm.refl _,#[by cases led<;>rfl,.nil,rZ,rZ,rZ,3,rZ],rZ,.nil] λc f z1 z2=>?_;refine hI (hI (q c f z1 λb o e=>?_));have s:=iu e;exact z2 b o (i6 s) (by rw[sz];exact i6 (wn s)) (iG _ (iG _ e))
def IQ{s:Sh}{Q:VP}(x:A.handled=none)(n:s.heap.IsList l vs.toArray)(y:Vals (a.map V.int) vs)(few:a.length<=4000)(q:∀d g,IsSetG d s.heap.objs.size (!w.params.followText "set-order") (tq a)->(∀b o,s.heap.get? b=some o->d.get? b=some o)->Q (.ref s.heap.objs.size) {s with heap:=d,toks:=g}):
  wpAny (model P w) A (call (.type "set") [.ref l]) Q E s:=by
 have lt:l<s.heap.objs.size:=let⟨_,e,_⟩:=n;iu e
 obtain⟨c,H,B⟩:=lU.mro;have p:=lU.made;have sub:=lU.sub;have h:=lU.notType;have C:=lU.canCreate;have args:=D4 (.ref l);have look:=lU.init.lookup;have D:=lU.init.bind (.ref s.heap.objs.size);generalize i:nz [] 0 (lG (!w.params.followText "set-order") [])=j;have G:(s.heap.push j).get? s.heap.objs.size=some j:=jp _ (by rw[<-i];rfl);have ty:Shared.TypeIs {s with heap:=s.heap.push j} (.ref s.heap.objs.size) "set":=#[_,G,by rw[<-i];rfl];refine py (yS (show wpAny _ _ (callAny (.type "set") _) _ _ _ from hI #[yd _ (by decide+kernel),ot Dn ?_]));rw[Ew (Eg "set" [.ref l] []) rZ]
 repeat (any_goals (first|assumption|wp_step))
 refine nG (Fp (w:=w) (E:=E) (Q:=λv t=>v=.ref s.heap.objs.size/\t={s with heap:=s.heap.push j}) (by rw[i];exact#[rZ,rZ])) λr t z=>?_;cases r with
 |error _=>exact z
 | ok f=>
  cases f<;>first|exact z.elim|skip
  obtain⟨k,m⟩:=z;subst k m
  repeat (any_goals (first|assumption|wp_step))
  refine nG (x4 (R:=wants (λv u=>v=.none/\∃d g,u={s with heap:=d,toks:=g}/\IsSetG d s.heap.objs.size (!w.params.followText "set-order") (tq a)/\∀b o,s.heap.get? b=some o->d.get? b=some o) E)
   lU.init.plain Eh (Cw ty ?_)) λr u z=>?_
  .subst i;exact JJ (A:=A.in1.in1) (by simpa using x) n y few λd g z1 z2=>#[rZ,d,g,rZ,z1,z2]
  .cases r with
   |error _=>exact z
   |ok f=>
    cases f<;>first|exact z.elim|skip
    obtain⟨k,d,g,m,z1,z2⟩:=z;subst k m
    repeat (any_goals (first|assumption|wp_step))
    exact q d g z1 z2
end
open PySem PySem.Spec PySem.W PyProof.Rows
def pU(a:Bool)(b:Array Nat):Nat->Nat
 |0=>0
 |i+1=>if a then 0 else b.getD i 0+1
section
variable{P:Pg}{w:World}{A:Ar}{E:VP}{a f:Ad}{d i:Nat}{es:List (Int×Vl)}{t:SetTable}{b:Bool}
def LC(a:TabG t es.length b)(c:i<=es.length):SetTable.below t.place (pU false t.place i)=i:=by
 cases i with
 |zero=>exact Ix a.up
 | succ i=>
  have sz:=a.size;have e:t.place[i]?=some (t.place.getD i 0):=by
   rw[nc ()];simp[Array.getD,show i<t.place.size by lia]
  exact LZ a.up e
def Fw{s:Sh}{Q:Option (Vl×Nat)->Sh->Prop}(f:s.heap.get? a=some (nz es d t))(b:TabG t es.length (!w.params.followText "set-order"))(h:i<=es.length)(q:Q (((lO w a d es)[i]?).map λe=>(e.2,pU (w.params.followText "set-order") t.place (i+1))) s):wpAny (model P w) A (setNext a (pU (w.params.followText "set-order") t.place i) i d) Q E s:=by
 have c:t.fits es.toArray.size=true:=by rw[i8];exact b.fits
 have sz:=b.size;unfold setNext setsByText;refine f' (oV f rZ c ?_);refine f' (f' (rQ (hI ?_)));show wpAny _ _ (if w.params.followText "set-order"=true then _ else _) _ _ _;unfold lO at q;have g:=b.led;generalize k:w.params.followText "set-order"=l at q g|-;cases l with
 |true=>
  rw[wB rZ];rw[wB rZ]at q;rw[wA (by simp)];unfold setWalk setsByText;refine f' (f' (oV f rZ c (f' (f' (rQ (hI ?_))))));show wpAny _ _ (if w.params.followText "set-order"=true then _ else _) _ _ _;rw[k,wB rZ];refine f' (rQ (hI (hI ?_)));rw[mF]at q;cases i<;>exact q
 | false=>
  rw[wA (by decide)];rw[wA (by decide)]at q;rw[wA (by show ¬((!t.plain&&_)=true);rw[b.plain];simp)];have m:(!t.led&& !es.toArray.isEmpty)=false:=by rw[g];rfl
  refine f' ?_;show wpAny _ _ (if(!t.led&& !es.toArray.isEmpty)=true then _ else _) _ _ _;rw[m,wA (by decide)];refine hI (hI ?_);show Q (match es.toArray[SetTable.below t.place (pU false t.place i)]?,t.place[SetTable.below t.place (pU false t.place i)]? with|some (_,x),some j=>some (x,j+1)|_,_=>none) s;rw[LC (es:=es) b h]
  rcases Nat.lt_or_ge i es.length with z|z
  .rw[hV z]at q;have e:pU false t.place (i+1)=t.place[i]'()+1:=by
    show(if false=true then 0 else t.place.getD i 0+1)=_;rw[wA (by decide)];simp[Array.getD,show i<t.place.size by lia]
   simp only[List.getElem?_toArray,List.getElem?_eq_getElem z,Array.getElem?_eq_getElem (show i<t.place.size by lia)];rw[e]at q;exact q
  .rw[pJ z]at q;simp only[List.getElem?_toArray,List.getElem?_eq_none z];exact q
def IW{s:Sh}{e:Int×Vl}{Q:Option Vl->Sh->Prop}(n:a≠f)(k:TabG t es.length (!w.params.followText "set-order"))(b:s.heap.get? f=some (oR (pU (w.params.followText "set-order") t.place i) i es.length d a))(l:s.heap.get? a=some (nz es d t))(o:i<es.length) (p:(lO w a d es)[i]?=some e)(q:∀c,c.get? f=some (oR (pU (w.params.followText "set-order") t.place (i+1)) (i+1) es.length d a)->Heap.SameBut f s.heap c->Q (some e.2) {s with heap:=c}):wpAny (model P w) A (pyNext (.ref f)) Q E s:=by
 have ty:s.TypeIs (.ref f) "set_iterator":=#[_,b,rZ];have g:t.fits es.toArray.size=true:=by rw[i8];exact k.fits
 unfold pyNext;refine f' (rm (rV (name:=Str.ofString "__next__") ty iL (nA iL ty Bg ?_ (BM _))));unfold oR at b;unfold Builtin.«set_iterator.__next__»;refine f' (m:=slotArgs _ _ _) (hI ?_);refine f' (t9 b rZ ?_);show wpAny _ _ (setEntries a >>= _) _ _ _;unfold setEntries;refine f' (f' (oV l rZ g (hI ?_)));have r:((((es.toArray.size:Nat):Int) != ((es.length:Nat):Int)))=false:=by simp
 show wpAny _ _ (if((((es.toArray.size:Nat):Int) != ((es.length:Nat):Int)))=true then _ else _) _ _ _;rw[r,wA (by decide)];show wpAny _ _ (setNext a ((pU (w.params.followText "set-order") t.place i:Nat):Int).toNat ((i:Nat):Int).toNat ((d:Nat):Int).toNat >>= _) _ _ _;simp only[Int.toNat_natCast];refine f' (Fw l k (nZ o) ?_);rw[p];show wpAny _ _ (setField (.ref f) 0 (rawInt _) >>= _) _ _ _;refine f' (pI b (by simp) λy u h=>?_);refine f' (pI u (by simp) λv x j=>?_);exact hI #[_,rZ,hI (q v x (h.trans j))]
def NC{s:Sh}{Q:Option Vl->Sh->Prop}(l:A.handled=none)(i:TabG t es.length (!w.params.followText "set-order"))(c:s.heap.get? f=some (oR (pU (w.params.followText "set-order") t.place es.length) es.length es.length d a))(j:s.heap.get? a=some (nz es d t))(q:∀k,Heap.ExtBut f s.heap k->Q none {s with heap:=k}):wpAny (model P w) A (pyNext (.ref f)) Q E s:=by
 have ty:s.TypeIs (.ref f) "set_iterator":=#[_,c,rZ];have g:t.fits es.toArray.size=true:=by rw[i8];exact i.fits
 have n:(lO w a d es)[es.length]?=none:=pJ (by rw[(wG w a d es).length_eq];exact ig _);unfold pyNext;refine f' (rm (rV (name:=Str.ofString "__next__") ty iL (nA iL ty Bg ?_ (BM _))));unfold oR at c;unfold Builtin.«set_iterator.__next__»;refine f' (m:=slotArgs _ _ _) (hI ?_);refine f' (t9 c rZ ?_);show wpAny _ _ (setEntries a >>= _) _ _ _;unfold setEntries;refine f' (f' (oV j rZ g (hI ?_)));have p:((((es.toArray.size:Nat):Int) != ((es.length:Nat):Int)))=false:=by simp
 show wpAny _ _ (if((((es.toArray.size:Nat):Int) != ((es.length:Nat):Int)))=true then _ else _) _ _ _;rw[p,wA (by decide)];show wpAny _ _ (setNext a ((pU (w.params.followText "set-order") t.place es.length:Nat):Int).toNat ((es.length:Nat):Int).toNat ((d:Nat):Int).toNat >>= _) _ _ _;simp only[Int.toNat_natCast];refine f' (Fw j i (ig _) ?_);rw[n];show wpAny _ _ (setField (.ref f) 2 .none >>= _) _ _ _;refine f' (pI c (by simp) λu v h=>?_);refine f' (m:=newExc _ _) ?_;simp only[newExc,newTuple];refine f' (pC ?_ (by size_fits));refine f' (m:=firstArgMember _ _) (wO (a:=Value.none) (by first|rfl|(unfold firstArgMember;rfl)) (wpAny_newObj_type ?_ (by size_fits)));refine zR (by simpa using l) (wpAny_bind (wpAny_isInstance (T:="StopIteration") (b:=true) #[_,Heap.get?_push_size _ rZ,rZ] isSubtype_stop (wpAny_pure ?_)));exact q _ λb o r e=>iG _ (iG _ (h.extBut b o r e))
def Jw(p:A.handled=none)(c:a≠f)(l:TabG t es.length (!w.params.followText "set-order")):Walks P w A f [f,a] [f] es.length (λi v=>∃e,(lO w a d es)[i]?=some e/\v=e.2) (λi h=>h.get? f=some (oR (pU (w.params.followText "set-order") t.place i) i es.length d a)/\h.get? a=some (nz es d t)) where
 sub:=λb r=>iM.mpr (.inl (iE.mp r))
 frame:=λi h g st k=>#[k f (i7 ..) _ st.1,k a (jr _ (iE.mpr rZ)) _ st.2]
 item:=λi s Q E u st q=>by
  have l1:(lO w a d es).length=es.length:=by rw[(wG w a d es).length_eq]
  obtain⟨e,m⟩:∃e,(lO w a d es)[i]?=some e:=#[_,hV ()];refine IW c l st.1 st.2 u m λg y n=>q e.2 g s.toks #[e,m,rZ] #[y,n.extBut _ _ c st.2] λb o j e=>n.extBut _ _ (λz=>j (iE.mpr z)) e
 done:=λs Q E st q=>NC p l st.1 st.2 λg x=>q g s.toks λb o j e=>x b o (λz=>j (iE.mpr z)) e
 self:=λi s Q E st q=>by
  have ty:s.TypeIs (.ref f) "set_iterator":=#[_,st.1,rZ];refine uq ty AJ (nA AJ ty Fx ?_ (E' _));exact show wpAny _ _ (ret (.ref f)) _ _ s from hI #[_,rZ,"set_iterator",_,ty,iL.lookup,q]
def yV{s:Sh}{Q:VP}(e:TabG t es.length (!w.params.followText "set-order"))(c:s.heap.get? a=some (nz es d t))(q:Q (.ref s.heap.objs.size) {s with heap:=s.heap.push (oR 0 0 es.length d a)}):wpAny (model P w) A (pyIter (.ref a)) Q E s:=by
 have ty:s.TypeIs (.ref a) "set":=#[_,c,rZ];have b:t.fits es.toArray.size=true:=by rw[i8];exact e.fits
 refine uq ty BQ (nA BQ ty Fv ?_ (F.args_set_iter_1 _));unfold Builtin.«frozenset.__iter__»;refine f' (m:=Builtin.Frozenset.slot0 _ _) (hI ?_);unfold Builtin.Frozenset.sizeOf setEntries;refine f' (f' (f' (oV c rZ b (hI (hI ?_)))));unfold setDrawn setsByText;refine f' (f' (oV c rZ b (f' (f' (rQ (hI (hI ?_)))))));have f:(!w.params.followText "set-order"&&(!t.plain&&decide (es.toArray.size>1)))=false:=by rw[e.plain];simp
 show wpAny _ _ (if(!w.params.followText "set-order"&&(!t.plain&&decide (es.toArray.size>1)))=true then _ else _) _ _ _;rw[f,wA (by decide)];refine f' (hI (f' (wpAny_setEpoch_of c rZ b ?_)));refine f' (m:=newFields _ _) ?_;unfold newFields;refine pC ?_ (by size_fits);exact hI #[_,rZ,"set_iterator",_,#[_,jp _ rZ,rZ],iL.lookup,q]
def Cz(b:TabG t es.length (!w.params.followText "set-order")):PySem.W.KdlSrc P w "set" a a es.length (λi v=>∃e,(lO w a d es)[i]?=some e/\v=e.2) (λh=>h.get? a=some (nz es d t)) where
 type:=λ_ e=>#[_,e,rZ]
 there:=λ_ e=>#[iu e,iu e]
 keep:=λ_ _ e k=>k a (.inl rZ) _ e
 notList:=by decide
 notTuple:=by decide
 hint:=λ_ _ _ _ e q=>FF #[_,e,rZ] q
 iter:=λ_ _ c e=>#[_,_,λ_ _ q=>yV b e q,Jw c (i6 (iu e)) b,jp _ rZ,iG _ e]
theorem HW:∀{a:List (Int×Vl)},(∀e∈a,zA e)->IntsAre (a.map (·.2)) (a.map rj)
 | [],_=> .nil
 |e::a,h=>by
  obtain⟨k,t,rfl⟩:=h e (i7 ..);rw[lH,lH];exact .cons k t (HW λx b=>h x (jr _ b))
def LV{s:Sh}{d:Vs}{c:Zs}(k:IntsAre d c)(m:2<=d.length):AD P w A d (λi j=>decide (c.getD i 0<c.getD j 0)) s:=by
 unfold AD;obtain⟨g,h,rest,rfl⟩:∃g h rest,d=g::h::rest:=by
  cases d with
  |nil=>exact wC m (Nat.not_succ_le_zero 1)
  |cons a r=>cases r with
   |nil=>exact wC m (Nat.not_succ_le_self 1)
   |cons b r=>exact#[a,b,r,rZ]
 rw[keyKind_ints k];refine hI #[rZ,λi j C n o q=>?_];have f:∀{i:Nat},i<(g::h::rest).length->∃l,(g::h::rest).getD i Value.none=.int (c.getD i 0) l:=λ{i} y=>by
  have z:=k.length;obtain⟨u,p,l,e⟩:=(xP k).get (i:=i) (x:=V.int (c.getD i 0)) (by rw[iB,hV (show i<c.length by lia),j6,hV (show i<c.length by lia)];rfl);subst e;exact#[l,by rw[j6,p];rfl]
 obtain⟨B,t⟩:=f n;obtain⟨D,v⟩:=f o;show wpAny (model P w) A (keyLt' _ _ _) C _ s;rw[t,v,keyLt'_oneType];exact oneLt_int q
theorem HA:∀{d:Vs} {f:Zs},IntsAre d f->f.Nodup->d.Nodup
 |_,_,.nil,_=> .nil
 |_,_,.cons n t h,g=>by
  obtain⟨a,b⟩:=oM.mp g;refine oM.mpr #[λz=>a ?_,HA h b];obtain⟨i,c⟩:=kr.mp z;have k:=h.length;obtain⟨u,j,l,e⟩:=(xP h).get (i:=i) (x:=V.int (_:Int)) (by rw[iB,hV (show i<_ by have:=(ik.mp c).1;lia)];rfl);rw[j]at c;subst e;injection c with c
  injection c with c
  rw[<-c];exact qb _
def Iw{b:Vs}{a:Zs}(c:IntsAre b a){p:Array Nat}(f:Arr a.length p):IntsAre (mB b p) (p.toList.map λi=>a.getD i 0):=by
 have r:=c.length;have all:∀l:g9,(∀i∈l,i<a.length)->IntsAre (l.map λi=>b.getD i Value.none) (l.map λi=>a.getD i 0):=λl=>by
  induction l with
  |nil=>intro _;exact .nil
  |cons i l g=>
   intro h;have d:=h i (i7 ..);obtain⟨u,k,n,e⟩:=(xP c).get (i:=i) (x:=V.int (a.getD i 0)) (by rw[iB,hV d,j6,hV d];rfl);subst e;rw[lH,lH,show b.getD i Value.none=.int (a.getD i 0) n by rw[j6,k];rfl];exact .cons _ _ (g λj o=>h j (jr _ o))
 refine all _ λi q=>?_;have m:=(pS.mp f).mem_iff.mp q;simpa using m
def La{a:Zs}{p:Array Nat}(d:Arr a.length p)(up:tr (λi=>a.getD i 0) p a.length):(p.toList.map λi=>a.getD i 0).Pairwise (· < ·):=by
 rw[yb,pT];intro i j b c lt;have sz:=d.size;rw[i4]at b c;have z:=up i j lt ();simp only[Array.getD,b,c,dif_pos]at z;simpa using z
def Mb{s:Sh}{g:Zs}{Q:VP}(hh:A.handled=none)(hS:IsSetG s.heap a (!w.params.followText "set-order") g)(few:g.length<=4000)(q:∀(r v:Heap) G B L n,IntsAre B L->L.Perm g->L.Pairwise (· < ·)->(∀b o,s.heap.get? b=some o->r.get? b=some o)->(∀b o,r.get? b=some o->v.get? b=some o)->v.get? r.objs.size=some {cls:= .type "list",data:= .seq B.toArray n}->Q (.ref r.objs.size) {s with heap:=v,toks:=G}):
  wpAny (model P w) A (call (.builtin "sorted") [.ref a]) Q E s:=by
 obtain⟨es,d,t,eS,en,N,tb,nf,nd⟩:=hS;have ln:es.length=g.length:=by rw[<-N.length_eq,hJ]
 have f:=wG w a d es;refine Ek kind_sorted plain_sorted entry_sorted (args_sorted1 _) ?_;unfold Builtin.«sorted»;refine f' (m:=checkCount "sorted" 1 1 _) (hI ?_);refine f' (PySem.W.kdu_collect (A:=A.in1) (Cz tb) (by simpa using hh) eS (by rw[sizeLine_eq];lia) λr G ac keep C=>?_);have h:ac.toList=(lO w a d es).map (·.2):=by
  refine yY (by rw[i4,C.1,hJ,f.length_eq]) λi x y hx O=>?_;obtain⟨e,e1,e2⟩:=C.2 i x (by rw[<-mF];exact hx);rw[iB,e1]at O;cases O;exact e2
 have l:IntsAre ac.toList ((lO w a d es).map rj):=by
  rw[h];exact HW λe he=>en e (f.mem_iff.mp he)
 have T:ac.toList.length=es.length:=by rw[h,hJ,f.length_eq]
 have H:((lO w a d es).map rj).Perm g:=(f.map rj).trans N;generalize(lO w a d es).map rj=u at l H;have nl:u.length=g.length:=H.length_eq;have D:u.Nodup:=H.nodup_iff.mpr nd;generalize ac.toList=I at l T;refine f' (xq ?_ (by rw[T,iR];lia));have U:(r.push (seqObj "list" I.toArray 0)).get? r.objs.size=some (seqObj "list" I.toArray 0):=jp _ rfl;have vn:I.length=u.length:=by lia
 refine f' (lL (nA slot_list_sort #[_,U,rZ] CV (M9 (s:={s with heap:=r.push (seqObj "list" I.toArray 0),toks:=G}) (k:=λi=>u.getD i 0) U () (HA l D) (λi j hi hj e=>?_) (λv Y M=>LV l M) λp v c J up e Y=>#[_,rfl,?_]) (args_list_sort _)))
 .rw[j6,j6,hV (show i<u.length by lia),hV (show j<u.length by lia)]at e;exact(C2 D).mp e
 .rw[vn]at J up;refine hI #[_,rZ,q r v G _ _ c (Iw l J) (.trans ?_ H) (La J up) keep (λb o z=>Y b o (i6 (iu z)) (iG _ z)) e];have z:=(pS.mp J).map λi=>u.getD i 0;refine z.trans (List.Perm.of_eq ?_);refine xi (by simp) λi r M=>?_;simp[show i<u.length from M]
end
section
variable{X:Cx}
def A5(w:World)(a:Ad)(b:Zs):HO:= .ext λh=>IsSetG h a (!w.params.followText "set-order") b
def IsSetG.ok{w:World}{h:Heap}{a:Ad}{b:Zs}{P:Pg}{f:World}{H:Hp}(x:IsSetG h a (!w.params.followText "set-order") b):ObjOk P f H h a (A5 w a b):=by
 obtain⟨j,l,t,e,r⟩:=id x;exact#[x,#[_,e],λm n ⟨c,d,t',g,i⟩ k=>#[c,d,t',k _ g,i]]
inductive uk(K:O0)(w:World)(c:List V)(H:Hp)(Q:VK):Prop|mk:∀(p:Ad) (b:Zs),c=[.ref p]->SqL K H p (b.map V.int)->b.length<=4000->(∀a,H a=none->Q (.ref a) (hA H a (A5 w a (tq b))))->uk K w c H Q
def Oh(a:X.calm=true):CallR X (.type "set") (uk X.K X.w):=by
 intro Z s b H l m Q I r h;obtain⟨p,n,rfl,c,few,q⟩:=h;obtain⟨u,rfl,d⟩:=m7 r;cases d;obtain⟨e,f,g,_⟩:=I.list c;refine IQ (I.ok.hd a) g.isList f few λi j z keep=>?_;have k:Inv X Z b H {s with heap:=i,toks:=j}:=I.kept keep;exact#[.ref s.heap.objs.size,_,Inv.trackNew I k z.ok,rZ,q _ I.fresh]
inductive qz(w:World)(d:List V)(H:Hp)(Q:VK):Prop|mk:∀(a:Ad) (b:Zs),d=[.ref a]->H a=some (A5 w a b)->b.length<=4000->(∀(l:Ad) (c:Zs),H l=none->c.Perm b->c.Pairwise (· < ·)->Q (.ref l) (hA H l (.lst (c.map V.int))))->qz w d H Q
def NA(l:X.calm=true):CallR X (.builtin "sorted") (qz X.w):=by
 intro Z s g H x y Q I r h;obtain⟨a,m,rfl,o,few,q⟩:=h;obtain⟨u,rfl,p⟩:=m7 r;cases p;obtain⟨z,_,_⟩:=I.hok a _ o;refine Mb (I.ok.hd l) z few λb i j c d n t k v k1 k2 e=>?_;have f:Inv X Z g H {s with heap:=b,toks:=j}:=I.kept k1;have w:Inv X Z g H {s with heap:=i,toks:=j}:=f.kept k2;have A:=k.length_eq;have ok:ObjOk X.prog X.w (hA H b.objs.size (.lst (d.map V.int))) i b.objs.size (.lst (d.map V.int)):=#[by rw[hJ,iR];lia,c,n,xP t,e];exact#[.ref b.objs.size,_,Inv.trackNew f w ok,rZ,q _ d f.fresh k v]
def Mu{a:Zs}{x y:Int}:y∈oB a x↔y∈a\/y=x:=by
 unfold oB;split
 .exact#[.inl,λz=>z.elim id λe=>by rw[e];assumption]
 .rw[iN,iE]
def Kk{b:Zs}{y:Int}:y∈tq b↔y∈b:=by
 have all:∀(b a:Zs),y∈b.foldl oB a↔y∈a\/y∈b:=λb=>by
  induction b with
  |nil=>intro a;simp
  |cons x b c=>
   intro a;rw[tc,c,Mu,iM,or_assoc]
 rw[tq,all];simp
def OG(b:Zs):(tq b).length<=b.length:=by
 have all:∀(b a:Zs),(b.foldl oB a).length<=a.length+b.length:=λb=>by
  induction b with
  |nil=>intro a;simp
  | cons x b c=>
   intro a;rw[tc,oo];refine i5 (c _) ?_;unfold oB;split
   .lia
   .rw[jk];show a.length+1+_<=_;lia
 have z:=all b [];rw[Ac,vg]at z;exact z
end
inductive mP(P:g9->Prop)(g:g9->Int)(c:List V)(H:Hp)(Q:VK)(b:XK):Prop|mk:∀(a:Ad) (t:g9),c=[.ref a]->H a=some (.tup (t.map nv))->P t->(∀d,Same H d->Q (.int (g t)) d)->mP P g c H Q b
def uh(g:g9->Int)(a:Option (Ad×g9))(x:Ad×g9):Option (Ad×g9):=match a with
 |none=>some x
 |some y=>if g x.2<g y.2 then some x else some y
def Dj(g:g9->Int)(a:Tok):Option (Ad×g9)->Array Vl
 |none=> #v[]
 |some y=> #v[.ref y.1,.int (g y.2) a]
section
variable{X:Cx}{Z:AO}{m:St}{B:Nat}{f:Ad}{D:Fd}{C:Ss}{g:g9->Int}{P:g9->Prop}
def LO{c:Sp}{H:Hp}{s:Sh}{Q:VK}{us:Vs}{vs:List V}(F:FnOk X.prog X.w X.K X.mg X.base iF B f D C c)(d:Room B X.A.in1)(g:Binds X.K D C [])(I:Inv X Z m H s)(r:Vals vs us)(h:c vs H Q E0):
  wpAny (model X.prog X.w) X.A.in1 (call (.ref f) us) (EP X Z m Q) (λ_ _=>False) s:=by
 have i:(us++[]).length=C.length:=by rw[mq,<-r.length];exact F.len _ _ _ _ h
 have b:=g s us I.kIn i;rw[mq]at b;refine py (nG (F.run X.A.in1 X.stack s H #[us,[]] us vs Q E0 d I.env0.in1 b r h) λr k a=>?_);cases r with
 |error e=>exact a.elim
 |ok j=>
  cases j with
  |ret u=>exact I.after a
  |next=>exact wE a
  |brk=>exact wE a
  |cont=>exact wE a
theorem EC{I S l:Ad}{as:As}{R:Result->Sh->Prop}(F:FnOk X.prog X.w X.K X.mg X.base iF B f D C (mP P g))(hr:Room B X.A.in1)(hb:Binds X.K D C [])(hh:X.A.handled=none)(ne:S≠I):
  ∀(r:As) (E:LN) (i:Nat) (H:Hp) (G:Option (Ad×g9)) (N:Tok) (c:Nat) (s:Sh),as.drop i=r->Inv X Z m H s->s.heap.IsListIter I l i->SqL X.K H l (as.map V.ref)->TupsAt H r E->(∀t∈E,P t)->
   s.heap.get? S=some (seqObj "list" (Dj g N G) c)->FpOk X Z H S->FpOk X Z H I->(G=none->r≠[])->
   (∀H2 s2 b u,Inv X Z m H2 s2->Same H H2->(r.zip E).foldl (uh g) G=some (b,u)->R (.ok (.ret (.ref b))) s2)->
   codeAny (model X.prog X.w) X.A (.builtin "min.loop" #[[.ref I,.ref f,.ref S],[]]) R s
 | [],E,i,H,G,N,c,s,hd,J,M,hl,T,hP,eS,O,U,d,q=>by
  obtain⟨ab,rv,pl,_⟩:=J.list hl;have ei:=AN rv;subst ei;cases G with
  |none=>exact wC rZ (d rZ)
  |some y=>
   refine ot PySem.F.entry_min_loop ?_;rw[pO wD _];show wpAny _ X.A.in1 (seqItems? (.ref S) >>= _) _ _ s
   refine f' (wpAny_seqItems eS rZ ?_);show wpAny _ X.A.in1 (tryCatch (pyNext (.ref I)) _ >>= _) _ _ s
   refine f' (AW (Ah (by simpa using hh) M pl.isList (by have:=List.drop_eq_nil_iff.mp hd;simpa using this) λh' keep=>?_));have ae:=keep S _ ne eS;show wpAny _ X.A.in1 (updateSeq S (λ_=> #v[]) >>= _) _ _ _
   refine f' (vF ae rZ (f' (vq (hI ?_))) (hz:=(show 2<=sizeLine by rw[iR];decide)));obtain⟨w0,w1,w2,w3,w4,w5⟩:=O;obtain⟨v0,v1,v2,v3,v4,v5⟩:=U;have J1:Inv X Z m H {s with heap:=h'}:=J.turned (t':=s.toks) keep v0 v1 v3 v4 v5;have J2:Inv X Z m H {s with heap:=h'.update S (Obj.mapSeq λ_=>(#v[]:AV))}:=J1.turned (t':=s.toks) (λb o nb e=>(mW _ _ (jq nb)).trans e) w0 w1 w3 w4 w5;exact q H _ y.1 y.2 J2 (Same.refl _) (by rw[List.zip_nil_left];rfl)
 |a::r,[],i,H,G,N,c,s,hd,J,M,hl,T,hP,eS,O,U,d,q=>by have:=T.len;simp at this
 | a::r,t::E,i,H,G,N,c,s,hd,J,M,hl,T,hP,eS,O,U,d,q=>by
  obtain⟨ab,rv,pl,_⟩:=J.list hl;have ei:=AN rv;subst ei;have af:as[i]?=some a:=by rw[<-BP,hd];rfl
  have next:as.drop (i+1)=r:=by rw[<-AH,hd];rfl
  have ha:H a=some (.tup (t.map nv)):=T.is 0 a t rZ rfl;have p:(toString "min"++toString ".loop":String)="min.loop":=by decide
  refine ot PySem.F.entry_min_loop ?_;rw[pO wD _];show wpAny _ X.A.in1 (seqItems? (.ref S) >>= _) _ _ s;refine f' (wpAny_seqItems eS rZ ?_);show wpAny _ X.A.in1 (tryCatch (pyNext (.ref I)) _ >>= _) _ _ s;refine f' (AW (AT M pl.isList (x:= .ref a) (by simpa using af) λh1 pe aa=>?_));obtain⟨w0,w1,w2,w3,w4,w5⟩:=id O;obtain⟨v0,v1,v2,v3,v4,v5⟩:=id U;have J1:Inv X Z m H {s with heap:=h1}:=J.turned (t':=s.toks) aa.extBut v0 v1 v3 v4 v5;have ag:h1.get? S=some (seqObj "list" (Dj g N G) c):=aa.extBut _ _ ne eS;obtain⟨oI,eI,cI,dI⟩:=id pe;have Jp:=J1.pin2 O U ag eI (λ_ z=>nomatch z) (λv z=>by rw[dI]at z;cases z);have go:=LO (Q:=λv Y=>v=.int (g t)/\Same H Y) F hr hb Jp (us:=[.ref a]) (vs:=[.ref a]) (.cons rZ .nil) #[a,t,rZ,ha,hP t (i7 ..),λY gg=>#[rZ,gg]];show wpAny _ X.A.in1 (tryCatch (holding [Value.ref a] (call (.ref f) [Value.ref a])) _ >>= _) _ _ _;refine f' (AW (lL (ke go (λk s2 hk=>?_) λ_ _ z=>z.elim)));obtain⟨v,Y,I',ah,rfl,gg⟩:=hk;obtain⟨L,rfl⟩:=ah;obtain⟨p1,p2,p3,p4,_⟩:=I'.pin (S,_) (jj _ (i7 ..));obtain⟨d1,d2,d3,d4,_⟩:=I'.pin (I,_) (jj _ (jr _ (i7 ..)));have I2:=I'.unpin2;have T':TupsAt Y r E:=#[by simpa using T.len,λj b u e1 e2=>gg _ _ (T.is (j+1) b u (by simpa using e1) (by simpa using e2))];have put:(r.zip E).foldl (uh g) (some (a,t))=((a::r).zip (t::E)).foldl (uh g) G->codeAny (model X.prog X.w) X.A (.builtin "min.loop" #[[.ref I,.ref f,.ref S],[]]) R {s2 with heap:=s2.heap.update S (Obj.mapSeq λ_=> #v[.ref a,.int (g t) L])}:=λef=>by
   obtain⟨c',ai⟩:∃c',(s2.heap.update S (Obj.mapSeq λ_=> #v[.ref a,.int (g t) L])).get? S=some (seqObj "list" (Dj g L (some (a,t))) c'):=#[_,wZ p1 λ_=> #v[.ref a,.int (g t) L]];have I3:Inv X Z m Y {s2 with heap:=s2.heap.update S (Obj.mapSeq λ_=> #v[.ref a,.int (g t) L])}:=I2.turned (t':=s2.toks) (λb o nb e=>(mW _ _ (jq nb)).trans e) p2 w1 w3 w4 w5;refine EC F hr hb hh ne r E (i+1) Y (some (a,t)) L c' _ next I3 #[oI,(mW _ _ ne).trans d1,cI,dI] (gg.seq hl) T' (λu hu=>hP u (jr _ hu)) ai (O.to p2) (U.to d2) (λz=>nomatch z) λH2 s3 b u I4 g4 e4=>?_
   exact q H2 s3 b u I4 (gg.trans g4) (by rw[<-ef];exact e4)
  cases G with
  |none=>
   show wpAny _ X.A.in1 (updateSeq S (λ_=> #v[Value.ref a,Value.int (g t) L]) >>= _) _ _ _;refine f' (vF p1 rZ ?_ (hz:=mC _));rw[p];exact hI #[pN wD _,put rZ]
  | some y=>
   show wpAny _ X.A.in1 (tryCatch (holding [Value.ref a,Value.int (g t) L] (richCompare .Lt (.int (g t) L) (.int (g y.2) N) >>= _)) _ >>= _) _ _ _;refine f' (AW (lL (f' (CmpOf.ints_lt (prog:=X.prog) (w:=X.w) (A:=X.A.in1) (P:=λn v=>∃t',v=.int (if n=0 then g t else g y.2) t') (λn=>if n=0 then g t else g y.2) (λ_ _ h=>h) 0 1 _ _ _ _ _ #[L,rZ] #[N,rZ] ?_))));refine f' (lL (ti ?_));refine f' (vq (hI ?_));show wpAny _ X.A.in1 (if decide (g t<g y.2)=true then _ else _) _ _ _
   by_cases lt:g t<g y.2
   .rw[i0 lt,wB rZ];refine f' (vF p1 rZ (f' (vq ?_)) (hz:=(show 2<=sizeLine by rw[iR];decide)));rw[p];exact hI #[pN wD _,put (by rw[DU,tc];show _=(r.zip E).foldl (uh g) (if g t<g y.2 then _ else _);rw[wB lt])]
   .rw[j9 lt,wA (by decide)];refine f' (vq ?_);rw[p];refine hI #[pN wD _,EC F hr hb hh ne r E (i+1) Y (some y) N c _ next I2 #[oI,d1,cI,dI] (gg.seq hl) T' (λu hu=>hP u (jr _ hu)) p1 (O.to p2) (U.to d2) (λz=>nomatch z) λH2 s3 b u I4 g4 e4=>?_];exact q H2 s3 b u I4 (gg.trans g4) (by rw[DU,tc];show(r.zip E).foldl (uh g) (if g t<g y.2 then _ else _)=_;rw[wA lt];exact e4)
inductive ph(K:O0)(P:g9->Prop)(g:g9->Int)(d:List V)(H:Hp)(Q:VK):Prop|mk:∀(l:Ad) (a:As) (c:LN),d=[V.ref l]->SqL K H l (a.map V.ref)->TupsAt H a c->(∀t∈c,P t)->a≠[]->(∀b u e,Same H e->(a.zip c).foldl (uh g) none=some (b,u)->Q (.ref b) e)->ph K P g d H Q
def Kp{H:Hp}{s:Sh}{Q:VK}{l:Ad}(F:FnOk X.prog X.w X.K X.mg X.base iF B f D C (mP P g))(k:Room B X.A.in1)(n:Binds X.K D C [])(p:X.A.handled=none)(J:Inv X Z m H s)(h:ph X.K P g [.ref l] H Q):
  wpAny (model X.prog X.w) X.A (call (.builtin "min") [.ref l] [(Str.ofString "key",.ref f)]) (EP X Z m Q) X.xe s:=by
 obtain⟨U,r,t,v,i,T,w,x,q⟩:=h;cases v;obtain⟨y,z,A,_⟩:=J.list i;have E:=AN z;subst E;have a:(toString "min"++toString ".loop":String)="min.loop":=by decide
 refine kmk_tree PySem.F.kind_min PySem.F.plain_min PySem.F.entry_min (kmk_min_key _ _) ?_;show wpAny _ X.A.in1 (Builtin.Builtins.bindParams "min" ["key","default"] 0 #[[],[(Str.ofString "key",.ref f)]] >>= _) _ _ s;refine f' (wO (show Builtin.Builtins.bindParams "min" ["key","default"] 0 #[[],[(Str.ofString "key",.ref f)]]=pure [some (.ref f),none]from rfl) (f' (hI ?_)));refine f' (xz A.isList (f' (xq ?_ (mC _))));rw[a];refine hI #[pN wD _,?_];generalize d:({cls:= .type "list_iterator",data:= .fields #v[.ref l,.int 0 0]}:Obj)=c;have sz:(s.heap.push c).objs.size=s.heap.objs.size+1:=size_push' ..;have G:Inv X Z m H {s with heap:=(s.heap.push c).push (seqObj "list" #v[] 0)}:=J.kept (t':=s.toks) λb o e=>zr e _ _;have I:FpOk X Z H s.heap.objs.size:=J.fpOk (ig _) (J.hok.fresh (ig _));have L:FpOk X Z H (s.heap.push c).objs.size:=J.fpOk (by rw[sz];exact vp _) (J.hok.fresh (by rw[sz];exact vp _));refine EC F k n p (by rw[sz];exact pH (rn _)) r t 0 H none 0 0 _ rZ G #[c,iG _ (jp _ (by rw[<-d];rfl)),by rw[<-d],by rw[<-d];rfl] i T w (jp _ rZ) L I (λ_=>x) λj Y b u M N O=>?_;exact#[.ref b,j,M,rZ,q b u j N O]
def yH(K:O0)(P:g9->Prop)(g:g9->Int)(a:TE):TE:=λm H Q=>a m H λx b=>∃d,x=.ref d/\ph K P g [.ref d] b Q
def MV{b:Str}{e:Expr}{c:TE}{p v w a:Pos}(y:iD X.prog X.w X.K X.mg X.base b B C (mP P g))(z:Room (B+1) X.A)(A:X.calm=true)(E:Gl X "min")(G:X.mg "min"=none)(i:Gl X b)(J:PE X e c)(j:(b==("__debug__":Str))=false:=by decide) (k:starEach [e] X.env=[(false,eval e X.env)]:=by rfl):PE X (.Call (.Name "min" p) [e] [#[some "key",.Name b v,w]] a) (yH X.K P g c):=by
 intro Z s m H Q I h;obtain⟨f,D,F,l,O,L⟩:=y;refine qq (xO I E G PyProof.Rows.Boot.«min» ?_);refine callWith_kw ?_ (by rw[k];rfl) (by rw[k];rfl);have M:PA X [e] (oq c pr):=ir J im k;refine ie (M a Z s m H (λn t=>match n with| [x]=>∃d,x=.ref d/\ph X.K P g [.ref d] t Q|_=>False) I h) λT U ⟨n,t,o,r,q⟩=>?_
 match n,r,q with
 | [x],r,q=>
  obtain⟨d,rfl,q⟩:=q;obtain⟨u,rfl,N⟩:=m7 r;cases N;refine kws_cons (rG o i l (kws_nil ?_) j);exact Kp F z.in1 L (o.ok.hd A) o q
end
end L2
namespace My
open PySem L2 PyProof.Rows
abbrev sA:Str:="machine"
abbrev sB:Str:="sets_reached.<locals>.<lambda>"
abbrev sC:Str:="rooms"
abbrev sD:Str:="_law_script"
abbrev sF:Str:="_law_machine_here"
abbrev sG:Str:="most"
abbrev sH:Str:="_law_found"
abbrev sJ:Str:="words"
abbrev sK:Str:="_law_turn_here"
abbrev sL:Str:="_law_most"
abbrev sM:Str:="sets_reached"
abbrev sN:Str:="_law_due_here"
abbrev sO:Str:="turn"
abbrev sP:Str:="_law_whole"
abbrev sQ:Str:="other"
abbrev sS:Str:="levels_in_order"
abbrev sT:Str:="sets"
abbrev sU:Str:="_law_some"
abbrev sV:Str:="own_turns"
abbrev sW:Str:="sets_of_levels"
abbrev sX:Str:="_law_cell_at"
abbrev sY:Str:="all_turns"
abbrev sZ:Str:="words_between"
abbrev tE:Str:="is_own_double"
abbrev tG:Str:="waiting"
abbrev tH:Str:="_law_behind"
abbrev tI:Str:="_law_machine"
abbrev tJ:Str:="_law_refused"
abbrev tK:Str:="_law_cell"
abbrev tL:Str:="_law_other"
abbrev tM:Str:="_law_level"
abbrev tN:Str:="reached"
abbrev tO:Str:="refuse_more"
abbrev tQ:Str:="word"
abbrev tR:Str:="keepers"
abbrev tS:Str:="_law_k"
abbrev tT:Str:="_law_rooms"
abbrev tV:Str:="behind"
abbrev tW:Str:="is_covered"
abbrev tX:Str:="alike_sets"
abbrev tY:Str:="room_count"
abbrev tZ:Str:="still_like"
abbrev uA:Str:="carried"
abbrev uB:Str:="_law_face"
abbrev uC:Str:="_law_kept"
abbrev uD:Str:="_law_turn"
abbrev uE:Str:="is_led_to"
abbrev uF:Str:="_law_told"
abbrev uG:Str:="all_turns.<locals>.<lambda>"
abbrev uH:Str:="one"
abbrev uI:Str:="lies_in"
abbrev uJ:Str:="letter"
abbrev uK:Str:="place_of"
abbrev uL:Str:="in_order"
abbrev uM:Str:="pictures"
abbrev uN:Str:="_law_all"
abbrev uO:Str:="_law_due"
abbrev uP:Str:="family"
abbrev uQ:Str:="_law_one"
abbrev uR:Str:="levels"
abbrev uS:Str:="level"
abbrev uT:Str:="still"
abbrev uU:Str:="_law_known"
abbrev uV:Str:="tiles"
abbrev uW:Str:="keeps"
abbrev uX:Str:="room"
abbrev uY:Str:="TooMany.__init__"
def top(i:Nat):Stmt:=PySem.Challenge.pw_cascade_k63_own_turns_told.main.body.getD i (.Pass #[0,0,0,0])
abbrev wS:Stmt:=top 4
abbrev sg:Stmt:=top 5
abbrev x6:Stmt:=top 7
abbrev wj:Stmt:=top 8
abbrev qg:Stmt:=top 10
abbrev wF:Stmt:=top 12
abbrev xp:Stmt:=top 14
abbrev w9:Stmt:=top 16
abbrev xv:Stmt:=top 17
abbrev vM:Stmt:=top 18
abbrev vT:Stmt:=top 19
abbrev rE:Stmt:=top 20
abbrev w6:Stmt:=top 22
abbrev xm:Stmt:=top 23
abbrev vS:Stmt:=top 24
abbrev pK:Stmt:=top 25
abbrev xl:Stmt:=top 27
abbrev ta:Stmt:=top 28
abbrev vA:Stmt:=top 29
abbrev ve:Stmt:=top 30
abbrev wW:Stmt:=top 32
abbrev vG:Stmt:=top 33
abbrev xg:Stmt:=top 34
abbrev vo:Stmt:=top 35
abbrev uf:Stmt:=top 36
abbrev vz:Stmt:=top 37
abbrev xD:Stmt:=top 39
abbrev vK:Stmt:=top 40
abbrev vW:Stmt:=top 41
abbrev vQ:Stmt:=top 42
abbrev xH:Stmt:=top 43
abbrev wk:Stmt:=top 44
abbrev xR:Stmt:=top 45
abbrev uy:Stmt:=top 46
abbrev vR:Stmt:=top 47
abbrev pX:Stmt:=top 48
def KA:Stmt->List Stmt
 | .ClassDef _ _ _ b _ _ _ _ _ _ _=>b
 |_=>[]
abbrev xc:Stmt:=(KA (top 2)).getD 0 (.Pass #[0,0,0,0])
def KR:FnScope ["things",sG] ["things",sG] (hZ wS):={}
def jE:FnScope ["start","letters","step",sG,sJ,"wave","following","thing",uJ,"found"] ["start","letters","step",sG] (hZ sg):={}
def No:FnScope [sC] [sC] (hZ x6):={}
def M4:FnScope [uH,sQ] [uH,sQ] (hZ wj):={}
def qC:FnScope [sA,sG,"start",sJ] [sA,sG] (hZ qg):={}
def N3:FnScope [sO] [sO] (hZ wF):={}
def qX:FnScope [sA,uX,tQ,uJ] [sA,uX,tQ] (hZ xp):={}
def MA:FnScope [sC] [sC] (hZ w9):={}
def qJ:FnScope [sT,"once",sC] [sT] (hZ xv):={}
def Jg:FnScope [uH,sQ] [uH,sQ] (hZ vM):={}
def KW:FnScope [sA,sC,tQ] [sA,sC,tQ] (hZ vT):={}
def LM:FnScope [sA,sC] [sA,sC] (hZ rE):={}
def K6:FnScope [sO,sC] [sO,sC] (hZ w6):={}
def MM:FnScope [sO] [sO] (hZ xm):={}
def N4:FnScope [tR] [tR] (hZ vS):={}
def kL:FnScope [sA,uS,sG,"turns",tR,"e"] [sA,uS,sG] (hZ pK):={}
def qN:FnScope [sA,sJ] [sA] (hZ xl):={}
def qV:FnScope [sA,"singles"] [sA] (hZ ta):={}
def M6:FnScope ["part",sT] ["part",sT] (hZ vA):={}
def qW:FnScope [sA,sC,"within"] [sA,sC] (hZ ve):={}
def jZ:FnScope [sA,sJ,sC] [sA] (hZ wW):={}
def LP:FnScope [sJ,sC] [sJ,sC] (hZ vG):={}
def jQ:FnScope [sJ,"found",sC,sT] [sJ] (hZ xg):={}
def Lk:FnScope [sJ,sT,tG] [sJ,sT,tG] (hZ vo):={}
def jO:FnScope [sJ,tG,"told","free"] [sJ,tG] (hZ uf):={}
def kG:FnScope [sA,sJ,"told",sT,"face","ways"] [sA] (hZ vz):={}
def KE:FnScope [sD,tS] [sD,tS] (hZ xD):={}
def jP:FnScope [tK,tT,"_law_number",sK,tS,tL] [tK,tT] (hZ vK):={}
def kM:FnScope [sD,tT,"_law_many"] [sD] (hZ vW):={}
def IK:FnScope [uQ,tL] [uQ,tL] (hZ vQ):={}
def jR:FnScope [sF,sL,sH,uU,"_law_at",sK,"_law_word","_law_letter","_law_there"] [sF,sL] (hZ xH):={}
def GO:FnScope [sH] [sH] (hZ wk):={}
def jX:FnScope [sF,tM,sL,"_law_right","e"] [sF,tM,sL] (hZ xR):={}
def kA:FnScope [sU,uB,uC,"_law_amid",sK,uU] [sU,uB] (hZ uy):={}
def Kx:FnScope [sH,sN] [sH,sN] (hZ vR):={}
def qB:FnScope [sD,sF,sU,tK,sL,tM,uC,sN,sH] [sD] (hZ pX):={}
def NB:FnScope ["self",sG] ["self",sG] (hZ xc):={}
inductive lT(K:O0)(c:List V)(H:Hp)(Q:VK)(b:XK):Prop|mk:∀(a:Ad) (d:Zs) (k:Int),c=[.ref a,.int k]->0<=k->SqL K H a (d.map V.int)->Q (.int (d.getD k.toNat 0)) H->lT K c H Q b
variable{P:Pg}{w:World}{K:O0}{mg:SV}{base:Heap}{f:Ad}{fd:Fd}
def IT(F:Fun K sX sX xD f fd)(j:mg "len"=none):FnOk P w K mg base iF 1 f fd [sD,tS] (lT K):=by
 refine F.ok KE (λl A d s H n Q E o h=>?_)
 obtain⟨a,b,k,rfl,p,i,q⟩:=h;refine#[_,(iz (mM (mG Bt (pv 1) (j8 ou rZ j mY (ir (pv 0) im)) (lm _)) (iC (jh (kg pk (pv 0) (pv 1) (λ_ _=>rfl)))) nN) (iC (jh iT))),?_];refine#[_,rZ,_,rZ,a,_,rZ,.inl i,_,_,rZ,rZ,_,rZ,?_];have e:k=((k.toNat:Nat):Int):=by lia
 refine p0 (λc=>?_) (λc=>?_)
 .have g:k<((b.map V.int).length:Nat):=mT c;rw[hJ]at g;have m:k.toNat<b.length:=by lia
  refine#[_,rZ,_,rZ,a,_,_,.int (b.getD k.toNat 0),rZ,rZ,i,?_,q];rw[e];exact Oa m
 .have g: ¬k<((b.map V.int).length:Nat):=λz=>c (i0 z);rw[hJ]at g;have:b.getD k.toNat 0=0:=by
   rw[j6,pJ ()];rfl
  rw[this]at q;exact q
inductive kz(b:List V)(H:Hp)(Q:VK)(a:XK):Prop|mk:∀i:Int,b=[.int i]->Q (.bl true) H->kz b H Q a
def Ki(F:Fun K sP sP wk f fd)(b:mg "isinstance"=none)(c:mg "int"=none)(d:mg "bool"=none):FnOk P w K mg base iF 1 f fd [sH] kz:=by
 refine F.ok GO (λe A a s H g Q E j h=>?_)
 obtain⟨i,rfl,q⟩:=h;refine#[_,(iC (jh (zz (j8 yL rZ b zq (iP (hX (pv 0) (hX (zx rZ c boot_int) iQ rZ) rZ))) (yw (Gj (j8 yL rZ b zq (iP (hX (pv 0) (hX (zx rZ d boot_bool) iQ rZ) rZ)))))))),?_];refine#[_,rZ,_,_,_,_,rZ,.int i,Ir,_,rZ,lF ?_];exact#[_,rZ,_,_,_,_,rZ,.int i,Fc,_,rZ,q]
structure Mach(H:Hp)(m:Ad)(ts:LN)(n:Nat):Prop where
 refs:∃rs:As,H m=some (.tup (rs.map V.ref))/\rs.length=ts.length/\∀(i:Nat) r t,rs[i]?=some r->ts[i]?=some t->H r=some (.tup (t.map nv))
 some1:1<=ts.length
 few:ts.length<=4
 n1:1<=n
 n5:n<=5
 each:∀t∈ts,t.length=n/\∀x∈t,x<n
def Mach.same{H a:Hp}{m:Ad}{b:LN}{n:Nat}(M:Mach H m b n)(g:Same H a):Mach a m b n:=
 #[let⟨c,d,e,f⟩:=M.refs;#[c,g _ _ d,e,λi r t h j=>g _ _ (f i r t h j)],M.some1,M.few,M.n1,M.n5,M.each]
def Mach.at{H:Hp}{m:Ad}{ts:LN}{n:Nat}(M:Mach H m ts n){l:Nat}(b:l<ts.length):
  ∃(a:As) (r:Ad),H m=some (.tup (a.map V.ref))/\a.length=ts.length/\oC (a.map V.ref) (l:Int)=some (.ref r)/\H r=some (.tup ((ts.getD l []).map nv))/\(ts.getD l []).length=n/\∀x∈ts.getD l [],x<n:=by
 obtain⟨a,d,f,g⟩:=M.refs;have c:l<a.length:=by lia
 have e:ts.getD l []=ts[l]:=by rw[j6,hV b];rfl
 rw[e];obtain⟨h,i⟩:=M.each ts[l] (qb b);exact#[a,a[l],d,f,r6 (by rw[iB,hV c];rfl),g l _ _ (by simp[c]) (by simp[b]),h,i]
def rO(a:LN)(r:Nat)(word:g9):Nat:=word.foldl (λr l=>(a.getD l []).getD r 0) r
def Jt(a:LN)(r:Nat)(word:g9)(l:Nat):rO a r (word++[l])=(a.getD l []).getD (rO a r word) 0:=by
 unfold rO;rw[qk];rfl
theorem zh{H:Hp}{m:Ad}{a:LN}{n:Nat}(M:Mach H m a n):∀(word:g9) (r:Nat),r<n->(∀l∈word,l<a.length)->rO a r word<n
 | [],_,b,_=>b
 |l::word,r,b,h=>by
  obtain⟨_,_,_,_,_,_,e,c⟩:=M.at (h l (i7 ..));exact zh M word _ (wK c ()) λx d=>h x (jr _ d)
def yD(c:Int)(n:Nat)(st:Int×g9)(k:Nat):Int×g9:=
 if c%5=0 then(st.1/ (n:Int),st.2.set k (st.1%(n:Int)).toNat)else if c%5<3 then(st.1/ ((k:Int)+1),(st.2.set k (st.2.getD (st.1%((k:Int)+1)).toNat 0)).set (st.1%((k:Int)+1)).toNat (st.2.getD k 0))else st
def qp(c:Int)(n i:Nat):Int×g9:=(List.range i).foldl (yD c n) (c/5,List.range n)
def Bk(c:Int)(n:Nat)(st:Int×g9):g9:=if c%5=3 then st.2.set (st.1%(n:Int)).toNat (st.1/ (n:Int)%(n:Int)).toNat else st.2
def qx(c:Int)(n:Nat):g9:=if c%5=4 then(List.range n).map λ(i:Nat)=>(((qp c n n).1%(n:Int)+(0+(i:Int)) * ((qp c n n).1/ (n:Int)%2))%(n:Int)).toNat else Bk c n (qp c n n)
def Cf(c:Int)(n i:Nat):qp c n (i+1)=yD c n (qp c n i) i:=by
 unfold qp;rw[wm,qk];rfl
inductive oP(d:List V)(H:Hp)(Q:VK)(a:XK):Prop|mk:∀(c:Int) (n:Nat),d=[.int c,nv n]->1<=n->n<=5->(∀r b,Same H b->b r=some (.tup ((qx c n).map nv))->(qx c n).length=n->(∀y∈qx c n,y<n)->Q (.ref r) b)->oP d H Q a
def BJ(a:Zs):LN:=(List.range (1+a.getD 1 0%4).toNat).map λi=>qx (a.getD (2+i) 0) (1+a.getD 0 0%5).toNat
inductive ly(K:O0)(e:List V)(H:Hp)(Q:VK)(b:XK):Prop|mk:∀(a:Ad) (c:Zs),e=[.ref a]->SqL K H a (c.map V.int)->(∀m d,Same H d->Mach d m (BJ c) (1+c.getD 0 0%5).toNat->Q (.ref m) d)->ly K e H Q b
def Ao(H:Hp)(c:Int)(n:Nat)(st:Int×g9)(d:L2.St)(b:Hp):Prop:=Same H b/\∃(l:Ad) (a:g9) (num:Int) (e f:Option V),d=[some (.int c),some (nv n),some (.int num),some (.ref l),e,f]/\
 b l=some (.lst (a.map nv))/\H l=none/\a.length=n/\(∀y∈a,y<n)/\(num,a)=st
def OO(F:Fun K uD uD vK f fd)(jB:mg "range"=none)(jC:mg "tuple"=none)(jL:mg "list"=none):FnOk P w K mg base iF 1 f fd [tK,tT] oP:=by
 refine F.ok jP (λam A aa s H vs Q E hr h=>?_)
 obtain⟨c,n,rfl,C,h5,q⟩:=h;refine#[_,(iz (i3 (i:=2) jP.nd rZ Z0 (jx vk (pv 0) iT)) (iz (i3 (i:=3) jP.nd rZ Z' (lZ (K8 rZ) rZ jL vX (ir (lZ DP rZ jB boot_range (ir (pv 1) im)) im))) (iz (pq pL rZ (ub rZ jB (ir (pv 1) im)) (mK (i:=4) jP.nd rZ Z') (iC (mM (mG zI (jx n7 (pv 0) iT) iT (lm _)) (iz (AC (jx n7 (pv 2) (pv 1)) (BK (pv 3) (pv 4) BS)) (iC (i3 (i:=2) jP.nd rZ Z0 (jx vk (pv 2) (pv 1))))) (iC (mM (mG Bt (jx n7 (pv 0) iT) iT (lm _)) (iz (i3 (i:=5) jP.nd rZ Z' (jx n7 (pv 2) (jx rR (pv 4) iT))) (iz (i3 (i:=2) jP.nd rZ Z0 (jx vk (pv 2) (jx rR (pv 4) iT))) (iC (AC (uj (iP (hX (kg pk (pv 3) (pv 5) (λ_ _=>rfl)) (hX (kg pk (pv 3) (pv 4) (λ_ _=>rfl)) iQ rZ) rZ))) (DO rZ (xQ (BK (pv 3) (pv 4) BS) (xQ (BK (pv 3) (pv 5) BS) DF))))))) nN))))) (iz (BU (mM (mG zI (jx n7 (pv 0) iT) iT (lm _)) (iC (AC (jx n7 (jx vk (pv 2) (pv 1)) (pv 1)) (BK (pv 3) (jx n7 (pv 2) (pv 1)) BS))) nN)) (iz (BU (mM (mG zI (jx n7 (pv 0) iT) iT (lm _)) (iC (BE (CompSc.to (N:=[tK,tT,"_law_number",sK,tS,tL]) (osc:=hZ vK) (vs:=[tS]) {}) rZ rZ jP.nd (j:=3) rZ rZ (ub rZ jB (ir (pv 1) im)) (λ_ _ _ _=>om) (λ_ _ _ _=>(jx n7 (jx rR (jx n7 (pv 3) (pv 2)) (jx L7 (pv 0) (jx n7 (jx vk (pv 3) (pv 2)) iT))) (pv 2))))) nN)) (iC (jh (lZ xo rZ jC ut (ir (pv 3) im))))))))),?_];have D:(0:Int)<(n:Int):=by lia
 refine#[_,rZ,_,_,rZ,rZ,#[by decide,by decide],?_];refine#[_,rZ,(n:Int),rZ,λp1 G=>#[p1,(n:Int),rZ,hO,(),(),λl d=>?_]];have g1:=(iq G (.rng 0 (n:Int))).trans (iq d (.lst (oj (n:Int).toNat)));have s1:Ao H c n (qp c n 0) [some (.int c),some (nv n),some (.int (c/5)),some (.ref l),none,none] (hA (hA H p1 (.rng 0 (n:Int))) l (.lst (oj (n:Int).toNat))):=
  #[g1,l,List.range n,c/5,none,none,rZ,by rw[hO];rfl,(iq G _).free d,by simp,λy m=>List.mem_range.mp m,rZ]
 refine#[_,rZ,(n:Int),rZ,(),(),DR (λi σ H'=>Ao H c n (qp c n i) σ H') s1 (λi σ H' hi p=>?_) (λσ H' p=>?_)]
 .obtain⟨g,l,u,num,I,J,rfl,v,d,b,m,st⟩:=p;have an:i<n:=by lia
  have e0:(0+(i:Int))=((i:Nat):Int):=by lia
  obtain⟨m1,Y⟩:=zk num C;have ab:decide (V.int (c%5)=V.int 0)=true->c%5=0:=λz=>by injection mT z
  have L: ¬decide (V.int (c%5)=V.int 0)=true-> ¬c%5=0:=λz e=>z (i0 (by rw[e]));refine#[_,rZ,_,_,rZ,rZ,(by decide:(0:Int)<5),rZ,_,rZ,p0 (λc1=>?_) (λc1=>?_)]
  .refine#[_,rZ,_,rZ,_,_,rZ,rZ,D,?_]
   try dsimp only
   rw[m1];obtain⟨k,o⟩:∃k,(num%(n:Int)).toNat=k:=#[_,rZ];rw[o]at Y|-;refine#[_,rZ,_,rZ,l,_,_,i,rZ,rZ,v,(by rw[e0,hJ];exact Bd ()),?_];try dsimp only
   rw[AB];refine#[_,rZ,_,rZ,_,_,rZ,rZ,#[(),()],?_];refine#[oU g d,l,_,_,_,_,rZ,hO,d,by rw[vw,b],AZ m Y,?_];rw[Cf,<-st];unfold yD;rw[wB (ab c1),o]
  refine#[_,rZ,_,_,rZ,rZ,(by decide:(0:Int)<5),_,_,rZ,rZ,_,rZ,p0 (λc2=>?_) (λc2=>#[g,l,u,num,_,_,rZ,v,d,b,m,by rw[Cf,<-st];unfold yD;rw[wA (L c1),wA λz=>c2 (decide_eq_true z)]])];have ip:(0:Int)<0+(i:Int)+1:=by lia
  refine#[_,rZ,_,rZ,_,_,rZ,rZ,_,_,rZ,rZ,ip,?_];obtain⟨k,ek,hk⟩:∃k:Nat,num%(0+(i:Int)+1)=(k:Int)/\k<=i:=#[(num%(0+(i:Int)+1)).toNat,by have:=yA num (Int.ne_of_gt ip);lia,by have:=Bu num ip;lia]
  try dsimp only
  rw[ek];refine#[_,rZ,_,rZ,_,_,rZ,rZ,_,_,rZ,rZ,#[(),()],?_];refine#[_,rZ,_,rZ,l,_,_,_,rZ,rZ,M2 v,xL (),_,rZ,_,rZ,l,_,_,_,rZ,rZ,M2 v,(by rw[e0];exact xL ()),by show 2<=sizeLine;decide,λt nt=>?_];have kt:=iq nt (.tup [nv (u.getD k 0),nv (u.getD i 0)]);refine#[t,_,rZ,O' hO,rZ,_,_,rZ,_,rZ,_,rZ,l,_,_,i,rZ,rZ,kt _ _ v,(by rw[e0,hJ];exact Bd ()),?_]
  try dsimp only
  rw[AB];refine#[_,_,rZ,_,rZ,_,rZ,l,_,_,k,rZ,rZ,hO,(by rw[hJ,vw];exact Bd ()),?_]
  try dsimp only
  rw[AB,CF];refine#[rZ,oU (g.trans kt) d,l,_,_,_,_,rZ,hO,d,by rw[vw,vw,b],AZ (AZ m (wK m ())) (wK m ()),?_];rw[Cf,<-st];unfold yD;have ae:num%((i:Int)+1)=(k:Int):=by rw[<-ek,yF]
  rw[wA (L c1),wB (mT c2),ae,rc,yF]
 .obtain⟨g,l,u,num,I,J,rfl,v,d,b,m,st⟩:=p;have st:(num,u)=qp c n n:=st;have s1:(qp c n n).1=num:=by rw[<-st]
  have s2:(qp c n n).2=u:=by rw[<-st]
  refine#[Ao H c n (num,Bk c n (num,u)),?_,λao H4 p4=>?_]
  .refine#[_,rZ,_,_,rZ,rZ,(by decide:(0:Int)<5),rZ,_,rZ,p0 (λc5=>?_) (λc5=>#[g,l,u,num,I,J,rZ,v,d,b,m,by unfold Bk;rw[wA λe=>c5 (decide_eq_true (congrArg V.int e))]])];obtain⟨m1,Y⟩:=zk num C;obtain⟨m3,m4⟩:=zk (num/ (n:Int)) C;refine#[_,rZ,_,rZ,_,_,rZ,rZ,#[(),()],_,rZ,_,_,rZ,rZ,D,?_];try dsimp only
   rw[m3];refine#[_,rZ,_,rZ,_,rZ,_,_,rZ,rZ,D,?_];try dsimp only
   rw[m1];have af:c%5=3:=by injection mT c5
   obtain⟨k,o⟩:∃k,(num%(n:Int)).toNat=k:=#[_,rZ];rw[o]at Y|-;refine#[l,_,_,k,rZ,rZ,v,(by rw[hJ];exact Bd ()),?_];try dsimp only
   rw[AB];refine#[oU g d,l,_,_,_,_,rZ,hO,d,by rw[vw,b],AZ m m4,?_];unfold Bk;rw[wB af,o]
  .obtain⟨M,l4,O,a,I,J,rfl,x,T,r,B,ag⟩:=p4;injection ag with ah ai
   subst ah;refine#[Ao H c n (a,qx c n),?_,λap H5 p5=>?_]
   .refine#[_,rZ,_,_,rZ,rZ,(by decide:(0:Int)<5),rZ,_,rZ,p0 (λc6=>?_) (λc6=>#[M,l4,O,a,I,J,rZ,x,T,r,B,by unfold qx;rw[wA λe=>c6 (decide_eq_true (congrArg V.int e)),<-st,ai]])];have e1:(n:Int).toNat=n:=rc n;have aj:c%5=4:=by injection mT c6
    refine#[_,rZ,(n:Int),rZ,(),(),NW (f:=λ(i:Nat)=>nv ((a%(n:Int)+(0+(i:Int)) * (a/ (n:Int)%2))%(n:Int)).toNat) (small ()) (λi Q hi q=>?_) (λl5 U=>?_)]
    .refine#[_,rZ,_,rZ,_,_,rZ,rZ,D,_,rZ,_,rZ,_,rZ,_,_,rZ,rZ,#[(),()],_,_,rZ,rZ,(by decide:(0:Int)<2),_,_,rZ,rZ,.inl #[(),()],_,_,rZ,rZ,_,rZ,_,_,rZ,rZ,D,?_]
     try dsimp only
     rw[(zk _ C).1];exact q
    .refine#[M.trans (iq U _),l5,(List.range n).map λ(i:Nat)=>((a%(n:Int)+(0+(i:Int)) * (a/ (n:Int)%2))%(n:Int)).toNat,a,_,_,rZ,?_,M.free U,by simp,λy m=>?_,?_]
     .rw[hO,e1,mJ];rfl
     .obtain⟨i,_,rfl⟩:=iK.mp m;exact(zk _ C).2
     .unfold qx;rw[wB aj,s1]
   .obtain⟨M,l4,O,num,I,J,rfl,x,T,r,B,ak⟩:=p5;injection ak with _ al
    subst al;exact#[_,rZ,l4,_,rZ,.inl #[M2 x,λt ht=>q t _ (M.trans (iq ht _)) hO r B]]
def Me(F:Fun K tI tI vW f fd)(T:iD P w K mg base sX 1 [sD,tS] (lT K))(kT:iD P w K mg base uD 1 [tK,tT] oP)(jB:mg "range"=none) (jC:mg "tuple"=none):FnOk P w K mg base iF 3 f fd [sD] (ly K):=by
 refine F.ok kM (λaf A U s H vs Q E L h=>?_)
 obtain⟨a,b,rfl,Y,q⟩:=h;refine#[_,(iz (i3 (i:=1) kM.nd rZ Z0 (jx rR iT (jx n7 (jc T L.m rZ (iP (hX (pv 0) (hX iT iQ rZ) rZ))) iT))) (iz (i3 (i:=2) kM.nd rZ Z' (jx rR iT (jx n7 (jc T L.m rZ (iP (hX (pv 0) (hX iT iQ rZ) rZ))) iT))) (iC (jh (lZ xo rZ jC ut (ir (nM (CompSc.to (N:=[sD,tT,"_law_many"]) (osc:=hZ vW) (vs:=[tS]) {}) rZ rZ (ub rZ jB (ir (pv 2) im)) (λ_ _ _ _=>om) (λ_ _ _ _=>(jc kT L.m rZ (iP (hX (jc T L.m rZ (iP (hX (pv 1) (hX (jx rR iT (pv 0)) iQ rZ) rZ))) (hX (pv 2) iQ rZ) rZ))))) im)))))),?_];refine#[_,rZ,a,b,0,rZ,Int.le_refl 0,Y,#[_,_,rZ,rZ,(by decide:(0:Int)<5),_,_,rZ,rZ,?_]];obtain⟨n,en,n1,n5,C⟩:∃n:Nat,(1+b.getD (0:Int).toNat 0%5:Int)=(n:Int)/\1<=n/\n<=5/\(1+b.getD 0 0%5:Int).toNat=n:=#[(1+b.getD 0 0%5).toNat,by show(1+b.getD 0 0%5:Int)=_;lia,(),(),rZ]
 try dsimp only
 rw[en];refine#[_,rZ,a,b,1,rZ,by decide,Y,#[_,_,rZ,rZ,(by decide:(0:Int)<4),_,_,rZ,rZ,?_]];obtain⟨k,ek,k1,k4,aa⟩:∃n:Nat,(1+b.getD (1:Int).toNat 0%4:Int)=(n:Int)/\1<=n/\n<=4/\(1+b.getD 1 0%4:Int).toNat=n:=#[(1+b.getD 1 0%4).toNat,by show(1+b.getD 1 0%4:Int)=_;lia,(),(),rZ]
 try dsimp only
 rw[ek];have em:BJ b=(List.range k).map λi=>qx (b.getD (2+i) 0) n:=by unfold BJ;rw[aa,C]
 rw[C]at q;refine#[_,rZ,(k:Int),rZ,(),(),Af (λi M D=>Same H D/\∃(c:As) (u:LN),u=((List.range i).map λi=>qx (b.getD (2+i) 0) n)/\M=c.map V.ref/\c.length=i/\u.length=i/\(∀(j:Nat) r t,c[j]?=some r->u[j]?=some t->D r=some (.tup (t.map nv)))/\∀t∈u,t.length=n/\∀x∈t,x<n)
  (small ()) #[Same.refl _,[],[],rZ,rZ,rZ,rZ,(λj r t e=>wC e (by simp)),(λt ht=>wC ht (by simp))] (λi M D _ p=>?_) (λi M D hi p=>?_) (λM D p l hl=>?_)]
 .obtain⟨_,c,u,_,rfl,e,_⟩:=p;rw[hJ];lia
 .obtain⟨g,c,u,d,rfl,o,v,y,ht⟩:=p;refine#[nq,qj ?_];refine#[_,rZ,_,rZ,_,_,rZ,rZ,a,b,_,rZ,(),g.seq Y,#[_,rZ,_,n,rZ,n1,n5,λr H2 G I B hy=>?_]];have ei:(2+(0+(i:Int)):Int).toNat=2+i:=by lia
  rw[ei]at I B hy;generalize ey:qx (b.getD (2+i) 0) n=ys at I B hy;refine#[g.trans G,c++[r],u++[ys],by rw[d,wm,kS];show _++[ys]=_++[qx (b.getD (2+i) 0) n];rw[ey],by simp,by simp[o],by simp[v],λj r' t' J O=>?_,λt ab=>?_]
  .by_cases hj:j<i
   .rw[j5 ()]at J O;exact G _ _ (y j r' t' J O)
   .have ae:j=i:=by
     have:=(ik.mp J).1;rw[jk,o]at this;have:j<i+1:=this
     lia
    subst ae;rw[ku (),o,t5]at J;rw[ku (),v,t5]at O;cases J;cases O;exact I
  .rcases iN.mp ab with z|z
   .exact ht t z
   .have e:t=ys:=by simpa using z
    rw[e];exact#[B,hy]
 .obtain⟨g,c,u,d,rfl,o,v,y,ht⟩:=p;have g1:=iq hl (.lst (c.map V.ref));refine#[l,_,rZ,.inl #[M2 hO,λm hm=>?_]];have G:=g1.trans (iq hm (.tup (c.map V.ref)));have hk:(k:Int).toNat=k:=rc k;rw[hk,<-em]at d;rw[<-d]at q;exact q m _ (g.trans G) #[#[c,hO,(),λi r t e1 I=>G _ _ (y i r t e1 I)],(),(),n1,n5,ht]
inductive q0(K:O0)(d:List V)(H:Hp)(Q:VK)(a:XK):Prop|mk:∀(m b:Ad) (c:LN) (n r:Nat) (word:g9),d=[.ref m,nv r,.ref b]->Mach H m c n->r<n->SqL K H b (word.map nv)->(∀l∈word,l<c.length)->Q (nv (rO c r word)) H->q0 K d H Q a
def JO(F:Fun K "led" "led" xp f fd):FnOk P w K mg base iF 1 f fd [sA,uX,tQ] (q0 K):=by
 refine F.ok qX (λu A g s H D Q E G h=>?_)
 obtain⟨m,b,k,n,r,word,rfl,M,j,t,hw,q⟩:=h;refine#[_,(iz (pq pL rZ (lM (pv 2)) (mK (i:=3) qX.nd rZ Z') (iC (i3 (i:=1) qX.nd rZ Z' (kg nS (kg nS (pv 0) (pv 3) (λ_ _=>rfl)) (pv 1) (λ_ _=>rfl))))) (iC (jh (pv 1)))),?_];refine#[_,rZ,b,rZ,#[_,t],vi (xs:=word.map nv) (λi c d=>d=H/\∃o,c=[some (.ref m),some (nv (rO k r (word.take i))),some (.ref b),o]) #[rZ,none,rZ] (λi c d _ p=>by obtain⟨rfl,_⟩:=p;exact t) (λi x c d a p=>?_) (λc d p=>?_)]
 .obtain⟨rfl,o,rfl⟩:=p;rw[iB]at a;cases e:word[i]? with
  |none=>rw[e]at a;cases a
  | some l=>
   rw[e]at a;cases a;obtain⟨I,v,y,J,z,B,C,L⟩:=M.at (hw l (iV e));refine#[_,rZ,_,rZ,m,_,_,_,rZ,rZ,O' y,z,_,rZ,v,_,_,_,rZ,rZ,O' B,xL ?_,rZ,some (nv l),?_]
   .rw[C];exact zh M _ _ j λx a=>hw x (uv a)
   .rw[ow,e];show _=[some (.ref m),some (nv (rO k r (word.take i++[l]))),some (.ref b),some (nv l)];rw[Jt];rfl
 .obtain⟨rfl,o,rfl⟩:=p;refine#[_,rZ,?_];rw[hJ,mH];exact q
def yi(b:LN)(a word:g9):g9:=a.map λr=>rO b r word
def Nm{n:Nat}{a:g9}(d:n<=5)(h:∀x∈a,x<n):mO a=(List.range n).filter λi=>a.contains i:=by
 unfold mO;have e:List.range 5=List.range n++(List.range (5-n)).map (n+ ·):=by rw[<-List.range_add];congr 1;lia
 rw[e,vI];have b:((List.range (5-n)).map (n+ ·)).filter (λi=>a.contains i)=[]:=by
  rw[List.filter_eq_nil_iff];intro y c z;obtain⟨k,_,rfl⟩:=iK.mp c;have:=h _ (we.mp z);lia
 rw[b,mq]
def Fe{a:g9}{x:Nat}(h:x∈mO a):x∈a:=we.mp (kC.mp h).2
def C0(a:g9):(mO a).length<=5:=i5 (og _ _) (by simp)
def yQ(i:Nat)(a:g9):An (nv i) (a.map nv)=a.contains i:=by
 unfold An;rw[Aq]
 induction a with
 |nil=>rfl
 | cons x a b=>
  rw[x8,zo,b]
  congr 1
  show ql (.int (x:Int)) (.int (i:Int))=(i==x);by_cases h:x=i
  .subst h;show((x:Int)==(x:Int))=(x==x);simp
  .have c: ¬(x:Int)=(i:Int):=by lia
   have d: ¬i=x:=by lia
   show((x:Int)==(i:Int))=(i==x);rw[u3.mpr c,u3.mpr d]
def LX(a:g9):(a.map nv).all nV=true:=by
 rw[List.all_map,BA];intro x _;rfl
inductive jm(K:O0)(e:List V)(H:Hp)(Q:VK)(c:XK):Prop|mk:∀(m p b:Ad) (d:LN) (n:Nat) (a word:g9),e=[.ref m,.ref p,.ref b]->Mach H m d n->SqT K H p (a.map nv)->a.length<=5->(∀r∈a,r<n)->SqL K H b (word.map nv)->(∀l∈word,l<d.length)->tF H ((mO (yi d a word)).map nv) Q->jm K e H Q c
def MH(F:Fun K uA uA vT f fd)(y:iD P w K mg base "led" 1 [sA,uX,tQ] (q0 K))(z:mg "tuple"=none)(B:mg "sorted"=none)(C:mg "set"=none):FnOk P w K mg base iF 3 f fd [sA,sC,tQ] (jm K):=by
 refine F.ok KW (λD A j s H vs Q E G h=>?_)
 obtain⟨m,p,b,d,n,c,word,rfl,M,u,I,g,J,hw,q⟩:=h;refine#[_,(iC (jh (lZ xo rZ z ut (ir (j8 (G4 rZ) rZ B zU (ir (lZ (F' rZ) rZ C wY (ir (nM (CompSc.to (N:=[sA,sC,tQ]) (osc:=hZ vT) (vs:=[uX]) {}) rZ rZ (za (pv 1)) (λ_ _ _ _=>om) (λ_ _ _ _=>(jc y G.m rZ (iP (hX (pv 1) (hX (pv 0) (hX (pv 3) iQ rZ) rZ) rZ))))) im)) im)) im)))),?_];have n5:=M.n5;refine#[_,rZ,p,rZ,#[_,u],yM (f:=λv=>match v with|.int i=>nv (rO d i.toNat word)|v=>v) (by rw[hJ];exact small ()) u (λv Q L q=>?_) (λl O=>?_)]
 .obtain⟨r,k,rfl⟩:=iK.mp L;exact#[_,rZ,_,rZ,_,rZ,m,b,d,n,r,word,rZ,M,g r k,J,hw,q]
 .have e:(c.map nv).map (λv=>match v with|.int i=>nv (rO d i.toNat word)|v=>v)=(yi d c word).map nv:=by
   unfold yi;rw[mJ,mJ];rfl
  try dsimp only
  rw[e];have T:=iq O (.lst ((yi d c word).map nv));refine#[l,_,rZ,M2 hO,λx U=>?_,λa Y=>#[a,_,rZ,hO,λo ho=>?_]]
  .obtain⟨r,k,rfl⟩:=iK.mp U;have:=zh M word r (g r k) hw;lia
  .try dsimp only
   rw[CG];exact#[o,_,rZ,.inl #[M2 hO,λt ht=>q t _ (T.trans ((iq Y _).trans ((iq ho _).trans (iq ht _)))) hO]]
inductive lC(C:Ad)(c:List V)(H:Hp)(Q:VK)(b:XK):Prop|mk:∀(e:Ad) (n:Nat),c=[.ref e,nv n]->n<=400->H e=some (.ext (nJ e C none))->(∀a,H a=none->a≠e->Q .non (hA (hA H a (.xd [(sG,nv n)])) e (.ext (nJ e C (some a)))))->lC C c H Q b
inductive mN(C:Ad)(c:List V)(H:Hp)(Q:VK)(E:XK):Prop|mk:∀(d:Ad) (a:List (List iH×V)) (n:Nat),c=[.ref d,nv n]->H d=some (.dT a)->n<=400->((a.length<=n->Q .non H))->((n<a.length->∀b,H b=none->E (.ref C) (some b) (hA H b (.xd [(sG,nv n)]))))->mN C c H Q E
inductive iU(P:Pg)(w:World)(K:O0)(mg:SV)(base:Heap)(C:Ad)(h:List V)(H:Hp)(Q:VK)(E:XK):Prop|mk:∀(a st:Ad) (fd:Fd) (i:Ss) (e:g9) (L:Nat) (U:LN) (g:g9->Nat->List Nat) (most:Nat),h=[.ref a,nv L,.ref st,nv most]->H a=some (.tup (e.map nv))->H st=some (mI st fd)->e∈U->((∀x∈U,∀l,l<L->g x l∈U))->U.length<=4000->L<=4000->most<=400->FnOk P w K mg base iF 5 st fd i (jg (Same H) U L g)->Binds K fd i []->((∀D c j d,Same H d->WordsAt d D c j->(∀b∈D::j,H b=none)->Told g L e c->c.length<=most->Q (.ref D) d))->((∀(c:TW) d f,Same H d->H f=none->d f=some (.xd [(sG,nv most)])->(c.map (·.1)).Nodup->(∀p∈c,(∀l∈p.2,l<L)/\ki g e p.2=p.1)->most<c.length->E (.ref C) (some f) d))->iU P w K mg base C h H Q E
def Bv(C:Ad):Sp:=λa H Q E=>(∃d,a=[.ref d,.non]/\Q .non H)\/mN C a H Q E
inductive jo(P:Pg)(w:World)(K:O0)(mg:SV)(base:Heap)(f:List V)(H:Hp)(Q:VK)(c:XK):Prop|mk:∀(a st:Ad) (fd:Fd) (h:Ss) (d:g9) (L:Nat) (U:LN) (g:g9->Nat->List Nat),f=[.ref a,nv L,.ref st,.non]->H a=some (.tup (d.map nv))->H st=some (mI st fd)->d∈U->((∀x∈U,∀l,l<L->g x l∈U))->U.length<=4000->L<=4000->FnOk P w K mg base iF 5 st fd h (jg (Same H) U L g)->Binds K fd h []->(∀D i j e,Same H e->WordsAt e D i j->(∀b∈D::j,H b=none)->Told g L d i->Q (.ref D) e)->jo P w K mg base f H Q c
def Dp(P:Pg)(w:World)(K:O0)(mg:SV)(base:Heap)(C:Ad):Sp:=λa H Q E=>jo P w K mg base a H Q E\/iU P w K mg base C a H Q E
def Ml{P:Pg}{w:World}{K:O0}{mg:SV}{base:Heap}{C:Ad}:∀s H Q E,jo P w K mg base s H Q E->Dp P w K mg base C s H Q E0:=λ_ _ _ _ ⟨a,b,c,d,e,f,g,h,i,j,k,l,m,n,o,p,q,r⟩=> .inl #[a,b,c,d,e,f,g,h,i,j,k,l,m,n,o,p,q,r]
def K5{P:Pg}{w:World}{K:O0}{mg:SV}{base:Heap}{C:Ad}:∀a H Q E,iU P w K mg base C a H Q E->Dp P w K mg base C a H Q E:=λ_ _ _ _ h=> .inr h
section
variable{P:Pg}{w:World}{K:O0}{mg:SV}{base:Heap}{f:Ad}{j:Fd}{C D:Ad}
def Ll(F:Fun K "__init__" uY xc f j)(a:MkE K C D f)(bI:BaseI K D)(g:SetE K C sG)(i:mg "HallError"=some (.ref D)):FnOk P w K mg base iF 1 f j ["self",sG] (lC C):=by
 refine F.ok NB (λl A b s H m Q E o h=>?_)
 obtain⟨e,n,rfl,p,c,q⟩:=h;refine#[_,(iz (pP (JX a bI rZ i (iP (hX (pv 0) (hX (Kd (MI (Ko (pv 1) N0))) iQ rZ) rZ)))) (iC (LJ rZ a g (pv 0) (pv 1)))),?_];have z:∀k:Fin 401,(Str.empty++Str.ofString "there are more than "++Str.ofString (toString ((k:Nat):Int))).length<=40:=by decide+kernel
 have z1:=z #[n,()];have z2:∀k:Fin 401,((k:Nat):Int).natAbs.log2<1920:=by decide+kernel
 have d:(40:Nat)<=sizeLine:=by decide
 exact#[_,rZ,by decide,_,rZ,(n:Int),rZ,z2 #[n,()],i5 z1 d,i5 z1 d,e,_,rZ,c,_,rZ,_,rZ,e,rZ,c,q]
def Mo(F:Fun K tO tO wS f j)(t:Ev P w K mg base "TooMany" 1 ["self",sG] (lC C) C)(u:mg "len"=none):FnOk P w K mg base (CX1 P w) 3 f j ["things",sG] (Bv C):=by
 refine F.okX KR (λm H Q E h=>?_) (λv A l s H m Q E o h=>?_)
 .rcases h with⟨d,rfl,_⟩|⟨d,a,n,rfl,_⟩
  .rfl
  .rfl
 have x:=pY o;have few:∃b c,m=[b,c]:=by
  rcases h with⟨d,rfl,_⟩|⟨d,a,n,rfl,_⟩
  .exact#[_,_,rZ]
  .exact#[_,_,rZ]
 obtain⟨b,c,rfl⟩:=few;refine#[_,(iC (mM (PW.pt (Bl (mG MS (pv 1) Cv (lm _)) (Bq (mG Et (j8 Jm rZ u mY (ir (pv 0) im)) (pv 1) (lm _))))) (iC (LW rZ rZ Iv t o.m rZ (ir (pv 1) im))) nN)),?_]
 rcases h with⟨d,e,q⟩|h
 .cases e;exact#[_,rZ,rZ,_,rZ,q]
 obtain⟨d,a,n,e,y,B,q,D⟩:=h;cases e;refine#[_,rZ,rZ,_,rZ,lF #[_,rZ,d,a,rZ,y,_,rZ,_,_,rZ,rZ,_,rZ,p0 (λc=>?_) (λc=>?_)]]
 .have c1:n<a.length:=by
   have:=mT c;lia
  refine#[_,rZ,by show 1<=sizeLine;decide,λe G=>#[e,n,rZ,B,hO,λk i p=>#[rZ,some k,hA H k (.xd [(sG,nv n)]),?_,?_,D c1 k ?_]]]
  .funext b
   unfold hA;by_cases g:b=e
   .rw[wB g,wB g]
   .rw[wA g,wA g];by_cases r:b=k
    .rw[wB r,wA g]
    .rw[wA r,wA g]
  .rw[hK (jq p)];exact G
  .rw[hK p]at i;exact i
 .exact q (by
   have: ¬(n:Int)<(a.length:Int):=λz=>c (i0 z);lia)
def Ju{r O:Vl}(F:DefAt K tN sg f j r O)(o:D9 P w K mg base tO 3 ["things",sG] (Bv C))(M:mg "range"=none):FnOk P w K mg base (CX1 P w) 8 f j ["start","letters","step",sG] (Dp P w K mg base C):=by
 refine F.fnOkX jE (λT H Q E h=>?_) (λA t s H T Q E h d=>?_)
 .rcases h with⟨a,st,j,u,v,L,U,g,rfl,_⟩|⟨a,st,j,u,v,L,U,g,most,rfl,_⟩
  .rfl
  .rfl
 have b:=pY d
 rcases h with h|h
 .obtain⟨a,st,Y,u,v,L,U,g,rfl,x,e,y,z,few,c,B,I,q⟩:=h;exact#[_,GC (G:=λ_=>True) (sR:=Bv C) (mo:= .non) (EE:=E) (λH1 D l p Q1 J W N run k=> .inl #[D,rZ,k True.intro]) d.m x e y z few c B I (λD l p H' g W nw TT _=>q D l p H' g W nw TT),(iz (i3 (i:=4) jE.nd rfl Z' (Ck b (pv 0) (nX im))) (iz (pP (BB o d.m wQ rfl (iP (hX (pv 4) (hX (pv 3) iQ rfl) rfl)))) (iz (i3 (i:=5) jE.nd rfl Z' (nX (ir (pv 0) im))) (iz (Bm xI (De (pv 5) (λ_=>rfl)) (iz (i3 (i:=6) jE.nd rfl Z' (nX im)) (iz (pq xI rfl (lM (pv 5)) (mK (i:=7) jE.nd rfl Z') (iC (pq xI rfl (ub rfl M (ir (pv 1) im)) (mK (i:=8) jE.nd rfl Z') (iz (i3 (i:=9) jE.nd rfl Z' (GV 2 (pv 2) (iP (hX (pv 7) (hX (pv 8) iQ rfl) rfl)))) (iC (mM (xV (EA b (pv 9) (pv 4))) (iz (xG b (pv 4) (pv 9) (jx BX (vx b (pv 4) (pv 7) (λ_ _=>rfl)) (nX (ir (pv 8) im))) rfl) (iz (pP (BB o d.m wQ rfl (iP (hX (pv 4) (hX (pv 3) iQ rfl) rfl)))) (iC (pP (vy ui xA xY xC (pv 6) (ir (pv 9) im)))))) nN)))))) (iC (i3 (i:=5) jE.nd rfl Z' (pv 6)))))) (iC (jh (pv 4)))))))]
 obtain⟨a,st,Y,u,v,L,U,g,most,rfl,x,e,y,z,few,c,m,B,I,q,qE⟩:=h;refine#[_,GC (G:=λl=>l.length<=most) (sR:=Bv C) (mo:=nv most) (EE:=E) (λH1 D l p Q1 J W N run k=> .inr ?_) d.m x e y z few c B I q,(iz (i3 (i:=4) jE.nd rZ Z' (Ck b (pv 0) (nX im))) (iz (pP (BB o d.m wQ rZ (iP (hX (pv 4) (hX (pv 3) iQ rZ) rZ)))) (iz (i3 (i:=5) jE.nd rZ Z' (nX (ir (pv 0) im))) (iz (Bm xI (De (pv 5) (λ_=>rfl)) (iz (i3 (i:=6) jE.nd rZ Z' (nX im)) (iz (pq xI rZ (lM (pv 5)) (mK (i:=7) jE.nd rZ Z') (iC (pq xI rZ (ub rZ M (ir (pv 1) im)) (mK (i:=8) jE.nd rZ Z') (iz (i3 (i:=9) jE.nd rZ Z' (GV 2 (pv 2) (iP (hX (pv 7) (hX (pv 8) iQ rZ) rZ)))) (iC (mM (xV (EA b (pv 9) (pv 4))) (iz (xG b (pv 4) (pv 9) (jx BX (vx b (pv 4) (pv 7) (λ_ _=>rfl)) (nX (ir (pv 8) im))) rZ) (iz (pP (BB o d.m wQ rZ (iP (hX (pv 4) (hX (pv 3) iQ rZ) rZ)))) (iC (pP (vy ui xA xY xC (pv 6) (ir (pv 9) im)))))) nN)))))) (iC (i3 (i:=5) jE.nd rZ Z' (pv 6)))))) (iC (jh (pv 4)))))))];refine#[D,a3u l p,most,rZ,W.dict,m,λh=>k (by rw[xx W.len]at h;exact h),λh dx n=>qE l _ dx (J.trans (iq n _)) (J.free n) hO N run (by rw[xx W.len]at h;exact h)]
end
def j3:List (Str×Pos×Ad):=[(sB,(#[59,40,59,93]:Pos),121),(uG,(#[36,41,36,91]:Pos),76)]
def NG:(j3.map (·.2.2)).Nodup:=by decide
def Tabs(H:Hp):Prop:=∀q∈j3,TabOk q.1 q.2.1 H q.2.2
def _root_.L2.TabOk.most{a:Str}{c:Pos}{H f:Hp}{T:Ad}(t:TabOk a c H T)(g:∀b u,(∀d,u≠HO.dT d)->(∀h,u≠HO.lst h)->H b=some u->f b=some u):TabOk a c f T:=by
 rcases t with t|⟨i,j,k⟩
 .exact .inl (g _ _ (λ_ e=>nomatch e) (λ_ e=>nomatch e) t)
 .exact .inr #[i,g _ _ (λ_ e=>nomatch e) (λ_ e=>nomatch e) j,g _ _ (λ_ e=>nomatch e) (λ_ e=>nomatch e) k]
def Tabs.same{H a:Hp}(t:Tabs H)(g:Same H a):Tabs a:=λq b=>(t q b).same g
def Tabs.most{H c:Hp}(t:Tabs H)(g:∀b u,(∀a,u≠HO.dT a)->(∀d,u≠HO.lst d)->H b=some u->c b=some u):Tabs c:=λq e=>(t q e).most g
def KeepsBut(T:Ad)(H a:Hp):Prop:=∀b o,b≠T->H b=some o->a b=some o
def KeepsBut.keeps{T:Ad}{H a:Hp}{c:AV}(g:KeepsBut T H a)(hT:H T=some (.tbl c)):Keeps H a:=λb o d=>by
 obtain⟨z,f⟩:=vE d;exact g b o (u0 z hT λe=>f _ e) z
theorem GZ:∀{l:List (Str×Pos×Ad)} {p q:Str×Pos×Ad},(l.map (·.2.2)).Nodup->p∈l->q∈l->p.2.2=q.2.2->p=q
 | [],_,_,_,hp,_,_=>nomatch hp
 | r::l,p,q,d,hp,hq,e=>by
  obtain⟨b,f⟩:=oM.mp d
  rcases iM.mp hp with c|hp
  .rcases iM.mp hq with a|hq
   .rw[c,a]
   .exact wC (iK.mpr #[q,hq,by rw[<-c];exact e.symm]) b
  .rcases iM.mp hq with a|hq
   .exact wC (iK.mpr #[p,hp,by rw[<-a];exact e]) b
   .exact GZ f hp hq e
def Tabs.but{a:Str}{b:Pos}{T:Ad}{H d:Hp}{i:AV}(j:(a,b,T)∈j3)(t:Tabs H)(hT:H T=some (.tbl i))(g:KeepsBut T H d)(k:TabOk a b d T):Tabs d:=λf c=>by
 by_cases e:f.2.2=T
 .have:=GZ NG c j e;subst this;exact k
 .rcases t f c with t|⟨l,m,h⟩
  .exact .inl (g _ _ e t)
  .exact .inr #[l,g _ _ e m,g _ _ (nE h hT) h]
def FA{H:Hp}{T e a:Ad}(d:Pos)(c:Str)(hT:H T=some (.tbl #v[]))(f:H e=none)(g:H a=none)(h:e≠a)(lo:HO):KeepsBut T H (hA (hA (hA H T (.tbl (oQ d a))) a (oJ a c)) e lo)/\
  (hA (hA (hA H T (.tbl (oQ d a))) a (oJ a c)) e lo) T=some (.tbl (oQ d a))/\(hA (hA (hA H T (.tbl (oQ d a))) a (oJ a c)) e lo) a=some (oJ a c):=by
 refine#[λb o i z=>?_,?_,?_]
 .rw[hK (jf z f),hK (jf z g),hK i];exact z
 .rw[hK (jf hT f),hK (jf hT g),hO]
 .rw[hK (jq h),hO]
def oO(a:LN)(x:g9)(l:Nat):g9:=mO (yi a x [l])
def lQ(n:Nat):LN:=((List.range 32).map h9).filter λx=>x.all λr=>decide (r<n)
inductive iX(T:Ad)(d:Pos)(g:List V)(H:Hp)(Q:VK)(e:XK):Prop|mk:∀(m p:Ad) (f:LN) (n:Nat) (a:g9),g=[.ref m,.ref p]->Mach H m f n->H p=some (.tup (a.map nv))->a∈lQ n->Tabs H->(∀D h i c,Keeps H c->Tabs c->WordsAt c D h i->(∀b∈D::i,noT H b=none)->Told (oO f) f.length a h->Q (.ref D) c)->iX T d g H Q e
def iw{n:Nat}{x:g9}:x∈lQ n↔mO x=x/\∀r∈x,r<n:=by
 unfold lQ;rw[kC,iK,BA];constructor
 .rintro⟨⟨k,a,rfl⟩,h⟩;refine#[?_,λr c=>mT (h r c)];have z:∀k:Fin 32,mO (h9 k)=h9 k:=by decide+kernel
  exact z #[k,nj.mp a]
 .rintro⟨d,e⟩;refine#[#[pW 0 (mO x),nj.mpr ?_,by rw[CG,d];exact d],λr c=>i0 (e r c)];have z:∀(b:g9) (k:Nat),(∀n∈b,n<5)->k<32->pW k b<32:=by
   intro b
   induction b with
   |nil=>intro k _ a;exact a
   |cons n b f=>intro k h a;exact f _ (λy g=>h y (jr _ g)) (EZ #[k,a] #[n,h n (i7 ..)])
  exact z _ 0 (λn i=>nj.mp (kC.mp i).1) (by decide)
def Fu(a:g9):mO (mO a)=mO a:=by
 unfold mO;refine List.filter_congr λi b=>?_;rw[px,we,we,kC,we];exact#[λh=>h.2,λh=>#[b,h]]
def Mach.noT{H:Hp}{m:Ad}{a:LN}{n:Nat}(M:Mach H m a n):Mach (L2.noT H) m a n:=
 #[let⟨b,c,d,e⟩:=M.refs;#[b,nU c,d,λi r t f g=>nU (e i r t f g)],M.some1,M.few,M.n1,M.n5,M.each]
def Mach.keeps{H a:Hp}{m:Ad}{b:LN}{n:Nat}(M:Mach H m b n)(g:Keeps H a):Mach a m b n:=M.noT.same g
def Mach.drop{H:Hp}{m c:Ad}{a:LN}{n:Nat}{e:Heap->Prop}(M:Mach H m a n)(b:H c=some (.ext e)):Mach (L2.drop H c) m a n:=by
 obtain⟨f,d,g,h⟩:=M.refs;refine#[#[f,?_,g,λi r t j k=>?_],M.some1,M.few,M.n1,M.n5,M.each]
 .rw[j7 (nE d b)];exact d
 .have z:=h i r t j k;rw[j7 (nE z b)];exact z
def GQ{u c m i:Ad}{O:Obj}{p:LN}{n:Nat}{j:Hp}{v B:Vl}{a:Arguments}{f:Expr}{d:Scope}{fx a1 a2:Expr}{kw:List Keyword}{lp cp rp:Pos}(e:iS rE=[.Return (some (.Call fx [a1,a2,.Lambda a f d lp] kw cp)) rp])(jN:iD P w K mg base uA 3 [sA,sC,tQ] (jm K)) (M:Mach j m p n) (h1:j u=some (mI u (mh sB a f d sA c v (.ref i) B))) (T:j c=some (j0 c m O)) (h3:j i=some (oJ i sB)):
  FnOk P w K mg base iF 5 u (mh sB a f d sA c v (.ref i) B) ["here",uJ] (jg (Same j) (lQ n) p.length (oO p))/\Binds K (mh sB a f d sA c v (.ref i) B) ["here",uJ] []:=by
 cases e;refine#[HS (k:=4) (m:=m) (oc:=O) #[rZ,rZ,rZ,by decide+kernel,by decide+kernel,rZ,by decide+kernel] (λU H Q E h=>?_) (λU H Q E h=>?_) (λA C s H U Q E hr h=>?_),.all λus D=>match us,D with| [_,_],_=>rfl]
 .obtain⟨t,x,l,rfl,_⟩:=h;rfl
 .obtain⟨t,x,l,rfl,g,_⟩:=h;exact#[g _ _ h1,g _ _ T,g _ _ h3]
 .obtain⟨t,x,l,rfl,g,ht,hx,D,q⟩:=h;refine#[_,(jc jN hr.m rZ (iP (hX (pv 2) (hX (pv 0) (hX (nX (ir (pv 1) im)) iQ rZ) rZ) rZ))),?_];obtain⟨x1,x2⟩:=iw.mp hx;have G:=g _ _ T;refine#[_,rZ,_,rZ,_,rZ,by show 1<=sizeLine;decide,λb hb=>?_];have I:=iq hb (.lst [nv l]);have M1:=((M.same g).drop G).same I;have J:(hA (L2.drop H c) b (.lst [nv l])) t=some (.tup (x.map nv)):=I _ _ (by rw[j7 (nE ht G)];exact ht);refine#[m,t,b,p,n,x,[l],rZ,M1,O' J,by rw[<-x1];exact C0 x,x2,M2 hO,λz hz=>by rw[iE.mp hz];exact D,λr H3 g3 Y free=>q r _ (λy o L=>?_) ?_]
  .by_cases N:y=c
   .subst N;rw[G]at L;cases L;exact hO
   .rw[hK N];exact g3 _ _ (I _ _ (by rw[j7 N];exact L))
  .rw[hK (jf Y free)];exact Y
def KI{cd T:Ad}(F:DefAt K sM rE f fd .none (.ref cd))(hC:PySem.W.CodeHd base cd T)(bm:rX mg base)(hq:((sB:Str),(#[59,40,59,93]:Pos),T)∈j3)(jN:iD P w K mg base uA 3 [sA,sC,tQ] (jm K))(kH:Ea P w K mg base tN 8 ["start","letters","step",sG] (jo P w K mg base) [.non]) (jA:mg "len"=none):FnOk P w K mg base iF 10 f fd [sA,sC] (iX T (#[59,40,59,93]:Pos)):=by
 refine F.fnOk LM (λvs H Q E h=>?_) (λA ae s H vs Q E h hr=>?_)
 .obtain⟨m,p,U,n,u,rfl,_⟩:=h;rfl
 obtain⟨m,p,U,n,u,rfl,M,hp,hU,hT,q⟩:=h;refine#[_,?_,(iC (jh (Lc kH hr.m rZ (j:=0) rZ rZ rZ rZ (iP (hX (pv 1) (hX (j8 ou rZ jA mY (ir (pv 0) im)) (hX (Gx (qual:=sB) rZ hC bm (λ_ _ _ _ _=>rfl) rZ rZ) iQ rZ) rZ) rZ)))))];obtain⟨rs,hm,af,_⟩:=M.refs;refine#[_,rZ,_,rZ,m,_,rZ,.inr (O' hm),?_]
 try dsimp only
 rw[hJ,af];have go:∀(v t:Ad) (I:Vl) (J:Hp) (Y:AV),H T=some (.tbl Y)->KeepsBut T H J->J T=some (.tbl (oQ (#[59,40,59,93]:Pos) t))->J t=some (oJ t sB)->∀(d:Arguments) (k:Expr) (e:Scope) (pm:Vl) (c:Ad),J v=some (mI v (mh sB d k e sA c pm (.ref t) I))->
   ∀B,J c=none->(FnOk P w K mg base iF 5 v (mh sB d k e sA c pm (.ref t) I) ["here",uJ] (jg (Same (hA J c (j0 c m B))) (lQ n) U.length (oO U)))->Binds K (mh sB d k e sA c pm (.ref t) I) ["here",uJ] []->
   jo P w K mg base [.ref p,nv U.length,.ref v,.non] (hA J c (j0 c m B)) (λr H2=>H2 c=some (j0 c m B)/\Q r (L2.drop H2 c)) E0:=λv t I J Y aa kb h1 h2 d k e pm c h3 B C hF hB=>by
  have k1:=kb.keeps aa;have i:=iq C (j0 c m B);have n5:=M.n5;refine#[p,v,_,_,u,U.length,lQ n,oO U,rZ,i _ _ (k1 _ _ (nU hp)),i _ _ h3,hU,λx hx l hl=>?_,?_,?_,hF,hB,λD ws as H2 L W nw TT=>#[L _ _ hO,q D ws as _ (λb o N=>?_) (hT.but hq aa (λb o nb N=>?_) (.inr #[t,?_,?_])) #[W.len,?_,λj a r e1 e2=>?_] (λb N=>?_) TT]]
  .obtain⟨x1,x2⟩:=iw.mp hx;refine iw.mpr #[Fu _,λr hr=>?_];obtain⟨y,h4,rfl⟩:=iK.mp (Fe hr);exact zh M [l] y (x2 y h4) λz hz=>by rw[iE.mp hz];exact hl
  .exact i5 (og _ _) (by rw[hJ,qt];decide)
  .have:=M.few;lia
  .have z:=k1 b o N;rw[j7 (jf z C)];exact L _ _ (i _ _ z)
  .have z:=kb b o nb N;rw[j7 (jf z C)];exact L _ _ (i _ _ z)
  .rw[j7 (jf h1 C)];exact L _ _ (i _ _ h1)
  .rw[j7 (jf h2 C)];exact L _ _ (i _ _ h2)
  .rw[j7 (nE W.dict (L _ _ hO))];exact W.dict
  .have z:=W.list j a r e1 e2;rw[j7 (nE z (L _ _ hO))];exact z
  .have z:=nw b N;cases y:L2.noT H b with
   |none=>rfl
   |some o=>
    have z2:=i _ _ (k1 _ _ y);rw[z]at z2;cases z2
 rcases hT _ hq with g|⟨t,g,G⟩
 .refine .inl #[g,λv t I O G ne=>#[m,rZ,λB C=>?_]];obtain⟨k1,ag,ab⟩:=FA (#[59,40,59,93]:Pos) sB g O G ne _;have i:=iq C (j0 (s.heap.objs.size+1) m B);obtain⟨F1,F2⟩:=GQ rZ jN ((M.keeps (k1.keeps g)).same i) (i _ _ hO) hO (i _ _ ab);exact go v t I _ _ g k1 ag ab _ _ _ _ _ hO B C F1 F2
 .refine .inr #[t,g,G,λv I O=>#[m,rZ,λB C=>?_]];have k1:∀lo,Same H (hA H v lo):=λlo=>iq O lo;have i:=iq C (j0 (s.heap.objs.size+1) m B);obtain⟨F1,F2⟩:=GQ rZ jN ((M.same (k1 _)).same i) (i _ _ hO) hO (i _ _ (k1 _ _ _ G));exact go v t I _ _ g (λb o _ N=>k1 _ _ _ N) (k1 _ _ _ g) (k1 _ _ _ G) _ _ _ _ _ hO B C F1 F2
inductive lN(b:List V)(H:Hp)(Q:VK)(a:XK):Prop|mk:∀n:Nat,b=[nv n]->n<=1000->tF H ((List.range n).map nv) Q->lN b H Q a
def Mn(F:Fun K uT uT x6 f fd)(b:mg "tuple"=none)(c:mg "range"=none):FnOk P w K mg base iF 1 f fd [sC] lN:=by
 refine F.ok No (λd A a s H g Q E i h=>?_)
 obtain⟨n,rfl,j,q⟩:=h;refine#[_,(iC (jh (lZ (FO rZ) rZ b ut (ir (lZ DP rZ c boot_range (ir (pv 0) im)) im)))),?_];refine#[_,rZ,(n:Int),rZ,λp e=>#[p,(n:Int),rZ,hO,(),(),λt ht=>?_]];exact q t _ ((iq e _).trans (iq ht _)) hO
def i9(a b:g9):g9:=a.map λx=>b.getD x 0
inductive iJ(f:List V)(H:Hp)(Q:VK)(d:XK):Prop|mk:∀(a b:Ad) (c e:g9),f=[.ref a,.ref b]->H a=some (.tup (c.map nv))->H b=some (.tup (e.map nv))->(∀x∈c,x<e.length)->c.length<=1000->tF H ((i9 c e).map nv) Q->iJ f H Q d
def Of(F:Fun K tV tV wj f fd)(l:mg "tuple"=none):FnOk P w K mg base iF 1 f fd [uH,sQ] iJ:=by
 refine F.ok M4 (λm A c s H z Q E B h=>?_)
 obtain⟨a,b,j,d,rfl,k,n,g,o,q⟩:=h;refine#[_,(iC (jh (lZ xo rZ l ut (ir (nM (CompSc.to (N:=[uH,sQ]) (osc:=hZ wj) (vs:=[uX]) {}) rZ rZ (za (pv 0)) (λ_ _ _ _=>om) (λ_ _ _ _=>(kg (IxR.k (K:=K) pB nS rZ) (pv 2) (pv 0) (λ_ _=>rfl)))) im)))),?_];have e:(j.map nv).map (λv=>match v with|.int i=>nv (d.getD i.toNat 0)|v=>v)=(i9 j d).map nv:=by
  unfold i9;rw[mJ,mJ];rfl
 refine#[_,rZ,a,rZ,#[_,O' k],yM (f:=λv=>match v with|.int i=>nv (d.getD i.toNat 0)|v=>v) (by rw[hJ];exact small o) (O' k) (λv Q r q=>?_) (λp u=>?_)]
 .obtain⟨x,y,rfl⟩:=iK.mp r;exact#[_,rZ,_,rZ,b,_,_,_,rZ,rZ,O' n,xL (g x y),q]
 .rw[e];exact#[p,_,rZ,.inl #[M2 hO,λt ht=>q t _ ((iq u _).trans (iq ht _)) hO]]
def jw(n:Nat):Nat->List g9
 |0=>[[]]
 |k+1=>(jw n k).flatMap λx=>(List.range n).map λr=>x++[r]
theorem hG{n:Nat}:∀{k:Nat} {x:g9},x∈jw n k↔x.length=k/\∀r∈x,r<n
 | 0,x=>by
  show x∈[[]]↔_;rw[iE];constructor
  .rintro rfl;exact#[rZ,λr a=>nomatch a]
  .rintro⟨h,_⟩;exact sm.mp h
 | k+1,x=>by
  show x∈(jw n k).flatMap _↔_;rw[List.mem_flatMap];constructor
  .rintro⟨y,e,f⟩;obtain⟨r,a,rfl⟩:=iK.mp f;obtain⟨b,c⟩:=hG.mp e;refine#[by simp[b],λz g=>?_]
   rcases iN.mp g with m|m
   .exact c z m
   .rw[iE.mp m];exact nj.mp a
  .rintro⟨b,c⟩;have d:x≠[]:=λz=>by rw[z]at b;cases b
   refine#[x.dropLast,hG.mpr #[by rw[List.length_dropLast,b];rfl,λr a=>c r (List.dropLast_subset _ a)],iK.mpr #[x.getLast d,nj.mpr (c _ (List.getLast_mem d)),Hh d]]
theorem Fi{n:Nat}:∀k,(jw n k).length=n ^ k
 |0=>rfl
 | k+1=>by
  show((jw n k).flatMap _).length=_;rw[List.length_flatMap];have z:∀l:LN,(l.map λx=>((List.range n).map λr=>x++[r]).length).sum=l.length * n:=by
   intro l
   induction l with
   |nil=>simp
   |cons a l b=>rw[lH,List.sum_cons,b,hJ,qt,oo,Nat.succ_mul,Nat.add_comm]
  rw[z,Fi k,Bi]
def CQ{n:Nat}(h:n<=5):(jw n n).length<=4000:=by
 rw[Fi];have z:∀k:Fin 6,(k:Nat) ^ (k:Nat)<=4000:=by decide
 exact z #[n,()]
def vr(n:Nat):List.range n∈jw n n:=hG.mpr #[qt,λr a=>nj.mp a]
def gl(t:g9):Int:= -((t.length:Nat):Int)
def pQ(a:LN)(t:g9):LN:=if a.contains t then a else a++[t]
def uniq(a:LN):LN:=a.foldl pQ []
def Nq(a:LN)(t:g9):uniq (a++[t])=pQ (uniq a) t:=by
 unfold uniq;rw[qk];rfl
def J9{a:LN}{t x:g9}:x∈pQ a t↔x∈a\/x=t:=by
 unfold pQ;by_cases h:a.contains t=true
 .rw[wB h];constructor
  .exact .inl
  .rintro(b|rfl)
   .exact b
   .exact we.mp h
 .rw[wA h,iN,iE]
def Ot{a:LN}{t:g9}(b:a.Nodup):(pQ a t).Nodup:=by
 unfold pQ;by_cases h:a.contains t=true
 .rw[wB h];exact b
 .rw[wA h,yp];refine#[b,by simp,λx c y d z=>h (List.contains_iff_mem.mpr ?_)];rw[<-iE.mp d,<-z];exact c
def Dz(b:LN):(uniq b).Nodup/\∀x,x∈uniq b↔x∈b:=by
 have go:∀(b a:LN),a.Nodup->(b.foldl pQ a).Nodup/\∀x,x∈b.foldl pQ a↔x∈a\/x∈b:=by
  intro b
  induction b with
  |nil=>intro a c;exact#[c,λx=>by simp]
  |cons t b f=>
   intro a c;obtain⟨d,e⟩:=f (pQ a t) (Ot c);refine#[d,λx=>?_];rw[tc,e x,J9,iM,or_assoc]
 obtain⟨d,e⟩:=go b [] List.nodup_nil;exact#[d,λx=>by rw[show uniq b=b.foldl pQ []from rfl,e x];simp]
def NR{b:List (List iH×V)}{d:LN}{t:g9}{v:V}(h:b.map (·.1)=d.map nk):(nC b (nk t) v).map (·.1)=(pQ d t).map nk:=by
 have e:(b.any λa=>decide (a.1=nk t))=d.contains t:=by
  rw[px,List.any_eq_true,we];constructor
  .rintro⟨a,f,g⟩;have m:a.1∈d.map nk:=by rw[<-h];exact iK.mpr #[a,f,rZ]
   obtain⟨u,i,j⟩:=iK.mp m;have z:=uc (j.trans (mT g));rw[<-z];exact i
  .intro ht;have m:nk t∈b.map (·.1):=by rw[h];exact iK.mpr #[t,ht,rZ]
   obtain⟨a,f,g⟩:=iK.mp m;exact#[a,f,i0 g]
 unfold nC pQ;rw[e];by_cases c:d.contains t=true
 .rw[wB c,wB c,<-h,mJ];refine vY λa _=>?_;show(if a.1=nk t then(a.1,v)else a).1=a.1;split<;>rfl
 .rw[wA c,wA c,kS,kS,h];rfl
theorem Gg{g:Type}{lt:g->g->Bool}(i:∀x,lt x x=false)(j:∀x y z,lt x y=true->lt y z=true->lt x z=true):∀{c d:List g},c.Pairwise (λx y=>lt x y=true)->d.Pairwise (λx y=>lt x y=true)->(∀x,x∈c↔x∈d)->c=d
 | [],[],_,_,_=>rfl
 | [],q::d,_,_,h=>wC ((h q).mpr (i7 ..)) (by simp)
 |p::c,[],_,_,h=>wC ((h p).mp (i7 ..)) (by simp)
 | p::c,q::d,m,n,h=>by
  obtain⟨k,o⟩:=ym.mp m;obtain⟨l,s⟩:=ym.mp n;have t:∀{x y:g},lt x y=true->lt y x=true->False:=λ{x y} a b=>by
   have:=j _ _ _ a b;rw[i]at this;cases this
  have u:p=q:=by
   rcases iM.mp ((h p).mp (i7 ..))with e|e
   .exact e
   .rcases iM.mp ((h q).mpr (i7 ..))with e'|e'
    .exact e'.symm
    .exact(t (l p e) (k q e')).elim
  subst u;have rest:c=d:=Gg i j o s λr=>by
   constructor
   .intro f
    rcases iM.mp ((h r).mp (jr _ f))with e|e
    .subst e;have:=k r f;rw[i]at this;cases this
    .exact e
   .intro f
    rcases iM.mp ((h r).mpr (jr _ f))with e|e
    .subst e;have:=l r f;rw[i]at this;cases this
    .exact e
  rw[rest]
inductive lB(e:List V)(H:Hp)(Q:VK)(c:XK):Prop|mk:∀(l:Ad) (f:As) (a U:LN),e=[.ref l]->H l=some (.lst (f.map .ref))->TupsAt H f a->(∀t∈a,t∈U)->U.length<64->a.length<=4000->(∀D bs d b,Same H b->H D=none->b D=some (.lst (bs.map .ref))->TupsAt b bs d->(∀x,x∈d↔x∈a)->d.Pairwise (λx y=>oE gl x y=true)->Q (.ref D) b)->lB e H Q c
def Iu(F:Fun K uK uK w9 f fd)(d:mg "len"=none):FnOk P w K mg base iF 1 f fd [sC] (mj gl):=by
 refine F.ok MA (λe A b s H j Q E k h=>?_)
 obtain⟨a,t,rfl,g,q⟩:=h;refine#[_,(iC (jh (uj (iP (hX (y7 Ng (j8 ou rZ d mY (ir (pv 0) im))) (hX (pv 0) iQ rZ) rZ))))),?_];refine#[_,rZ,a,_,rZ,.inr (O' g),_,rZ,_,rZ,by show 2<=sizeLine;decide,λi c=>?_];refine q i _ (iq c _) ?_;rw[hO,hJ];rfl
def Nu(F:Fun K uL uL xv f fd)(M:iD P w K mg base uK 1 [sC] (mj gl))(N:mg "sorted"=none):FnOk P w K mg base iF 5 f fd [sT] lB:=by
 refine F.ok qJ (λO A r s H vs Q E u h=>?_)
 obtain⟨l,Y,c,U,rfl,z,T,inU,few,B,q⟩:=h;have hu:=u.units;have v:=pY u;refine#[_,(iz (i3 (i:=1) qJ.nd rZ Z' Dg) (iz (pq pL rZ (lM (pv 0)) (mK (i:=2) qJ.nd rZ Z') (iC (xG v (pv 1) (pv 2) rk rZ))) (iC (jh (Ks rZ hu M u.m rZ N rZ (pv 1)))))),?_];intro d C;have G:=iq C (.dT []);have la:=T.len;obtain⟨un,I⟩:=Dz c;refine#[_,rZ,l,rZ,#[_,M2 (G _ _ z)],vi (xs:=Y.map .ref) (λi n j=>Same H j/\∃b o,j d=some (.dT b)/\b.map (·.1)=(uniq (c.take i)).map nk/\n=[some (.ref l),some (.ref d),o]) #[G,[],none,hO,rZ,rZ] (λi n j _ p=>M2 (p.1 _ _ z)) (λi x n j e p=>?_) (λn j p=>?_)]
 .obtain⟨g,b,o,y,k,rfl⟩:=p;rw[iB]at e;obtain⟨a,J,rfl⟩:=ju.mp e;have li:=(ik.mp J).1;obtain⟨t,L⟩:∃t,c[i]?=some t:=#[_,hV ()];have ha:=g _ _ (T.is i a t J L);have lk:b.length<=c.length:=by
   rw[<-hJ (f:=(·.1)) (as:=b),k,hJ];refine i5 (rM (Dz _).1 (U:=c) λx e=>?_) (ig _);exact uv (((Dz _).2 x).mp e)
  refine#[_,rZ,_,rZ,d,_,rZ,DPut.t y (by rw[nL];exact ha) (by rw[iR];lia),?_];refine#[oU g C,_,_,hO,?_,rZ];rw[NR k,ow,L];show _=(uniq (c.take i++[t])).map nk;rw[Nq]
 .obtain⟨g,b,o,y,k,rfl⟩:=p;rw[hJ,la,mH]at k;have lu:(uniq c).length<64:=yO (rM un λx e=>inU x ((I x).mp e)) few;refine#[_,rZ,d,rZ,d,b,uniq c,rZ,y,k,lu,λD bs us H2 g2 hD eD T2 m pw=>?_];exact q D bs us H2 (g.trans g2) (g.free hD) eD T2 (λx=>(m.mem_iff).trans (I x)) pw
def PicsAt(H:Hp)(l:Ad)(d:As)(e:TW):Prop:=H l=some (.lst (d.map .ref))/\d.length=e.length/\∀(j:Nat) (a:Ad) (p:g9×g9),d[j]?=some a->e[j]?=some p->∃b c,c≠l/\H a=some (.tup [.ref b,.ref c])/\H b=some (.tup (p.1.map nv))/\H c=some (.lst (p.2.map nv))
inductive kq(T:Ad)(b:Pos)(e:List V)(H:Hp)(Q:VK)(c:XK):Prop|mk:∀(m:Ad) (d:LN) (n:Nat),e=[.ref m]->Mach H m d n->Tabs H->(∀l g f a,Keeps H a->Tabs a->PicsAt a l g f->Told (oO d) d.length (List.range n) f->Q (.ref l) a)->kq T b e H Q c
def ra(a:g9):List Dt:=(a.map λ(n:Nat)=>(n:Int)).map Dt.int
def Od{a b:g9}(h:ra a=ra b):a=b:=iy.mp (jv Dt.tup h)
def E5{n:Nat}(h:n<=5):List.range n∈lQ n:=by
 have z:∀k:Fin 6,mO (List.range k)=List.range k:=by decide+kernel
 exact iw.mpr #[z #[n,()],λr a=>nj.mp a]
def Nz{T:Ad}(F:Fun K uM uM xl f fd)(U:iD P w K mg base uT 1 [sC] lN)(Y:iD P w K mg base sM 10 [sA,sC] (iX T (#[59,40,59,93]:Pos)))(jA:mg "len"=none)(jL:mg "list"=none):
  FnOk P w K mg base iF 12 f fd [sA] (kq T (#[59,40,59,93]:Pos)):=by
 refine F.ok qN (λaa A g s H vs Q E C h=>?_)
 obtain⟨m,ts,n,rfl,M,hT,q⟩:=h;have t1:=M.some1;have n5:=M.n5;obtain⟨_,r0,b1,b2,b3,b4,b5,b6⟩:=M.at (l:=0) ();refine#[_,(iz (i3 (i:=1) qN.nd rZ Z' (jc Y C.m rZ (iP (hX (pv 0) (hX (jc U C.m rZ (ir (j8 ou rZ jA mY (ir (kg nS (pv 0) iT (λ_ _=>rfl)) im)) im)) iQ rZ) rZ)))) (iC (jh (lZ (HJ rZ) rZ jL vX (ir (CW PySem.F.plainAttrs_dict PySem.F.slot_dict_items PySem.F.type_dict_items Ii (pv 1)) im))))),?_];refine#[_,rZ,_,rZ,m,_,_,_,rZ,rZ,O' b1,b3,r0,_,rZ,.inr (O' b4),?_]
 try dsimp only
 rw[hJ,b5];refine#[n,rZ,(),λst H1 r t=>#[m,st,ts,n,List.range n,rZ,M.same r,t,E5 n5,hT.same r,λD ws as G k2 T2 W _ TT=>?_]];refine#[_,rZ,.inr (.inr (.inl #[rZ,.inr #[_,W.dict]])),rZ,D,_,rZ,W.dict,λv hv=>?_];have u:=iq hv (vB v D);refine#[v,D,_,rZ,hO,u _ _ W.dict,λl ps y d=>?_];have k3:Same (hA G v (vB v D)) y:=λb o e=>by
  rw[d.rest b (jf e d.new) λz=>by rw[d.news b z]at e;cases e];exact e
 have I:Same G y:=u.trans k3;refine q l ps ws y ((r.keeps.trans k2).trans I.keeps) (T2.same I) #[d.lst,by rw[d.len,xx W.len],λj a p t B=>?_] TT;obtain⟨k,x,b,J,L,f3⟩:=d.is j a t;obtain⟨hj,_⟩:=ik.mp B;obtain⟨c,N⟩:∃c,as[j]?=some c:=#[_,hV (by rw[W.len];exact hj)];rw[DV B N]at J;cases J;have O:=u _ _ (W.list j c p N B);rw[nL]at L;exact#[b,c,jf O d.new,f3,k3 _ _ L,k3 _ _ O]
def NN{H:Hp}{m:Ad}{a:LN}{n:Nat}(M:Mach H m a n){x:g9}{l:Nat}(b:x∈lQ n)(c:l<a.length):oO a x l∈lQ n:=by
 obtain⟨h,d⟩:=iw.mp b;refine iw.mpr #[Fu _,λr e=>?_];obtain⟨y,f,rfl⟩:=iK.mp (Fe e);exact zh M [l] y (d y f) λz g=>by rw[iE.mp g];exact c
theorem DC{b:Type}{P:Nat->b->Prop}:∀{n:Nat},(∀j,j<n->∃x,P j x)->∃a:List b,a.length=n/\∀(j:Nat) (x:b),a[j]?=some x->P j x
 |0,_=>#[[],rZ,λj x e=>by simp at e]
 | n+1,h=>by
  obtain⟨a,c,d⟩:=DC (n:=n) λj f=>h j ();obtain⟨x,g⟩:=h n ();refine#[a++[x],by simp[c],λj y e=>?_];by_cases f:j<n
  .rw[j5 ()]at e;exact d j y e
  .rw[ku ()]at e;have z:j-a.length=0:=by
    have:=(ik.mp e).1;simp at this;lia
   rw[z]at e;cases e;have i:j=n:=by lia
   subst i;exact g
structure Prs(H:Hp)(l:Ad)(as:As)(bc:List (Ad×Ad))(ws:TW):Prop where
 lst:H l=some (.lst (as.map .ref))
 la:as.length=ws.length
 lb:bc.length=ws.length
 is:∀(j:Nat) (a:Ad) (q:Ad×Ad) (p:g9×g9),as[j]?=some a->bc[j]?=some q->ws[j]?=some p->q.2≠l/\H a=some (.tup [.ref q.1,.ref q.2])/\H q.1=some (.tup (p.1.map nv))/\H q.2=some (.lst (p.2.map nv))
def PicsAt.prs{H:Hp}{l:Ad}{g:As}{d:TW}(h:PicsAt H l g d):∃m,Prs H l g m d:=by
 obtain⟨o,r,s⟩:=h;obtain⟨m,t,u⟩:=DC (n:=d.length) (P:=λj (q:Ad×Ad)=>∀a p,g[j]?=some a->d[j]?=some p->q.2≠l/\H a=some (.tup [.ref q.1,.ref q.2])/\H q.1=some (.tup (p.1.map nv))/\H q.2=some (.lst (p.2.map nv))) λj v=>by
  obtain⟨a,i⟩:∃a,g[j]?=some a:=#[_,hV ()];obtain⟨p,k⟩:∃p,d[j]?=some p:=#[_,hV v];obtain⟨b,c,w,x,y,z⟩:=s j a p i k;refine#[(b,c),λB C e f=>?_];rw[i]at e;rw[k]at f;cases e;cases f;exact#[w,x,y,z]
 exact#[m,o,r,t,λj a q p i A k=>u j q A a p i k]
def Prs.at{H:Hp}{l:Ad}{as:As}{c:List (Ad×Ad)}{b:TW}(h:Prs H l as c b){j:Nat}(g:j<b.length):∃a q p,as[j]?=some a/\c[j]?=some q/\b[j]?=some p/\q.2≠l/\H a=some (.tup [.ref q.1,.ref q.2])/\H q.1=some (.tup (p.1.map nv))/\H q.2=some (.lst (p.2.map nv)):=by
 have i:=h.la;have k:=h.lb;obtain⟨a,d⟩:∃a,as[j]?=some a:=#[_,hV ()];obtain⟨q,e⟩:∃q,c[j]?=some q:=#[_,hV ()];obtain⟨p,f⟩:∃p,b[j]?=some p:=#[_,hV g];exact#[a,q,p,d,e,f,h.is j a q p d e f]
def CD(a:LN)(n:Nat)(x:g9):Prop:=∃word:g9,(∀l∈word,l<a.length)/\ki (oO a) (List.range n) word=x
structure FamOf(ts:LN)(n:Nat)(us:LN):Prop where
 up:us.Pairwise λx y=>oE gl x y=true
 mem:∀x,x∈us↔(CD ts n x\/∃r,r<n/\x=[r])
def FamOf.uniq{b:LN}{n:Nat}{a c:LN}(d:FamOf b n a)(e:FamOf b n c):a=c:=Gg (wy gl a).irr (wy gl a).trans d.up e.up λx=>(d.mem x).trans (e.mem x).symm
def Cj{a:LN}{n:Nat}{b:TW}(T:Told (oO a) a.length (List.range n) b)(x:g9):x∈b.map (·.1)↔CD a n x:=by
 constructor
 .intro h;obtain⟨p,c,rfl⟩:=iK.mp h;obtain⟨d,e⟩:=T.run p c;exact#[p.2,d,e]
 .rintro⟨word,f,rfl⟩;obtain⟨u,g,_⟩:=T.least _ word rZ f;exact iK.mpr #[_,g,rZ]
def HN{n r:Nat}(b:n<=5)(h:r<n):[r]∈lQ n:=by
 have z:∀k:Fin 5,mO [(k:Nat)]=[(k:Nat)]:=by decide+kernel
 exact iw.mpr #[z #[r,()],λx a=>by rw[iE.mp a];exact h]
def DB{H:Hp}{m:Ad}{a:LN}{n:Nat}(M:Mach H m a n){x:g9}(h:CD a n x):x∈lQ n:=by
 obtain⟨word,b,rfl⟩:=h;exact vU (E5 M.n5) (λy c l d=>NN M c d) word b
def CI(n:Nat):(lQ n).length<=32:=i5 (og _ _) (by rw[hJ,qt];decide)
def FamOf.inU{H:Hp}{m:Ad}{a:LN}{n:Nat}{b:LN}(M:Mach H m a n)(h:FamOf a n b){x:g9}(c:x∈b):x∈lQ n:=by
 rcases (h.mem x).mp c with z|⟨r,d,rfl⟩
 .exact DB M z
 .exact HN M.n5 d
def FamOf.few{H:Hp}{m:Ad}{d:LN}{n:Nat}{c:LN}(M:Mach H m d n)(h:FamOf d n c):c.length<=32:=by
 refine i5 (rM (U:=lQ n) ?_ λx f=>h.inU M f) (CI n);exact h.up.imp λ{a b} z e=>by
  subst e;rw[(wy gl c).irr]at z;cases z
def LR{n:Nat}(a:n<=5){x:g9}(h:x∈lQ n):x.length<=n:=by
 obtain⟨b,c⟩:=iw.mp h;rw[<-b,Nm a c];exact i5 (og _ _) (by simp)
def yT{H:Hp}{d:Ad}{o c:HO}{bs:As}{a:LN}(T:TupsAt H bs a)(h:H d=some o)(f:∀g,o≠ .tup g):TupsAt (hA H d c) bs a:=#[T.len,λi b u j k=>by
 have z:=T.is i b u j k;rw[hK (u0 z h λe=>f _ e.symm)];exact z]
def AK{H:Hp}{bs:As}{d:LN}{p:Ad}{u:g9}(h:TupsAt H bs d)(e:H p=some (.tup (u.map nv))):TupsAt H (bs++[p]) (d++[u]):=by
 refine#[by simp[h.len],λi b v c a=>?_];have l:=h.len;by_cases f:i<d.length
 .rw[j5 ()]at c a;exact h.is i b v c a
 .rw[ku ()]at c a;have z:i-d.length=0:=by
   have:=(ik.mp a).1;simp at this;lia
  rw[l,z]at c;rw[z]at a;cases c;cases a;exact e
def IR{H:Hp}{bs e:As}{d f:LN}(h:TupsAt H bs d)(g:TupsAt H e f):TupsAt H (bs++e) (d++f):=by
 refine#[by simp[h.len,g.len],λi b v a c=>?_];have l:=h.len;by_cases j:i<d.length
 .rw[j5 ()]at a c;exact h.is i b v a c
 .rw[ku ()]at a c;rw[l]at a;exact g.is _ b v a c
def Gi{c d:LN}(h:(Dt.lst (c.map λu=> .tup (ra u)))=Dt.lst (d.map λu=> .tup (ra u))):c=d:=by
 injection h with h
 exact xB (λa b e=>by injection e with e;exact Od e) h
inductive kv(T:Ad)(b:Pos)(d:List V)(H:Hp)(Q:VK)(c:XK):Prop|mk:∀(m:Ad) (e:LN) (n:Nat),d=[.ref m]->Mach H m e n->Tabs H->(∀D bs f a,Keeps H a->Tabs a->L2.noT H D=none->a D=some (.lst (bs.map .ref))->TupsAt a bs f->FamOf e n f->Q (.ref D) a)->kv T b d H Q c
def N1{T:Ad}(F:Fun K uP uP ta f fd)(qF:iD P w K mg base uM 12 [sA] (kq T (#[59,40,59,93]:Pos)))(qG:iD P w K mg base uL 5 [sT] lB)(jA:mg "len"=none)(jB:mg "range"=none):FnOk P w K mg base iF 14 f fd [sA] (kv T (#[59,40,59,93]:Pos)):=by
 refine F.ok qV (λak A aa s H vs Q E hr h=>?_)
 obtain⟨m,ts,n,rfl,M,hT,q⟩:=h;have t1:=M.some1;have n1:=M.n1;have n5:=M.n5;obtain⟨_,r0,b1,b2,b3,b4,b5,b6⟩:=M.at (l:=0) ();refine#[_,(iz (BE (CompSc.to (N:=[sA,"singles"]) (osc:=hZ ta) (vs:=[uX]) {}) rZ rZ qV.nd (j:=1) rZ rZ (ub rZ jB (ir (j8 ou rZ jA mY (ir (kg nS (pv 0) iT (λ_ _=>rfl)) im)) im)) (λ_ _ _ _=>om) (λ_ _ _ _=>(uj (ir (pv 0) im)))) (iC (jh (jc qG hr.m rZ (ir (jx BX (Cp (CompSc.to (N:=[sA,"singles"]) (osc:=hZ ta) (vs:=[sC,tQ]) {}) rZ (lM (jc qF hr.m rZ (ir (pv 0) im))) (D0 (CompSc.to (N:=[sA,"singles"]) (osc:=hZ ta) (vs:=[sC,tQ]) {}) rZ rZ rZ) (λ_ _ _ _=>om) (λ_ _ _ _=>(pv 0))) (pv 1)) im))))),?_];refine#[_,rZ,m,_,_,_,rZ,rZ,O' b1,b3,r0,_,rZ,.inr (O' b4),(n:Int),by rw[hJ,b5],(),(),Af (λi d c=>Same H c/\∃a,d=a.map V.ref/\a.length=i/\TupsAt c a ((List.range i).map λr=>[r])) (by rw[rc];exact small ()) #[Same.refl _,[],rZ,rZ,rZ,λi b u e=>by simp at e] (λi d c _ p=>?_) (λi d c hi p=>?_) (λd H1 p U ab=>?_)]
 .obtain⟨_,a,rfl,e,_⟩:=p;rw[hJ];lia
 .obtain⟨g,a,rfl,e,Y⟩:=p;have e0:V.int (0+(i:Int))=nv i:=by show V.int (0+(i:Int))=V.int (i:Int);rw[yF]
  refine#[nq,qj #[_,rZ,by show 1<=sizeLine;decide,λp hp=>?_]];have k:=iq hp (.tup [V.int (0+(i:Int))]);refine#[g.trans k,a++[p],by simp,by simp[e],?_];rw[wm,kS];refine AK (Y.same k) ?_;rw[hO,e0];rfl
 obtain⟨g1,a,rfl,er,Y⟩:=p;rw[rc]at Y er;have k1:=iq ab (.lst (a.map V.ref));have I:hA H1 U (.lst (a.map V.ref)) U=some (.lst (a.map V.ref)):=hO;have T2:=Y.same k1;have B:=g1.trans k1;generalize hA H1 U (.lst (a.map V.ref))=H2 at k1 I T2 B|-;refine#[_,rZ,m,ts,n,rZ,M.same B,hT.same B,λl as ws H3 k3 T3 ae TT=>?_];obtain⟨bc,C⟩:=ae.prs;have aj:=(M.same B);have few:ws.length<=32:=by
  rw[<-hJ (f:=(·.1)) (as:=ws)];exact i5 (rM TT.keys λx hx=>DB M ((Cj TT x).mp hx)) (CI n)
 refine#[l,rZ,#[_,M2 C.lst],on (xs:=as.map .ref) (λi d c=>c=H3/\∃bs,d=bs.map V.ref/\bs.length=i/\TupsAt H3 bs ((ws.take i).map (·.1))) (by rw[hJ,C.la,iR];lia) #[rZ,[],rZ,rZ,rZ,λi b u e=>by simp at e] (λi d c _ p=>?_) (λi v d c hv p=>?_) (λd c p c1 af=>?_)]
 .obtain⟨rfl,bs,rfl,e,_⟩:=p;exact#[M2 C.lst,by rw[hJ];lia]
 .obtain⟨rfl,bs,rfl,e,J⟩:=p;rw[iB]at hv;obtain⟨a1,ea,rfl⟩:=ju.mp hv;obtain⟨a',q',p',L,al,ag,f0,f1,f2,f3⟩:=C.at (j:=i) (by have:=(ik.mp ea).1;rw[<-C.la];exact this);rw[ea]at L;cases L;refine#[a1,_,rZ,O' f1,rZ,_,_,rZ,_,_,rZ,rZ,CA,qj #[_,rZ,rZ,bs++[q'.1],by simp,by simp[e],?_]];rw[ow,ag,kS];exact AK J f2
 obtain⟨rfl,bs,rfl,e,J⟩:=p;rw[hJ,C.la,mH]at J;have G:=iq af (.lst (bs.map V.ref));have O:=G _ _ (k3 _ _ (nU I));have T5:TupsAt (hA c c1 (.lst (bs.map V.ref))) a ((List.range n).map λr=>[r]):=#[T2.len,λi b u e1 e2=>G _ _ (k3 _ _ (nU (T2.is i b u e1 e2)))];have lb:bs.length=ws.length:=by rw[J.len,hJ]
 refine#[_,rZ,c1,U,_,_,rZ,rZ,M2 hO,M2 O,by rw[hJ,hJ,lb,er,iR];lia,λl2 ah=>?_];have k2:=iq ah (.lst (bs.map V.ref++a.map V.ref));have T6:=(IR (J.same G) T5).same k2;refine#[l2,bs++a,_,lQ n,rZ,by rw[hO,kS],T6,λt ht=>?_,yO (CI n) (by decide),by rw[jk,hJ,hJ,qt];lia,λD ds us H5 g5 hD eD T7 mem up=>?_]
 .rcases iN.mp ht with z|z
  .exact DB M ((Cj TT t).mp z)
  .obtain⟨r,ai,rfl⟩:=iK.mp z;exact HN n5 (nj.mp ai)
 .have kk:Keeps H H5:=((B.keeps.trans k3).trans (G.trans k2).keeps).trans g5.keeps;refine q D ds us H5 kk (T3.same ((G.trans k2).trans g5)) ?_ eD T7 #[up,λx=>?_]
  .cases y:L2.noT H D with
   |none=>rfl
   |some o=>
    have z:=(G.trans k2) _ _ ((B.keeps.trans k3) _ _ y);rw[hD]at z;cases z
  .rw[mem x,iN,Cj TT x];refine or_congr Iff.rfl ?_;rw[iK];constructor
   .rintro⟨r,h1,rfl⟩;exact#[r,nj.mp h1,rZ]
   .rintro⟨r,h1,rfl⟩;exact#[r,nj.mpr h1,rZ]
def sub(x y:g9):Bool:=x.all λr=>y.contains r
inductive pb(d:List V)(H:Hp)(Q:VK)(c:XK):Prop|mk:∀(a b:Ad) (x y:g9),d=[.ref a,.ref b]->H a=some (.tup (x.map nv))->H b=some (.tup (y.map nv))->x.length<=5->(∀e,Same H e->Q (.bl (sub x y)) e)->pb d H Q c
def ro(a:LN)(x:g9):LN:=a.filter λu=>decide (u≠x)&&sub u x
def xK(a:LN)(u:g9):Bool:=a.any λv=>decide (v≠u)&&sub u v
def wV(a:LN)(x:g9):LN:=(ro a x).filter λu=> !xK (ro a x) u
inductive qd(d:List V)(H:Hp)(Q:VK)(b:XK):Prop|mk:∀(a l:Ad) (x:g9) (bs:As) (c:LN),d=[.ref a,.ref l]->H a=some (.tup (x.map nv))->H l=some (.lst (bs.map .ref))->TupsAt H bs c->x.length<=5->c.length<=32->(∀e,Same H e->Q (.bl (xK c x)) e)->qd d H Q b
inductive mX(T:Ad)(c:Pos)(e:List V)(H:Hp)(Q:VK)(d:XK):Prop|mk:∀(m p:Ad) (f:LN) (n:Nat) (x:g9),e=[.ref m,.ref p]->Mach H m f n->H p=some (.tup (x.map nv))->Tabs H->(∀D bs g a b,Keeps H b->Tabs b->L2.noT H D=none->b D=some (.lst (bs.map .ref))->TupsAt b bs g->FamOf f n a->g=wV a x->Q (.ref D) b)->mX T c e H Q d
def vO{H:Hp}{d:As}{b:LN}{f:g9->Bool}{i:Nat}{a:Ad}{t:g9}(T:TupsAt H d ((b.take i).filter f))(e:b[i]?=some t)(g:H a=some (.tup (t.map nv))):if f t=true then TupsAt H (d++[a]) ((b.take (i+1)).filter f)else TupsAt H d ((b.take (i+1)).filter f):=by
 have h:(b.take (i+1)).filter f=(b.take i).filter f++(if f t=true then[t]else[]):=by
  rw[ow,e,vI];cases c:f t with
  |true=>simp[c]
  |false=>simp[c]
 rw[h];cases c:f t with
 |true=>exact AK T g
 |false=>
  rw[wA (by decide),wA (by decide),mq];exact T
def JA(F:Fun K uI uI vM f fd)(g:mg "all"=none):FnOk P w K mg base iF 1 f fd [uH,sQ] pb:=by
 refine F.ok Jg (λj A c s H p Q E t h=>?_)
 obtain⟨a,b,x,y,rfl,d,k,l5,q⟩:=h;refine#[_,(iC (jh (j8 (Ld rZ) rZ g boot_all (ir (nM (CompSc.to (N:=[uH,sQ]) (osc:=hZ vM) (vs:=[uX]) {}) rZ rZ (za (pv 0)) (λ_ _ _ _=>om) (λ_ _ _ _=>(uu (OpR.k (K:=K) (λK=>DD K false) Lj rZ) (pv 0) (pv 2) (by with_unfolding_all rfl)))) im)))),?_];refine#[_,rZ,a,rZ,#[_,O' d],yM (f:=λv=>match v with|.int i=> .bl (y.contains i.toNat)|v=>v) (by rw[hJ];exact small ()) (O' d) (λv Q m q=>?_) (λl n=>?_)]
 .obtain⟨r,u,rfl⟩:=iK.mp m;refine#[_,rZ,_,rZ,b,_,rZ,.inr (O' k),rZ,LX _,?_]
  try dsimp only
  rw[yQ];exact q
 .have e:(x.map nv).map (λv=>match v with|.int i=>V.bl (y.contains i.toNat)|v=>v)=(x.map λr=>y.contains r).map V.bl:=by
   rw[mJ,mJ];rfl
  try dsimp only
  rw[e];refine#[l,_,rZ,M2 hO,?_];have o:(x.map λr=>y.contains r).all id=sub x y:=by
   unfold sub;rw[List.all_map];rfl
  try dsimp only
  rw[o];exact q _ (iq n _)
def LG(F:Fun K tW tW vA f fd)(L:iD P w K mg base uI 1 [uH,sQ] pb)(M:mg "any"=none):FnOk P w K mg base iF 3 f fd ["part",sT] qd:=by
 refine F.ok M6 (λO A n s H vs Q E r h=>?_)
 obtain⟨a,l,x,bs,j,rfl,U,t,T,l5,few,q⟩:=h;have Y:=r.units;have lb:=T.len;refine#[_,(iC (jh (j8 (GP rZ) rZ M boot_any (ir (nM (CompSc.to (N:=["part",sT]) (osc:=hZ vA) (vs:=[sQ]) {}) rZ rZ (lM (pv 1)) (λ_ _ _ _=>om) (λ_ _ _ _=>(zz (uu (OpR.k (K:=K) (λK=>nQ K true) (ya Y) rZ) (pv 0) (pv 1) (lm _)) (yw (jc L r.m rZ (iP (hX (pv 1) (hX (pv 0) iQ rZ) rZ))))))) im)))),?_];refine#[_,rZ,l,rZ,#[_,M2 t],on (xs:=bs.map .ref) (λi k m=>Same H m/\k=((j.take i).map λv=>decide (v≠x)&&sub x v).map V.bl) (by rw[hJ,iR];lia) #[Same.refl _,rZ] (λi k m hi p=>?_) (λi v k m y p=>?_) (λk m p c1 o=>?_)]
 .obtain⟨g,rfl⟩:=p;exact#[M2 (g _ _ t),by simp;lia]
 .obtain⟨g,rfl⟩:=p;rw[iB]at y;obtain⟨b,B,rfl⟩:=ju.mp y;have li:=(ik.mp B).1;obtain⟨u,C⟩:∃u,j[i]?=some u:=#[_,hV ()];have D:=g _ _ (T.is i b u B C);have G:=g _ _ U;have I:((j.take (i+1)).map λv=>decide (v≠x)&&sub x v).map V.bl=((j.take i).map λv=>decide (v≠x)&&sub x v).map V.bl++[V.bl (decide (u≠x)&&sub x u)]:=by
   rw[ow,C,kS,kS];rfl
  refine#[nq,qj ?_];refine#[_,rZ,_,rZ,b,a,0,_,_,rZ,rZ,mL (O' D),mL (O' G),by decide,λc J=>?_];by_cases e:u=x
  .have d:c=true:=J.mpr (iy.mpr e);subst d;refine#[_,rZ,lz #[g,?_]];rw[I,j9 (λz=>z e)];rfl
  .have d:c=false:=by
    cases c with
    |false=>rfl
    |true=>exact wC (iy.mp (J.mp rZ)) e
   subst d;refine#[_,rZ,lF #[_,rZ,_,rZ,a,b,x,u,rZ,G,D,l5,λH4 g4=>#[g.trans g4,?_]]];rw[I,i0 e,Ae]
 .obtain⟨g,rfl⟩:=p;rw[hJ,lb,mH];have e2:(j.map λv=>decide (v≠x)&&sub x v).any id=xK j x:=by
   unfold xK;rw[Aq];rfl
  refine#[c1,_,rZ,M2 hO,?_]
  try dsimp only
  rw[e2];exact q _ (g.trans (iq o _))
def L'{T:Ad}(F:Fun K uV uV ve f fd)(kJ:iD P w K mg base uP 14 [sA] (kv T (#[59,40,59,93]:Pos)))(jY:iD P w K mg base uI 1 [uH,sQ] pb)(kN:iD P w K mg base tW 3 ["part",sT] qd):FnOk P w K mg base iF 16 f fd [sA,sC] (mX T (#[59,40,59,93]:Pos)):=by
 refine F.ok qW (λag A ab s H vs Q E hr h=>?_)
 obtain⟨m,p,ts,n,x,rfl,M,hp,hT,q⟩:=h;have hu:=hr.units;have n5:=M.n5;refine#[_,(iz (i3 (i:=2) qW.nd rZ Z0 (nM (CompSc.to (N:=[sA,sC,"within"]) (osc:=hZ ve) (vs:=["part"]) {}) rZ rZ (lM (jc kJ hr.m rZ (ir (pv 0) im))) (λ_ _ _ _=>rB (PW.pt (Bl (mG (OpR.k (K:=K) (λK=>nQ K true) (ya hu) rZ) (pv 0) (pv 2) (lm _)) (Bq (ri (jc jY hr.m rZ (iP (hX (pv 0) (hX (pv 2) iQ rZ) rZ)))))))) (λ_ _ _ _=>(pv 0)))) (iC (jh (nM (CompSc.to (N:=[sA,sC,"within"]) (osc:=hZ ve) (vs:=["part"]) {}) rZ rZ (lM (pv 2)) (λ_ _ _ _=>rB (vu (ri (jc kN hr.m rZ (iP (hX (pv 0) (hX (pv 3) iQ rZ) rZ)))))) (λ_ _ _ _=>(pv 0)))))),?_];refine#[_,rZ,m,ts,n,rZ,M,hT,λl bs a H1 k1 T1 nl el Tf ff=>?_];have few:=ff.few M;have lb:=Tf.len;have ae:=k1 _ _ (nU hp);have l5:∀u∈a,u.length<=5:=λu h=>i5 (LR n5 (ff.inU M h)) n5;refine#[l,rZ,#[_,M2 el],on (xs:=bs.map .ref) (λi k r=>Same H1 r/\∃d,k=d.map V.ref/\d.length<=i/\TupsAt r d ((a.take i).filter λu=>decide (u≠x)&&sub u x)) (by rw[hJ,iR];lia) #[Same.refl _,[],rZ,ig _,rZ,λi b u e=>by simp at e] (λi k r hi p=>?_) (λi v k r L p=>?_) (λk H2 p O af=>?_)]
 .obtain⟨g,d,rfl,e,_⟩:=p;exact#[M2 (g _ _ el),by rw[hJ];exact e]
 .obtain⟨g,d,rfl,e,U⟩:=p;rw[iB]at L;obtain⟨b,Y,rfl⟩:=ju.mp L;have li:=(ik.mp Y).1;obtain⟨u,B⟩:∃u,a[i]?=some u:=#[_,hV ()];have C:=g _ _ (Tf.is i b u Y B);have hx:=g _ _ ae;refine#[nq,_,rZ,_,rZ,b,_,0,_,_,rZ,rZ,mL (O' C),mL (O' hx),by decide,λc hc=>#[_,rZ,?_]];by_cases ex:u=x
  .have G:c=true:=hc.mpr (iy.mpr ex);subst G;have z:=vO U B C;rw[j9 (λz=>z ex),Bool.false_and,wA (by decide)]at z;refine lz (lz #[g,d,rZ,(),z])
  .have G:c=false:=by
    cases c with
    |false=>rfl
    |true=>exact wC (iy.mp (hc.mp rZ)) ex
   subst G;refine lF #[_,rZ,_,rZ,b,_,u,x,rZ,C,hx,l5 u (iV B),λH4 I=>#[_,rZ,?_]];have z:=vO (U.same I) B (I _ _ C);rw[i0 ex,Ae]at z;cases c2:sub u x with
   |true=>
    rw[c2,wB rZ]at z;exact lF #[_,rZ,g.trans I,d++[b],by simp,by simp;exact e,z]
   |false=>
    rw[c2,wA (by decide)]at z;exact lz #[g.trans I,d,rZ,(),z]
 obtain⟨g2,d,rfl,_,U⟩:=p;rw[hJ,lb,mH]at U;have Tw:TupsAt H2 d (ro a x):=U;have kw:=iq af (.lst (d.map V.ref));have t:hA H2 O (.lst (d.map V.ref)) O=some (.lst (d.map V.ref)):=hO;have J:=Tw.same kw;have g3:=g2.trans kw;generalize hA H2 O (.lst (d.map V.ref))=H3 at kw t J g3|-;have lw:(ro a x).length<=32:=i5 (og _ _) few;have lc:=Tw.len;have aa:∀u∈ro a x,u∈a:=λu h=>(kC.mp h).1;refine#[_,rZ,O,rZ,#[_,M2 t],on (xs:=d.map .ref) (λi k r=>Same H3 r/\∃j,k=j.map V.ref/\j.length<=i/\TupsAt r j (((ro a x).take i).filter λu=> !xK (ro a x) u)) (by rw[hJ,iR];lia) #[Same.refl _,[],rZ,ig _,rZ,λi b u e=>by simp at e] (λi k r hi p=>?_) (λi v k r L p=>?_) (λk H4 p D hD=>?_)]
 .obtain⟨g,j,rfl,e,_⟩:=p;exact#[M2 (g _ _ t),by rw[hJ];exact e]
 .obtain⟨g,j,rfl,e,Td⟩:=p;rw[iB]at L;obtain⟨b,Y,rfl⟩:=ju.mp L;have li:=(ik.mp Y).1;obtain⟨u,B⟩:∃u,(ro a x)[i]?=some u:=#[_,hV ()];have C:=g _ _ (J.is i b u Y B);refine#[nq,_,rZ,_,rZ,b,O,u,d,ro a x,rZ,C,g _ _ t,J.same g,l5 u (aa u (iV B)),lw,λH5 g5=>#[_,rZ,?_]];have z:=vO (Td.same g5) B (g5 _ _ C);cases c2:xK (ro a x) u with
  |true=>
   rw[c2,wA (by decide)]at z;exact lz #[g.trans g5,j,rZ,(),z]
  |false=>
   rw[c2,wB (by decide)]at z;exact lF #[_,rZ,g.trans g5,j++[b],by simp,by simp;exact e,z]
 obtain⟨I,j,rfl,_,Td⟩:=p;rw[hJ,lc,mH]at Td;have kD:=iq hD (.lst (j.map V.ref));have gg:=g3.trans (I.trans kD);refine q D j _ a _ (k1.trans gg.keeps) (T1.same gg) ?_ hO (Td.same kD) ff rfl;cases y:L2.noT H D with
 |none=>rfl
 |some o=>
  have z:=(g3.trans I) _ _ (k1 _ _ y);rw[hD]at z;cases z
def Rch(ts:LN)(x y:g9):Prop:=∃word:g9,(∀l∈word,l<ts.length)/\ki (oO ts) x word=y
open Classical in
noncomputable def km (a:LN) (x y:g9):Bool:=decide (Rch a x y)
def iv{a:LN}{x y:g9}:km a x y=true↔Rch a x y:=by
 unfold km;exact @decide_eq_true_iff _ (Classical.propDecidable _)
def Rch.refl(ts:LN)(x:g9):Rch ts x x:=#[[],λ_ h=>(nomatch h),rZ]
def Rch.trans{ts:LN}{x y z:g9}(a:Rch ts x y)(b:Rch ts y z):Rch ts x z:=by
 obtain⟨u,c,rfl⟩:=a;obtain⟨v,d,rfl⟩:=b;refine#[u++v,λl e=>(iN.mp e).elim (c l) (d l),?_];unfold ki;rw[qk]
def Cm{a:LN}{x:g9}{b:TW}(T:Told (oO a) a.length x b)(y:g9):y∈b.map (·.1)↔Rch a x y:=by
 constructor
 .intro h;obtain⟨p,c,rfl⟩:=iK.mp h;obtain⟨d,e⟩:=T.run p c;exact#[p.2,d,e]
 .rintro⟨word,f,rfl⟩;obtain⟨u,g,_⟩:=T.least _ word rZ f;exact iK.mpr #[_,g,rZ]
abbrev WE:=Ad×TW×As
def lE(a:LN)(ys:List WE):List (List iH×V):=a3u (a.map λx=>(x,[])) (ys.map (·.1))
structure WB(H:Hp)(D:Ad)(ts:LN)(xs:LN)(ys:List WE):Prop where
 len:ys.length=xs.length
 each:∀(i:Nat) (x:g9) (y:WE),xs[i]?=some x->ys[i]?=some y->WordsAt H y.1 y.2.1 y.2.2/\Told (oO ts) ts.length x y.2.1/\y.1≠D
 nd:xs.Nodup
def WB.same{H c:Hp}{D:Ad}{d e:LN}{ys:List WE}(h:WB H D d e ys)(g:Same H c):WB c D d e ys:=#[h.len,λi x y f j=>let⟨a,b⟩:=h.each i x y f j;#[a.same g,b],h.nd]
def Kq{H b:Hp}{D:Ad}{c:TW}{d:As}(W:WordsAt H D c d)(g:Keeps H b):WordsAt b D c d:=#[W.len,g _ _ (nU W.dict),λj a p e f=>g _ _ (nU (W.list j a p e f))]
def WB.keeps{H c:Hp}{D:Ad}{d e:LN}{ys:List WE}(h:WB H D d e ys)(g:Keeps H c):WB c D d e ys:=#[h.len,λi x y f j=>let⟨a,b⟩:=h.each i x y f j;#[Kq a g,b],h.nd]
def zy{a:LN}{ys:List WE}(h:ys.length=a.length):(lE a ys).map (·.1)=a.map nk:=by
 unfold lE L2.a3u
 induction a generalizing ys with
 |nil=>rfl
 | cons x a b=>
  cases ys with
  |nil=>simp at h
  |cons y ys=>
   have z:=b (ys:=ys) (by simpa using h);simp only[List.map_cons,List.zipWith_cons_cons];rw[z]
def WB.off{H:Hp}{D:Ad}{e f:LN}{ys:List WE}{d:List (List iH×V)}{o:HO}(h:WB H D e f ys)(g:H D=some (.dT d)):WB (hA H D o) D e f ys:=by
 refine#[h.len,λi x y k m=>?_,h.nd];obtain⟨a,b,c⟩:=h.each i x y k m;refine#[#[a.len,by rw[hK c];exact a.dict,λj l p n q=>?_],b,c];have z:=a.list j l p n q;rw[hK (nE z g)];exact z
def HH(a:LN):((a.map λx=>((x,[]):g9×g9)).map (·.1))=a:=by
 rw[mJ];exact List.map_id' a
def WB.get{H:Hp}{D b:Ad}{e c:LN}{ys:List WE}{x:g9}(h:WB H D e c ys)(k:Rd H D (.dT (lE c ys)))(l:x∈c)(m:H b=some (.tup (x.map nv))):∃W f j,DGet H D (.ref b) (some (.ref W))/\WordsAt H W f j/\Told (oO e) e.length x f/\∃i:Nat,c[i]?=some x/\ys[i]?=some (W,f,j):=by
 obtain⟨i,d⟩:=kr.mp l;have n:=(ik.mp d).1;have o:=h.len;obtain⟨y,g⟩:∃y,ys[i]?=some y:=#[_,hV ()];obtain⟨a,t,_⟩:=h.each i x y d g;have v:lY (lE c ys) (nk x)=some (.ref y.1):=Dw (p:=(x,[])) (by rw[HH];exact h.nd) (by rw[iB,d];rfl) (by rw[iB,g];rfl);exact#[y.1,y.2.1,y.2.2,.inr #[_,_,b,k,rZ,by rw[nL];exact m,v.symm],a,t,i,d,g]
def Dx{H:Hp}{W c:Ad}{b:LN}{d:TW}{f:As}{x y:g9}(a:WordsAt H W d f)(t:Told (oO b) b.length x d)(g:H c=some (.tup (y.map nv))):∃o,DGet H W (.ref c) o/\o.isSome=km b x y:=by
 refine#[_,.inr #[_,nk y,c,.inl a.dict,rZ,by rw[nL];exact g,rZ],?_];by_cases m:y∈d.map (·.1)
 .rw[iv.mpr ((Cm t y).mp m)];obtain⟨p,h,rfl⟩:=iK.mp m;obtain⟨l,e,_⟩:=a.word t.keys h;rw[e];rfl
 .rw[y3 m];cases z:km b x y with
  |false=>rfl
  |true=>exact wC ((Cm t y).mpr (iv.mp z)) m
noncomputable def iY (ts a:LN) (x:g9):LN:=a.filter λy=>km ts x y&&km ts y x
noncomputable def iW (b a:LN):oA:=(a.filter λx=>(iY b a x).head? ==some x).map (iY b a)
def big(a:LN):LN:=a.filter λx=>decide (1<x.length)
inductive jb(T:Ad)(e:Pos)(h:List V)(H:Hp)(Q:VK)(f:XK):Prop|mk:∀(m:Ad) (g:LN) (n:Nat),h=[.ref m]->Mach H m g n->Tabs H->(∀D a d c,Keeps H c->Tabs c->L2.noT H D=none->FamOf g n a->c D=some (.dT (lE (big a) d))->WB c D g (big a) d->(∀y∈d,∀b∈y.2.2,L2.noT H b=none)->d.Pairwise (λp q=>∀b∈p.2.2,b∉q.2.2)->Q (.ref D) c)->jb T e h H Q f
inductive nr(d:List V)(H:Hp)(Q:VK)(c:XK):Prop|mk:∀(D p:Ad) (o:Obj) (e a:LN) (f:List WE) (x:g9),d=[.ref D,.ref p]->H D=some (.frz o (.dT (lE a f)))->WB H D e a f->H p=some (.tup (x.map nv))->x∈a->a.length<=32->(∀l bs b,Same H b->H l=none->b l=some (.lst (bs.map .ref))->TupsAt b bs (iY e a x)->Q (.ref l) b)->nr d H Q c
def IU{T:Ad}(F:Fun K sZ sZ wW f fd)(kJ:iD P w K mg base uP 14 [sA] (kv T (#[59,40,59,93]:Pos)))(jI:iD P w K mg base sM 10 [sA,sC] (iX T (#[59,40,59,93]:Pos)))(jA:mg "len"=none):FnOk P w K mg base iF 16 f fd [sA] (jb T (#[59,40,59,93]:Pos)):=by
 refine F.ok jZ (λau A ah s H vs Q E hr h=>?_)
 obtain⟨m,ts,n,rfl,M,hT,q⟩:=h;have hu:=hr.units;have ai:=pY hr;refine#[_,(iz (i3 (i:=1) jZ.nd rZ Z' Dg) (iz (pq pL rZ (lM (jc kJ hr.m rZ (ir (pv 0) im))) (mK (i:=2) jZ.nd rZ Z') (iC (mM (mG Et (j8 ou rZ jA mY (ir (pv 2) im)) iT (lm _)) (iC (xG ai (pv 1) (pv 2) (jc jI hr.m rZ (iP (hX (pv 0) (hX (pv 2) iQ rZ) rZ))) rZ)) nN))) (iC (jh (pv 1))))),?_];intro D hD;have kD:=iq hD (.dT []);refine#[_,rZ,m,ts,n,rZ,M.same kD,hT.same kD,λso fs d H1 k1 T1 av aa Tf ff=>?_];have aj:=k1 _ _ (nU (hO:hA H D (.dT []) D=_));have ak:=kD.keeps.trans k1;have lf:=Tf.len;have few:=ff.few M;have al:d.Nodup:=ff.up.imp λ{a b} z e=>by
  subst e;rw[(wy gl d).irr]at z;cases z
 have ab:=KJ hD
 let Pv:Nat->L2.St->Hp->Prop:=λi σ N=>Keeps H N/\Tabs N/\N so=some (.lst (fs.map .ref))/\TupsAt N fs d/\∃k o2,N D=some (.dT (lE (big (d.take i)) k))/\WB N D ts (big (d.take i)) k/\(∀y∈k,∀b∈y.2.2,L2.noT H b=none)/\k.Pairwise (λp q=>∀b∈p.2.2,b∉q.2.2)/\σ=[some (.ref m),some (.ref D),o2]
 refine#[so,rZ,#[_,M2 aa],vi (xs:=fs.map .ref) Pv #[ak,T1,aa,Tf,[],none,aj,#[rZ,λi x y e=>by simp[big]at e,List.nodup_nil],λ_ h=>(nomatch h),.nil,rZ] (λi σ N _ p=>M2 p.2.2.1) (λi v σ H2 hv p=>?_) (λσ H2 p=>?_)]
 .obtain⟨k2,T2,O,C,k,o2,r,B,nw,ap,rfl⟩:=p;rw[iB]at hv;obtain⟨b,eb,rfl⟩:=ju.mp hv;have li:=(ik.mp eb).1;obtain⟨x,ex⟩:∃x,d[i]?=some x:=#[_,hV ()];have hb:=C.is i b x eb ex;have mx:=iV ex;have G:big (d.take (i+1))=big (d.take i)++(if 1<x.length then[x]else[]):=by
   unfold big;rw[ow,ex,vI];by_cases c:1<x.length
   .rw[wB c];simp[c]
   .rw[wA c];simp[c]
  refine#[_,rZ,b,_,rZ,.inr (O' hb),_,_,rZ,rZ,_,rZ,p0 (λc=>?_) (λc=>?_)]
  .have c1:1<x.length:=by
    have z:=mT c;rw[hJ]at z;lia
   rw[wB c1]at G;refine#[_,rZ,_,rZ,m,b,ts,n,x,rZ,M.keeps k2,hb,ff.inU M mx,T2,λW ws as H3 k3 T3 Wd U TT=>?_];have t:=k3 _ _ (nU r);have am:=k3 _ _ (nU hb);have an:=B.keeps k3;have WD:W≠D:=λz=>by
    subst z;have z2:=U W (i7 ..);rw[nU r]at z2;cases z2
   have xn:x∉big (d.take i):=λh=>by
    have h1:=(kC.mp h).1;obtain⟨j,Y⟩:=kr.mp h1;have lj:=(ik.mp Y).1;rw[mS]at lj;rw[List.getElem?_take_of_lt ()]at Y;have:=(se () al).mp (Y.trans ex.symm)
    lia
   have vn:lY (lE (big (d.take i)) k) (nk x)=none:=y3 (by rw[HH];exact xn);have lk:(lE (big (d.take i)) k).length<sizeLine:=by
    rw[<-hJ (f:=(·.1)),zy B.len,hJ,iR];have z1:(big (d.take i)).length<=(d.take i).length:=og _ _;rw[mS]at z1;lia
   refine#[_,rZ,_,rZ,D,_,rZ,DPut.t t (by rw[nL];exact am) lk,?_];have ae:=k3 _ _ (nU O);have ao:TupsAt H3 fs d:=#[C.len,λi b u I J=>k3 _ _ (nU (C.is i b u I J))];have ek:nC (lE (big (d.take i)) k) (nk x) (.ref W)=lE (big (d.take (i+1))) (k++[(W,ws,as)]):=by
    rw[Bz _ vn,G];unfold lE;rw[kS,kS];exact(Gn (ws:=(big (d.take i)).map λx=>(x,[])) (as:=k.map (·.1)) (p:=(x,[])) (a:=W) (by simp[B.len])).symm
   have wo:=an.off (o:= .dT (lE (big (d.take (i+1))) (k++[(W,ws,as)]))) t;have Wo:WordsAt (hA H3 D (.dT (lE (big (d.take (i+1))) (k++[(W,ws,as)])))) W ws as:=#[Wd.len,by rw[hK WD];exact Wd.dict,λj l p h1 h2=>by
    have z:=Wd.list j l p h1 h2;rw[hK (nE z t)];exact z]
   rw[ek];refine#[λL o g=>?_,?_,?_,?_,k++[(W,ws,as)],_,hO,#[?_,λj x' y' I J=>?_,?_],?_,?_,rZ]
   .rw[hK λz=>?_]
    .exact(k2.trans k3) _ _ g
    .subst z;rw[ab]at g;cases g
   .exact T3.most λL u nd _ g=>by rw[hK (u0 g t λe=>nd _ e)];exact g
   .rw[hK (nE ae t)];exact ae
   .exact yT ao t λ_ e=>nomatch e
   .rw[G,jk,jk,B.len];rfl
   .rw[G]at I;have hl:=B.len;by_cases hj:j<k.length
    .rw[j5 ()]at I;rw[j5 hj]at J;exact wo.each j x' y' I J
    .rw[ku ()]at I J;have z:j-k.length=0:=by
      have:=(ik.mp J).1;simp at this;lia
     rw[<-hl,z]at I;rw[z]at J;cases I;cases J;exact#[Wo,TT,WD]
   .rw[G,yp];refine#[B.nd,by simp,λa ha c hc e=>xn ?_];rw[iE.mp hc]at e;rw[<-e];exact ha
   .intro y hy L g
    rcases iN.mp hy with h|h
    .exact nw y h L g
    .rw[iE.mp h]at g;have z:=U L (.tail _ g);cases y2:L2.noT H L with
     |none=>rfl
     |some o=>
      have z3:=k2 _ _ y2;rw[uZ z3 (vE y2).2]at z;cases z
   .rw[mR];refine#[ap,r9 _ _,λp hp q' hq L g af=>?_];rw[iE.mp hq]at af;have z:=U L (.tail _ af);obtain⟨j,Y⟩:=kr.mp hp;have lj:=(ik.mp Y).1;have hl:=B.len;obtain⟨x',aq⟩:∃x',(big (d.take i))[j]?=some x':=#[_,hV ()];obtain⟨a',_⟩:=B.each j x' p aq Y;obtain⟨j2,ag⟩:=kr.mp g;have ar:=(ik.mp ag).1;have z2:=a'.list j2 L _ ag (hV (by rw[<-a'.len];exact ar));rw[nU z2]at z;cases z
  .have c1: ¬1<x.length:=by
    have z:=of_decide_eq_false (Bool.eq_false_iff.mpr c);rw[hJ]at z;lia
   rw[wA c1,mq]at G;refine#[k2,T2,O,C,k,_,?_,?_,nw,ap,rZ]
   .rw[G];exact r
   .rw[G];exact B
 .obtain⟨k2,T2,O,C,k,o2,r,B,nw,ap,rfl⟩:=p;rw[hJ,lf,mH]at r B;exact#[_,rZ,q D d k H2 k2 T2 ab ff r B nw ap]
def Ky(F:Fun K tX tX vG f fd):FnOk P w K mg base iF 1 f fd [sJ,sC] nr:=by
 refine F.ok LP (λaa A C s H vs Q E O h=>?_)
 obtain⟨D,p,o,j,G,ys,x,rfl,k,n,T,hx,few,q⟩:=h;have hu:=O.units;have d:=pY O;refine#[_,(iC (jh (nM (CompSc.to (N:=[sJ,sC]) (osc:=hZ vG) (vs:=[sQ]) {}) rZ rZ (FE (pv 0)) (λ_ _ _ _=>rB (PW.pt (Bl (xV (AL d (pv 0) (vx d (pv 1) (pv 2) (λ_ _=>rfl)))) (Bq (xV (AL d (pv 2) (vx d (pv 1) (pv 0) (λ_ _=>rfl)))))))) (λ_ _ _ _=>(pv 0))))),?_];refine#[_,rZ,D,_,G,rZ,zy n.len,.inr #[o,k],λo' r fz=>?_];have e2:o'=o/\r=H:=by
  rcases fz with⟨e,rfl⟩|⟨e,_⟩
  .rw[k]at e;injection e with e
   injection e with e _
   exact#[e.symm,rZ]
  .rw[k]at e;cases e
 obtain⟨rfl,rfl⟩:=e2;have U:Rd r D (.dT (lE G ys)):= .inr #[_,k];refine LY (zy n.len) (λi g v=>v=r/\∃c,g=c.map V.ref/\c.length<=i/\TupsAt r c ((G.take i).filter λy=>km j x y&&km j y x)) (by rw[iR];lia) #[rZ,[],rZ,ig _,rZ,λi b u e=>by simp at e] (λi g v _ l=>?_) (λi a t g v Y I l=>?_) (λg v l c1 m=>?_)
 .obtain⟨rfl,c,rfl,e,_⟩:=l;exact#[k,by rw[hJ];exact e]
 .obtain⟨rfl,c,rfl,e,B⟩:=l;have z:=vO (f:=λy=>km j x y&&km j y x) B Y I;obtain⟨W,ws,as,dg,wa,tt,_⟩:=n.get U hx T;obtain⟨o1,d1,s1⟩:=Dx wa tt I;have ht:=iV Y;obtain⟨W2,ab,ae,J,L,M,_⟩:=n.get U ht I;obtain⟨o2,d2,s2⟩:=Dx L M T;refine#[nq,_,rZ,_,rZ,_,rZ,D,_,rZ,dg,W,o1,rZ,d1,_,rZ,?_];rw[s1];cases c1:km j x t with
  |false=>
   rw[c1,Bool.false_and,wA (by decide)]at z;exact lz (lz #[rZ,c,rZ,(),z])
  | true=>
   rw[c1,Ae]at z;refine lF #[_,rZ,_,rZ,_,rZ,D,_,rZ,J,W2,o2,rZ,d2,_,rZ,?_];rw[s2];cases c2:km j t x with
   |true=>
    rw[c2,wB rZ]at z;exact lF #[_,rZ,rZ,c++[a],by simp,by simp;exact e,z]
   |false=>
    rw[c2,wA (by decide)]at z;exact lz #[rZ,c,rZ,(),z]
 .obtain⟨rfl,c,rfl,_,B⟩:=l;rw[mH]at B;have kc:=iq m (.lst (c.map V.ref));exact q c1 c _ kc m hO (B.same kc)
structure LsAt(H:Hp)(as:As)(cs:oA):Prop where
 len:as.length=cs.length
 is:∀(i:Nat) (a:Ad) (c:LN),as[i]?=some a->cs[i]?=some c->∃bs:As,H a=some (.lst (bs.map .ref))/\TupsAt H bs c
def LsAt.same{H b:Hp}{d:As}{e:oA}(h:LsAt H d e)(g:Same H b):LsAt b d e:=#[h.len,λi a c f j=>let⟨bs,k,l⟩:=h.is i a c f j;#[bs,g _ _ k,l.same g]]
def LsAt.off{H:Hp}{l:Ad}{g:List V}{o:HO}{b:As}{d:oA}(h:LsAt H b d)(j:H l=some (.lst g))(k:l∉b):LsAt (hA H l o) b d:=#[h.len,λi a c f m=>by
 obtain⟨bs,n,p⟩:=h.is i a c f m;refine#[bs,?_,yT p j λ_ e=>nomatch e];rw[hK λ(z:a=l)=>k (by rw[<-z];exact iV f)];exact n]
def LsAt.snoc{H:Hp}{g:As}{f:oA}{a:Ad}{c:LN}{bs:As}(h:LsAt H g f)(j:H a=some (.lst (bs.map .ref)))(T:TupsAt H bs c):LsAt H (g++[a]) (f++[c]):=by
 refine#[by simp[h.len],λi b v e d=>?_];have l:=h.len;by_cases k:i<f.length
 .rw[j5 ()]at e d;exact h.is i b v e d
 .rw[ku ()]at e d;have z:i-f.length=0:=by
   have:=(ik.mp d).1;simp at this;lia
  rw[l,z]at e;rw[z]at d;cases e;cases d;exact#[bs,j,T]
def FD{ts a:LN}{x:g9}(b:x∈a):x∈iY ts a x:=kC.mpr #[b,by rw[iv.mpr (Rch.refl ts x)];rfl]
inductive mv(g:List V)(H:Hp)(Q:VK)(d:XK):Prop|mk:∀(D:Ad) (h b:LN) (e:List WE),g=[.ref D]->H D=some (.dT (lE b e))->WB H D h b e->b.length<=32->(∀l o f c,Same (hA H D (.frz o (.dT (lE b e)))) c->H l=none->c l=some (.lst (f.map .ref))->LsAt c f (iW h b)->(∀a∈f,H a=none)->Q (.ref l) c)->mv g H Q d
def Lp(F:Fun K sW sW xg f fd)(kO:iD P w K mg base tX 1 [sJ,sC] nr):FnOk P w K mg base iF 3 f fd [sJ] mv:=by
 refine F.ok jQ (λaj A aa s H vs Q E hr h=>?_)
 obtain⟨D,g,d,v,rfl,hD,wb,few,q⟩:=h;have hu:=hr.units;have ak:=pY hr;refine#[_,(iz (i3 (i:=1) jQ.nd rZ Z' (nX im)) (iz (pq pL rZ (FE (pv 0)) (mK (i:=2) jQ.nd rZ Z') (iz (i3 (i:=3) jQ.nd rZ Z' (jc kO hr.m rZ (iP (hX (pv 0) (hX (pv 2) iQ rZ) rZ)))) (iC (mM (mG (v8 hu) (kg pk (pv 3) iT (λ_ _=>rfl)) (pv 2) (lm _)) (iC (pP (vy ui xA xY xC (pv 1) (ir (pv 3) im)))) nN)))) (iC (jh (pv 1))))),?_];refine#[by show 0<=sizeLine;decide,λj m=>?_];have kf:=iq m (.lst []);have L:=kf _ _ hD;have M:j≠D:=(jf hD m).symm;refine#[_,rZ,D,_,d,rZ,zy wb.len,.inl L,λo H2 fz=>?_];have e2:H2=hA (hA H j (.lst [])) D (.frz o (.dT (lE d v))):=by
  rcases fz with⟨e,_⟩|⟨_,e⟩
  .rw[L]at e;cases e
  .exact e
 have gz:Same (hA H D (.frz o (.dT (lE d v)))) H2:=λb u I=>by
  rw[e2];by_cases z:b=D
  .subst z;rw[hO]at I|-;exact I
  .rw[hK z]at I|-;exact kf _ _ I
 have wz:WB (hA H D (.frz o (.dT (lE d v)))) D g d v:=wb.off hD;have ab:H2 j=some (.lst []):=by rw[e2,hK M,hO]
 have ae:hA H D (.frz o (.dT (lE d v))) j=none:=by rw[hK M];exact m
 clear e2 fz
 let Pv:Nat->L2.St->Hp->Prop:=λi O T=>Same (hA H D (.frz o (.dT (lE d v)))) T/\∃k o2 o3,T j=some (.lst (k.map .ref))/\j∉k/\(∀a∈k,H a=none)/\k.length<=i/\LsAt T k (((d.take i).filter λx=>(iY g d x).head? ==some x).map (iY g d))/\O=[some (.ref D),some (.ref j),o2,o3]
 refine KQ (zy wb.len) Pv #[gz,[],none,none,ab,by simp,(λ_ h=>nomatch h),Nat.le_refl _,#[rZ,λi a c e=>by simp at e],rZ] (λi O T _ p=>p.1 _ _ hO) (λi a x O H3 ex U p=>?_) (λO H3 p=>?_)
 .obtain⟨B,k,o2,o3,n,C,r,af,N,rfl⟩:=p;have mx:=iV ex;refine#[_,rZ,_,rZ,D,a,o,g,d,v,x,rZ,B _ _ hO,wz.same B,U,mx,few,λl bs H4 J nl el Tl=>?_];have lb:=Tl.len;have self:=FD (ts:=g) mx;obtain⟨y,rest,Y⟩:∃y rest,iY g d x=y::rest:=by
   cases z:iY g d x with
   |nil=>rw[z]at self;cases self
   |cons y rest=>exact#[y,rest,rZ]
  have b1:0<bs.length:=by
   rw[lb,Y];simp
  obtain⟨b,eb⟩:∃b,bs[0]?=some b:=#[_,hV b1];have I:H4 b=some (.tup (y.map nv)):=Tl.is 0 b y eb (by rw[Y];rfl);have ag:oC (bs.map V.ref) ((0:Nat):Int)=some (.ref b):=r6 (by rw[iB,eb];rfl);have nx:((d.take (i+1)).filter λx=>(iY g d x).head? ==some x).map (iY g d)=((d.take i).filter λx=>(iY g d x).head? ==some x).map (iY g d)++(if y=x then[iY g d x]else[]):=by
   rw[ow,ex,vI,kS];by_cases c:y=x
   .rw[wB c];simp[Y,c]
   .rw[wA c];simp[Y,c]
  refine#[_,rZ,l,_,_,_,rZ,rZ,M2 el,ag,_,rZ,b,a,0,_,_,rZ,rZ,mL (O' I),mL (O' (J _ _ U)),by decide,λc hc=>#[_,rZ,?_]];have t:=J _ _ n;have ah:l≠j:=(jf n nl).symm;have ai:H l=none:=by
   cases z:H l with
   |none=>rfl
   | some u=>
    by_cases e:l=D
    .have z2:=B _ _ (hO (H:=H) (a:=D) (o:= .frz o (.dT (lE d v))));rw[<-e,nl]at z2;cases z2
    .have z2:=B l u (by rw[hK e];exact z);rw[nl]at z2;cases z2
  by_cases e:y=x
  .have G:c=true:=hc.mpr (iy.mpr e);subst G;rw[wB e]at nx;refine lF #[_,rZ,.inl #[rZ,_,M2 t],_,rZ,j,_,_,rZ,rZ,t,by rw[hJ,iR];have:=(ik.mp ex).1;lia,?_];have L4:=(N.same J).snoc el Tl;have na:j∉k++[l]:=λz=>(iN.mp z).elim C λz=>ah (iE.mp z).symm
   refine#[oU (B.trans J) ae,k++[l],_,_,by rw[hO,kS];rfl,na,(λa U=>(iN.mp U).elim (r a) λz=>by rw[iE.mp z];exact ai),by rw[jk];simp;lia,?_,rZ];rw[nx];exact L4.off t na
  .have G:c=false:=by
    cases c with
    |false=>rfl
    |true=>exact wC (iy.mp (hc.mp rZ)) e
   subst G;rw[wA e,mq]at nx;refine lz #[B.trans J,k,_,_,t,C,r,(),?_,rZ];rw[nx];exact N.same J
 .obtain⟨B,k,o2,o3,n,C,r,af,N,rfl⟩:=p;rw[mH]at N;exact#[_,rZ,q j o k H3 B m n N r]
noncomputable def jd (a:LN) (b:oA) (c:LN):Bool:=b.any λd=>decide (d≠c)&&km a (d.headD []) (c.headD [])
def xk{K:O0}{H:Hp}{a:Ad}{bs:As}{c:LN}{n:Nat}(f:H a=some (.lst (bs.map .ref)))(T:TupsAt H bs c):Rep K H (n+2) (.lst (c.map λu=> .tup (ra u))) (.ref a):=by
 refine .lst (M2 f) (by rw[hJ,hJ,T.len]) λi d v b e=>?_;rw[iB]at b e;obtain⟨p,g,rfl⟩:=ju.mp b;obtain⟨a,h,rfl⟩:=ju.mp e;exact mL (O' (T.is i a p h g))
def BH{H:Hp}{bs:As}{c:LN}(T:TupsAt H bs c)(d:c≠[]):∃b,oC (bs.map V.ref) 0=some (.ref b)/\H b=some (.tup ((c.headD []).map nv))/\c.headD []∈c:=by
 have e:=T.len;obtain⟨y,rest,f⟩:∃y rest,c=y::rest:=by
  cases c with
  |nil=>exact wC rZ d
  |cons y rest=>exact#[y,rest,rZ]
 subst f;obtain⟨b,a⟩:∃b,bs[0]?=some b:=#[_,hV (by rw[e];simp)];have z:oC (bs.map V.ref) ((0:Nat):Int)=some (.ref b):=r6 (by rw[iB,a];rfl);exact#[b,z,T.is 0 b y a rZ,i7 ..]
inductive m6(g:List V)(H:Hp)(Q:VK)(e:XK):Prop|mk:∀(D a l:Ad) (h f:LN) (i:List WE) (c:LN) (b:oA) (bs j:As),g=[.ref D,.ref a,.ref l]->Rd H D (.dT (lE f i))->WB H D h f i->H a=some (.lst (bs.map .ref))->TupsAt H bs c->H l=some (.lst (j.map .ref))->LsAt H j b->c≠[]->(∀d∈b,d≠[]/\∀x∈d,x∈f)->b.length<=32->(∀k,Same H k->Q (.bl (jd h b c)) k)->m6 g H Q e
def Nr(F:Fun K uE uE vo f fd)(qQ:mg "any"=none):FnOk P w K mg base iF 1 f fd [sJ,sT,tG] m6:=by
 refine F.ok Lk (λaa A r s H vs Q E M h=>?_)
 obtain⟨D,a,l,j,xs,ys,c,k,bs,as,rfl,rd,wb,O,T,U,L,cne,t,few,q⟩:=h;have hu:=M.units;have m:=pY M;have la:=L.len;obtain⟨b0,u,x,_⟩:=BH T cne;refine#[_,(iC (jh (j8 (GP rZ) rZ qQ boot_any (ir (nM (CompSc.to (N:=[sJ,sT,tG]) (osc:=hZ vo) (vs:=[sQ]) {}) rZ rZ (lM (pv 2)) (λ_ _ _ _=>om) (λ_ _ _ _=>(zz (uu (OpR.k (K:=K) (λK=>nQ K true) (ya hu) rZ) (pv 0) (pv 2) (lm _)) (yw (LH (AL m (kg (IxR.k (K:=K) oK pk rZ) (pv 2) iT (λ_ _=>rfl)) (vx m (pv 1) (kg (IxR.k (K:=K) oK pk rZ) (pv 0) iT (λ_ _=>rfl)) (λ_ _=>rfl)))))))) im)))),?_];refine#[_,rZ,l,rZ,#[_,M2 U],on (xs:=as.map .ref) (λi b n=>n=H/\b=((k.take i).map λd=>decide (d≠c)&&km j (d.headD []) (c.headD [])).map V.bl) (by rw[hJ,iR];lia) #[rZ,rZ] (λi b n hi p=>?_) (λi v b n Y p=>?_) (λb n p c1 y=>?_)]
 .obtain⟨rfl,rfl⟩:=p;exact#[M2 U,by simp;lia]
 .obtain⟨rfl,rfl⟩:=p;rw[iB]at Y;obtain⟨e,ee,rfl⟩:=ju.mp Y;have li:=(ik.mp ee).1;obtain⟨d,B⟩:∃d,k[i]?=some d:=#[_,hV ()];obtain⟨ds,he,Td⟩:=L.is i e d ee B;obtain⟨C,dx⟩:=t d (iV B);obtain⟨b1,G,I,m1⟩:=BH Td C;have nx:((k.take (i+1)).map λd=>decide (d≠c)&&km j (d.headD []) (c.headD [])).map V.bl=((k.take i).map λd=>decide (d≠c)&&km j (d.headD []) (c.headD [])).map V.bl++[V.bl (decide (d≠c)&&km j (d.headD []) (c.headD []))]:=by
   rw[ow,B,kS,kS];rfl
  refine#[nq,qj ?_];refine#[_,rZ,_,rZ,e,a,1,_,_,rZ,rZ,xk he Td,xk O T,by decide,λJ hc=>?_];by_cases o:d=c
  .have g:J=true:=hc.mpr (by rw[o]);subst g;refine#[_,rZ,lz #[rZ,?_]];rw[nx,j9 (λz=>z o)];rfl
  .have g:J=false:=by
    cases J with
    |false=>rfl
    |true=>exact wC (Gi (hc.mp rZ)) o
   subst g;obtain⟨W,ws,wa,dg,wt,tt,_⟩:=wb.get rd (dx _ m1) I;obtain⟨o1,d1,s1⟩:=Dx wt tt x;refine#[_,rZ,lF #[_,rZ,a,_,_,_,rZ,rZ,M2 O,u,_,rZ,_,rZ,e,_,_,_,rZ,rZ,M2 he,G,D,_,rZ,dg,W,o1,rZ,d1,rZ,?_]];rw[nx,i0 o,Ae,s1]
 .obtain⟨rfl,rfl⟩:=p;rw[hJ,la,mH];have e2:(k.map λd=>decide (d≠c)&&km j (d.headD []) (c.headD [])).any id=jd j k c:=by
   unfold jd;rw[Aq];rfl
  refine#[c1,_,rZ,M2 hO,?_]
  try dsimp only
  rw[e2];exact q _ (iq y _)
inductive Ord (ts:LN):oA->List LN->Prop
 |nil:Ord ts [] []
 |cons {cs told:oA} {s:LN} (h:(cs.filter λc=> !jd ts cs c).head?=some s) (r:Ord ts (cs.filter λc=>decide (c≠s)) told):Ord ts cs (s::told)
def At(a:LN)(b:oA):Prop:=∀c∈b,∀d∈b,km a (c.headD []) (d.headD [])=true->km a (d.headD []) (c.headD [])=true->c=d
def GY{a:Type}{xs:List a}{p q:a->Bool}(h:∀z∈xs,p z=true->q z=true)(e:∃z∈xs,q z=true/\p z=false):xs.countP p<xs.countP q:=by
 induction xs with
 |nil=>
  obtain⟨z,hz,_⟩:=e;cases hz
 | cons x xs d=>
  rw[A8,A8];have mono:xs.countP p<=xs.countP q:=List.countP_mono_left λz hz f=>h z (.tail _ hz) f;obtain⟨z,hz,b,c⟩:=e
  rcases iM.mp hz with rfl|hz
  .rw[b,c];simp;lia
  .have:=d (λz hz=>h z (.tail _ hz)) #[z,hz,b,c];have g:=h x (i7 ..);cases c1:p x with
   |true=>
    rw[g c1];simp;lia
   |false=>
    simp;split<;>lia
theorem HF{a:LN}{b:oA}(un:At a b):∀(k:Nat) (s:LN),s∈b->b.countP (λt=>km a (t.headD []) (s.headD []))<=k->∃s∈b,jd a b s=false
 |0,s,e,h=>by
  have z:0<b.countP (λt=>km a (t.headD []) (s.headD [])):=List.countP_pos_iff.mpr #[s,e,iv.mpr (Rch.refl a _)];lia
 | k+1,s,e,h=>by
  cases c:jd a b s with
  |false=>exact#[s,e,c]
  | true=>
   obtain⟨d,f,g⟩:=List.any_eq_true.mp c;rw[tA,xS]at g;obtain⟨i,r⟩:=g;have lt:=GY (xs:=b) (p:=λt=>km a (t.headD []) (d.headD [])) (q:=λt=>km a (t.headD []) (s.headD [])) (λz _ j=>iv.mpr ((iv.mp j).trans (iv.mp r))) #[s,e,iv.mpr (Rch.refl a _),by
    cases z:km a (s.headD []) (d.headD [])with
    |false=>rfl
    |true=>exact wC (un d f s e r z) i]
   exact HF un k d f ()
def Gp{H:Hp}{d as:As}{b:oA}{f:LN->Bool}{i:Nat}{a:Ad}{c:LN}(L:LsAt H d ((b.take i).filter f))(g:b[i]?=some c){bs:As}(h:H a=some (.lst (bs.map .ref)))(T:TupsAt H bs c):if f c=true then LsAt H (d++[a]) ((b.take (i+1)).filter f)else LsAt H d ((b.take (i+1)).filter f):=by
 have e:(b.take (i+1)).filter f=(b.take i).filter f++(if f c=true then[c]else[]):=by
  rw[ow,g,vI];cases z:f c with
  |true=>simp[z]
  |false=>simp[z]
 by_cases z:f c=true
 .rw[wB z,e,wB z];exact L.snoc h T
 .rw[wA z,e,wA z,mq];exact L
inductive ko(j:List V)(H:Hp)(Q:VK)(f:XK):Prop|mk:∀(D l:Ad) (g h:LN) (k:List WE) (c:oA) (i:As),j=[.ref D,.ref l]->Rd H D (.dT (lE h k))->WB H D g h k->H l=some (.lst (i.map .ref))->LsAt H i c->(∀d∈c,d≠[]/\∀x∈d,x∈h)->At g c->c.length<=32->(∀l2 b told e,Same H e->H l2=none->e l2=some (.lst (b.map .ref))->LsAt e b told->Ord g c told->told.length<=32->(∀d∈told,d∈c)->(∀a∈b,a∈i)->Q (.ref l2) e)->ko j H Q f
def EN{H b:Hp}{a:Ad}{u:HO}(h:Rd H a u)(g:Same H b):Rd b a u:=h.elim (λe=> .inl (g _ _ e)) λ⟨o,e⟩=> .inr #[o,g _ _ e]
def JB(F:Fun K sS sS uf f fd)(kW:iD P w K mg base uE 1 [sJ,sT,tG] m6):FnOk P w K mg base iF 3 f fd [sJ,tG] ko:=by
 refine F.ok jO (λaT A aJ s H vs Q E hr h=>?_)
 obtain⟨D,l0,M,xs,ys,aa,ab,rfl,rd,wb,av,L0,aK,un,few,q⟩:=h;have hu:=hr.units;have aU:=pY hr;refine#[_,(iz (i3 (i:=2) jO.nd rZ Z' (nX im)) (iz (Bm pL (De (pv 1) (λ_=>rfl)) (iz (i3 (i:=3) jO.nd rZ Z0 (nM (CompSc.to (N:=[sJ,tG,"told","free"]) (osc:=hZ uf) (vs:=[sT]) {}) rZ rZ (lM (pv 1)) (λ_ _ _ _=>rB (vu (ri (jc kW hr.m rZ (iP (hX (pv 1) (hX (pv 0) (hX (pv 2) iQ rZ) rZ) rZ)))))) (λ_ _ _ _=>(pv 0)))) (iz (pP (vy ui xA xY xC (pv 2) (ir (kg pk (pv 3) iT (λ_ _=>rfl)) im))) (iC (i3 (i:=1) jO.nd rZ Z0 (nM (CompSc.to (N:=[sJ,tG,"told","free"]) (osc:=hZ uf) (vs:=[sT]) {}) rZ rZ (lM (pv 1)) (λ_ _ _ _=>rB (mG (OpR.k (K:=K) (λK=>nQ K true) (ya hu) rZ) (pv 0) (kg (IxR.k (K:=K) oK pk rZ) (pv 4) iT (λ_ _=>rfl)) (lm _))) (λ_ _ _ _=>(pv 0)))))))) (iC (jh (pv 2))))),?_];refine#[by show 0<=sizeLine;decide,λt O=>?_];have kf:=iq O (.lst []);have aw:t∉ab:=λz=>by
  obtain⟨j,ej⟩:=kr.mp z;have lj:=(ik.mp ej).1;obtain⟨bs,e,_⟩:=L0.is j t _ ej (hV (by rw[<-L0.len];exact lj));rw[O]at e;cases e
 let Wv:Nat->L2.St->Hp->Prop:=λm σ C=>Same H C/\∃l B n k told o3,C l=some (.lst (B.map .ref))/\LsAt C B n/\l≠t/\t∉B/\(∀c∈n,c∈aa)/\C t=some (.lst (k.map .ref))/\LsAt C k told/\t∉k/\(∀c∈told,c∈aa)/\told.length+n.length<=32/\(∀a∈B,a∈ab)/\(∀a∈k,a∈ab)/\(∀rest,Ord M n rest->Ord M aa (told++rest))/\m=n.length/\σ=[some (.ref D),some (.ref l),some (.ref t),o3]
 refine#[Wv,#[_,kf,l0,ab,aa,[],[],none,kf _ _ av,L0.same kf,jf av O,aw,λc h=>h,hO,#[rZ,λi a c e=>by simp at e],by simp,λc h=>(nomatch h),by simpa using few,(λ_ h=>h),(λ_ h=>nomatch h),λrest h=>h,rZ,rZ],λm σ H1 p=>?_];obtain⟨g1,l,B,n,k,told,o3,el,L,aL,ak,G,al,am,aM,ag,aV,ia,ax,ah,hm,rfl⟩:=p;have la:=L.len;have aW:=am.len;refine#[_,rZ,!(B.map V.ref).isEmpty,.inl #[_,M2 el,rZ],?_];by_cases an:n=[]
 .subst an;have e:B=[]:=sm.mp la;subst e;rw[wA (by simp)];have od:=ah [] .nil;rw[mq]at od;exact#[_,rZ,q t k told H1 g1 O al am od () ag ax]
 have ne:B≠[]:=λz=>an (sm.mp (by rw[<-la,z];rfl));have c1:(!(B.map V.ref).isEmpty)=true:=by
  cases B with
  |nil=>exact wC rZ ne
  |cons=>rfl
 rw[c1];refine lF ?_;refine#[λay C=>∃m',m'<m/\Wv m' ay C,λay C h=>h,?_];have ai:∀d∈n,d≠[]/\∀x∈d,x∈xs:=λd hd=>aK d (G d hd);have aN:At M n:=λc hc d hd=>un c (G c hc) d (G d hd);have aO:=wb.same g1;have aP:=EN rd g1;refine#[_,rZ,l,rZ,#[_,M2 el],on (xs:=B.map .ref) (λi u C=>Same H1 C/\∃r,u=r.map V.ref/\r.length<=i/\(∀e∈r,e∈B)/\LsAt C r ((n.take i).filter λc=> !jd M n c)) (by rw[hJ,iR];lia) #[Same.refl _,[],rZ,ig _,λ_ h=>(nomatch h),#[rZ,λi a c e=>by simp at e]] (λi u C hi p=>?_) (λi v u C hv p=>?_) (λu H2 p fr ao=>?_)]
 .obtain⟨g,r,rfl,e,_⟩:=p;exact#[M2 (g _ _ el),by rw[hJ];exact e]
 .obtain⟨g,r,rfl,e,sb,Le⟩:=p;rw[iB]at hv;obtain⟨a,ea,rfl⟩:=ju.mp hv;have li:=(ik.mp ea).1;obtain⟨c,ec⟩:∃c,n[i]?=some c:=#[_,hV ()];obtain⟨bs,ha,Ta⟩:=(L.same g).is i a c ea ec;have mc:=iV ec;refine#[nq,_,rZ,_,rZ,_,rZ,D,a,l,M,xs,ys,c,n,bs,B,rZ,EN aP g,aO.same g,ha,Ta,g _ _ el,L.same g,(ai c mc).1,ai,(),λH4 g4=>#[_,rZ,?_]];have z:=Gp (as:=B) (f:=λc=> !jd M n c) (Le.same g4) ec (g4 _ _ ha) (Ta.same g4);cases c2:jd M n c with
  |false=>
   rw[c2,wB (show(!false)=true from rfl)]at z;refine lF #[_,rZ,g.trans g4,r++[a],by simp,by simp;exact e,λe' he=>?_,z];exact(iN.mp he).elim (sb e') λh=>by rw[iE.mp h];exact iV ea
  |true=>
   rw[c2,wA (by decide)]at z;exact lz #[g.trans g4,r,rZ,(),sb,z]
 obtain⟨g2,r,rfl,_,sb,Le⟩:=p;rw[hJ,la,mH]at Le;have k3:=iq ao (.lst (r.map V.ref));have ap:hA H2 fr (.lst (r.map V.ref)) fr=some (.lst (r.map V.ref)):=hO;have az:fr≠t:=(jf (g2 _ _ al) ao).symm;have aX:fr≠l:=(jf (g2 _ _ el) ao).symm;have J:=g2.trans k3;have aq:=Le.same k3;generalize hA H2 fr (.lst (r.map V.ref))=H3 at k3 ap J aq|-;obtain⟨s0,aQ,aR⟩:∃s∈n,jd M n s=false:=by
  cases n with
  |nil=>exact wC rZ an
  |cons c n=>exact HF aN _ c (i7 ..) (ig _)
 have mf:s0∈n.filter λc=> !jd M n c:=kC.mpr #[aQ,by rw[aR];rfl];obtain⟨s,hs⟩:∃s,(n.filter λc=> !jd M n c).head?=some s:=by
  cases z:n.filter λc=> !jd M n c with
  |nil=>rw[z]at mf;cases mf
  |cons y ys=>exact#[y,rZ]
 have ms:s∈n:=(kC.mp (List.mem_of_mem_head? hs)).1;have aA:(n.filter λc=> !jd M n c)[0]?=some s:=by rw[<-List.head?_eq_getElem?];exact hs
 have le:=aq.len;obtain⟨a,ea⟩:∃a,r[0]?=some a:=#[_,hV (by rw[le];exact(ik.mp aA).1)];have aB:oC (r.map V.ref) ((0:Nat):Int)=some (.ref a):=r6 (by rw[iB,ea];rfl);obtain⟨bs,ha,Ta⟩:=aq.is 0 a s ea aA;have aC:=sb a (iV ea);have aD:a≠t:=λz=>ak (z▸aC);have I:=J _ _ al;refine#[_,rZ,.inl #[rZ,_,M2 I],_,rZ,fr,_,_,_,rZ,rZ,M2 ap,aB,t,_,_,rZ,rZ,I,by rw[hJ,iR];lia,?_];have g4:Same H (hA H3 t (.lst (k.map V.ref++[.ref a]))):=oU (g1.trans J) O;have aE:t∉k++[a]:=λz=>(iN.mp z).elim aM λz=>aD (iE.mp z).symm;have L4:=((am.same J).snoc ha Ta).off (o:= .lst (k.map V.ref++[.ref a])) I aE;have aF:=(L.same J).off (o:= .lst (k.map V.ref++[.ref a])) I ak;have T:hA H3 t (.lst (k.map V.ref++[.ref a])) t=some (.lst ((k++[a]).map V.ref)):=by rw[hO,kS];rfl
 have ar:hA H3 t (.lst (k.map V.ref++[.ref a])) l=some (.lst (B.map V.ref)):=by
  rw[hK aL];exact J _ _ el
 have aj:hA H3 t (.lst (k.map V.ref++[.ref a])) fr=some (.lst (r.map V.ref)):=by
  rw[hK az];exact ap
 have aG:hA H3 t (.lst (k.map V.ref++[.ref a])) a=some (.lst (bs.map V.ref)):=by
  rw[hK aD];exact ha
 have aH:TupsAt (hA H3 t (.lst (k.map V.ref++[.ref a]))) bs s:=yT Ta I λ_ e=>nomatch e;generalize hA H3 t (.lst (k.map V.ref++[.ref a]))=H4 at g4 L4 aF T ar aj aG aH|-;refine#[_,rZ,l,rZ,#[_,M2 ar],on (xs:=B.map .ref) (λi u C=>C=H4/\∃r,u=r.map V.ref/\r.length<=i/\(∀e∈r,e∈B)/\LsAt H4 r ((n.take i).filter λc=>decide (c≠s))) (by rw[hJ,iR];lia) #[rZ,[],rZ,ig _,λ_ h=>(nomatch h),#[rZ,λi a c e=>by simp at e]] (λi u C hi p=>?_) (λi v u C hv p=>?_) (λu H5 p wl aI=>?_)]
 .obtain⟨rfl,r,rfl,e,_⟩:=p;exact#[M2 ar,by rw[hJ];exact e]
 .obtain⟨rfl,U,rfl,e,Y,ae⟩:=p;rw[iB]at hv;obtain⟨b,eb,rfl⟩:=ju.mp hv;have li:=(ik.mp eb).1;obtain⟨c,ec⟩:∃c,n[i]?=some c:=#[_,hV ()];obtain⟨ds,hb,Tb⟩:=aF.is i b c eb ec;have z:=Gp (as:=B) (f:=λc=>decide (c≠s)) ae ec hb Tb;refine#[nq,_,rZ,_,rZ,fr,_,_,_,rZ,rZ,M2 aj,aB,b,a,1,_,_,rZ,rZ,xk hb Tb,xk aG aH,by decide,λcc hc=>#[_,rZ,?_]];by_cases af:c=s
  .have au:cc=true:=hc.mpr (by rw[af]);subst au;rw[j9 (λz=>z af),wA (by decide)]at z;exact lz #[rZ,U,rZ,(),Y,z]
  .have au:cc=false:=by
    cases cc with
    |false=>rfl
    |true=>exact wC (Gi (hc.mp rZ)) af
   subst au;rw[i0 af,wB rZ]at z;refine lF #[_,rZ,rZ,U++[b],by simp,by simp;exact e,λe' he=>?_,z];exact(iN.mp he).elim (Y e') λh=>by rw[iE.mp h];exact iV eb
 obtain⟨rfl,U,rfl,_,Y,ae⟩:=p;rw[hJ,la,mH]at ae;have k5:=iq aI (.lst (U.map V.ref));have less:(n.filter λc=>decide (c≠s)).length<n.length:=by
  rw[<-List.countP_eq_length_filter];have z:=GY (xs:=n) (p:=λc=>decide (c≠s)) (q:=λ_=>true) (λ_ _ _=>rfl) #[s,ms,rZ,j9 λz=>z rZ];rw[List.countP_true]at z;exact z
 refine#[(n.filter λc=>decide (c≠s)).length,(),g4.trans k5,wl,U,n.filter λc=>decide (c≠s),k++[a],told++[s],_,hO,ae.same k5,(jf T aI).symm,λz=>ak (Y _ z),λc hc=>G c (kC.mp hc).1,k5 _ _ T,L4.same k5,aE,λc hc=>(iN.mp hc).elim (ag c) λh=>by rw[iE.mp h];exact G s ms,by rw[jk];simp only[List.length_singleton];lia,(λb hb=>ia b (Y b hb)),(λb hb=>(List.mem_append.mp hb).elim (ax b) λz=>by rw[List.mem_singleton.mp z];exact ia a aC),λrest aS=>?_,rZ,rZ];rw[mD];exact ah _ (.cons hs aS)
def Ow{H b:Hp}{a:Ad}{u:HO}(h:Rd H a u)(c:∀d,u≠ .tbl d)(g:Keeps H b):Rd b a u:=h.elim (λe=> .inl (g _ _ (uZ e c))) λ⟨o,e⟩=> .inr #[o,g _ _ (nU e)]
def vf{H a:Hp}{bs:As}{c:LN}(T:TupsAt H bs c)(g:Keeps H a):TupsAt a bs c:=#[T.len,λi b u d e=>g _ _ (nU (T.is i b u d e))]
def LsAt.keeps{H b:Hp}{d:As}{e:oA}(h:LsAt H d e)(g:Keeps H b):LsAt b d e:=#[h.len,λi a c f j=>let⟨bs,k,l⟩:=h.is i a c f j;#[bs,g _ _ (nU k),vf l g]]
def WB.off2{H:Hp}{D l:Ad}{d e:LN}{ys:List WE}{m:List V}{o:HO}(h:WB H D d e ys)(n:H l=some (.lst m))(q:∀y∈ys,l∉y.2.2):WB (hA H l o) D d e ys:=by
 refine#[h.len,λi x y r f=>?_,h.nd];obtain⟨a,b,c⟩:=h.each i x y r f;refine#[#[a.len,by rw[hK (nE a.dict n)];exact a.dict,λj g p k s=>?_],b,c];rw[hK λ(z:g=l)=>q y (iV f) (by rw[<-z];exact iV k)];exact a.list j g p k s
def vd{ts b:LN}{c:LN}(h:c∈iW ts b):c≠[]/\c=iY ts b (c.headD [])/\c.headD []∈b/\∀x∈c,x∈b/\Rch ts (c.headD []) x/\Rch ts x (c.headD []):=by
 obtain⟨x,g,rfl⟩:=iK.mp h;obtain⟨f,i⟩:=kC.mp g;have e:(iY ts b x).headD []=x:=by
  have z:(iY ts b x).head?=some x:=eq_of_beq i;cases y:iY ts b x with
  |nil=>rw[y]at z;cases z
  |cons a l=>
   rw[y]at z;injection z with z
 refine#[λz=>?_,by rw[e],by rw[e];exact f,λy j=>?_]
 .have s:=FD (ts:=ts) f;rw[z]at s;cases s
 .obtain⟨k,d⟩:=kC.mp j;rw[tA]at d;rw[e];exact#[k,iv.mp d.1,iv.mp d.2]
def NT(e i:LN):At e (iW e i):=λc j d k f g=>by
 obtain⟨_,l,_⟩:=vd j;obtain⟨_,m,_⟩:=vd k;rw[l,m];generalize c.headD []=x at f g;generalize d.headD []=y at f g;refine List.filter_congr λz _=>?_;have go:∀{x y:g9},km e x y=true->km e y x=true->(km e x z&&km e z x)=true->(km e y z&&km e z y)=true:=λ{x y} a b h=>by
  rw[tA]at h|-;exact#[iv.mpr ((iv.mp b).trans (iv.mp h.1)),iv.mpr ((iv.mp h.2).trans (iv.mp a))]
 rw[px];exact#[go f g,go g f]
def LevAt(H:Hp)(l:Ad)(f e:LN)(h:LN)(j:List WE)(a:Ad)(c:LN):Prop:=∃(s t v:Ad) (bs g d:As) (i:Nat) (y:WE),H a=some (.tup [.ref s,.ref t,.ref v])/\s≠l/\t≠l/\v≠l/\l∉d/\H s=some (.lst (bs.map .ref))/\TupsAt H bs c/\H t=some (.lst (g.map .ref))/\TupsAt H g (wV e (c.headD []))/\H v=some (.lst (d.map .ref))/\d.length=c.length/\h[i]?=some (c.headD [])/\j[i]?=some y/\Told (oO f) f.length (c.headD []) y.2.1/\
 (∀b∈d,b∈y.2.2)/\∀(k:Nat) (x:g9) (b:Ad),c[k]?=some x->d[k]?=some b->∃word,(x,word)∈y.2.1/\H b=some (.lst (word.map nv))
def LevAt.keeps{H q:Hp}{l:Ad}{r d u:LN}{ys:List WE}{a:Ad}{c:LN}(h:LevAt H l r d u ys a c)(g:Keeps H q):LevAt q l r d u ys a c:=by
 obtain⟨s,t,v,bs,w,z,i,y,A,B,C,D,E,G,I,J,L,e,f,j,m,n,o,p⟩:=h;refine#[s,t,v,bs,w,z,i,y,g _ _ (nU A),B,C,D,E,g _ _ (nU G),vf I g,g _ _ (nU J),vf L g,g _ _ (nU e),f,j,m,n,o,λk x b M N=>?_];obtain⟨word,z1,z2⟩:=p k x b M N;exact#[word,z1,g _ _ (nU z2)]
def LevAt.off{H:Hp}{l:Ad}{u d w:LN}{A:List WE}{a:Ad}{c:LN}{J:List V}{o:HO}(h:LevAt H l u d w A a c)(f:H l=some (.lst J)):LevAt (hA H l o) l u d w A a c:=by
 obtain⟨s,t,v,bs,L,M,i,y,B,C,D,E,G,N,O,Q,T,g,j,m,n,p,q,r⟩:=h;refine#[s,t,v,bs,L,M,i,y,by rw[hK (nE B f)];exact B,C,D,E,G,by rw[hK C];exact N,yT O f (λ_ e=>nomatch e),by rw[hK D];exact Q,yT T f (λ_ e=>nomatch e),by rw[hK E];exact g,j,m,n,p,q,λk x b U I=>?_];obtain⟨word,z1,z2⟩:=r k x b U I;refine#[word,z1,?_];rw[hK λ(z:b=l)=>G (by rw[<-z];exact iV I)];exact z2
structure LevsAt(H:Hp)(l:Ad)(ts fam xs:LN)(ys:List WE)(as:As)(told:oA):Prop where
 len:as.length=told.length
 is:∀(i:Nat) (a:Ad) (c:LN),as[i]?=some a->told[i]?=some c->LevAt H l ts fam xs ys a c
def FK(H b:Hp)(a:Ad):Prop:=∃s t v,b a=some (.tup [.ref s,.ref t,.ref v])/\L2.noT H s=none/\L2.noT H t=none/\L2.noT H v=none
inductive mw(T:Ad)(g:Pos)(k:List V)(H:Hp)(Q:VK)(h:XK):Prop|mk:∀(m:Ad) (e:LN) (n:Nat),k=[.ref m]->Mach H m e n->Tabs H->(∀l i told d j f,Keeps H f->Tabs f->L2.noT H l=none->f l=some (.lst (i.map .ref))->FamOf e n d->Ord e (iW e (big d)) told->(∀c∈told,c∈iW e (big d))->told.length<=32->LevsAt f l e d (big d) j i told->(∀y∈j,∀b∈y.2.2,L2.noT H b=none)->j.Pairwise (λp q=>∀b∈p.2.2,b∉q.2.2)->(∀a∈i,FK H f a)->Q (.ref l) f)->mw T g k H Q h
def Kt{T:Ad}(F:Fun K uR uR vz f fd)(jV:iD P w K mg base sZ 16 [sA] (jb T (#[59,40,59,93]:Pos)))(jU:iD P w K mg base sW 3 [sJ] mv)(jS:iD P w K mg base sS 3 [sJ,tG] ko)(qS:iD P w K mg base uV 16 [sA,sC] (mX T (#[59,40,59,93]:Pos))):FnOk P w K mg base iF 18 f fd [sA] (mw T (#[59,40,59,93]:Pos)):=by
 refine F.ok kG (λbf A aR s H vs Q E hr h=>?_)
 obtain⟨m,ts,n,rfl,M,hT,q⟩:=h;have hu:=hr.units;have ax:=pY hr;refine#[_,(iz (i3 (i:=1) kG.nd rZ Z0 (jc jV hr.m rZ (ir (pv 0) im))) (iz (i3 (i:=2) kG.nd rZ Z' (nX im)) (iz (pq pL rZ (lM (jc jS hr.m rZ (iP (hX (pv 1) (hX (jc jU hr.m rZ (ir (pv 1) im)) iQ rZ) rZ)))) (mK (i:=3) kG.nd rZ Z') (iz (i3 (i:=4) kG.nd rZ Z0 (kg pk (pv 3) iT (λ_ _=>rfl))) (iz (BE (CompSc.to (N:=[sA,sJ,"told",sT,"face","ways"]) (osc:=hZ vz) (vs:=[sC]) {}) rZ rZ kG.nd (j:=5) rZ rZ (lM (pv 3)) (λ_ _ _ _=>om) (λ_ _ _ _=>(vx ax (vx ax (pv 2) (pv 5) (λ_ _=>rfl)) (pv 0) (λ_ _=>rfl)))) (iC (pP (vy ui xA xY xC (pv 2) (ir (uj (iP (hX (pv 3) (hX (jc qS hr.m rZ (iP (hX (pv 0) (hX (pv 4) iQ rZ) rZ))) (hX (pv 5) iQ rZ) rZ) rZ))) im))))))) (iC (jh (pv 2)))))),?_];refine#[_,rZ,m,ts,n,rZ,M,hT,λD l ys H1 k1 T1 nD ff eD wb nw ap=>?_];have few:=ff.few M;have L:(big l).length<=32:=i5 (og _ _) few;refine#[by show 0<=sizeLine;decide,λto ab=>?_];have kt:=iq ab (.lst []);have ay:∀y∈ys,to∉y.2.2:=λy hy r=>by
  obtain⟨j,ej⟩:=kr.mp hy;have lj:=(ik.mp ej).1;have hl:=wb.len;obtain⟨x',aS⟩:∃x',(big l)[j]?=some x':=#[_,hV ()];obtain⟨a',_⟩:=wb.each j x' y aS ej;obtain⟨j2,az⟩:=kr.mp r;have aT:=(ik.mp az).1;have z2:=a'.list j2 to _ az (hV (by rw[<-a'.len];exact aT));rw[ab]at z2;cases z2
 have aU:to≠D:=(jf eD ab).symm;have ao:=kt _ _ eD;refine#[_,rZ,_,rZ,D,ts,big l,ys,rZ,ao,wb.same kt,L,λwl o as H3 g3 bg aV Lw aA=>?_];have aB:H3 D=some (.frz o (.dT (lE (big l) ys))):=g3 _ _ hO;have aC:WB H3 D ts (big l) ys:=((wb.same kt).off ao).same g3;have k13:∀{b:Ad} {u:HO},b≠D->hA H1 to (.lst []) b=some u->H3 b=some u:=λnb r=>g3 _ _ (by rw[hK nb];exact r);have O:H3 to=some (.lst []):=k13 aU hO;have aW:∀{b:Ad} {u:HO},L2.noT H b=some u->b≠D:=λr z=>by
  subst z;rw[nD]at r;cases r
 have aX:Keeps H H3:=λb u r=>k13 (aW r) (kt _ _ (k1 _ _ r));have T3:Tabs H3:=(T1.same kt).most λb u nd _ r=>k13 (u0 r ao λe=>nd _ e) r;have aY:∀d∈iW ts (big l),d≠[]/\∀x∈d,x∈big l:=λd hd=>#[(vd hd).1,λx hx=>((vd hd).2.2.2 x hx).1];have aD:(iW ts (big l)).length<=32:=by
  unfold iW;rw[hJ];exact i5 (og _ _) L
 refine#[D,wl,ts,big l,ys,_,as,rZ,.inr #[o,aB],aC,aV,Lw,aY,NT ts _,aD,λol ae told H4 g4 aZ aE Lo od a0 sub a1=>?_];have lo:=Lo.len;have aF:ol≠to:=(jf O aZ).symm;have ak:to∉ae:=λz=>by
  obtain⟨j,ej⟩:=kr.mp z;have lj:=(ik.mp ej).1;obtain⟨bs,e,_⟩:=Lo.is j to _ ej (hV (by rw[<-lo];exact lj));have ec:=qb (show j<told.length by lia);have z1:=g4 _ _ O;rw[e]at z1;injection z1 with z1
  injection z1 with z1
  have z2:bs=[]:=List.map_eq_nil_iff.mp z1;obtain⟨a2,e',a3⟩:=Lo.is j to _ ej (hV ());rw[e]at e';injection e' with e'
  injection e' with e'
  rw[z2]at e';have z3:a2=[]:=List.map_eq_nil_iff.mp e'.symm;have z4:=a3.len;rw[z3]at z4;exact(vd (sub _ ec)).1 (sm.mp z4.symm)
 have a4:Keeps H H4:=aX.trans g4.keeps;have T4:=T3.same g4;have aG:=g4 _ _ O;have aH:L2.noT H to=none:=by
  cases z:L2.noT H to with
  |none=>rfl
  |some u=>
   have z2:=k1 _ _ z;rw[ab]at z2;cases z2
 let Pv:Nat->L2.St->Hp->Prop:=λi σ t=>Keeps H t/\Tabs t/\t ol=some (.lst (ae.map .ref))/\LsAt t ae told/\Rd t D (.dT (lE (big l) ys))/\WB t D ts (big l) ys/\∃ls o3 o4 o5,t to=some (.lst (ls.map .ref))/\LevsAt t to ts l (big l) ys ls (told.take i)/\(∀a∈ls,FK H t a)/\σ=[some (.ref m),some (.ref D),some (.ref to),o3,o4,o5]
 refine#[ol,rZ,#[_,M2 aE],vi (xs:=ae.map .ref) Pv #[a4,T4,aE,Lo,.inr #[o,g4 _ _ aB],aC.same g4,[],none,none,none,aG,#[rZ,λi a c e=>by simp at e],(λ_ h=>nomatch h),rZ] (λi σ t _ p=>M2 p.2.2.1) (λi v σ H5 hv p=>?_) (λσ H5 p=>?_)]
 .obtain⟨k5,T5,am,aq,ar,au,ls,o3,o4,o5,G,U,av,rfl⟩:=p;rw[iB]at hv;obtain⟨a,ea,rfl⟩:=ju.mp hv;have li:=(ik.mp ea).1;obtain⟨c,ec⟩:∃c,told[i]?=some c:=#[_,hV ()];obtain⟨bs,ha,Ta⟩:=aq.is i a c ea ec;obtain⟨cne,_,cx,call⟩:=vd (sub c (iV ec));obtain⟨b0,a5,aI,m0⟩:=BH Ta cne;have bh:=Ta.len;have c32:c.length<=32:=by
   rw[(vd (sub c (iV ec))).2.1];exact i5 (og _ _) L
  have a6:a≠to:=λz=>ak (z▸iV ea);obtain⟨W,ws,wa,dg,wt,tt,ix,ex,ey⟩:=au.get ar cx aI;refine#[_,rZ,a,_,_,_,rZ,rZ,M2 ha,a5,?_];refine#[_,rZ,a,rZ,#[_,M2 ha],on (xs:=bs.map .ref) (λj af t=>t=H5/\∃C:As,af=C.map V.ref/\C.length=j/\(∀b∈C,b∈wa)/\∀(k:Nat) (x:g9) (b:Ad),c[k]?=some x->C[k]?=some b->∃word,(x,word)∈ws/\H5 b=some (.lst (word.map nv))) (by rw[hJ,iR];lia) #[rZ,[],rZ,rZ,λ_ h=>(nomatch h),λk x b _ e=>by simp at e] (λj af t hi p=>?_) (λj v af t hv p=>?_) (λaf t p I ag=>?_)]
  .obtain⟨rfl,C,rfl,e,_⟩:=p;exact#[M2 ha,by rw[hJ];lia]
  .obtain⟨rfl,C,rfl,e,sb,al⟩:=p;rw[iB]at hv;obtain⟨b,eb,rfl⟩:=ju.mp hv;have lj:=(ik.mp eb).1;obtain⟨x,aw⟩:∃x,c[j]?=some x:=#[_,hV ()];have r:=Ta.is j b x eb aw;obtain⟨_,r1,_⟩:=call x (iV aw);obtain⟨⟨x',u⟩,hp,e'⟩:=iK.mp ((Cm tt x).mpr r1);have B:x'=x:=e';subst B;obtain⟨aJ,v1,v2⟩:=wt.word tt.keys hp;have a7:DGet t W (.ref b) (some (.ref aJ)):= .inr #[_,nk x',b,.inl wt.dict,rZ,by rw[nL];exact r,v1.symm];refine#[nq,qj #[_,rZ,_,rZ,D,_,rZ,dg,_,rZ,W,_,rZ,a7,rZ,C++[aJ],by simp,by simp[e],λb' ah=>?_,λk x b' J B=>?_]]
   .exact(iN.mp ah).elim (sb b') λh=>by rw[iE.mp h];exact Jl v1
   .by_cases hk:k<C.length
    .rw[j5 hk]at B;exact al k x b' J B
    .rw[ku ()]at B;have z:k-C.length=0:=by
      have:=(ik.mp B).1;simp at this;lia
     rw[z]at B;cases B;have kj:k=j:=by lia
     subst kj;rw[aw]at J;cases J;exact#[u,hp,v2]
  .obtain⟨rfl,C,rfl,a8,sb,al⟩:=p;rw[hJ]at a8;have kw:=iq ag (.lst (C.map V.ref));have aK:I≠to:=(jf G ag).symm;have aL:hA t I (.lst (C.map V.ref)) I=some (.lst (C.map V.ref)):=hO;generalize hA t I (.lst (C.map V.ref))=H6 at kw aL|-;have Y:=kw _ _ G;refine#[_,rZ,.inl #[rZ,_,M2 Y],_,rZ,_,rZ,_,rZ,m,b0,ts,n,c.headD [],rZ,(M.keeps k5).same kw,kw _ _ aI,T5.same kw,λtl ds us aM H7 k7 T7 ai a9 Td ba bb=>?_];have ef:aM=l:=ba.uniq ff;subst ef;subst bb;have aN:=k7 _ _ (nU Y);have aO:tl≠to:=λz=>by
    subst z;rw[nU Y]at ai;cases ai
   refine#[_,rZ,by show 3<=sizeLine;decide,λlv bc=>?_];have kl:=iq bc (.tup [.ref a,.ref tl,.ref I]);have aj:hA H7 lv (.tup [.ref a,.ref tl,.ref I]) lv=some (.tup [.ref a,.ref tl,.ref I]):=hO;have kk:Keeps t (hA H7 lv (.tup [.ref a,.ref tl,.ref I])):=(kw.keeps.trans k7).trans kl.keeps;have aP:Keeps H6 (hA H7 lv (.tup [.ref a,.ref tl,.ref I])):=k7.trans kl.keeps;have an:=kl _ _ a9;have aQ:=Td.same kl;have T8:=T7.same kl;have g:=kl _ _ aN;generalize hA H7 lv (.tup [.ref a,.ref tl,.ref I])=H8 at kl aj kk aP an aQ T8 g|-;have bd:=U.len;rw[mS]at bd;refine#[to,_,_,rZ,rZ,g,by rw[hJ,iR];lia,?_];have aa:∀{b:Ad} {u:HO},t b=some u->(∀ps,u≠ .tbl ps)->H8 b=some u:=λr no=>kk _ _ (uZ r no)
   refine#[λb u r=>?_,?_,?_,?_,?_,?_,ls++[lv],_,_,_,by rw[hO,kS];rfl,#[?_,λj a' c' J B=>?_],λa' be=>?_,rZ]
   .rw[hK λ(z:b=to)=>by subst z;rw[aH]at r;cases r];exact(k5.trans kk) _ _ r
   .exact T8.most λb' u _ nl ah=>by rw[hK (u0 ah g λe=>nl _ e)];exact ah
   .rw[hK aF];exact aa am λ_ e=>nomatch e
   .exact(aq.keeps kk).off g ak
   .rcases Ow ar (λ_ e=>nomatch e) kk with z|⟨o',z⟩
    .exact .inl (by rw[hK (nE z g)];exact z)
    .exact .inr #[o',by rw[hK (nE z g)];exact z]
   .exact(au.keeps kk).off2 g ay
   .rw[jk,mS];simp only[List.length_singleton];lia
   .have lt':told.take (i+1)=told.take i++[c]:=by rw[ow,ec];rfl
    rw[lt']at B;by_cases hj:j<ls.length
    .rw[j5 hj]at J;rw[j5 (by rw[mS];lia)]at B;exact((U.is j a' c' J B).keeps kk).off g
    .rw[ku ()]at J;rw[ku (by rw[mS];lia)]at B;have z:j-ls.length=0:=by
      have:=(ik.mp J).1;simp at this;lia
     have z':j-(told.take i).length=0:=by rw[mS];lia
     rw[z]at J;rw[z']at B;cases J;cases B;refine LevAt.off #[a,tl,I,bs,ds,C,ix,(W,ws,wa),aj,a6,aO,aK,λz=>ay _ (iV ey) (sb _ z),aa ha (λ_ e=>nomatch e),vf Ta kk,an,aQ,aP _ _ (nU aL),(),ex,ey,tt,sb,λk x b J B=>?_] g;obtain⟨word,z1,z2⟩:=al k x b J B;exact#[word,z1,aa z2 λ_ e=>nomatch e]
   .rcases iN.mp be with z|z
    .obtain⟨s',t',v',z1,z2⟩:=av a' z;exact#[s',t',v',(by rw[hK (nE (aa z1 λ_ e=>nomatch e) g)];exact aa z1 λ_ e=>nomatch e),z2]
    .rw[iE.mp z];refine#[a,tl,I,by rw[hK (nE aj g)];exact aj,?_,?_,?_]
     .have z1:=aA a (a1 a (iV ea));cases y:L2.noT H a with
      |none=>rfl
      |some u=>
       rw[kt _ _ (k1 _ _ y)]at z1;cases z1
     .cases y:L2.noT H tl with
      |none=>rfl
      |some u=>
       have z1:=kw _ _ (k5 _ _ y);rw[uZ z1 (vE y).2]at ai;cases ai
     .cases y:L2.noT H I with
      |none=>rfl
      |some u=>
       rw[k5 _ _ y]at ag;cases ag
 .obtain⟨k5,T5,am,aq,ar,au,ls,o3,o4,o5,G,U,av,rfl⟩:=p;rw[hJ,lo,mH]at U;exact#[_,rZ,q to ls told l ys H5 k5 T5 aH G ff od sub a0 U nw ap av]
def LvH(H:Hp)(a:Ad)(c h:LN)(d:LN):Prop:=∃(s t v:Ad) (bs f e:As),H a=some (.tup [.ref s,.ref t,.ref v])/\H s=some (.lst (bs.map .ref))/\TupsAt H bs c/\H t=some (.lst (f.map .ref))/\TupsAt H f h/\H v=some (.lst (e.map .ref))/\e.length=d.length/\∀(k:Nat) (b:Ad) (g:g9),e[k]?=some b->d[k]?=some g->H b=some (.lst (g.map nv))
def LvH.same{H e:Hp}{a:Ad}{c f d:LN}(h:LvH H a c f d)(g:Same H e):LvH e a c f d:=by
 obtain⟨s,t,v,bs,i,j,l,m,n,o,p,q,r,u⟩:=h;exact#[s,t,v,bs,i,j,g _ _ l,g _ _ m,n.same g,g _ _ o,p.same g,g _ _ q,r,λk b w x y=>g _ _ (u k b w x y)]
structure LvP(ts fam:LN)(c us wds:LN):Prop where
 cls:c∈iW ts (big fam)
 tl:us=wV fam (c.headD [])
 len:wds.length=c.length
 go:∀(k:Nat) (x wd:g9),c[k]?=some x->wds[k]?=some wd->(∀l∈wd,l<ts.length)/\ki (oO ts) (c.headD []) wd=x
def LevAt.lv{H:Hp}{l:Ad}{g d:LN}{z:List WE}{a:Ad}{c:LN}(h:LevAt H l g d (big d) z a c)(A:c∈iW g (big d)):∃e,LvH H a c (wV d (c.headD [])) e/\LvP g d c (wV d (c.headD [])) e:=by
 obtain⟨s,t,v,bs,B,j,i,y,C,U,Y,h4,h5,D,E,G,I,m,J,L,M,o,N,p⟩:=h;obtain⟨e,l1,l2⟩:=DC (n:=c.length) (P:=λk f=>∃x b,c[k]?=some x/\j[k]?=some b/\(x,f)∈y.2.1/\H b=some (.lst (f.map nv))) λk O=>by
  obtain⟨x,u⟩:∃x,c[k]?=some x:=#[_,hV O];obtain⟨b,w⟩:∃b,j[k]?=some b:=#[_,hV ()];obtain⟨f,z1,z2⟩:=p k x b u w;exact#[f,x,b,u,w,z1,z2]
 refine#[e,#[s,t,v,bs,B,j,C,D,E,G,I,m,(),λk b f q r=>?_],A,rZ,l1,λk x f q r=>?_]
 .obtain⟨Q,T,_,z2,_,z4⟩:=l2 k f r;rw[q]at z2;cases z2;exact z4
 .obtain⟨Q,T,z1,_,z3,_⟩:=l2 k f r;rw[q]at z1;cases z1;exact o.run _ z3
def jt(a:LN)(x:g9)(l:Nat):g9:=i9 x (a.getD l [])
def Mach.steps{H:Hp}{m:Ad}{a:LN}{n:Nat}(M:Mach H m a n):∀x∈jw n n,∀l,l<a.length->jt a x l∈jw n n:=λx b l c=>by
 obtain⟨d,e⟩:=hG.mp b;obtain⟨_,_,_,_,_,_,f,g⟩:=M.at c;refine hG.mpr #[by unfold jt i9;rw[List.length_map,d],λr h=>?_];obtain⟨y,i,rfl⟩:=iK.mp h;exact wK g (by rw[f];exact e y i)
abbrev pD:Str:=uG
inductive kh(C:Ad)(g:List V)(H:Hp)(Q:VK)(E:XK):Prop|mk:∀(m:Ad) (f:LN) (n most:Nat),g=[.ref m,nv most]->Mach H m f n->most<=400->Tabs H->((∀l h e d,Keeps H d->Tabs d->L2.noT H l=none->(∀(a b c:Ad),a∈h->d a=some (.tup [.ref b,.ref c])->L2.noT H c=none)->PicsAt d l h e->Told (jt f) f.length (List.range n) e->e.length<=most->Q (.ref l) d))->((∀(e:TW) d i,Keeps H d->Tabs d->d i=some (.xd [(sG,nv most)])->(e.map (·.1)).Nodup->(∀p∈e,(∀l∈p.2,l<f.length)/\ki (jt f) (List.range n) p.2=p.1)->most<e.length->E (.ref C) (some i) d))->kh C g H Q E
section
variable{P:Pg}{w:World}{K:O0}{mg:SV}{base:Heap}{f C:Ad}{u:Fd}
def GK{v c m f:Ad}{N:Obj}{u:LN}{n:Nat}{i:Hp}{z B:Vl}{a:Arguments}{d:Expr}{b:Scope}{Y a1 a2 a4:Expr}{kw:List Keyword}{C:List Expr}{s0:Stmt}{rest:List Stmt}{lp cp rp:Pos}(e:iS qg=s0:: .Assign C (.Call Y [a1,a2,.Lambda a d b lp,a4] kw cp) rp::rest)(jH:iD P w K mg base tV 1 [uH,sQ] iJ) (M:Mach i m u n) (h1:i v=some (mI v (mh pD a d b sA c z (.ref f) B))) (O:i c=some (j0 c m N)) (h3:i f=some (oJ f pD)):
  FnOk P w K mg base iF 5 v (mh pD a d b sA c z (.ref f) B) [sO,uJ] (jg (Same i) (jw n n) u.length (jt u))/\Binds K (mh pD a d b sA c z (.ref f) B) [sO,uJ] []:=by
 cases e;refine#[HS (k:=4) (m:=m) (oc:=N) #[rZ,rZ,rZ,by decide+kernel,by decide+kernel,rZ,by decide+kernel] (λT H Q E h=>?_) (λT H Q E h=>?_) (λA D s H T Q E hr h=>?_),.all λus G=>match us,G with| [_,_],_=>rfl]
 .obtain⟨t,x,l,rfl,_⟩:=h;rfl
 .obtain⟨t,x,l,rfl,g,_⟩:=h;exact#[g _ _ h1,g _ _ O,g _ _ h3]
 .obtain⟨t,x,l,rfl,g,ht,hx,G,q⟩:=h;refine#[_,(jc jH hr.m rZ (iP (hX (pv 0) (hX (kg nS (pv 2) (pv 1) (λ_ _=>rfl)) iQ rZ) rZ))),?_];obtain⟨x1,x2⟩:=hG.mp hx;have I:=g _ _ O;have M1:=(M.same g).drop I;have n5:=M.n5;have J:(L2.drop H c) t=some (.tup (x.map nv)):=by rw[j7 (nE ht I)];exact ht
  obtain⟨rs,r,b1,b2,b3,b4,b5,b6⟩:=M1.at G;refine#[_,rZ,_,rZ,_,rZ,m,_,_,_,rZ,rZ,O' b1,b3,t,r,x,u.getD l [],rZ,J,b4,λy j=>?_,(),λp H3 g3 U free=>q p _ (λy o L=>?_) ?_]
  .rw[b5];exact x2 y j
  .by_cases j:y=c
   .subst j;rw[I]at L;cases L;exact hO
   .rw[hK j];exact g3 _ _ (by rw[j7 j];exact L)
  .rw[hK (jf U free)];exact U
def IA{T p m c:Ad}{u:Hp}{A:LN}{n most:Nat}{σ:L2.St}{R:V->Hp->Prop}{R':XK}{U:Vl}{f:Arguments}{i:Expr}{g:Scope}{fx a1 a2 a4:Expr}{kw:List Keyword}{ah:List Expr}{s0:Stmt}{ai:List Stmt}{lp cp rp:Pos}(e:iS qg=s0:: .Assign ah (.Call fx [a1,a2,.Lambda f i g lp,a4] kw cp) rp::ai)(jH:iD P w K mg base tV 1 [uH,sQ] iJ) (Y:Mach u m A n) (hp:u p=some (.tup ((List.range n).map nv))) (M:most<=400) (hq:(pD,(#[36,41,36,91]:Pos),T)∈j3) (hT:Tabs u) (aa:σ[0]?=some (some (.ref m))) (L:σ[1]?=some (some (nv most)))(rest:∀D B as I,Keeps u I->Tabs I->WordsAt I D B as->(∀b∈D::as,L2.noT u b=none)->Told (jt A) A.length (List.range n) B->B.length<=most->R (.ref D) I)(N:∀(B:TW) I dx,Keeps u I->Tabs I->I dx=some (.xd [(sG,nv most)])->(B.map (·.1)).Nodup->(∀p∈B,(∀l∈p.2,l<A.length)/\ki (jt A) (List.range n) p.2=p.1)->most<B.length->R' (.ref C) (some dx) I):
  oq (zw T pD f i g sA c U (#[36,41,36,91]:Pos)) (oq (iO 1) pr) σ u λxs h=>∃m1,σ[0]?=some (some (.ref m1))/\∀k,h c=none->iU P w K mg base C (.ref p:: .int (A.length:Int)::xs++[]) (hA h c (j0 c m1 k)) (λr h=>h c=some (j0 c m1 k)/\R r (L2.drop h c)) (λv d h=>h c=some (j0 c m1 k)/\R' v d (L2.drop h c)):=by
 have n5:=Y.n5;have go:∀(x t:Ad) (J:Vl) (H:Hp) (ab:AV),u T=some (.tbl ab)->KeepsBut T u H->H T=some (.tbl (oQ (#[36,41,36,91]:Pos) t))->H t=some (oJ t pD)->H x=some (mI x (mh pD f i g sA c U (.ref t) J))->
   ∀k,H c=none->(FnOk P w K mg base iF 5 x (mh pD f i g sA c U (.ref t) J) [sO,uJ] (jg (Same (hA H c (j0 c m k))) (jw n n) A.length (jt A)))->Binds K (mh pD f i g sA c U (.ref t) J) [sO,uJ] []->
   iU P w K mg base C [.ref p,nv A.length,.ref x,nv most] (hA H c (j0 c m k)) (λr h=>h c=some (j0 c m k)/\R r (L2.drop h c)) (λv d h=>h c=some (j0 c m k)/\R' v d (L2.drop h c)):=λx t J H ab ae kb t1 t2 t3 k E hF hB=>by
  have k1:=kb.keeps ae;have s:=iq E (j0 c m k);have kp:∀{h:Hp},Same (hA H c (j0 c m k)) h->Keeps u (L2.drop h c):=λq b o O=>by
   have z:=k1 b o O;rw[j7 (jf z E)];exact q _ _ (s _ _ z)
  have tb:∀{h:Hp},Same (hA H c (j0 c m k)) h->Tabs (L2.drop h c):=λq=>hT.but hq ae (λb o nb O=>by
   have z:=kb b o nb O;rw[j7 (jf z E)];exact q _ _ (s _ _ z))<|.inr #[t,by
   rw[j7 (jf t1 E)];exact q _ _ (s _ _ t1),by
   rw[j7 (jf t2 E)];exact q _ _ (s _ _ t2)]
  refine#[p,x,_,_,List.range n,A.length,jw n n,jt A,most,rZ,s _ _ (k1 _ _ (nU hp)),s _ _ t3,vr n,Y.steps,CQ n5,?_,M,hF,hB,λD B as h q W nw TT le=>#[q _ _ hO,rest D B as _ (kp q) (tb q) #[W.len,?_,λj a r e1 e2=>?_] (λb O=>?_) TT le],λB h dx q _ af kn run lt=>#[q _ _ hO,N B _ dx (kp q) (tb q) (by rw[j7 (nE af (q _ _ hO))];exact af) kn run lt]]
  .have:=Y.few;lia
  .rw[j7 (nE W.dict (q _ _ hO))];exact W.dict
  .have z:=W.list j a r e1 e2;rw[j7 (nE z (q _ _ hO))];exact z
  .have z:=nw b O;cases y:L2.noT u b with
   |none=>rfl
   |some o=>
    have z2:=s _ _ (k1 _ _ y);rw[z]at z2;cases z2
 rcases hT _ hq with hT|⟨t,hT,G⟩
 .refine .inl #[hT,λx t J Q G ne=>#[_,L,m,aa,λk E=>?_]];obtain⟨k1,aj,ag⟩:=FA (#[36,41,36,91]:Pos) pD hT Q G ne (mI x (mh pD f i g sA c U (.ref t) J));have s:=iq E (j0 c m k);obtain⟨F1,F2⟩:=GK e jH ((Y.keeps (k1.keeps hT)).same s) (s _ _ hO) hO (s _ _ ag);exact go x t J _ _ hT k1 aj ag hO k E F1 F2
 .refine .inr #[t,hT,G,λx J Q=>#[_,L,m,aa,λk E=>?_]];have k1:∀lo,Same u (hA u x lo):=λlo=>iq Q lo;have s:=iq E (j0 c m k);obtain⟨F1,F2⟩:=GK e jH ((Y.same (k1 _)).same s) (s _ _ hO) hO (s _ _ (k1 _ _ _ G));exact go x t J _ _ hT (λb o _ O=>k1 _ _ _ O) (k1 _ _ _ hT) (k1 _ _ _ G) hO k E F1 F2
def NJ{aa:Vl}{cd T:Ad}(F:DefAt K sY qg f u aa (.ref cd))(hC:PySem.W.CodeHd base cd T)(bm:rX mg base)(hq:(pD,(#[36,41,36,91]:Pos),T)∈j3)(kZ:iD P w K mg base uT 1 [sC] lN)(jH:iD P w K mg base tV 1 [uH,sQ] iJ)(kH:CalleeDX P w K mg base tN 8 ["start","letters","step",sG] (iU P w K mg base C) []) (jA:mg "len"=none) (jL:mg "list"=none):FnOk P w K mg base (CX1 P w) 10 f u [sA,sG] (kh C):=by
 refine F.fnOkX qC (λvs H Q E h=>?_) (λA ab s H vs Q E h hr=>?_)
 .obtain⟨m,ts,n,most,rfl,_⟩:=h;rfl
 obtain⟨m,ts,n,most,rfl,M,e,hT,q,qE⟩:=h;refine#[_,?_,(iz (i3 (i:=2) qC.nd rZ Z' (jc kZ hr.m rZ (ir (j8 ou rZ jA mY (ir (kg nS (pv 0) iT (λ_ _=>rfl)) im)) im))) (iz (i3 (i:=3) qC.nd rZ Z' (Js kH hr.m wQ rZ (j:=0) rZ rZ rZ rZ (iP (hX (pv 2) (hX (j8 ou rZ jA mY (ir (pv 0) im)) (hX (Gx (qual:=uG) rZ hC bm (λ_ _ _ _ _=>rfl) rZ rZ) (hX (pv 1) iQ rZ) rZ) rZ) rZ)))) (iC (jh (lZ (HJ rZ) rZ jL vX (ir (CW PySem.F.plainAttrs_dict PySem.F.slot_dict_items PySem.F.type_dict_items Ii (pv 3)) im))))))];have t1:=M.some1;have n5:=M.n5;obtain⟨_,r0,b1,b2,b3,b4,b5,b6⟩:=M.at (l:=0) ();refine#[_,rZ,m,_,_,_,rZ,rZ,O' b1,b3,r0,_,rZ,.inr (O' b4),?_]
 try dsimp only
 rw[hJ,b5];refine#[n,rZ,(),λst H0 g e0=>?_];have M0:=M.same g;obtain⟨rs,hm,ae,_⟩:=M0.refs;refine#[_,rZ,_,rZ,m,_,rZ,.inr (O' hm),?_]
 try dsimp only
 rw[hJ,ae];refine IA (R:=λr t=>md 3 r _ t _) rZ jH M0 e0 e hq (hT.same g) rZ rZ (λD B as L k1 T1 W nw TT le=>?_) (λB L dx k1 T1 af kn run lt=>qE B L dx (g.keeps.trans k1) T1 af kn run lt);refine#[_,rZ,.inr (.inr (.inl #[rZ,.inr #[_,W.dict]])),rZ,D,_,rZ,W.dict,λv hv=>?_];have N:=iq hv (vB v D);refine#[v,D,_,rZ,hO,N _ _ W.dict,λl ps t d=>?_];have k3:Same (hA L v (vB v D)) t:=λb o O=>by
  rw[d.rest b (jf O d.new) λz=>by rw[d.news b z]at O;cases O];exact O
 have kk:Same L t:=N.trans k3;have nT:∀{b:Ad},L2.noT H0 b=none->L2.noT H b=none:=λ{b} z=>by
  cases y:L2.noT H b with
  |none=>rfl
  |some o=>
   have z2:=uZ (g.keeps _ _ y) (vE y).2;rw[z]at z2;cases z2
 refine q l ps B t ((g.keeps.trans k1).trans kk.keeps) (T1.same kk) ?_ (λa b c ha ag=>?_) #[d.lst,by rw[d.len,xx W.len],λj a p U G=>?_] TT le
 .cases y:L2.noT H l with
  |none=>rfl
  |some o=>
   have z2:=N _ _ (k1 _ _ (uZ (g.keeps _ _ y) (vE y).2));rw[d.new]at z2;cases z2
 .obtain⟨j,U⟩:=AR ha;obtain⟨Y,_⟩:=ik.mp U;have lj:j<B.length:=by rw[d.len,xx W.len]at Y;exact Y
  obtain⟨p,G⟩:∃p,B[j]?=some p:=#[_,hV lj];obtain⟨k,x,b',I,f2,f3⟩:=d.is j a U;obtain⟨c',J⟩:∃c,as[j]?=some c:=#[_,hV (by rw[W.len];exact lj)];rw[DV G J]at I;cases I;rw[ag]at f3;cases f3;exact nT (nw _ (jr _ (iV J)))
 obtain⟨k,x,b,I,f2,f3⟩:=d.is j a U;obtain⟨Y,_⟩:=ik.mp G;obtain⟨c,J⟩:∃c,as[j]?=some c:=#[_,hV (by rw[W.len];exact Y)];rw[DV G J]at I;cases I;have hc:=N _ _ (W.list j c p J G);rw[nL]at f2;exact#[b,c,jf hc d.new,f3,k3 _ _ f2,k3 _ _ hc]
end
def pG(a:TW):List (List iH×V):=a.map λp=>(nk p.1,V.bl true)
theorem B0:∀{a:TW} {x:g9},x∉a.map (·.1)->lY (pG a) (nk x)=none
 | [],_,_=>rfl
 |p::a,x,h=>by
  have b: ¬(nk p.1:List iH)=nk x:=λz=>h (iK.mpr #[p,i7 ..,uc z]);exact(sd (p:=(nk p.1,V.bl true)) (r:=pG a) b).trans (B0 λz=>h (jr _ z))
theorem Fk:∀{a:TW} {x:g9},x∈a.map (·.1)->lY (pG a) (nk x)=some (.bl true)
 | [],_,h=>nomatch h
 | p::a,x,h=>by
  by_cases e:p.1=x
  .rw[<-e];exact wH (p:=(nk p.1,V.bl true)) (r:=pG a) rfl
  .have b: ¬(nk p.1:List iH)=nk x:=λz=>e (uc z);exact(sd (p:=(nk p.1,V.bl true)) (r:=pG a) b).trans (Fk ((iM.mp h).resolve_left λz=>e z.symm))
structure WAt(H0 H:Hp)(Dk wa:Ad)(ps:As)(kn ws:TW):Prop where
 g:Same H0 H
 nK:H0 Dk=none
 nW:H0 wa=none
 known:H Dk=some (.dT (pG kn))
 lst:H wa=some (.lst (ps.map .ref))
 len:ps.length=ws.length
 each:∀(j:Nat) (p:Ad) (r:g9×g9),ps[j]?=some p->ws[j]?=some r->∃t l,H p=some (.tup [.ref t,.ref l])/\H t=some (.tup (r.1.map nv))/\H l=some (.lst (r.2.map nv))/\l≠wa
def WAt.same{a H b:Hp}{c d:Ad}{e:As}{f i:TW}(h:WAt a H c d e f i)(g:Same H b):WAt a b c d e f i:=#[h.g.trans g,h.nK,h.nW,g _ _ h.known,g _ _ h.lst,h.len,λj p r k m=>let⟨t,l,n,o,q,s⟩:=h.each j p r k m;#[t,l,g _ _ n,g _ _ o,g _ _ q,s]]
def WAt.put{f H:Hp}{a g:Ad}{i:As}{c k:TW}{r:g9×g9}(h:WAt f H a g i c k):WAt f (hA H a (.dT (pG c++[(nk r.1,.bl true)]))) a g i (c++[r]) k:=by
 have off:∀{b:Ad} {u:HO},(∀d,u≠ .dT d)->H b=some u->(hA H a (.dT (pG c++[(nk r.1,.bl true)]))) b=some u:=λm l=>by
  rw[hK (u0 l h.known λe=>m _ e)];exact l
 refine#[oU h.g h.nK,h.nK,h.nW,?_,off (λ_ e=>nomatch e) h.lst,h.len,λj p n o q=>?_]
 .rw[hO];unfold pG;rw[kS];rfl
 .obtain⟨t',s,t,v,w,x⟩:=h.each j p n o q;exact#[t',s,off (λ_ e=>nomatch e) t,off (λ_ e=>nomatch e) v,off (λ_ e=>nomatch e) w,x]
def WAt.app{n H:Hp}{m c q t l:Ad}{e:As}{o s:TW}{r:g9×g9}(h:WAt n H m c e o s)(x:H q=some (.tup [.ref t,.ref l]))(ht:H t=some (.tup (r.1.map nv)))(y:H l=some (.lst (r.2.map nv)))(u:l≠c):WAt n (hA H c (.lst (e.map .ref++[.ref q]))) m c (e++[q]) o (s++[r]):=by
 have A:m≠c:=(nE h.lst h.known).symm;have a:∀{b:Ad} {g:List V},H b=some (.tup g)->(hA H c (.lst (e.map .ref++[.ref q]))) b=some (.tup g):=λk=>by
  rw[hK (nE k h.lst)];exact k
 have d:∀{b:Ad} {g:List V},b≠c->H b=some (.lst g)->(hA H c (.lst (e.map .ref++[.ref q]))) b=some (.lst g):=λB k=>by
  rw[hK B];exact k
 refine#[oU h.g h.nW,h.nK,h.nW,by rw[hK A];exact h.known,?_,by simp[h.len],λj p C f i=>?_]
 .rw[hO,kS];rfl
 .by_cases v:j<e.length
  .rw[j5 v]at f;rw[j5 (by rw[<-h.len];exact v)]at i;obtain⟨D,E,G,I,J,w⟩:=h.each j p C f i;exact#[D,E,a G,a I,d w J,w]
  .rw[ku ()]at f;rw[ku (by rw[<-h.len];lia)]at i;have z:j-e.length=0:=by
    have:=(ik.mp f).1;simp at this;lia
   rw[z]at f;rw[<-h.len,z]at i;cases f;cases i;exact#[t,l,a x,a ht,d u y,u]
termination_by (U.length-ws.length,ws.length-i,L-j)
decreasing_by
 all_goals simp_wf
 .exact Prod.Lex.right _ (Prod.Lex.left _ _ ())
 .exact Prod.Lex.right _ (Prod.Lex.right _ ())
 .exact Prod.Lex.left _ _ ()
inductive qi(e:List V)(H:Hp)(Q:VK)(c:XK):Prop|mk:∀(m:Ad) (a:LN) (n most:Nat),e=[.ref m,nv most]->Mach H m a n->most<=400->(∀l f b d,Same H d->PicsAt d l f b->(b.map (·.1)).Nodup->(∀p∈b,(∀x∈p.2,x<a.length)/\ki (jt a) (List.range n) p.2=p.1)->(b.length<=most->Told (jt a) a.length (List.range n) b)->Q (.ref l) d)->qi e H Q c
def Mw(F:Fun K tH tH vQ f fd)(l:mg "tuple"=none):FnOk P w K mg base iF 1 f fd [uQ,tL] iJ:=by
 refine F.ok IK (λm A c s H z Q E B h=>?_)
 obtain⟨a,b,j,d,rfl,k,n,g,o,q⟩:=h;refine#[_,(iC (jh (lZ xo rZ l ut (ir (nM (CompSc.to (N:=[uQ,tL]) (osc:=hZ vQ) (vs:=["_law_room"]) {}) rZ rZ (za (pv 0)) (λ_ _ _ _=>om) (λ_ _ _ _=>(kg (IxR.k (K:=K) pB nS rZ) (pv 2) (pv 0) (λ_ _=>rfl)))) im)))),?_];have e:(j.map nv).map (λv=>match v with|.int i=>nv (d.getD i.toNat 0)|v=>v)=(i9 j d).map nv:=by
  unfold i9;rw[mJ,mJ];rfl
 refine#[_,rZ,a,rZ,#[_,O' k],yM (f:=λv=>match v with|.int i=>nv (d.getD i.toNat 0)|v=>v) (by rw[hJ];exact small o) (O' k) (λv Q r q=>?_) (λp u=>?_)]
 .obtain⟨x,y,rfl⟩:=iK.mp r;exact#[_,rZ,_,rZ,b,_,_,_,rZ,rZ,O' n,xL (g x y),q]
 .rw[e];exact#[p,_,rZ,.inl #[M2 hO,λt ht=>q t _ ((iq u _).trans (iq ht _)) hO]]
def K1(F:Fun K uN uN xH f fd)(jG:iD P w K mg base tH 1 [uQ,tL] iJ)(jC:mg "tuple"=none)(jB:mg "range"=none)(jA:mg "len"=none):FnOk P w K mg base iF 3 f fd [sF,sL] qi:=by
 refine F.ok jR (λaU A aH s H vs Q E hr h=>?_)
 obtain⟨m,g,n,most,rfl,M,aI,q⟩:=h;have ae:=pY hr;refine#[_,(iz (i3 (i:=2) jR.nd rZ Z' (nX (ir (uj (iP (hX (lZ (FO rZ) rZ jC ut (ir (lZ DP rZ jB boot_range (ir (j8 ou rZ jA mY (ir (kg nS (pv 0) iT (λ_ _=>rfl)) im)) im)) im)) (hX (nX im) iQ rZ) rZ))) im))) (iz (i3 (i:=3) jR.nd rZ Z' (Ck ae (kg nS (kg pk (pv 2) iT (λ_ _=>rfl)) iT (λ_ _=>rfl)) rk)) (iz (i3 (i:=4) jR.nd rZ Z' iT) (iz (Bm pL (PW.pt (Bl (mG Bt (pv 4) (j8 ou rZ jA mY (ir (pv 2) im)) (lm _)) (Bq (mG zu (j8 ou rZ jA mY (ir (pv 2) im)) (pv 1) (lm _))))) (iz (AC (kg pk (pv 2) (pv 4) (λ_ _=>rfl)) (DO rZ (xQ (mK (i:=5) jR.nd rZ Z') (xQ (mK (i:=6) jR.nd rZ Z') DF)))) (iz (pq pL rZ (ub rZ jB (ir (j8 ou rZ jA mY (ir (pv 0) im)) im)) (mK (i:=7) jR.nd rZ Z') (iz (i3 (i:=8) jR.nd rZ Z' (jc jG hr.m rZ (iP (hX (pv 5) (hX (kg nS (pv 0) (pv 7) (λ_ _=>rfl)) iQ rZ) rZ)))) (iC (mM (xV (EA ae (pv 8) (pv 3))) (iz (xG ae (pv 3) (pv 8) rk rZ) (iC (pP (vy ui xA xY xC (pv 2) (ir (uj (iP (hX (pv 8) (hX (jx BX (pv 6) (nX (ir (pv 7) im))) iQ rZ) rZ))) im))))) nN)))) (iC (i3 (i:=4) jR.nd rZ Z' (jx rR (pv 4) iT)))))) (iC (jh (pv 2))))))),?_];have L:=M.some1;have n5:=M.n5;have t4:=M.few;obtain⟨_,r0,b1,b2,b3,b4,b5,b6⟩:=M.at (l:=0) ();refine#[_,rZ,m,_,_,_,rZ,rZ,O' b1,b3,r0,_,rZ,.inr (O' b4),?_]
 try dsimp only
 rw[hJ,b5];refine#[(n:Int),rZ,λp hp=>#[p,(n:Int),rZ,hO,(),(),λL aJ=>?_]];have k2:=(iq hp (.rng 0 (n:Int))).trans (iq aJ (.tup (oj (n:Int).toNat)));have am:hA (hA H p (.rng 0 (n:Int))) L (.tup (oj (n:Int).toNat)) L=some (.tup ((List.range n).map nv)):=hO;generalize hA (hA H p (.rng 0 (n:Int))) L (.tup (oj (n:Int).toNat))=H2 at k2 am|-;refine#[by show 0<=sizeLine;decide,λl1 aK=>?_];have k3:=iq aK (.lst []);have an:hA H2 l1 (.lst []) l1=some (.lst (([]:g9).map nv)):=hO;have ao:=k3 _ _ am;have g3:=k2.trans k3;generalize hA H2 l1 (.lst [])=H3 at k3 an ao g3|-;refine#[by show 2<=sizeLine;decide,λN aL=>?_];have k4:=iq aL (.tup [.ref L,.ref l1]);have ap:hA H3 N (.tup [.ref L,.ref l1]) N=some (.tup [.ref L,.ref l1]):=hO;have aq:=k4 _ _ ao;have af:=k4 _ _ an;have g4:=g3.trans k4;generalize hA H3 N (.tup [.ref L,.ref l1])=H4 at k4 ap aq af g4|-;refine#[by show 1<=sizeLine;decide,λo ag=>?_];have k5:=iq ag (.lst [.ref N]);have lw:l1≠o:=jf af ag;have nW:H o=none:=g4.free ag;have ah:hA H4 o (.lst [.ref N]) o=some (.lst ([N].map .ref)):=hO;have ai:=k5 _ _ ap;have aj:=k5 _ _ aq;have ar:=k5 _ _ af;have g5:=g4.trans k5;generalize hA H4 o (.lst [.ref N])=H5 at ah ai aj ar g5|-;intro v O;have kD:=iq O (.dT []);refine#[_,rZ,o,_,_,_,rZ,rZ,M2 (kD _ _ ah),rZ,N,_,_,_,rZ,rZ,O' (kD _ _ ai),rZ,?_];refine#[hO,L,nk (List.range n),rZ,by rw[nL];exact kD _ _ aj,?_];have g6:Same H (hA (hA H5 v (.dT [])) v (.dT [(nk (List.range n),.bl true)])):=by rw[CF];exact g5.trans (iq O _)
 have k6:Same H5 (hA (hA H5 v (.dT [])) v (.dT [(nk (List.range n),.bl true)])):=by rw[CF];exact iq O _
 have A0:WAt H (hA (hA H5 v (.dT [])) v (.dT [(nk (List.range n),.bl true)])) v o [N] [(List.range n,[])] [(List.range n,[])]:=#[g6,g5.free O,nW,hO,k6 _ _ ah,rZ,λj p r e1 e2=>by
  cases j with
  |zero=>
   cases e1;cases e2;exact#[L,l1,k6 _ _ ai,k6 _ _ aj,k6 _ _ ar,lw]
  |succ j=>simp at e1]
 generalize hA (hA H5 v (.dT [])) v (.dT [(nk (List.range n),.bl true)])=H6 at A0|-;have hU:=M.steps;have h0:=vr n;have inU:∀{d:TW} {i j:Nat},Que (jt g) g.length (List.range n) d i j->∀r∈d,r.1∈jw n n:=λB r hr=>by
  obtain⟨r1,r2⟩:=B.run r hr;rw[<-r2];exact vU h0 hU r.2 r1
 have few:∀{d:TW} {i j:Nat},Que (jt g) g.length (List.range n) d i j->d.length<=4000:=λ{d i j} B=>by
  rw[<-hJ (f:=(·.1)) (as:=d)];refine i5 (rM B.keys (U:=jw n n) λx hx=>?_) (CQ n5);obtain⟨r,hr,rfl⟩:=iK.mp hx;exact inU B r hr
 have done:∀{d:TW} {i:Nat} {ps:As} {C:Hp},Que (jt g) g.length (List.range n) d i 0->WAt H C v o ps d d->(d.length<=most->i=d.length)->Q (.ref o) C:=λ{d i ps C} B W hi=>
  q o ps d C W.g #[W.lst,W.len,λj a p e1 e2=>let⟨t,l,h1,h2,h3,h4⟩:=W.each j a p e1 e2;#[t,l,h4,h1,h2,h3]] B.keys B.run λle=>B.told (by have:=hi le;lia)
 let Wv:Nat->L2.St->Hp->Prop:=λk σ C=>∃(i:Nat) (d:TW) (ps:As) (o5 o6 o7 o8:Option V),Que (jt g) g.length (List.range n) d i 0/\WAt H C v o ps d d/\k+i=4001/\i<=d.length/\σ=[some (.ref m),some (nv most),some (.ref o),some (.ref v),some (nv i),o5,o6,o7,o8]
 refine#[Wv,#[4001,0,_,_,none,none,none,none,Que.start,A0,rZ,mC _,rZ],λk σ H6 P=>?_];obtain⟨i,d,ps,o5,o6,o7,o8,B,W,hk,hi,rfl⟩:=P;have ak:=W.len;refine#[_,rZ,_,rZ,o,_,rZ,.inl (M2 W.lst),_,_,rZ,rZ,_,rZ,p0 (λc=>?_) (λc=>?_)]
 .have c1:i<d.length:=by
   have:=mT c;rw[hJ,ak]at this;lia
  refine#[_,rZ,o,_,rZ,.inl (M2 W.lst),_,rZ,_,_,rZ,rZ,_,rZ,p0 (λc'=>?_) (λc'=>?_)]
  .refine#[λau C=>∃m',m'<k/\Wv m' au C,λau C h=>h,?_];obtain⟨r,D⟩:∃r,d[i]?=some r:=#[_,hV c1];obtain⟨pi,av⟩:∃pi,ps[i]?=some pi:=#[_,hV ()];obtain⟨y,l,hp,hy,hl,aM⟩:=W.each i pi r av D;obtain⟨x1,x2⟩:=hG.mp (inU B r (iV D));have aN:oC (ps.map V.ref) (i:Int)=some (.ref pi):=r6 (by rw[iB,av];rfl);refine#[_,rZ,_,rZ,o,_,_,_,rZ,rZ,M2 W.lst,aN,pi,_,rZ,O' hp,rZ,_,_,rZ,_,_,rZ,rZ,?_];have aV:=B.short i r D;have aw:=few B;let Pj:Nat->L2.St->Hp->Prop:=λj σ C=>∃(d:TW) (ps:As) (o7 o8:Option V),Que (jt g) g.length (List.range n) d i j/\d[i]?=some r/\WAt H C v o ps d d/\C y=some (.tup (r.1.map nv))/\C l=some (.lst (r.2.map nv))/\σ=[some (.ref m),some (nv most),some (.ref o),some (.ref v),some (nv i),some (.ref y),some (.ref l),o7,o8]
   obtain⟨rs,hm,aO,_⟩:=(M.same W.g).refs;refine#[_,rZ,m,_,rZ,.inr (O' hm),(g.length:Int),by rw[hJ,aO],(),(),DR Pj #[d,ps,_,_,B,D,W,hy,hl,rZ] (λj σ H7 hj p=>?_) (λσ H7 p=>?_)]
   .obtain⟨d,ps,o7,o8,B,D,W,hy,hl,rfl⟩:=p;have ax:j<g.length:=by simpa using hj
    have zj:V.int ((0:Int)+((j:Nat):Int))=nv j:=by show V.int (0+(j:Int))=V.int (j:Int);rw[yF]
    rw[zj];have li:=(ik.mp D).1;obtain⟨rs,rr,b1,b2,b3,b4,b5,b6⟩:=(M.same W.g).at ax;have aw:=few B;refine#[_,rZ,_,rZ,_,rZ,m,_,_,_,rZ,rZ,O' b1,b3,y,rr,r.1,g.getD j [],rZ,hy,b4,λx hx=>by rw[b5];exact x2 x hx,(),λth H8 k8 G=>?_];have W8:=W.same k8;have ay:=k8 _ _ hy;have az:=k8 _ _ hl;have G:H8 th=some (.tup ((jt g r.1 j).map nv)):=G;refine#[_,rZ,_,rZ,v,_,rZ,DGet.t W8.known (by rw[nL];exact G),_,rZ,?_];by_cases I:jt g r.1 j∈d.map (·.1)
    .rw[Fk I];exact lz #[d,ps,_,_,B.old D I,D,W8,ay,az,rZ]
    .rw[B0 I];refine lF #[_,rZ,_,rZ,v,_,rZ,DPut.t W8.known (by rw[nL];exact G) (by rw[show(pG d).length=d.length by unfold pG;rw[List.length_map],sizeLine_eq];lia),?_];rw[Bz _ (B0 I)];have W9:=W8.put (r:=(jt g r.1 j,r.2++[j]));have J:∀{b:Ad} {u:HO},(∀aP,u≠ .dT aP)->H8 b=some u->(hA H8 v (.dT (pG d++[(nk (jt g r.1 j),.bl true)]))) b=some u:=λnu hb=>by
      rw[hK (u0 hb W8.known λe=>nu _ e)];exact hb
     have Y:=J (u:=HO.tup _) (λ_ e=>nomatch e) G;have aA:=J (u:=HO.tup _) (λ_ e=>nomatch e) ay;have al:=J (u:=HO.lst _) (λ_ e=>nomatch e) az;generalize hA H8 v (.dT (pG d++[(nk (jt g r.1 j),.bl true)]))=H9 at W9 Y aA al|-;refine#[_,rZ,.inl #[rZ,_,M2 W9.lst],_,rZ,_,rZ,_,rZ,by show 1<=sizeLine;decide,λp1 aQ=>?_];have ka:=iq aQ (.lst [nv j]);refine#[l,p1,_,_,rZ,rZ,M2 (ka _ _ al),M2 hO,by rw[hJ,iR];show r.2.length+1<=_;lia,λl2 aB=>?_];have kb:=ka.trans (iq aB (.lst (r.2.map nv++[nv j])));have aC:hA (hA H9 p1 (.lst [nv j])) l2 (.lst (r.2.map nv++[nv j])) l2=some (.lst ((r.2++[j]).map nv)):=by rw[hO,kS];rfl
     have aD:l2≠o:=(jf (ka _ _ W9.lst) aB).symm;generalize hA (hA H9 p1 (.lst [nv j])) l2 (.lst (r.2.map nv++[nv j]))=aE at kb aC|-;refine#[by show 2<=sizeLine;decide,λq2 aR=>?_];have kc:=iq aR (.tup [.ref th,.ref l2]);have aF:hA aE q2 (.tup [.ref th,.ref l2]) q2=some (.tup [.ref th,.ref l2]):=hO;have kd:=kb.trans kc;have aa:=kc _ _ aC;generalize hA aE q2 (.tup [.ref th,.ref l2])=aW at kc aF kd aa|-;have T:=W9.same kd;have aS:=T.len;refine#[o,_,_,rZ,rZ,T.lst,by rw[hJ,iR];lia,?_];have aT:=T.app (r:=(jt g r.1 j,r.2++[j])) aF (kd _ _ Y) aa aD;have ab:=kd _ _ aA;have aG:=kd _ _ al;refine#[d++[(jt g r.1 j,r.2++[j])],ps++[q2],_,_,B.new D ax I,by rw[j5 li];exact D,aT,?_,?_,rZ]
     .rw[hK (nE ab T.lst)];exact ab
     .rw[hK aM];exact aG
   .obtain⟨d,ps,o7,o8,B,D,W,hy,hl,rfl⟩:=p;have aw:=few B;have li:=(ik.mp D).1;exact#[_,rZ,_,_,rZ,rZ,k-1,(),i+1,d,ps,_,_,_,_,Que.next (by simpa using B) D,W,(),(),rZ]
  .refine#[_,rZ,done B W λle=>wC (i0 ?_) c'];rw[hJ,ak];lia
 .have c1: ¬i<d.length:=λz=>c (by rw[hJ,ak];exact i0 ());exact lz #[_,rZ,done B W λ_=>by lia]
def pM(a:LN):List (List iH×V):=a.map λx=>(nk x,V.bl true)
theorem Eb:∀{a:LN} {x:g9},x∉a->lY (pM a) (nk x)=none
 | [],_,_=>rfl
 |p::a,x,h=>(sd (p:=(nk p,V.bl true)) (r:=pM a) λz=>h (iM.mpr (.inl (uc z).symm))).trans (Eb λz=>h (jr _ z))
theorem D6:∀{a:LN} {x:g9},x∈a->lY (pM a) (nk x)=some (.bl true)
 | [],_,h=>nomatch h
 | p::a,x,h=>by
  by_cases e:p=x
  .rw[<-e];exact wH (p:=(nk p,V.bl true)) (r:=pM a) rfl
  .exact(sd (p:=(nk p,V.bl true)) (r:=pM a) λz=>e (uc z)).trans (D6 ((iM.mp h).resolve_left λz=>e z.symm))
def JE{a:LN}{x:g9}:nC (pM a) (nk x) (.bl true)=if x∈a then pM a else pM (a++[x]):=by
 by_cases h:x∈a
 .rw[wB h];unfold nC;rw[wB (by rw[Aj,D6 h];rfl)];unfold pM;rw[mJ];exact vY λy _=>ite_self _
 .rw[wA h,Bz _ (Eb h)];unfold pM;rw[kS];rfl
def LvH.keeps{H e:Hp}{a:Ad}{c f d:LN}(h:LvH H a c f d)(g:Keeps H e):LvH e a c f d:=by
 obtain⟨s,t,v,bs,i,j,l,m,n,o,p,q,r,u⟩:=h;exact#[s,t,v,bs,i,j,g _ _ (nU l),g _ _ (nU m),vf n g,g _ _ (nU o),vf p g,g _ _ (nU q),r,λk b w x y=>g _ _ (nU (u k b w x y))]
def MO{H c:Hp}{l:Ad}{o:HO}(g:Keeps H c)(n:L2.noT H l=none):Keeps H (hA c l o):=λb u a=>by
 rw[hK (λz=>by rw[z,n]at a;cases a)];exact g b u a
def HZ{K:O0}{H:Hp}{a:Ad}{c g f:LN}(h:LvH H a c g f):Rep K H 3 (.tup [.lst (c.map λu=> .tup (ra u)),.lst (g.map λu=> .tup (ra u)),.lst (f.map λu=> .lst (ra u))]) (.ref a):=by
 obtain⟨s,t,v,bs,y,z,j,k,l,m,n,o,q,r⟩:=h;refine .tup (O' j) rZ λi d v b e=>?_
 match i,b,e with
 |0,b,e=>
  cases b;cases e;exact xk k l
 |1,b,e=>
  cases b;cases e;exact xk m n
 |2,b,e=>
  cases b;cases e;refine .lst (M2 o) (by rw[hJ,hJ,q]) λi d v b e=>?_;rw[iB]at b e;obtain⟨p,w,rfl⟩:=ju.mp b;obtain⟨a,x,rfl⟩:=ju.mp e;exact zb (M2 (r i a p x w))
def Ci:(j3[0]'(by decide))∈j3:=qb _
def Ei:(j3[1]'(by decide))∈j3:=qb _
def qa(t u:g9):g9:=mO (u.map λr=>t.getD r 0)
def lR(t:g9):Bool:=decide (i9 t t=t)
def lP(t:g9):Int:=((vl (t.map λ(n:Nat)=>(n:Int))).length:Int)
def je(t:g9):t.map nv=(t.map λ(n:Nat)=>(n:Int)).map V.int:=by rw[mJ];rfl
def CM{n:Nat}{t a:g9}(h:t∈jw n n)(b:a∈jw n n):i9 t a∈jw n n:=by
 obtain⟨a1,a2⟩:=hG.mp h;obtain⟨c,d⟩:=hG.mp b;refine hG.mpr #[by unfold i9;rw[List.length_map,a1],λr e=>?_];obtain⟨y,f,rfl⟩:=iK.mp e;exact wK d (by rw[c];exact a2 y f)
def MT{n:Nat}{x t u:g9}(b:x∈jw n n)(ht:t∈jw n n):i9 (i9 x t) u=i9 x (i9 t u):=by
 unfold i9;rw[mJ];refine vY λa c=>?_;have d:a<t.length:=by rw[(hG.mp ht).1];exact(hG.mp b).2 a c
 show u.getD (t.getD a 0) 0=(t.map λx=>u.getD x 0).getD a 0;rw[j6 (l:=t.map _),iB,j6 (l:=t),hV d];rfl
def Ih{n:Nat}{t:g9}(ht:t∈jw n n):i9 (List.range n) t=t:=by
 obtain⟨a1,_⟩:=hG.mp ht;unfold i9;refine xi (by rw[hJ,qt,a1]) λi b a=>?_;rw[yI,List.getElem_range,j6,hV a];rfl
def Kj{n:Nat}{t:g9}(ht:t∈jw n n):i9 t (List.range n)=t:=by
 unfold i9;refine(vY λa b=>?_).trans (List.map_id t);rw[j6,wT ((hG.mp ht).2 a b)];rfl
theorem BO{b:LN}{n:Nat}(c:∀t∈b,t∈jw n n):∀(w:g9) (x:g9),(∀l∈w,l<b.length)->x∈jw n n->ki (jt b) x w=i9 x (ki (jt b) (List.range n) w)/\ki (jt b) x w∈jw n n
 | [],x,_,d=>#[(Kj d).symm,d]
 | l::w,x,hw,d=>by
  have f:=hw l (i7 ..);have ht:b.getD l []∈jw n n:=by
   rw[j6,hV f];exact c _ (qb f)
  have e:∀a∈w,a<b.length:=λa g=>hw a (jr _ g);have h:jt b x l∈jw n n:=CM d ht;have i:jt b (List.range n) l∈jw n n:=CM (vr n) ht;obtain⟨j,k⟩:=BO c w (jt b x l) e h;obtain⟨m,_⟩:=BO c w (jt b (List.range n) l) e i;refine#[?_,k];show ki (jt b) (jt b x l) w=i9 x (ki (jt b) (jt b (List.range n) l) w);rw[j,m];show i9 (i9 x (b.getD l [])) _=i9 x (i9 (i9 (List.range n) (b.getD l [])) _);rw[Ih ht,MT d ht]
def Ls{b:LN}{n:Nat}{c:TW}(a:∀t∈b,t∈jw n n)(T:Told (jt b) b.length (List.range n) c){u v:g9}(j:u∈c.map (·.1))(k:v∈c.map (·.1)):i9 u v∈c.map (·.1):=by
 obtain⟨p,m,rfl⟩:=iK.mp j;obtain⟨q,o,rfl⟩:=iK.mp k;obtain⟨d,f⟩:=T.run p m;obtain⟨g,r⟩:=T.run q o;have h:=(BO a p.2 (List.range n) d (vr n)).2;rw[f]at h;have e:=(BO a q.2 p.1 g h).1;rw[r]at e;have s:ki (jt b) (List.range n) (p.2++q.2)=ki (jt b) p.1 q.2:=by
  rw[<-f];unfold ki;rw[qk]
 obtain⟨w,i,_⟩:=T.least _ (p.2++q.2) rZ λl x=>by
  rcases iN.mp x with z|z
  .exact d l z
  .exact g l z
 rw[s,e]at i;exact iK.mpr #[_,i,rZ]
def rL(a:Option g9)(x:g9):Option g9:=match a with
 |none=>some x
 |some y=>if lP x<lP y then some x else some y
theorem E7:∀(b:List (Ad×g9)) (a:Option (Ad×g9)),(b.foldl (uh lP) a).map (·.2)=(b.map (·.2)).foldl rL (a.map (·.2))
 | [],a=>rfl
 | p::b,a=>by
  rw[tc,lH,tc,E7 b]
  congr 1
  cases a with
  |none=>rfl
  |some y=>
   show(if lP p.2<lP y.2 then some p else some y).map (·.2)=if lP p.2<lP y.2 then some p.2 else some y.2;split<;>rfl
theorem CT:∀(b:LN) (a:Option g9) (u:g9),b.foldl rL a=some u->u∈b\/a=some u
 | [],a,u,h=> .inr h
 | p::b,a,u,h=>by
  rcases CT b _ u h with z|z
  .exact .inl (jr _ z)
  .cases a with
   |none=>cases z;exact .inl (i7 ..)
   |some y=>
    have c:(if lP p<lP y then some p else some y)=some u:=z;split at c
    .cases c;exact .inl (i7 ..)
    .exact .inr c
theorem HQ:∀(b:List (Ad×g9)) (a:Option (Ad×g9)) (u:Ad×g9),b.foldl (uh lP) a=some u->u∈b\/a=some u
 | [],a,u,h=> .inr h
 | p::b,a,u,h=>by
  rcases HQ b _ u h with z|z
  .exact .inl (jr _ z)
  .cases a with
   |none=>cases z;exact .inl (i7 ..)
   |some y=>
    have c:(if lP p.2<lP y.2 then some p else some y)=some u:=z;split at c
    .cases c;exact .inl (i7 ..)
    .exact .inr c
def lg(b:LN)(a:g9):LN:=b.filter λt=>decide (qa t a=a)
def lJ(b:LN)(a:g9):g9:=(((lg b a).filter lR).foldl rL none).getD []
def rC(b:LN)(a:g9):LN:=(lg b a).map λt=>i9 (i9 (lJ b a) t) (lJ b a)
def u8(b:LN)(a:g9):g9:=(List.range b.length).filter λk=>decide (b.getD k []∈rC b a)
def Cd{n:Nat}{c:LN}{b:g9}(d:List.range n∈c)(f:b∈lQ n):List.range n∈(lg c b).filter lR:=by
 obtain⟨g,h⟩:=iw.mp f;refine kC.mpr #[kC.mpr #[d,i0 ?_],i0 (Ih (vr n))];unfold qa;have e:b.map (λr=>(List.range n).getD r 0)=b:=by
  refine(vY λa i=>?_).trans (List.map_id b);rw[j6,wT (h a i)];rfl
 rw[e,g]
theorem HL:∀(a:LN) (b:Option g9),(b≠none\/a≠[])->∃u,a.foldl rL b=some u
 | [],none,h=>wC rZ (h.resolve_left λz=>z rZ)
 | [],some y,_=>#[y,rZ]
 | p::a,b,_=>HL a _ (.inl (by
   cases b with
   |none=>exact λz=>nomatch z
   |some y=>
    show(if lP p<lP y then some p else some y)≠none;split<;>exact λz=>nomatch z))
def Gb{n:Nat}{b:LN}{a:g9}(c:List.range n∈b)(d:a∈lQ n):((lg b a).filter lR).foldl rL none=some (lJ b a)/\lJ b a∈b:=by
 obtain⟨u,e⟩:=HL ((lg b a).filter lR) none (.inr λz=>by have:=Cd c d;rw[z]at this;cases this);have f:lJ b a=u:=by unfold lJ;rw[e];rfl
 rw[f];refine#[e,?_]
 rcases CT _ _ u e with z|z
 .exact(kC.mp (kC.mp z).1).1
 .cases z
def Kl{d:Zs}{c:g9}(f:d.Pairwise (· < ·))(j:c.Pairwise (· < ·))(h:∀x:Int,x∈d↔ ∃k∈c,x=(k:Int)):d=c.map λ(n:Nat)=>(n:Int):=by
 have g:(c.map λ(n:Nat)=>(n:Int)).Pairwise (· < ·):=yb.mpr (j.imp λz=>by lia);have i:∀{l:Zs},l.Pairwise (· < ·)->l.Nodup:=λh=>h.imp λz e=>by lia
 refine List.Perm.eq_of_pairwise (le:=(· <= ·)) (λx y _ _=>Int.le_antisymm) (f.imp λz=>by lia) (g.imp λz=>by lia) ((List.perm_ext_iff_of_nodup (i f) (i g)).mpr λx=>?_);rw[h,iK];exact#[λ⟨k,a,b⟩=>#[k,a,b.symm],λ⟨k,a,b⟩=>#[k,a,b.symm]]
def HV{b:Type}{a:List b}(c:a.Nodup){i j:Nat}{x:b}(d:a[i]?=some x)(e:a[j]?=some x):i=j:=by
 obtain⟨h,f⟩:=ik.mp d;obtain⟨k,g⟩:=ik.mp e;exact(C2 c).mp (f.trans g.symm)
def oZ{d:LN}{a:g9}{k:Nat}:k∈u8 d a↔ ∃x,d[k]?=some x/\x∈rC d a:=by
 unfold u8;rw[kC,nj,xS];constructor
 .rintro⟨b,c⟩;rw[j6,hV b]at c;exact#[_,hV b,c]
 .rintro⟨x,b,c⟩;refine#[(ik.mp b).1,?_];rw[j6,b];exact c
def MJ{b:LN}{a:g9}{e:g9}{f:Zs}(m:b.Nodup)(g:e.length=(lg b a).length)(ok:∀(k j:Nat) t,e[k]?=some j->(lg b a)[k]?=some t->b[j]?=some (i9 (i9 (lJ b a) t) (lJ b a)))(o:f.Perm (tq (e.map λ(n:Nat)=>(n:Int)))) (p:f.Pairwise (· < ·)):f=(u8 b a).map λ(n:Nat)=>(n:Int):=by
 refine Kl p (List.pairwise_lt_range.filter _) λx=>?_;rw[o.mem_iff,Kk,iK];constructor
 .rintro⟨k,c,rfl⟩;refine#[k,oZ.mpr ?_,rZ];obtain⟨i,h⟩:=kr.mp c;obtain⟨t,d⟩:∃t,(lg b a)[i]?=some t:=#[_,hV (by rw[<-g];exact(ik.mp h).1)];exact#[_,ok i k t h d,iK.mpr #[t,iV d,rZ]]
 .rintro⟨k,c,rfl⟩;obtain⟨y,q,r⟩:=oZ.mp c;obtain⟨t,ht,rfl⟩:=iK.mp r;obtain⟨i,d⟩:=kr.mp ht;obtain⟨j,l⟩:∃j,e[i]?=some j:=#[_,hV (by rw[g];exact(ik.mp d).1)];have:=HV m (ok i j t l d) q;subst this;exact#[j,iV l,rZ]
def Nv{H:Hp}{bs:As}{a:LN}{i:Nat}{b:Ad}{t:g9}(T:TupsAt H bs (a.take i))(c:a[i]?=some t)(d:H b=some (.tup (t.map nv))):TupsAt H (bs++[b]) (a.take (i+1)):=by
 rw[ow,c];exact AK T d
inductive qu(c:List V)(H:Hp)(Q:VK)(b:XK):Prop|mk:∀(a:Ad) (u:g9),c=[.ref a]->H a=some (.tup (u.map nv))->(∀x∈u,x<u.length)->u.length<=1000->(∀d,Same H d->Q (.bl (lR u)) d)->qu c H Q b
inductive m8(c:List V)(H:Hp)(Q:VK)(b:XK):Prop|mk:∀(a p:Ad) (t u:g9) (n:Nat),c=[.ref a,.ref p]->H a=some (.tup (t.map nv))->H p=some (.tup (u.map nv))->t∈jw n n->1<=n->n<=5->u∈lQ n->(∀d,Same H d->Q (.bl (decide (qa t u=u))) d)->m8 c H Q b
inductive oH(K:O0)(e:List V)(H:Hp)(Q:VK)(c:XK):Prop|mk:∀(l:Ad) (f:As) (a:LN) (n:Nat),e=[.ref l]->SqL K H l (f.map V.ref)->TupsAt H f a->(∀t∈a,t∈jw n n)->n<=5->a.length<=4000->(∃t∈a,lR t=true)->(∀b u d,Same H d->d b=some (.tup (u.map nv))->(a.filter lR).foldl rL none=some u->Q (.ref b) d)->oH K e H Q c
inductive oY(C:Ad)(f:List V)(H:Hp)(Q:VK)(E:XK):Prop|mk:∀(m lv:Ad) (d:LN) (n most:Nat) (c h e:LN),f=[.ref m,.ref lv,nv most]->Mach H m d n->most<=400->Tabs H->LvH H lv c h e->c≠[]->c.headD []∈lQ n->((∀l b a,Keeps H a->Tabs a->L2.noT H l=none->a l=some (.lst ((u8 (b.map (·.1)) (c.headD [])).map nv))->Told (jt d) d.length (List.range n) b->b.length<=most->Q (.ref l) a))->((∀(b:TW) a g,Keeps H a->Tabs a->a g=some (.xd [(sG,nv most)])->(b.map (·.1)).Nodup->(∀p∈b,(∀l∈p.2,l<d.length)/\ki (jt d) (List.range n) p.2=p.1)->most<b.length->E (.ref C) (some g) a))->oY C f H Q E
def zt{H:Hp}{mt a:Ad}{t:g9}{n:Nat}(c:H mt=some (.tup [.ref a]))(d:H a=some (.tup (t.map nv)))(ht:t∈jw n n)(e:1<=n)(f:n<=5):Mach H mt [t] n:=by
 refine#[#[[a],c,rZ,λi r u b g=>?_],ig _,(show 1<=4 by decide),e,f,λu h=>by rw[iE.mp h];exact hG.mp ht];cases i with
 |zero=>cases b;cases g;exact d
 |succ i=>simp at b
section
variable{P:Pg}{w:World}{K:O0}{mg:SV}{base:Heap}{f C:Ad}{d:Fd}
def NI(F:Fun K tE tE wF f d)(j:iD P w K mg base tV 1 [uH,sQ] iJ):FnOk P w K mg base iF 3 f d [sO] qu:=by
 refine F.ok N3 (λk A b s H x Q E g h=>?_)
 obtain⟨a,u,rfl,c,hT,l,q⟩:=h;have m:=g.units;refine#[_,(iC (jh (uu (v8 m) (jc j g.m rZ (iP (hX (pv 0) (hX (pv 0) iQ rZ) rZ))) (pv 0) (lm _)))),?_];refine#[_,rZ,_,rZ,a,a,u,u,rZ,c,c,hT,l,λr n i o=>#[_,rZ,r,a,0,_,_,rZ,rZ,mL (O' o),mL (O' (i _ _ c)),by decide,λv t=>?_]];have e:v=lR u:=by
  rw[px];exact(t.trans iy).trans (xS (p:=i9 u u=u)).symm
 subst e;exact q n i
def Ob(F:Fun K tY tY xm f d)(g:mg "len"=none)(i:mg "set"=none):FnOk P w K mg base iF 1 f d [sO] (mP (λt=>t.length<=5) lP):=by
 refine F.ok MM (λj A c s H l Q E m h=>?_)
 obtain⟨a,t,rfl,e,l5,q⟩:=h;refine#[_,(iC (jh (j8 CL rZ g mY (ir (lZ (Cs rZ) rZ i wY (ir (pv 0) im)) im)))),?_];rw[je]at e;exact#[_,rZ,a,_,rZ,O' e,by rw[hJ];lia,λb k=>#[b,_,rZ,hO,q _ (iq k _)]]
def Oe(F:Fun K uW uW w6 f d)(x:iD P w K mg base uA 3 [sA,sC,tQ] (jm K)):FnOk P w K mg base iF 5 f d [sO,sC] m8:=by
 refine F.ok K6 (λy A g s H Y Q E j h=>?_)
 obtain⟨a,p,t,u,n,rfl,z,k,ht,B,C,D,q⟩:=h;have G:=j.units;refine#[_,(iC (jh (uu (v8 G) (jc x j.m rZ (iP (hX (uj (ir (pv 0) im)) (hX (pv 1) (hX (nX (ir iT im)) iQ rZ) rZ) rZ))) (pv 1) (lm _)))),?_];obtain⟨I,J⟩:=iw.mp D;refine#[_,rZ,by show 1<=sizeLine;decide,λmt i=>?_];have L:=iq i (.tup [.ref a]);refine#[_,rZ,by show 1<=sizeLine;decide,λb M=>?_];have m:=iq M (.lst [.int 0]);have c:=L.trans m;refine#[mt,p,b,[t],n,u,[0],rZ,zt (m _ _ hO) (c _ _ z) ht B C,O' (c _ _ k),by rw[<-I];exact C0 u,J,M2 hO,λl N=>by rw[iE.mp N];exact Nat.one_pos,λr O o T=>#[_,rZ,r,p,0,_,_,rZ,rZ,mL (O' T),mL (O' (o _ _ (c _ _ k))),by decide,λv U=>?_]];have e:v=decide (qa t u=u):=by
  rw[px];exact(U.trans iy).trans (xS (p:=qa t u=u)).symm
 subst e;exact q O (c.trans o)
def NK(F:Fun K tZ tZ vS f d)(jW:iD P w K mg base tE 3 [sO] qu)(kP:iD P w K mg base tY 1 [sO] (mP (λt=>t.length<=5) lP))(qR:mg "min"=none):FnOk P w K mg base iF 5 f d [tR] (oH K):=by
 refine F.ok N4 (λaa A B s H vs Q E G h=>?_)
 obtain⟨l,as,c,n,rfl,I,T,hm,n5,few,j,q⟩:=h;refine#[_,(iC (jh (MV kP G.m rZ rZ qR rZ (nM (CompSc.to (N:=[tR]) (osc:=hZ vS) (vs:=[sO]) {}) rZ rZ (lM (pv 0)) (λ_ _ _ _=>rB (ri (jc jW G.m rZ (ir (pv 0) im)))) (λ_ _ _ _=>(pv 0)))))),?_];have lb:=T.len;have J:∀t∈c,(∀x∈t,x<t.length)/\t.length<=5:=λt ht=>by
  obtain⟨a1,a2⟩:=hG.mp (hm t ht);exact#[λx hx=>by rw[a1];exact a2 x hx,()]
 refine#[_,rZ,l,rZ,#[_,I],on (xs:=as.map .ref) (λi m k=>Same H k/\∃a,m=a.map V.ref/\a.length<=i/\TupsAt k a ((c.take i).filter lR)) (by rw[hJ,iR];lia) #[Same.refl _,[],rZ,ig _,rZ,λi b u e=>by simp at e] (λi m k hi p=>?_) (λi v m k L p=>?_) (λm H2 p M C=>?_)]
 .obtain⟨g,a,rfl,e,_⟩:=p;exact#[g.seq I,by rw[hJ];exact e]
 .obtain⟨g,a,rfl,e,o⟩:=p;rw[iB]at L;obtain⟨b,O,rfl⟩:=ju.mp L;have li:=(ik.mp O).1;obtain⟨u,D⟩:∃u,c[i]?=some u:=#[_,hV ()];have U:=g _ _ (T.is i b u O D);obtain⟨z1,z2⟩:=J u (iV D);refine#[nq,_,rZ,b,u,rZ,U,z1,(),λH4 r=>#[_,rZ,?_]];have z:=vO (o.same r) D (r _ _ U);cases c2:lR u with
  |true=>
   rw[c2,wB rZ]at z;exact lF #[_,rZ,g.trans r,a++[b],by simp,by simp;exact e,z]
  |false=>
   rw[c2,wA (by decide)]at z;exact lz #[g.trans r,a,rZ,(),z]
 obtain⟨g,a,rfl,_,o⟩:=p;rw[hJ,lb,mH]at o;have kw:=iq C (.lst (a.map V.ref));have y:=o.same kw;refine#[M,rZ,M,a,c.filter lR,rZ,M2 hO,y,λt ht=>(J t (kC.mp ht).1).2,λz=>?_,λb u k Y e=>?_]
 .obtain⟨t,h1,h2⟩:=j;have z2:=y.len;rw[z]at z2;have z3:=kC.mpr #[h1,h2];rw[sm.mp z2.symm]at z3;cases z3
 have ez:(a.zip (c.filter lR)).map (·.2)=c.filter lR:=List.map_snd_zip (u4 y.len.symm);have ef:=E7 (a.zip (c.filter lR)) none;rw[e,ez]at ef
 rcases HQ _ _ _ e with z|z
 .obtain⟨i,ei⟩:=kr.mp z;obtain⟨e1,e2⟩:=List.getElem?_zip_eq_some.mp ei;exact q b u k ((g.trans kw).trans Y) (Y _ _ (y.is i b u e1 e2)) ef.symm
 .cases z
def OP{ax cv:Vl}(F:DefAt K sV pK f d ax cv)(kX:CalleeDX P w K mg base sY 10 [sA,sG] (kh C) [])(qT:iD P w K mg base uW 5 [sO,sC] m8)(kQ:iD P w K mg base tZ 5 [tR] (oH K))(jH:iD P w K mg base tV 1 [uH,sQ] iJ)(jJ:mg "sorted"=none)(kE:mg "set"=none):FnOk P w K mg base (CX1 P w) 12 f d [sA,uS,sG] (oY C):=by
 refine F.fnOkX kL (λvs H Q E h=>?_) (λA ay s H vs Q E h hr=>?_)
 .obtain⟨m,lv,ts,n,most,c,us,az,rfl,_⟩:=h;rfl
 obtain⟨m,lv,ts,n,most,c,us,az,rfl,M,af,hT,aA,cne,ag,q,qE⟩:=h;have hu:=hr.units;have aP:=pY hr;refine#[_,?_,(iz (i3 (i:=3) kL.nd rZ Z0 (Cp (CompSc.to (N:=[sA,uS,sG,"turns",tR,"e"]) (osc:=hZ pK) (vs:=[sO,tQ]) {}) rZ (lM (EG kX hr.m wQ rZ (iP (hX (pv 0) (hX (pv 2) iQ rZ) rZ)))) (D0 (CompSc.to (N:=[sA,uS,sG,"turns",tR,"e"]) (osc:=hZ pK) (vs:=[sO,tQ]) {}) rZ rZ rZ) (λ_ _ _ _=>om) (λ_ _ _ _=>(pv 0)))) (iz (BE (CompSc.to (N:=[sA,uS,sG,"turns",tR,"e"]) (osc:=hZ pK) (vs:=[sO]) {}) rZ rZ kL.nd (j:=4) rZ rZ (lM (pv 3)) (λ_ _ _ _=>rB (ri (jc qT hr.m rZ (iP (hX (pv 0) (hX (kg (IxR.k (K:=K) oK pk rZ) (kg (IxR.k (K:=K) pB nS rZ) (pv 2) iT (λ_ _=>rfl)) iT (λ_ _=>rfl)) iQ rZ) rZ))))) (λ_ _ _ _=>(pv 0))) (iz (i3 (i:=5) kL.nd rZ Z0 (jc kQ hr.m rZ (ir (pv 4) im))) (iC (jh (j8 (NA rZ) rZ jJ zU (ir (lZ (Oh rZ) rZ kE wY (ir (nM (CompSc.to (N:=[sA,uS,sG,"turns",tR,"e"]) (osc:=hZ pK) (vs:=[sO]) {}) rZ rZ (lM (pv 4)) (λ_ _ _ _=>om) (λ_ _ _ _=>(IL (K:=K) mZ rZ (vy ui PySem.F.slot_list_index PySem.F.type_list_index (II hu) (pv 4) (ir (jc jH hr.m rZ (iP (hX (jc jH hr.m rZ (iP (hX (pv 6) (hX (pv 0) iQ rZ) rZ))) (hX (pv 6) iQ rZ) rZ))) im))))) im)) im)))))))];refine#[_,rZ,_,rZ,m,ts,n,most,rZ,M,af,hT,λl as O H1 k1 T1 nl _ Pi TT le=>?_,qE];obtain⟨hl,ak,al⟩:=id Pi;have n1:=M.n1;have n5:=M.n5;have inU:∀p∈O,p.1∈jw n n:=λp hp=>by
  obtain⟨r1,r2⟩:=TT.run p hp;rw[<-r2];exact vU (vr n) M.steps p.2 r1
 refine#[l,rZ,#[_,M2 hl],on (xs:=as.map .ref) (λi L J=>J=H1/\∃bs:As,L=bs.map V.ref/\TupsAt H1 bs ((O.map (·.1)).take i)) (by rw[hJ,ak,iR];lia) #[rZ,[],rZ,rZ,λj b u e=>by simp at e] (λi L J hi p=>?_) (λi v L J hv p=>?_) (λL J p so aB=>?_)]
 .obtain⟨rfl,bs,rfl,Tb⟩:=p;refine#[M2 hl,?_];rw[hJ,Tb.len,mS];exact Nat.min_le_left ..
 .obtain⟨rfl,bs,rfl,Tb⟩:=p;rw[iB]at hv;obtain⟨a1,ea,rfl⟩:=ju.mp hv;obtain⟨hi,_⟩:=ik.mp ea;obtain⟨r,er⟩:∃r,O[i]?=some r:=#[_,hV ()];obtain⟨b,c',_,f1,f2,f3⟩:=al i a1 r ea er;refine#[a1,_,rZ,O' f1,rZ,_,_,rZ,_,_,rZ,rZ,CA,qj #[_,rZ,rZ,bs++[b],by simp,Nv Tb (by rw[List.getElem?_map,er];rfl) f2]]
 obtain⟨rfl,bs,rfl,Tb⟩:=p;rw[hJ,ak,<-hJ (f:=(·.1)) (as:=O),mH]at Tb;have ks:=iq aB (.lst (bs.map V.ref));have U:hA J so (.lst (bs.map V.ref)) so=some (.lst (bs.map V.ref)):=hO;have Y:=Tb.same ks;have T:∀u∈O.map (·.1),u∈jw n n:=λu hu=>by
  obtain⟨p,hp,rfl⟩:=iK.mp hu;exact inU p hp
 have h0:List.range n∈O.map (·.1):=by
  obtain⟨_,h1,_⟩:=TT.least _ [] rZ (λ_ h=>nomatch h);exact iK.mpr #[_,h1,rZ]
 have ah:∀{u v},u∈O.map (·.1)->v∈O.map (·.1)->i9 u v∈O.map (·.1):=λhu hv=>Ls (λt ht=>hG.mpr (M.each t ht)) TT hu hv;have aC:=LvH.keeps aA k1;have nd:(O.map (·.1)).Nodup:=TT.keys;have aa:(O.map (·.1)).length<=400:=by rw[hJ];lia
 generalize aD:O.map (·.1)=D at Y T h0 ah nd aa;have am:=aC.same ks;generalize aQ:hA J so (.lst (bs.map V.ref))=H2 at ks U Y am|-;obtain⟨s',t',v',an,ds,I,h1,h2,h3,h4,h5,h6,h7,h8⟩:=am;obtain⟨B,aE,rfl⟩:∃a b,c=a::b:=by
  cases c with
  |nil=>exact wC rZ cne
  |cons a b=>exact#[a,b,rZ]
 have G:B∈lQ n:=ag;obtain⟨fa,ao⟩:∃fa,an[0]?=some fa:=#[_,hV (by rw[h3.len];exact Nat.succ_pos _)];have aF:=h3.is 0 fa B ao rfl;have aG:oC (an.map V.ref) ((0:Nat):Int)=some (.ref fa):=r6 (by rw[iB,ao];rfl);have lb:=Y.len;refine#[_,rZ,so,rZ,#[_,M2 U],on (xs:=bs.map .ref) (λi L J=>Same H2 J/\∃I,L=I.map V.ref/\I.length<=i/\TupsAt J I ((D.take i).filter λt=>decide (qa t B=B))) (by rw[hJ,iR];lia) #[Same.refl _,[],rZ,ig _,rZ,λi b u e=>by simp at e] (λi L J hi p=>?_) (λi v L J hv p=>?_) (λL H3 p wl aH=>?_)]
 .obtain⟨g,I,rfl,e,_⟩:=p;exact#[M2 (g _ _ U),by rw[hJ];exact e]
 .obtain⟨g,I,rfl,e,Tc⟩:=p;rw[iB]at hv;obtain⟨b,eb,rfl⟩:=ju.mp hv;have li:=(ik.mp eb).1;obtain⟨u,eu⟩:∃u,D[i]?=some u:=#[_,hV ()];have hb:=g _ _ (Y.is i b u eb eu);refine#[nq,_,rZ,_,rZ,lv,_,_,_,rZ,rZ,O' (g _ _ h1),rZ,s',_,_,_,rZ,rZ,M2 (g _ _ h2),aG,b,fa,u,B,n,rZ,hb,g _ _ aF,T u (iV eu),n1,n5,G,λH4 g4=>#[_,rZ,?_]];have z:=vO (Tc.same g4) eu (g4 _ _ hb);by_cases c2:qa u B=B
  .rw[i0 c2,wB rZ]at z;rw[i0 c2];exact lF #[_,rZ,g.trans g4,I++[b],by simp,by simp;exact e,z]
  .rw[j9 c2,wA (by decide)]at z;rw[j9 c2];exact lz #[g.trans g4,I,rZ,(),z]
 obtain⟨g3,I,rfl,_,Tc⟩:=p;rw[hJ,lb,mH]at Tc;have kw:=iq aH (.lst (I.map V.ref));have ew:hA H3 wl (.lst (I.map V.ref)) wl=some (.lst (I.map V.ref)):=hO;have Tk:TupsAt (hA H3 wl (.lst (I.map V.ref))) I (lg D B):=Tc.same kw;have g4:=g3.trans kw;generalize hA H3 wl (.lst (I.map V.ref))=H4 at ew Tk g4|-;have ap:∀t∈lg D B,t∈D:=λt ht=>(kC.mp ht).1;obtain⟨aI,ai⟩:=Gb h0 G;refine#[_,rZ,wl,I,lg D B,n,rZ,M2 ew,Tk,λt ht=>T t (ap t ht),n5,i5 (og _ _) (),#[_,(kC.mp (Cd h0 G)).1,(kC.mp (Cd h0 G)).2],λe u H5 g5 he ef=>?_];have eu:u=lJ D B:=lW (ef.symm.trans aI);subst eu;have lk:=Tk.len;have aR:(lg D B).length<=400:=i5 (og _ _) aa;have aj:=g4.trans g5;refine#[_,rZ,wl,rZ,#[_,M2 (g5 _ _ ew)],on (xs:=I.map .ref) (λi L J=>Same H5 J/\∃js:g9,L=js.map nv/\js.length=i/\∀(k j:Nat) t,js[k]?=some j->(lg D B)[k]?=some t->D[j]?=some (i9 (i9 (lJ D B) t) (lJ D B))) (by rw[hJ,iR];lia) #[Same.refl _,[],rZ,rZ,λk j t z=>by simp at z] (λi L J hi p=>?_) (λi v L J hv p=>?_) (λL H6 p aJ aq=>?_)]
 .obtain⟨g,js,rfl,e,_⟩:=p;exact#[M2 ((g5.trans g) _ _ ew),by rw[hJ];lia]
 .obtain⟨g,js,rfl,lj,ok⟩:=p;rw[iB]at hv;obtain⟨b,eb,rfl⟩:=ju.mp hv;obtain⟨t,et⟩:∃t,(lg D B)[i]?=some t:=#[_,hV (by rw[<-lk];exact(ik.mp eb).1)];have hb:=(g5.trans g) _ _ (Tk.is i b t eb et);have ar:=ap t (iV et);obtain⟨a1,a2⟩:=hG.mp (T _ ai);obtain⟨t1,t2⟩:=hG.mp (T _ ar);have ab:=ah ai ar;obtain⟨b1,b2⟩:=hG.mp (T _ ab);obtain⟨j,ej⟩:=kr.mp (ah ab ai);refine#[nq,qj #[_,rZ,.inl #[rZ,_,M2 ((aj.trans g) _ _ U)],_,rZ,_,rZ,e,b,_,t,rZ,g _ _ he,hb,λx hx=>by rw[t1];exact a2 x hx,(),λr H7 g7 e7=>#[_,rZ,r,e,_,_,rZ,e7,g7 _ _ (g _ _ he),λx hx=>by rw[a1];exact b2 x hx,(),λr2 H8 g8 e8=>?_]]];have au:=g7.trans g8;have ae:=(aj.trans g).trans au;refine#[so,_,1,.tup (ra (i9 (i9 (lJ D B) t) (lJ D B))),D.map (λu=> .tup (ra u)),_,j,rZ,rZ,M2 (ae _ _ U),by rw[hJ,hJ,lb],mL (O' e8),λi' d' v' z1 z2=>?_,by decide,by rw[iB,ej];rfl,λi' lt z=>?_,g.trans au,js++[j],by simp,by simp[lj],λk j' t' z1 z2=>?_]
  .rw[iB]at z1 z2;obtain⟨u,eu,rfl⟩:=ju.mp z1;obtain⟨b',aK,rfl⟩:=ju.mp z2;exact mL (O' (ae _ _ (Y.is i' b' u aK eu)))
  .rw[iB]at z;obtain⟨u,eu,ez⟩:=ju.mp z;have:=iy.mp ez
   subst this;exact wC (HV nd eu ej) ()
  .by_cases hk:k<i
   .rw[j5 ()]at z1;exact ok k j' t' z1 z2
   .have aL:k=i:=by
     have:=(ik.mp z1).1;rw[jk,lj]at this;have:k<i+1:=this
     lia
    subst aL;rw[ku (),lj,t5]at z1;cases z1;rw[et]at z2;cases z2;exact ej
 obtain⟨g6,js,rfl,lj,ok⟩:=p;rw[hJ]at lj;have kn:=iq aq (.lst ((js.map λ(n:Nat)=>(n:Int)).map V.int));rw[je];refine#[aJ,_,rZ,M2 hO,by rw[hJ];lia,λsa aM=>#[sa,_,rZ,hO,i5 (OG _) (by rw[hJ];lia),λl2 jz av z1 z2=>?_]];have aN:=MJ nd (lj.trans lk) ok z1 z2;subst aN;have aO:=iq aM (A5 w sa (tq (js.map λ(n:Nat)=>(n:Int))));have gz:=(((ks.trans aj).trans g6).trans kn).trans aO;have aw:=gz.trans (iq av (.lst (((u8 D B).map λ(n:Nat)=>(n:Int)).map V.int)));refine q l2 O _ (k1.trans aw.keeps) (T1.same aw) ?_ (by rw[aD,je];exact hO) TT le;cases y:L2.noT H l2 with
 |none=>rfl
 |some o=>
  exact nomatch av.symm.trans (gz _ _ (k1 _ _ y))
end
inductive qh(K:O0)(e:List V)(H:Hp)(Q:VK)(c:XK):Prop|mk:∀(f fa:Ad) (bs:As) (b:LN) (a:g9) (n:Nat),e=[.ref f,.ref fa]->H f=some (.lst (bs.map V.ref))->TupsAt H bs b->H fa=some (.tup (a.map nv))->a∈lQ n->(∀u∈b,u∈jw n n)->List.range n∈b->b.length<=400->n<=5->(∀l d,Same H d->d l=some (.lst ((u8 b a).map nv))->H l=none->Q (.ref l) d)->qh K e H Q c
section
variable{P:Pg}{w:World}{K:O0}{mg:SV}{base:Heap}{f C:Ad}{d:Fd}
def Ln(F:Fun K uO uO uy f d)(jG:iD P w K mg base tH 1 [uQ,tL] iJ)(jC:mg "tuple"=none)(jJ:mg "sorted"=none)(kE:mg "set"=none)(jA:mg "len"=none)(jB:mg "range"=none):FnOk P w K mg base iF 3 f d [sU,uB] (qh K):=by
 refine F.ok kA (λaF A ar s H vs Q E hr h=>?_)
 obtain⟨so,fa,bs,m,l,n,rfl,ag,T,as,hU,hm,h0,few,n5,q⟩:=h;have hu:=hr.units;have al:=pY hr;refine#[_,(iz (Jn (CompSc1.to (N:=[sU,uB,uC,"_law_amid",sK,uU]) (osc:=hZ uy) (vs:=[sK]) (x:=sK) #[rZ,by decide+kernel,by decide+kernel,by decide+kernel,by decide+kernel,by decide+kernel,by decide+kernel,by decide+kernel]) rZ kA.nd (j:=2) rZ rZ (lM (pv 0)) (λ_ _ _ _=>rB (mG (OpR.k (K:=K) (λK=>nQ K false) (v8 hu) rZ) (lZ (CallR.k (K:=K) Lr xo rZ) rZ jC ut (ir (j8 (CallR.kw1 oy (G4 rZ) rZ) rZ jJ zU (ir (lZ (CallR.kw re (F' rZ) rZ rZ) rZ kE wY (ir (nM (CompSc.toN (N:=[sK,sU,uB,uC,"_law_amid","._law_turn_here",uU]) (vs:=["_law_room"]) rZ rZ (by decide+kernel) (by decide+kernel) (by decide+kernel) (by decide+kernel) (by decide+kernel) (by kernel_rfl)) rZ rZ (Mv (K:=K) (pv 2) rZ) (λ_ _ _ _=>om) (λ_ _ _ _=>(kg (IxR.k (K:=K) pB nS rZ) (pv 1) (pv 0) (λ_ _=>rfl)))) im)) im)) im)) (pv 2) (lm _))) (λ_ _ _ _=>(pv 0))) (iz (i3 (i:=3) kA.nd rZ Z' Cv) (iz (pq pL rZ (lM (pv 2)) (mK (i:=4) kA.nd rZ Z') (iC (mM (mG (v8 hu) (jc jG hr.m rZ (iP (hX (pv 4) (hX (pv 4) iQ rZ) rZ))) (pv 4) (lm _)) (iC (mM (PW.pt (HR (mG Nt (pv 3) Cv (lm _)) (G8 (mG Bt (j8 CL rZ jA mY (ir (lZ (Cs rZ) rZ kE wY (ir (pv 4) im)) im)) (j8 CL rZ jA mY (ir (lZ (Cs rZ) rZ kE wY (ir (pv 3) im)) im)) (lm _))))) (iC (i3 (i:=3) kA.nd rZ Z' (pv 4))) nN)) nN))) (iz (i3 (i:=5) kA.nd rZ Z0 Dg) (iz (pq pL rZ (lM (pv 2)) (mK (i:=4) kA.nd rZ Z') (iC (xG al (pv 5) (jc jG hr.m rZ (iP (hX (jc jG hr.m rZ (iP (hX (pv 3) (hX (pv 4) iQ rZ) rZ))) (hX (pv 3) iQ rZ) rZ))) rk rZ))) (iC (jh (nM (CompSc.to (N:=[sU,uB,uC,"_law_amid",sK,uU]) (osc:=hZ uy) (vs:=[tS]) {}) rZ rZ (ub rZ jB (ir (j8 ou rZ jA mY (ir (pv 0) im)) im)) (λ_ _ _ _=>rB (xV (AL al (kg (IxR.k (K:=K) oK pk rZ) (pv 1) (pv 0) (λ_ _=>rfl)) (pv 6)))) (λ_ _ _ _=>(pv 0)))))))))),?_];have lb:=T.len;obtain⟨x1,x2⟩:=iw.mp hU;have l5:l.length<=5:=by rw[<-x1];exact C0 l
 refine#[_,rZ,so,rZ,#[_,M2 ag],on (xs:=bs.map .ref) (λi O y=>Same H y/\∃B,O=B.map V.ref/\B.length<=i/\TupsAt y B ((m.take i).filter λt=>decide (qa t l=l))) (by rw[hJ,iR];lia) #[Same.refl _,[],rZ,ig _,rZ,λi b u e=>by simp at e] (λi O y hi p=>?_) (λi v O y C p=>?_) (λO H3 p wl au=>?_)]
 .obtain⟨g,B,rfl,e,_⟩:=p;exact#[M2 (g _ _ ag),by rw[hJ];exact e]
 .obtain⟨g,B,rfl,e,Tc⟩:=p;rw[iB]at C;obtain⟨b,L,rfl⟩:=ju.mp C;have li:=(ik.mp L).1;obtain⟨u,U⟩:∃u,m[i]?=some u:=#[_,hV ()];have I:=g _ _ (T.is i b u L U);obtain⟨u1,u2⟩:=hG.mp (hm u (iV U));have hf:=g _ _ as;refine#[nq,_,rZ,fa,rZ,#[_,O' hf],yM (f:=λv=>match v with|.int i=>nv (u.getD i.toNat 0)|v=>v) (by rw[hJ];exact small ()) (O' hf) (λv Q C q=>?_) (λl1 av=>?_)]
  .obtain⟨r,h1,rfl⟩:=iK.mp C;exact#[_,rZ,_,rZ,b,_,_,_,rZ,rZ,O' I,xL (by rw[u1];exact x2 r h1),q]
  .have e2:(l.map nv).map (λv=>match v with|.int i=>nv (u.getD i.toNat 0)|v=>v)=(l.map λr=>u.getD r 0).map nv:=by
    rw[mJ,mJ];rfl
   try dsimp only
   rw[e2];have k1:=iq av (.lst ((l.map λr=>u.getD r 0).map nv));refine#[l1,_,rZ,M2 hO,λx hx=>?_,λa ha=>#[a,_,rZ,hO,λo ho=>?_]]
   .obtain⟨r,h1,rfl⟩:=iK.mp hx;have:=wK u2 (show r<u.length by rw[u1];exact x2 r h1);lia
   .try dsimp only
    rw[CG];refine#[o,_,rZ,.inl #[M2 hO,λt ht=>?_]];have kk:=k1.trans ((iq ha (rY w a (pW 0 (l.map λr=>u.getD r 0)))).trans ((iq ho (.lst ((mO (l.map λr=>u.getD r 0)).map nv))).trans (iq ht (.tup ((mO (l.map λr=>u.getD r 0)).map nv)))));refine#[_,rZ,t,fa,0,_,_,rZ,rZ,mL (O' hO),mL (O' (kk _ _ hf)),by decide,λv C=>#[_,rZ,?_]];have ev:v=decide (qa u l=l):=by
     rw[px];exact(C.trans iy).trans (xS (p:=qa u l=l)).symm
    subst ev;have z:=vO (Tc.same kk) U (kk _ _ I);by_cases c2:qa u l=l
    .rw[i0 c2,wB rZ]at z;rw[i0 c2];exact lF #[_,rZ,g.trans kk,B++[b],by simp,by simp;exact e,z]
    .rw[j9 c2,wA (by decide)]at z;rw[j9 c2];exact lz #[g.trans kk,B,rZ,(),z]
 obtain⟨g3,B,rfl,_,Tc⟩:=p;rw[hJ,lb,mH]at Tc;have kw:=iq au (.lst (B.map V.ref));have ew:hA H3 wl (.lst (B.map V.ref)) wl=some (.lst (B.map V.ref)):=hO;have Tk:TupsAt (hA H3 wl (.lst (B.map V.ref))) B (lg m l):=Tc.same kw;have g4:=g3.trans kw;generalize hA H3 wl (.lst (B.map V.ref))=H4 at ew Tk g4|-;have ah:∀t∈lg m l,t∈jw n n:=λt ht=>hm t (kC.mp ht).1;have lk:=Tk.len;have aG:(lg m l).length<=400:=i5 (og _ _) few;obtain⟨aw,ax⟩:=Gb h0 hU;have aU:=hm _ ax
 let P1:Nat->L2.St->Hp->Prop:=λi Y y=>Same H4 y/\∃v o,(v=.non/\(((lg m l).take i).filter lR).foldl rL none=none\/∃b u,v=.ref b/\y b=some (.tup (u.map nv))/\(((lg m l).take i).filter lR).foldl rL none=some u)/\Y=[some (.ref so),some (.ref fa),some (.ref wl),some v,o,none]
 refine#[_,rZ,wl,rZ,#[_,M2 ew],vi (xs:=B.map .ref) P1 #[Same.refl _,.non,none,.inl #[rZ,rZ],rZ] (λi Y y _ p=>M2 (p.1 _ _ ew)) (λi v Y H5 C p=>?_) (λY H5 p=>?_)]
 .obtain⟨g5,v0,o,st,rfl⟩:=p;rw[iB]at C;obtain⟨b,L,rfl⟩:=ju.mp C;obtain⟨t,et⟩:∃t,(lg m l)[i]?=some t:=#[_,hV (by rw[<-lk];exact(ik.mp L).1)];have I:=g5 _ _ (Tk.is i b t L et);obtain⟨t1,t2⟩:=hG.mp (ah t (iV et));have G:((lg m l).take (i+1)).filter lR=((lg m l).take i).filter lR++(if lR t=true then[t]else[]):=by
   rw[ow,et,vI];cases cc:lR t<;>simp[cc]
  have tb:∀x∈t,x<t.length:=λx hx=>by rw[t1];exact t2 x hx
  refine#[_,rZ,_,rZ,b,b,t,t,rZ,I,I,tb,(),λr H6 J e6=>#[_,rZ,r,b,0,_,_,rZ,rZ,mL (O' e6),mL (O' (J _ _ I)),by decide,λv C=>#[_,rZ,?_]]];have ev:v=lR t:=by
   rw[px];exact(C.trans iy).trans (xS (p:=i9 t t=t)).symm
  subst ev;have aa:=g5.trans J;have am:v0=.non/\(((lg m l).take i).filter lR).foldl rL none=none\/∃b u,v0=.ref b/\H6 b=some (.tup (u.map nv))/\(((lg m l).take i).filter lR).foldl rL none=some u:=st.imp id λ⟨b,u,a1,a2,a3⟩=>#[b,u,a1,J _ _ a2,a3];cases ci:lR t with
  |false=>
   rw[ci,wA (by decide),mq]at G;exact lz #[aa,v0,_,by rw[G];exact am,rZ]
  | true=>
   rw[ci,wB rZ]at G;refine lF ?_
   rcases am with⟨rfl,f0⟩|⟨b2,u,rfl,ai,f0⟩
   .refine#[_,rZ,rZ,_,rZ,lF ?_];refine lF #[_,rZ,aa,.ref b,_,.inr #[b,t,rZ,J _ _ I,?_],rZ];rw[G,qk,f0];rfl
   .refine#[_,rZ,rZ,_,rZ,lz ?_];have an:=J _ _ I;rw[je]at an ai;have ul:u.length<=5:=by
     have z:=CT _ _ _ f0
     rcases z with z|z
     .have:=(hG.mp (ah u (uv (kC.mp z).1))).1;lia
     .cases z
    refine#[_,rZ,b,_,rZ,O' an,by rw[hJ];lia,λs1 ao=>#[s1,_,rZ,hO,_,rZ,b2,_,rZ,O' (iq ao _ _ _ ai),by rw[hJ];lia,λs2 ay=>#[s2,_,rZ,hO,_,_,rZ,rZ,_,rZ,?_]]];have k7:=(iq ao (v9 s1 (t.map λ(n:Nat)=>(n:Int)))).trans (iq ay (v9 s2 (u.map λ(n:Nat)=>(n:Int))));refine p0 (λc=>?_) (λc=>?_)
    .have lt:lP t<lP u:=mT c;refine#[_,rZ,aa.trans k7,.ref b,_,.inr #[b,t,rZ,k7 _ _ (J _ _ I),?_],rZ];rw[G,qk,f0];show(if lP t<lP u then some t else some u)=_
     rw[wB lt]
    .have lt: ¬lP t<lP u:=λz=>c (i0 z);refine#[aa.trans k7,.ref b2,_,.inr #[b2,u,rZ,?_,?_],rZ]
     .rw[je];exact k7 _ _ ai
     .rw[G,qk,f0];show(if lP t<lP u then some t else some u)=_;rw[wA lt]
 obtain⟨g5,v0,o,st,rfl⟩:=p;rw[hJ,lk,mH,aw]at st
 rcases st with⟨_,z⟩|⟨ba,u,rfl,az,U⟩
 .cases z
 cases U;have aA:=g4.trans g5;obtain⟨a1,a2⟩:=hG.mp aU;intro D hD;have kD:=iq hD (.dT [])
 let P2:Nat->L2.St->Hp->Prop:=λi Y y=>Same H5 y/\∃M o,y D=some (.dT (pM M))/\M.length<=i/\(∀x,x∈M↔ ∃t∈(lg m l).take i,i9 (i9 (lJ m l) t) (lJ m l)=x)/\Y=[some (.ref so),some (.ref fa),some (.ref wl),some (.ref ba),o,some (.ref D)]
 refine#[_,rZ,wl,rZ,#[_,M2 (kD _ _ (g5 _ _ ew))],vi (xs:=B.map .ref) P2 #[kD,[],_,hO,ig _,λx=>by simp,rZ] (λi Y y _ p=>M2 (p.1 _ _ (g5 _ _ ew))) (λi v Y H6 C p=>?_) (λY H6 p=>?_)]
 .obtain⟨J,M,o,ek,aB,mem,rfl⟩:=p;rw[iB]at C;obtain⟨b,L,rfl⟩:=ju.mp C;have aC:=(ik.mp L).1;obtain⟨t,et⟩:∃t,(lg m l)[i]?=some t:=#[_,hV (by rw[<-lk];exact aC)];have tU:=ah t (iV et);obtain⟨t1,t2⟩:=hG.mp tU;obtain⟨b1,b2⟩:=hG.mp (CM aU tU);have I:=J _ _ (g5 _ _ (Tk.is i b t L et));have ap:=J _ _ az;refine#[_,rZ,_,rZ,_,rZ,ba,b,_,t,rZ,ap,I,λx hx=>by rw[t1];exact a2 x hx,(),λr H7 g7 e7=>#[_,rZ,r,ba,_,_,rZ,e7,g7 _ _ ap,λx hx=>by rw[a1];exact b2 x hx,(),λr2 H8 g8 e8=>?_]];have aj:=g7.trans g8;refine#[D,_,rZ,DPut.t (k:=nk (i9 (i9 (lJ m l) t) (lJ m l))) (aj _ _ ek) (by rw[nL];exact e8) (by unfold pM;rw[List.length_map,sizeLine_eq];lia),?_];rw[JE];have G:∀x,(∃t'∈(lg m l).take (i+1),i9 (i9 (lJ m l) t') (lJ m l)=x)↔(∃t'∈(lg m l).take i,i9 (i9 (lJ m l) t') (lJ m l)=x)\/i9 (i9 (lJ m l) t) (lJ m l)=x:=λx=>by
   rw[ow,et];constructor
   .rintro⟨t',h1,h2⟩
    rcases iN.mp h1 with z|z
    .exact .inl #[t',z,h2]
    .cases iE.mp z;exact .inr h2
   .rintro(⟨t',h1,h2⟩|h2)
    .exact#[t',pA _ h1,h2]
    .exact#[t,jj _ (iE.mpr rZ),h2]
  by_cases ak:i9 (i9 (lJ m l) t) (lJ m l)∈M
  .rw[wB ak];refine#[oU (J.trans aj) hD,M,_,hO,(),λx=>?_,rZ];rw[G,mem];exact#[.inl,λz=>z.elim id λe=>by rw[<-e];exact(mem _).mp ak]
  .rw[wA ak];refine#[oU (J.trans aj) hD,M++[_],_,hO,by rw[jk];show M.length+1<=_;lia,λx=>?_,rZ];rw[G,iN,mem,iE];exact or_congr_right #[Eq.symm,Eq.symm]
 obtain⟨J,M,o,ek,aB,mem,rfl⟩:=p;rw[hJ,lk,mH]at mem;have ae:∀x,x∈M↔x∈rC m l:=λx=>by rw[mem,rC,iK]
 have ab:=aA.trans J;have af:=ab _ _ ag;refine#[_,rZ,so,_,rZ,.inl (M2 af),(m.length:Int),by rw[hJ,lb],(),(),Af (λi O y=>y=H6/\O=((List.range i).filter λk=>decide (m.getD k []∈rC m l)).map nv) (small ()) #[rZ,rZ] (λi O y _ p=>?_) (λi O y hi p=>?_) (λO y p l3 aq=>?_)]
 .rw[p.2,hJ];exact i5 (og _ _) (by rw[qt];exact ig _)
 .obtain⟨rfl,rfl⟩:=p;have aD:i<m.length:=by simpa using hi
  have zi:V.int ((0:Int)+((i:Nat):Int))=nv i:=by show V.int (0+(i:Int))=V.int (i:Int);rw[yF]
  rw[zi];obtain⟨u,U⟩:∃u,m[i]?=some u:=#[_,hV aD];obtain⟨b,L⟩:∃b,bs[i]?=some b:=#[_,hV ()];have I:=ab _ _ (T.is i b u L U);have aE:=DGet.t (k:=nk u) (b:=b) ek (by rw[nL];exact I);have G:((List.range (i+1)).filter λk=>decide (m.getD k []∈rC m l))=((List.range i).filter λk=>decide (m.getD k []∈rC m l))++(if u∈rC m l then[i]else[]):=by
   rw[wm,vI];have:m.getD i []=u:=by rw[j6,U];rfl
   by_cases c:u∈rC m l<;>simp[U,c]
  refine#[nq,_,rZ,_,rZ,so,_,_,_,rZ,rZ,M2 af,r6 (j:=i) (v:= .ref b) (by rw[iB,L];rfl),_,rZ,D,_,rZ,aE,_,rZ,?_];by_cases c:u∈rC m l
  .rw[D6 ((ae u).mpr c)];rw[wB c]at G;exact lF #[_,rZ,rZ,by rw[G,kS];rfl]
  .rw[Eb λz=>c ((ae u).mp z)];rw[wA c,mq]at G;exact lz #[rZ,by rw[G]]
 obtain⟨rfl,rfl⟩:=p;have k3:=iq aq (.lst ((u8 m l).map nv));exact q l3 _ (ab.trans k3) hO (ab.free aq)
def Lu(F:Fun K sP sP wk f d)(b:mg "isinstance"=none)(c:mg "int"=none)(e:mg "bool"=none):FnOkH P w K mg base 1 f d [sH] kz:=by
 refine F.okH GO (λg H Q E h=>?_) (λj A a s H g Q E k h=>?_)
 .obtain⟨i,rfl,_⟩:=h;rfl
 obtain⟨i,rfl,q⟩:=h;refine#[_,(iC (jh (zz (j8 yL rZ b zq (iP (hX (pv 0) (hX (zx rZ c boot_int) iQ rZ) rZ))) (yw (Gj (j8 yL rZ b zq (iP (hX (pv 0) (hX (zx rZ e boot_bool) iQ rZ) rZ)))))))),?_];refine#[_,rZ,_,_,_,_,rZ,.int i,Ir,_,rZ,lF ?_];exact#[_,rZ,_,_,_,_,rZ,.int i,Fc,_,rZ,q]
end
inductive lq(C:Ad)(g:List V)(H:Hp)(Q:VK)(a:XK):Prop|mk:∀(m lv:Ad) (b:LN) (n most:Nat) (c h d:LN) (e:TW),g=[.ref m,.ref lv,nv most]->Mach H m b n->most<=400->Tabs H->LvH H lv c h d->c≠[]->c.headD []∈lQ n->(e.map (·.1)).Nodup->(∀p∈e,(∀l∈p.2,l<b.length)/\ki (jt b) (List.range n) p.2=p.1)->most<e.length->(∀f,Keeps H f->Tabs f->Q (.bl true) f)->lq C g H Q a
inductive oz(c:List V)(H:Hp)(Q:VK)(a:XK):Prop|mk:∀(l d:Ad) (b:g9),c=[.ref l,.ref d]->H l=some (.lst (b.map nv))->H d=some (.lst (b.map nv))->b.length<=4000->(∀e,Same H e->Q (.bl true) e)->oz c H Q a
inductive n6(K:O0)(c:List V)(H:Hp)(Q:VK)(b:XK):Prop|mk:∀(a:Ad) (d:Zs),c=[.ref a]->SqL K H a (d.map V.int)->d.length<=63->Tabs H->(∀e,Q (.bl true) e)->n6 K c H Q b
def Dc{f:g9->Nat->List Nat}{L:Nat}{c:g9}{a b:TW}(T:Told f L c b)(e:(a.map (·.1)).Nodup)(run:∀p∈a,(∀l∈p.2,l<L)/\ki f c p.2=p.1):a.length<=b.length:=by
 rw[<-hJ (f:=(·.1)) (as:=a),<-hJ (f:=(·.1)) (as:=b)];refine rM e λx g=>?_;obtain⟨p,h,rfl⟩:=iK.mp g;obtain⟨i,j⟩:=run p h;obtain⟨u,d,_⟩:=T.least _ p.2 rZ i;rw[j]at d;exact iK.mpr #[_,d,rZ]
def Kv{K:O0}:PySem.W.kitOne K (.type "list") (.type "list")=some true:=by rfl
section
variable{P:Pg}{w:World}{K:O0}{mg:SV}{base:Heap}{f C:Ad}{a:Fd}
def Jk(F:Fun K uF uF vR f a)(L:iD P w K mg base sP 1 [sH] kz)(M:mg "isinstance"=none)(O:mg "list"=none):FnOk P w K mg base iF 3 f a [sH,sN] oz:=by
 refine F.ok Kx (λT A t s H vs Q E G h=>?_)
 obtain⟨l,d,U,rfl,n,Y,few,q⟩:=h;have I:=G.units;refine#[_,(iz (mM (PW.pt (HR (vu (ri (j8 yL rZ M zq (iP (hX (pv 0) (hX (zx rZ O vX) iQ rZ) rZ))))) (G8 (mG (ya I) (nM (CompSc.to (N:=[sH,sN]) (osc:=hZ vR) (vs:=[tS]) {}) rZ rZ (lM (pv 0)) (λ_ _ _ _=>rB (vu (ri (jc L G.m rZ (ir (pv 0) im))))) (λ_ _ _ _=>(pv 0))) (nX im) (lm _))))) (iC (jh rk)) nN) (iC (jh (uu (v8 I) (pv 0) (pv 1) (lm _))))),?_];refine#[_,rZ,_,_,_,_,rZ,.lst n,Kv,_,rZ,lz ?_];refine#[_,rZ,l,rZ,#[_,M2 n],on (xs:=U.map nv) (λi o u=>Same H u/\o=[]) (by rw[hJ,iR];lia) #[Same.refl _,rZ] (λi o u _ p=>#[M2 (p.1 _ _ n),by rw[p.2];exact mC _]) (λi v o u J p=>?_) (λo x p c y=>?_)]
 .rw[iB]at J;obtain⟨j,ej,rfl⟩:=ju.mp J;exact#[nq,_,rZ,(j:Int),rZ,#[_,rZ,lz #[p.1,p.2]]]
 obtain⟨g7,rfl⟩:=p;have z:=iq y (.lst []);refine#[by show 0<=sizeLine;decide,λe B=>?_];have g:=iq B (.lst []);have k:hA (hA x c (.lst [])) e (.lst []) c=some (.lst (([]:g9).map nv)):=g _ _ hO;have m:hA (hA x c (.lst [])) e (.lst []) e=some (.lst (([]:g9).map nv)):=hO;have r:=g7.trans (z.trans g);generalize hA (hA x c (.lst [])) e (.lst [])=H8 at k m r|-;refine#[c,e,0,_,_,rZ,rZ,zb (M2 k),zb (M2 m),by decide,λC D=>#[_,rZ,?_]];have b:C=true:=D.mpr rfl;subst b;refine lz #[_,rZ,_,rZ,l,d,0,_,_,rZ,rZ,zb (M2 (r _ _ n)),zb (M2 (r _ _ Y)),by decide,λC D=>?_];have b:C=true:=D.mpr rfl;subst b;exact q H8 r
def OB{D:Ad}(F:Fun K tJ tJ xR f a)(J:CalleeDX P w K mg base sV 12 [sA,uS,sG] (oY C) [])(b:Cg P w K mg base sP 1 [sH] kz)(L:mg "TooMany"=some (.ref C))(r:pz K C D)(gE:GetE K C sG):FnOk P w K mg base iF 14 f a [sF,tM,sL] (lq C):=by
 refine F.ok jX (λN A t s H z Q E B h=>?_)
 obtain⟨m,lv,O,n,most,c,T,u,ws,rfl,M,o,hT,x,cne,U,Y,run,lt,q⟩:=h;refine#[_,(iz (i3 (i:=3) jX.nd rZ Z' rk) (iz (LB (i:=4) rZ rZ rZ jX.nd rZ rZ rZ L (On (K4 J B.m rZ (iP (hX (pv 0) (hX (pv 1) (hX (pv 2) iQ rZ) rZ) rZ)))) (λ_=>(iC (i3 (i:=3) jX.nd rZ Z' (zz (N6 b ((B.held.mark _).mono (by decide)) rZ (ir (FX (K:=K) rZ (pv 4)) im)) (yw (uu zI (FX (K:=K) rZ (pv 4)) (pv 2) (lm _)))))))) (iC (jh (pv 3))))),?_];refine#[λv d p=>v=.ref C/\Keeps H p/\Tabs p/\∃g,d=some g/\p g=some (.xd [(sG,nv most)]),#[_,rZ,_,rZ,_,rZ,m,lv,O,n,most,c,T,u,rZ,M,o,hT,x,cne,U,λl z H' _ _ _ _ TT le=>wC (Dc TT Y run) (),λz H' g k1 y j _ _ _=>#[rZ,k1,y,g,rZ,j]],λC' d p e=>?_];obtain⟨e1,k1,y,g,rfl,j⟩:=e;cases e1;refine#[Kr r,λe G=>?_];have k:hA p e (.ext (rh e C (some g))) g=some (.xd [(sG,nv most)]):=by rw[hK (jf j G)];exact j
 refine#[_,rZ,e,C,D,g,(most:Int),rZ,hO,k,r,gE,(most:Int),rZ,?_];refine#[_,rZ,lF #[_,rZ,e,C,D,g,(most:Int),rZ,hO,k,r,gE,_,rZ,rZ,_,rZ,?_]];rw[show decide (V.int (most:Int)=nv most)=true from i0 rZ];have I:=iq G (.ext (rh e C (some g)));exact q _ (k1.trans I.keeps) (y.same I)
end
def HK{K:O0}{H:Hp}{m:Ad}{a:LN}{n:Nat}(M:Mach H m a n):Rep K H 2 (.tup (a.map λt=>Dt.tup (ra t))) (.ref m):=by
 obtain⟨k,e,f,g⟩:=M.refs;refine .tup (O' e) (by rw[hJ,hJ,f]) λi d v b c=>?_;rw[iB]at b c;obtain⟨t,h,rfl⟩:=ju.mp b;obtain⟨r,j,rfl⟩:=ju.mp c;exact mL (O' (g i r t j h))
def _root_.L2.SqL.keeps{K:O0}{H b:Hp}{a:Ad}{c:List V}(h:SqL K H a c)(g:Keeps H b):SqL K b a c:=by
 rcases h with(h|⟨o,h⟩)|h
 .exact .inl (.inl (g _ _ (nU h)))
 .exact .inl (.inr #[o,g _ _ (nU h)])
 .exact .inr h
section
variable{P:Pg}{w:World}{K:O0}{mg:SV}{base:Heap}{f C:Ad}{d:Fd}
def NV{T:Ad}(F:Fun K "law" "law" pX f d)(jF:iD P w K mg base sX 1 [sD,tS] (lT K))(jT:iD P w K mg base tI 3 [sD] (ly K))(qH:iD P w K mg base uN 3 [sF,sL] qi)(qO:iD P w K mg base uR 18 [sA] (mw T (#[59,40,59,93]:Pos))) (kB:iD P w K mg base tJ 14 [sF,tM,sL] (lq C)) (qI:iD P w K mg base uO 3 [sU,uB] (qh K)) (jM:CalleeDX P w K mg base sV 12 [sA,uS,sG] (oY C) [])(kF:iD P w K mg base uF 3 [sH,sN] oz) (jA:mg "len"=none) (rA:mg "max"=none) (qR:mg "min"=none) (jL:mg "list"=none):FnOk P w K mg base iF 20 f d [sD] (n6 K):=by
 refine F.ok qB (λbp A aS s H vs Q E hr h=>?_)
 obtain⟨a,ns,rfl,hS,br,hT,q⟩:=h;have hu:=hr.units;refine#[_,(iz (i3 (i:=1) qB.nd rZ Z' (jc jT hr.m rZ (ir (pv 0) im))) (iz (FJ (CompSc.to (N:=[sD,sF,sU,tK,sL,tM,uC,sN,sH]) (osc:=hZ pX) (vs:=[sK,"_law_word"]) {}) rZ qB.nd (j:=2) rZ rZ (lM (jc qH hr.m rZ (iP (hX (pv 1) (hX iT iQ rZ) rZ)))) (D0 (CompSc.to (N:=[sD,sF,sU,tK,sL,tM,uC,sN,sH]) (osc:=hZ pX) (vs:=[sK,"_law_word"]) {}) rZ rZ rZ) (λ_ _ _ _=>om) (λ_ _ _ _=>(pv 0))) (iz (i3 (i:=3) qB.nd rZ Z' (jc jF hr.m rZ (iP (hX (pv 0) (hX iT iQ rZ) rZ)))) (iz (i3 (i:=4) qB.nd rZ Z' (jx rR iT (jx n7 (jx vk (pv 3) iT) iT))) (iz (BU (mM (mG zI (jx n7 (pv 3) iT) iT (lm _)) (iC (i3 (i:=4) qB.nd rZ Z' (j8 (Mp rZ) rZ rA boot_max (iP (hX iT (hX (j8 (OH rZ) rZ qR boot_min (iP (hX iT (hX (jx rR (jx Nw (j8 ou rZ jA mY (ir (pv 2) im)) iT) (jx n7 (jx vk (pv 3) iT) iT)) iQ rZ) rZ))) iQ rZ) rZ))))) nN)) (iz (pq pL rZ (lM (jc qO hr.m rZ (ir (pv 1) im))) (mK (i:=5) qB.nd rZ Z') (iz (i3 (i:=6) qB.nd rZ Z' (uj (iP (hX (lZ CH rZ jL vX (ir (kg nS (pv 5) iT (λ_ _=>rfl)) im)) (hX (lZ CH rZ jL vX (ir (kg nS (pv 5) iT (λ_ _=>rfl)) im)) (hX (nM (CompSc.to (N:=[sD,sF,sU,tK,sL,tM,uC,sN,sH]) (osc:=hZ pX) (vs:=["_law_word"]) {}) rZ rZ (lM (kg nS (pv 5) iT (λ_ _=>rfl))) (λ_ _ _ _=>om) (λ_ _ _ _=>(lZ (CallR.k (K:=K) Lb CH rZ) rZ jL vX (ir (pv 0) im)))) iQ rZ) rZ) rZ)))) (iz (BU (mM (mG Et (j8 ou rZ jA mY (ir (pv 2) im)) (pv 4) (lm _)) (iC (mM (vu (ri (jc kB hr.m rZ (iP (hX (pv 1) (hX (pv 5) (hX (pv 4) iQ rZ) rZ) rZ))))) (iC (jh rk)) nN)) (iz (i3 (i:=7) qB.nd rZ Z' (jc qI hr.m rZ (iP (hX (pv 2) (hX (kg pk (kg nS (pv 5) iT (λ_ _=>rfl)) iT (λ_ _=>rfl)) iQ rZ) rZ)))) (iz (i3 (i:=8) qB.nd rZ Z' (EG jM hr.m Gm rZ (iP (hX (pv 1) (hX (pv 5) (hX (pv 4) iQ rZ) rZ) rZ)))) (iz (mM (vu (ri (jc kF hr.m rZ (iP (hX (pv 8) (hX (pv 7) iQ rZ) rZ))))) (iC (jh rk)) nN) (iz (pP (CW ui PySem.F.slot_list_clear PySem.F.type_list_clear MW (pv 8))) (iC (mM (vu (ri (jc kF hr.m rZ (iP (hX (EG jM hr.m Gm rZ (iP (hX (pv 1) (hX (pv 5) (hX (pv 4) iQ rZ) rZ) rZ))) (hX (pv 7) iQ rZ) rZ))))) (iC (jh rk)) nN)))))))) (iC (mM (mG (ya hu) (pv 5) (pv 6) (lm _)) (iC (jh rk)) nN))))) (iC (jh (uu (v8 hu) (pv 1) (jc jT hr.m rZ (ir (pv 0) im)) (lm _)))))))))),?_];refine#[_,rZ,a,ns,rZ,hS,λm H1 g1 M=>?_];generalize aT:BJ ns=ts at M;generalize hn:(1+ns.getD 0 0%5).toNat=n at M;have aU:=hT.same g1;have ay:=g1.seq hS;refine#[_,rZ,m,ts,n,400,rZ,M,ig _,λl ps B H2 g2 Pi kn run ai=>?_];obtain⟨hl,az,aA⟩:=id Pi;have inU:∀p∈B,p.1∈jw n n:=λp hp=>by
  obtain⟨r1,r2⟩:=run p hp;rw[<-r2];exact vU (vr n) M.steps p.2 r1
 have few:B.length<=4000:=by
  rw[<-hJ (f:=(·.1)) (as:=B)];refine i5 (rM kn (U:=jw n n) λx hx=>?_) (CQ M.n5);obtain⟨p,hp,rfl⟩:=iK.mp hx;exact inU p hp
 refine#[l,rZ,#[_,M2 hl],on (xs:=ps.map .ref) (λi ys o=>o=H2/\∃bs:As,ys=bs.map V.ref/\bs.length=i/\∀(j:Nat) b u,bs[j]?=some b->(B.map (·.1))[j]?=some u->H2 b=some (.tup (u.map nv))) (by rw[hJ,az,iR];lia) #[rZ,[],rZ,rZ,λj b u e=>by simp at e] (λi ys o _ p=>?_) (λi v ys o hv p=>?_) (λys o p so aV=>?_)]
 .obtain⟨rfl,bs,rfl,e,_⟩:=p;exact#[M2 hl,by rw[hJ];lia]
 .obtain⟨rfl,bs,rfl,lb,ok⟩:=p;rw[iB]at hv;obtain⟨a1,ea,rfl⟩:=ju.mp hv;obtain⟨hi,_⟩:=ik.mp ea;obtain⟨r,er⟩:∃r,B[i]?=some r:=#[_,hV ()];obtain⟨b,c,_,f1,f2,f3⟩:=aA i a1 r ea er;refine#[a1,_,rZ,O' f1,rZ,_,_,rZ,_,_,rZ,rZ,CA,qj #[_,rZ,rZ,bs++[b],by simp,by simp[lb],λj a u e3 e4=>?_]];by_cases hj:j<i
  .rw[j5 ()]at e3;exact ok j a u e3 e4
  .have aW:j=i:=by
    have:=(ik.mp e3).1;rw[jk,lb]at this;have:j<i+1:=this
    lia
   subst aW;rw[ku (),lb,t5]at e3;cases e3;rw[iB,er]at e4;cases e4;exact f2
 obtain⟨rfl,bs,rfl,lb,ok⟩:=p;rw[hJ,az]at lb;have ks:=iq aV (.lst (bs.map V.ref));have aj:hA o so (.lst (bs.map V.ref)) so=some (.lst (bs.map V.ref)):=hO;have aB:∀(j:Nat) b u,bs[j]?=some b->(B.map (·.1))[j]?=some u->hA o so (.lst (bs.map V.ref)) b=some (.tup (u.map nv)):=λj b u e1 e2=>ks _ _ (ok j b u e1 e2);have g3:=g2.trans ks;generalize hA o so (.lst (bs.map V.ref))=H3 at ks aj aB g3|-;refine#[_,rZ,a,ns,6,rZ,by decide,g3.seq ay,?_];generalize ns.getD (6:Int).toNat 0=c;refine#[_,rZ,_,_,rZ,rZ,#[by decide,by decide],_,_,rZ,rZ,(by decide:(0:Int)<400),_,_,rZ,rZ,?_];refine#[λσ o=>o=H3/\∃most:Nat,1<=most/\most<=400/\σ=[some (.ref a),some (.ref m),some (.ref so),some (.int c),some (nv most),none,none,none,none],?_,λbt H4 p4=>?_]
 .refine#[_,rZ,_,_,rZ,rZ,(by decide:(0:Int)<2),rZ,_,rZ,p0 (λc1=>?_) (λc1=>?_)]
  .refine#[_,rZ,so,_,rZ,.inl (M2 aj),_,_,rZ,rZ,_,rZ,_,_,rZ,rZ,#[by decide,by decide],_,_,rZ,rZ,(by decide:(0:Int)<5),_,_,rZ,rZ,_,_,rZ,_,_,rZ,?_]
   try dsimp only
   have aX:0<=c/2%5:=yA _ (by decide);generalize(((bs.map V.ref).length:Nat):Int)-1+c/2%5=z;obtain⟨mo,aY,h1,h2⟩:∃mo:Nat,(if(if z<400 then z else 400)>1 then(if z<400 then z else 400)else 1)=(mo:Int)/\1<=mo/\mo<=400:=by
    by_cases q1:z<400
    .rw[wB q1];by_cases q2:z>1
     .rw[wB q2];exact#[z.toNat,(),(),()]
     .rw[wA q2];exact#[1,rZ,(),()]
    .rw[wA q1,wB (by decide)];exact#[400,rZ,(),()]
   exact#[rZ,mo,h1,h2,by rw[aY];rfl]
  .have bu:0<=c/2%400:=yA _ (by decide);have aX:c/2%400<400:=Bu _ (by decide);exact#[rZ,(1+c/2%400).toNat,(),(),by show[_,_,_,_,some (V.int (1+c/2%400)),_,_,_,_]=[_,_,_,_,some (V.int ((1+c/2%400).toNat:Int)),_,_,_,_];rw[Int.toNat_of_nonneg ()]]
 obtain⟨rfl,most,m1,aa,rfl⟩:=p4;have aZ:=aU.same g3;have M3:=M.same g3;have Tb:TupsAt H4 bs (B.map (·.1)):=#[by rw[lb,hJ],aB];refine#[_,rZ,m,ts,n,rZ,M3,aZ,λll as told a0 ys H5 k5 T5 nl el ff od sub bv Lv nw ap bw=>?_];have M5:=M3.keeps k5;have la:=Lv.len;have aC:=k5 _ _ (nU aj);have a2:=vf Tb k5;have a3:=(g3.seq ay).keeps k5
 let Pv:Nat->L2.St->Hp->Prop:=λ_ σ o=>Keeps H5 o/\Tabs o/\∃o5 o6 o7 o8,σ=[some (.ref a),some (.ref m),some (.ref so),some (.int c),some (nv most),o5,o6,o7,o8]
 refine#[ll,rZ,#[_,M2 el],vi (xs:=as.map .ref) Pv #[Keeps.refl _,T5,none,none,none,none,rZ] (λi σ o _ p=>M2 (p.1 _ _ (nU el))) (λi v σ H6 hv p=>?_) (λσ H6 p=>?_)]
 .obtain⟨k6,T6,o5,o6,o7,o8,rfl⟩:=p;rw[iB]at hv;obtain⟨lv,aD,rfl⟩:=ju.mp hv;have li:=(ik.mp aD).1;obtain⟨cl,aE⟩:∃cl,told[i]?=some cl:=#[_,hV ()];obtain⟨D,a4,lp⟩:=(Lv.is i lv cl aD aE).lv (sub cl (iV aE));have aF:=LvH.keeps a4 k6;obtain⟨s',t',v',bq,ds,cs,h1,h2,h3,h4,h5,h6,h7,h8⟩:=id aF;obtain⟨cne,a5,a6,_⟩:=vd lp.cls;have t:cl.headD []∈lQ n:=ff.inU M (kC.mp a6).1;have l3:=h3.len;have l5:=h5.len;have c32:cl.length<=32:=by
   rw[a5];exact i5 (og _ _) (i5 (og _ _) (ff.few M))
  have bx:cs.length<=32:=by rw[h7,lp.len];exact c32
  refine#[_,rZ,lv,_,_,_,rZ,rZ,O' h1,rZ,s',_,rZ,.inl (M2 h2),λG aG=>?_];have ka:=iq aG (.lst (bq.map V.ref));have ea:hA H6 G (.lst (bq.map V.ref)) G=some (.lst (bq.map V.ref)):=hO;generalize hA H6 G (.lst (bq.map V.ref))=Ha at ka ea|-;refine#[_,rZ,lv,_,_,_,rZ,rZ,O' (ka _ _ h1),rZ,t',_,rZ,.inl (M2 (ka _ _ h4)),λI aH=>?_];have kb:=iq aH (.lst (ds.map V.ref));have eb:hA Ha I (.lst (ds.map V.ref)) I=some (.lst (ds.map V.ref)):=hO;have J:=ka.trans kb;have ak:=kb _ _ ea;generalize hA Ha I (.lst (ds.map V.ref))=Hb at kb eb J ak|-;refine#[_,rZ,lv,_,_,_,rZ,rZ,O' (J _ _ h1),rZ,v',rZ,#[_,M2 (J _ _ h6)],on (xs:=cs.map .ref) (λi ys o=>Same Hb o/\∃L:As,ys=L.map V.ref/\L.length=i/\∀(k:Nat) (e:Ad) (O:g9),L[k]?=some e->D[k]?=some O->o e=some (.lst (O.map nv))) (by rw[hJ,iR];lia) #[Same.refl _,[],rZ,rZ,λk e O z=>by simp at z] (λi ys o _ p=>?_) (λi v ys o hv p=>?_) (λys Hc p y aI=>?_)]
  .obtain⟨g4,L,rfl,le,_⟩:=p;exact#[M2 ((J.trans g4) _ _ h6),by rw[hJ];lia]
  .obtain⟨g4,L,rfl,le,he⟩:=p;rw[iB]at hv;obtain⟨w1,aJ,rfl⟩:=ju.mp hv;obtain⟨O,aK⟩:∃O,D[i]?=some O:=#[_,hV (by rw[<-h7];exact(ik.mp aJ).1)];have a7:=(J.trans g4) _ _ (h8 i w1 O aJ aK);refine#[nq,_,rZ,w1,_,rZ,.inl (M2 a7),λa8 a9=>?_];have kn:=iq a9 (.lst (O.map nv));refine#[g4.trans kn,L++[a8],by rw[kS];rfl,by rw[jk,zF,le],λk e ba z1 z2=>?_];by_cases hk:k<L.length
   .rw[j5 hk]at z1;exact kn _ _ (he k e ba z1 z2)
   .have lk:=(ik.mp z1).1;rw[jk,zF]at lk;have ek:k=i:=by lia
    subst ek;rw[ku (),le,t5]at z1;cases z1;rw[aK]at z2;cases z2;exact hO
  obtain⟨gc,L,rfl,le,he⟩:=p;rw[hJ]at le;have kc:=iq aI (.lst (L.map V.ref));have al:=(J.trans gc).trans kc;have am:hA Hc y (.lst (L.map V.ref)) y=some (.lst (L.map V.ref)):=hO;have an:=(gc.trans kc) _ _ ak;have ao:=(gc.trans kc) _ _ eb;have aq:∀(k:Nat) (e:Ad) (O:g9),L[k]?=some e->D[k]?=some O->hA Hc y (.lst (L.map V.ref)) e=some (.lst (O.map nv)):=λk e O z1 z2=>kc _ _ (he k e O z1 z2);generalize hA Hc y (.lst (L.map V.ref))=Hd at kc al am an ao aq|-;refine#[by show 3<=sizeLine;decide,λkp bb=>?_];have kk:=iq bb (.tup [.ref G,.ref I,.ref y]);have g:=al.trans kk;have ae:LvH (hA Hd kp (.tup [.ref G,.ref I,.ref y])) kp cl (wV a0 (cl.headD [])) D:=#[G,I,y,bq,ds,L,hO,kk _ _ an,h3.same g,kk _ _ ao,h5.same g,kk _ _ am,by rw[le,h7],λk e O z1 z2=>kk _ _ (aq k e O z1 z2)];generalize hA Hd kp (.tup [.ref G,.ref I,.ref y])=H7 at kk g ae|-;have k7:=k6.trans g.keeps;have T7:=T6.same g;have ar:=aF.same g;clear ka ea kb eb J ak he gc kc al am an ao aq kk;obtain⟨fa,bc,bd,_⟩:=BH h3 cne;have af:=k7 _ _ (nU aC);have be:=vf a2 k7;have M7:=M5.keeps k7;have n5:=M.n5;refine#[λσ o=>Keeps H7 o/\Tabs o/\∃o7 o8,σ=[some (.ref a),some (.ref m),some (.ref so),some (.int c),some (nv most),some (.ref lv),some (.ref kp),o7,o8],?_,λbz H8 p8=>?_]
  .refine#[_,rZ,so,_,rZ,.inl (M2 af),_,rZ,_,_,rZ,rZ,_,rZ,p0 (λc2=>?_) (λc2=>?_)]
   .have lt:most<B.length:=by
     have:=mT c2;rw[hJ,lb]at this;lia
    exact#[_,rZ,_,rZ,_,rZ,m,lv,ts,n,most,cl,_,D,B,rZ,M7,aa,T7,ar,cne,t,kn,run,lt,λH8 k8 T8=>#[_,rZ,lz #[k8,T8,_,_,rZ]]]
   have le:B.length<=most:=by
    have: ¬(most:Int)<((bs.map V.ref).length:Int):=λz=>c2 (i0 z);rw[hJ,lb]at this;lia
   have TT:=ai ();have h0:List.range n∈B.map (·.1):=by
    obtain⟨_,h1,_⟩:=TT.least _ [] rZ (λ_ h=>nomatch h);exact iK.mpr #[_,h1,rZ]
   have bf:∀u∈B.map (·.1),u∈jw n n:=λu hu=>by
    obtain⟨p,hp,rfl⟩:=iK.mp hu;exact inU p hp
   have ag:(u8 (B.map (·.1)) (cl.headD [])).length<=4000:=i5 (og _ _) (by rw[qt,hJ];lia);refine#[_,rZ,_,rZ,lv,_,_,_,rZ,rZ,O' (g _ _ h1),rZ,s',_,_,_,rZ,rZ,M2 (g _ _ h2),bc,so,fa,bs,B.map (·.1),cl.headD [],n,rZ,af,be,g _ _ bd,t,bf,h0,by rw[hJ];lia,n5,λdu H8 g8 aL bA=>?_];have T8:=T7.same g8;have aM:=ar.same g8;refine#[_,rZ,_,rZ,_,rZ,m,lv,ts,n,most,cl,_,D,rZ,M7.same g8,aa,T8,aM,cne,t,λfo vs H9 k9 T9 bg aN bh bB=>?_,λvs H9 dx _ _ _ au ab bi=>wC (Dc TT au ab) ()];have av:vs=B:=bh.uniq TT;subst av;refine#[_,rZ,_,rZ,fo,du,_,rZ,aN,k9 _ _ (nU aL),ag,λaw ax=>#[_,rZ,lz ?_]];have Y:=ax _ _ aN;refine#[_,rZ,.inl #[rZ,_,M2 Y],fo,_,rZ,rZ,Y,?_];have ky:Keeps H8 (hA aw fo (.lst [])):=MO (k9.trans ax.keeps) bg;have Ty:Tabs (hA aw fo (.lst [])):=Tabs.most (T9.same ax) λb u n1 n2 hb=>by
    rw[hK (λz=>by rw[z,Y]at hb;cases hb;exact n2 _ rZ)];exact hb
   generalize hA aw fo (.lst [])=bj at ky Ty|-;refine#[_,rZ,_,rZ,_,rZ,m,lv,ts,n,most,cl,_,D,rZ,(M7.same g8).keeps ky,aa,Ty,LvH.keeps aM ky,cne,t,λbk bl bC k12 bm _ aO aP _=>?_,λvs H9 dx _ _ _ au ab bi=>wC (Dc TT au ab) ()];have av:bl=vs:=aP.uniq TT;subst av;have ah:=ky.trans k12;refine#[_,rZ,bk,du,_,rZ,aO,ah _ _ (nU aL),ag,λbD aQ=>#[_,rZ,lz #[(g8.keeps.trans ah).trans aQ.keeps,bm.same aQ,_,_,rZ]]]
  obtain⟨k8,T8,o7,o8,rfl⟩:=p8;refine#[_,rZ,_,rZ,lv,kp,2,_,_,rZ,rZ,HZ (LvH.keeps ar k8),HZ (LvH.keeps ae k8),by decide,λcc hc=>#[_,rZ,?_]];have bn:cc=true:=hc.mpr rfl;subst bn;exact lz #[k7.trans k8,T8,_,_,_,_,rZ]
 .obtain⟨k6,T6,o5,o6,o7,o8,rfl⟩:=p;refine#[_,rZ,_,rZ,a,ns,rZ,a3.keeps k6,λm2 bj bo aR=>?_];rw[aT,hn]at aR;refine#[m,m2,1,_,_,rZ,rZ,HK ((M5.keeps k6).same bo),HK aR,by decide,λv hv=>?_];rw[hv.mpr rZ];exact q _
end
theorem oh{b:Type}{P:List b->Prop}(h:∀a,P [a]):∀c:List b,c.length=1->P c
 | [a],_=>h a
theorem nI{b:Type}{P:List b->Prop}(h:∀a a1,P [a,a1]):∀c:List b,c.length=2->P c
 | [a,a1],_=>h a a1
theorem xZ{b:Type}{P:List b->Prop}(h:∀a a1 a2,P [a,a1,a2]):∀c:List b,c.length=3->P c
 | [a,a1,a2],_=>h a a1 a2
theorem Nl{b:Type}{P:List b->Prop}(h:∀a a1 a2 a3,P [a,a1,a2,a3]):∀c:List b,c.length=4->P c
 | [a,a1,a2,a3],_=>h a a1 a2 a3
set_option maxHeartbeats 0 in
def d6c{l:W.OpenLaw}{w:World}{K:O0}{h:Heap}{mg:SV}{fa f1 f2 f3 f4 f5 f6 f7 f8 f9 aK aL A aM aN aO B aP aQ aR aS aT aU aV aW aX aY aZ a0 ba bb bc bd be bf bg bh C D m q g:Ad}(X:K.In h)(G:h.Ns mainGlobals mg)(fH:mg "law"=some (.ref fa)){fJ fK fL bp fM fN fO fP fQ bq fR fS fT fU fV fW fX fY br bs bt bu bv L bw bx bz bA bB bC bD M bE bF bG bH bJ bK bL bM bN bO bP bQ bR bS bT bU bV bW bX bY bZ b0 b1 b2 b3 b4 b5 b6 b7 b8 b9 ca cb cc cd ce cf cg ch N:Option Ad} {fZ f0 ga gb gc gd ge gf gg ci cj ck cl cm cn co cp cq cr cs ct cu cv cw cx cy cz cA cB cC cD cE cF cG cH cJ:Array (Option Vl)} {gh gi gj gk cK gm gn cL cM cN E cO gp gq gr gs cP gt gu gv gw gx cQ gy gz cR cS cT cU gA gB gC gD cV gF gG gH gI gJ cW gK gL gM gN gO cX gP gQ gR gS gT cY gU cZ c0 da db O dc dd de df dg Q dh di T U Y aa dj dk dm dn ab dp dq dr ds dt ae du dv dw dx dy af dz dA ag ah ai n aj dB dC dD dE ak dF dG dH dI dJ al dK dL dM dN dO am dP dQ dR dS dT an dU dV dW dX dY ao dZ d1 d2 d3 d4 ap d5 d6 d7 d8 d9 aq ea eb ec ed ee ar ef eg eh ei ej as ek el en eo ep au eq er es et eu av ev ew ex ey ez aw eA eB eC eD eE ax eF eG eH eJ eK ay eL eM eN eO eP az eQ eR eS eT eU aA eV eW eX eY eZ aB e0 e1 e2 e3 e4 aC e5 e6 e7 e8 e9 aD fb fc aE aF aG r aH:Vl} {fe:Obj} {gV:Nat} {ff:Obj} {gW:Nat} {fg:Tok} {aI:Obj} {fh:Nat} {aJ:Tok}(a1:W.nsIn K mainGlobals tO=some (some (.ref f1))) (l1:K.lookup f1=some #[gh,fJ,.func (W.fnOf tO tO (ja wS) (iS wS) (hZ wS) .none gi gj gk fK cK gm),fZ]) (c1:W.codeIn K cK tO=true) (k1:W.keepIn K (.ref f1)=true)(a2:W.nsIn K mainGlobals tN=some (some (.ref f2))) (l2:K.lookup f2=some #[gn,fL,.func (W.fnOf tN tN (ja sg) (iS sg) (hZ sg) (.ref C) cL cM cN bp E cO),f0]) (c2:W.codeIn K E tN=true) (k2:W.keepIn K (.ref f2)=true)(lD2:K.lookup C=some fe) (qD2:fe.data=.seq ([.none]:Vs).toArray gV)(a3:W.nsIn K mainGlobals uT=some (some (.ref f3))) (l3:K.lookup f3=some #[gp,fM,.func (W.fnOf uT uT (ja x6) (iS x6) (hZ x6) .none gq gr gs fN cP gt),ga]) (c3:W.codeIn K cP uT=true) (k3:W.keepIn K (.ref f3)=true)(a4:W.nsIn K mainGlobals tV=some (some (.ref f4))) (l4:K.lookup f4=some #[gu,fO,.func (W.fnOf tV tV (ja wj) (iS wj) (hZ wj) .none gv gw gx fP cQ gy),gb]) (c4:W.codeIn K cQ tV=true) (k4:W.keepIn K (.ref f4)=true)(a5:W.nsIn K mainGlobals sY=some (some (.ref f5))) (l5:K.lookup f5=some #[gz,fQ,.func (W.fnOf sY sY (ja qg) (iS qg) (hZ qg) (.ref D) cR cS cT bq (.ref q) cU),gc]) (c5:W.codeIn K (.ref q) sY=true) (k5:W.keepIn K (.ref f5)=true)(lD5:K.lookup D=some ff) (qD5:ff.data=.seq ([.int 400 fg]:Vs).toArray gW)(hd5:W.codeHdIn K q 76=true)(a6:W.nsIn K mainGlobals tE=some (some (.ref f6))) (l6:K.lookup f6=some #[gA,fR,.func (W.fnOf tE tE (ja wF) (iS wF) (hZ wF) .none gB gC gD fS cV gF),gd]) (c6:W.codeIn K cV tE=true) (k6:W.keepIn K (.ref f6)=true)(a7:W.nsIn K mainGlobals "led"=some (some (.ref f7))) (l7:K.lookup f7=some #[gG,fT,.func (W.fnOf "led" "led" (ja xp) (iS xp) (hZ xp) .none gH gI gJ fU cW gK),ge]) (c7:W.codeIn K cW "led"=true) (k7:W.keepIn K (.ref f7)=true)(a8:W.nsIn K mainGlobals uK=some (some (.ref f8))) (l8:K.lookup f8=some #[gL,fV,.func (W.fnOf uK uK (ja w9) (iS w9) (hZ w9) .none gM gN gO fW cX gP),gf]) (c8:W.codeIn K cX uK=true) (k8:W.keepIn K (.ref f8)=true)(a9:W.nsIn K mainGlobals uL=some (some (.ref f9))) (l9:K.lookup f9=some #[gQ,fX,.func (W.fnOf uL uL (ja xv) (iS xv) (hZ xv) .none gR gS gT fY cY gU),gg]) (c9:W.codeIn K cY uL=true) (k9:W.keepIn K (.ref f9)=true)(a10:W.nsIn K mainGlobals uI=some (some (.ref aK))) (l10:K.lookup aK=some #[cZ,br,.func (W.fnOf uI uI (ja vM) (iS vM) (hZ vM) .none c0 da db bs O dc),ci]) (c10:W.codeIn K O uI=true) (k10:W.keepIn K (.ref aK)=true)(a11:W.nsIn K mainGlobals uA=some (some (.ref aL))) (l11:K.lookup aL=some #[dd,bt,.func (W.fnOf uA uA (ja vT) (iS vT) (hZ vT) .none de df dg bu Q dh),cj]) (c11:W.codeIn K Q uA=true) (k11:W.keepIn K (.ref aL)=true)(a12:W.nsIn K mainGlobals sM=some (some (.ref A))) (l12:K.lookup A=some #[di,bv,.func (W.fnOf sM sM (ja rE) (iS rE) (hZ rE) .none T U Y L (.ref g) aa),ck]) (c12:W.codeIn K (.ref g) sM=true) (k12:W.keepIn K (.ref A)=true)(hd12:W.codeHdIn K g 121=true)(a13:W.nsIn K mainGlobals uW=some (some (.ref aM))) (l13:K.lookup aM=some #[dj,bw,.func (W.fnOf uW uW (ja w6) (iS w6) (hZ w6) .none dk dm dn bx ab dp),cl]) (c13:W.codeIn K ab uW=true) (k13:W.keepIn K (.ref aM)=true)(a14:W.nsIn K mainGlobals tY=some (some (.ref aN))) (l14:K.lookup aN=some #[dq,bz,.func (W.fnOf tY tY (ja xm) (iS xm) (hZ xm) .none dr ds dt bA ae du),cm]) (c14:W.codeIn K ae tY=true) (k14:W.keepIn K (.ref aN)=true)(a15:W.nsIn K mainGlobals tZ=some (some (.ref aO))) (l15:K.lookup aO=some #[dv,bB,.func (W.fnOf tZ tZ (ja vS) (iS vS) (hZ vS) .none dw dx dy bC af dz),cn]) (c15:W.codeIn K af tZ=true) (k15:W.keepIn K (.ref aO)=true)(a16:W.nsIn K mainGlobals sV=some (some (.ref B))) (l16:K.lookup B=some #[dA,bD,.func (W.fnOf sV sV (ja pK) (iS pK) (hZ pK) (.ref m) ag ah ai M n aj),co]) (c16:W.codeIn K n sV=true) (k16:W.keepIn K (.ref B)=true)(lD16:K.lookup m=some aI) (qD16:aI.data=.seq ([.int 400 aJ]:Vs).toArray fh)(a17:W.nsIn K mainGlobals uM=some (some (.ref aP))) (l17:K.lookup aP=some #[dB,bE,.func (W.fnOf uM uM (ja xl) (iS xl) (hZ xl) .none dC dD dE bF ak dF),cp]) (c17:W.codeIn K ak uM=true) (k17:W.keepIn K (.ref aP)=true)(a18:W.nsIn K mainGlobals uP=some (some (.ref aQ))) (l18:K.lookup aQ=some #[dG,bG,.func (W.fnOf uP uP (ja ta) (iS ta) (hZ ta) .none dH dI dJ bH al dK),cq]) (c18:W.codeIn K al uP=true) (k18:W.keepIn K (.ref aQ)=true)(a19:W.nsIn K mainGlobals tW=some (some (.ref aR))) (l19:K.lookup aR=some #[dL,bJ,.func (W.fnOf tW tW (ja vA) (iS vA) (hZ vA) .none dM dN dO bK am dP),cr]) (c19:W.codeIn K am tW=true) (k19:W.keepIn K (.ref aR)=true)(a20:W.nsIn K mainGlobals uV=some (some (.ref aS))) (l20:K.lookup aS=some #[dQ,bL,.func (W.fnOf uV uV (ja ve) (iS ve) (hZ ve) .none dR dS dT bM an dU),cs]) (c20:W.codeIn K an uV=true) (k20:W.keepIn K (.ref aS)=true)(a21:W.nsIn K mainGlobals sZ=some (some (.ref aT))) (l21:K.lookup aT=some #[dV,bN,.func (W.fnOf sZ sZ (ja wW) (iS wW) (hZ wW) .none dW dX dY bO ao dZ),ct]) (c21:W.codeIn K ao sZ=true) (k21:W.keepIn K (.ref aT)=true)(a22:W.nsIn K mainGlobals tX=some (some (.ref aU))) (l22:K.lookup aU=some #[d1,bP,.func (W.fnOf tX tX (ja vG) (iS vG) (hZ vG) .none d2 d3 d4 bQ ap d5),cu]) (c22:W.codeIn K ap tX=true) (k22:W.keepIn K (.ref aU)=true)(a23:W.nsIn K mainGlobals sW=some (some (.ref aV))) (l23:K.lookup aV=some #[d6,bR,.func (W.fnOf sW sW (ja xg) (iS xg) (hZ xg) .none d7 d8 d9 bS aq ea),cv]) (c23:W.codeIn K aq sW=true) (k23:W.keepIn K (.ref aV)=true)(a24:W.nsIn K mainGlobals uE=some (some (.ref aW))) (l24:K.lookup aW=some #[eb,bT,.func (W.fnOf uE uE (ja vo) (iS vo) (hZ vo) .none ec ed ee bU ar ef),cw]) (c24:W.codeIn K ar uE=true) (k24:W.keepIn K (.ref aW)=true)(a25:W.nsIn K mainGlobals sS=some (some (.ref aX))) (l25:K.lookup aX=some #[eg,bV,.func (W.fnOf sS sS (ja uf) (iS uf) (hZ uf) .none eh ei ej bW as ek),cx]) (c25:W.codeIn K as sS=true) (k25:W.keepIn K (.ref aX)=true)(a26:W.nsIn K mainGlobals uR=some (some (.ref aY))) (l26:K.lookup aY=some #[el,bX,.func (W.fnOf uR uR (ja vz) (iS vz) (hZ vz) .none en eo ep bY au eq),cy]) (c26:W.codeIn K au uR=true) (k26:W.keepIn K (.ref aY)=true)(a27:W.nsIn K mainGlobals sX=some (some (.ref aZ))) (l27:K.lookup aZ=some #[er,bZ,.func (W.fnOf sX sX (ja xD) (iS xD) (hZ xD) .none es et eu b0 av ev),cz]) (c27:W.codeIn K av sX=true) (k27:W.keepIn K (.ref aZ)=true)(a28:W.nsIn K mainGlobals uD=some (some (.ref a0))) (l28:K.lookup a0=some #[ew,b1,.func (W.fnOf uD uD (ja vK) (iS vK) (hZ vK) .none ex ey ez b2 aw eA),cA]) (c28:W.codeIn K aw uD=true) (k28:W.keepIn K (.ref a0)=true)(a29:W.nsIn K mainGlobals tI=some (some (.ref ba))) (l29:K.lookup ba=some #[eB,b3,.func (W.fnOf tI tI (ja vW) (iS vW) (hZ vW) .none eC eD eE b4 ax eF),cB]) (c29:W.codeIn K ax tI=true) (k29:W.keepIn K (.ref ba)=true)(a30:W.nsIn K mainGlobals tH=some (some (.ref bb))) (l30:K.lookup bb=some #[eG,b5,.func (W.fnOf tH tH (ja vQ) (iS vQ) (hZ vQ) .none eH eJ eK b6 ay eL),cC]) (c30:W.codeIn K ay tH=true) (k30:W.keepIn K (.ref bb)=true)(a31:W.nsIn K mainGlobals uN=some (some (.ref bc))) (l31:K.lookup bc=some #[eM,b7,.func (W.fnOf uN uN (ja xH) (iS xH) (hZ xH) .none eN eO eP b8 az eQ),cD]) (c31:W.codeIn K az uN=true) (k31:W.keepIn K (.ref bc)=true)(a32:W.nsIn K mainGlobals sP=some (some (.ref bd))) (l32:K.lookup bd=some #[eR,b9,.func (W.fnOf sP sP (ja wk) (iS wk) (hZ wk) .none eS eT eU ca aA eV),cE]) (c32:W.codeIn K aA sP=true) (k32:W.keepIn K (.ref bd)=true)(a33:W.nsIn K mainGlobals tJ=some (some (.ref be))) (l33:K.lookup be=some #[eW,cb,.func (W.fnOf tJ tJ (ja xR) (iS xR) (hZ xR) .none eX eY eZ cc aB e0),cF]) (c33:W.codeIn K aB tJ=true) (k33:W.keepIn K (.ref be)=true)(a34:W.nsIn K mainGlobals uO=some (some (.ref bf))) (l34:K.lookup bf=some #[e1,cd,.func (W.fnOf uO uO (ja uy) (iS uy) (hZ uy) .none e2 e3 e4 ce aC e5),cG]) (c34:W.codeIn K aC uO=true) (k34:W.keepIn K (.ref bf)=true)(a35:W.nsIn K mainGlobals uF=some (some (.ref bg))) (l35:K.lookup bg=some #[e6,cf,.func (W.fnOf uF uF (ja vR) (iS vR) (hZ vR) .none e7 e8 e9 cg aD fb),cH]) (c35:W.codeIn K aD uF=true) (k35:W.keepIn K (.ref bg)=true)(a36:W.nsIn K mainGlobals "law"=some (some (.ref bh))) (l36:K.lookup bh=some #[fc,ch,.func (W.fnOf "law" "law" (ja pX) (iS pX) (hZ pX) .none aE aF aG N r aH),cJ]) (c36:W.codeIn K r "law"=true) (k36:W.keepIn K (.ref bh)=true){kK kY:Ad} (n_TooMany:W.nsIn K mainGlobals "TooMany"=some (some (.ref kK))) (n_HallError:W.nsIn K mainGlobals "HallError"=some (some (.ref kY))){fI:Ad} {gX gY:Option Ad} {gZ:Array (Option Vl)} {g0 g1 g2 g3 fi g4:Vl} (lI:K.lookup fI=some #[g0,gX,.func (W.fnOf "__init__" uY (ja xc) (iS xc) (hZ xc) .none g1 g2 g3 gY fi g4),gZ]) (cI:W.codeIn K fi uY=true) (kI:W.keepIn K (.ref fI)=true)(eI:MkE K kK kY fI) (bI:BaseI K kY) (sI:SetE K kK sG)(gE:GetE K kK sG)(bi:W.nsIn K mainGlobals "len"=some none) (f:W.nsIn K mainGlobals "isinstance"=some none) (bj:W.nsIn K mainGlobals "int"=some none) (H:W.nsIn K mainGlobals "bool"=some none) (t:W.nsIn K mainGlobals "range"=some none) (u:W.nsIn K mainGlobals "tuple"=some none) (I:W.nsIn K mainGlobals "list"=some none) (o:W.nsIn K mainGlobals "sorted"=some none) (bk:W.nsIn K mainGlobals "set"=some none) (bl:W.nsIn K mainGlobals "all"=some none) (bm:W.nsIn K mainGlobals "any"=some none) (bn:W.nsIn K mainGlobals "min"=some none) (bo:W.nsIn K mainGlobals "max"=some none):
  ∃fd:Fd,(∀(s:Sh) (v:Vl),BindsTo s fd #[[v],[]] [(sD,v)])/\∀base:Heap,K.In base->base.Ns mainGlobals mg->rX mg base->FnOk l.prog w K mg base iF 20 fa fd [sD] (n6 K):=by
 have e:=fH.symm.trans (ji X G a36);cases e;have F1:=j4 (st:=wS) l1 c1 k1;have F2:DefAt K tN sg f2 (W.fnOf tN tN (ja sg) (iS sg) (hZ sg) (.ref C) cL cM cN bp E cO) (.ref C) E:=#[c2,#[_,_,_,_,_,rZ],_,_,_,l2];have F3:=j4 (st:=x6) l3 c3 k3;have F4:=j4 (st:=wj) l4 c4 k4;have F5:DefAt K sY qg f5 (W.fnOf sY sY (ja qg) (iS qg) (hZ qg) (.ref D) cR cS cT bq (.ref q) cU) (.ref D) (.ref q):=#[c5,#[_,_,_,_,_,rZ],_,_,_,l5];have F6:=j4 (st:=wF) l6 c6 k6;have F7:=j4 (st:=xp) l7 c7 k7;have F8:=j4 (st:=w9) l8 c8 k8;have F9:=j4 (st:=xv) l9 c9 k9;have fj:=j4 (st:=vM) l10 c10 k10;have fk:=j4 (st:=vT) l11 c11 k11;have g5:DefAt K sM rE A (W.fnOf sM sM (ja rE) (iS rE) (hZ rE) .none T U Y L (.ref g) aa) .none (.ref g):=#[c12,#[_,_,_,_,_,rZ],_,_,_,l12];have fl:=j4 (st:=w6) l13 c13 k13;have fm:=j4 (st:=xm) l14 c14 k14;have fn:=j4 (st:=vS) l15 c15 k15;have g6:DefAt K sV pK B (W.fnOf sV sV (ja pK) (iS pK) (hZ pK) (.ref m) ag ah ai M n aj) (.ref m) n:=#[c16,#[_,_,_,_,_,rZ],_,_,_,l16];have fo:=j4 (st:=xl) l17 c17 k17;have fp:=j4 (st:=ta) l18 c18 k18;have fq:=j4 (st:=vA) l19 c19 k19;have fr:=j4 (st:=ve) l20 c20 k20;have fs:=j4 (st:=wW) l21 c21 k21;have ft:=j4 (st:=vG) l22 c22 k22;have fu:=j4 (st:=xg) l23 c23 k23;have fv:=j4 (st:=vo) l24 c24 k24;have fw:=j4 (st:=uf) l25 c25 k25;have fx:=j4 (st:=vz) l26 c26 k26;have fy:=j4 (st:=xD) l27 c27 k27;have fz:=j4 (st:=vK) l28 c28 k28;have fA:=j4 (st:=vW) l29 c29 k29;have fB:=j4 (st:=vQ) l30 c30 k30;have fC:=j4 (st:=xH) l31 c31 k31;have J:=j4 (st:=wk) l32 c32 k32;have fD:=j4 (st:=xR) l33 c33 k33;have fE:=j4 (st:=uy) l34 c34 k34;have fF:=j4 (st:=vR) l35 c35 k35;have g7:=j4 (st:=pX) l36 c36 k36;have p:=pE X G bi;have jD:=pE X G f;have qP:=pE X G bj;have qK:=pE X G H;have jB:=pE X G t;have jC:=pE X G u;have jL:=pE X G I;have jJ:=pE X G o;have kE:=pE X G bk;have qZ:=pE X G bl;have qQ:=pE X G bm;have qR:=pE X G bn;have rA:=pE X G bo;have qA:=ji X G n_TooMany;have kU:=ji X G n_HallError;refine#[W.fnOf "law" "law" (ja pX) (iS pX) (hZ pX) .none aE aF aG N r aH,λs v=> .of_eq rZ,λbase KB _ fG=>?_];have qU:=W.codeHd_of_K KB hd5;have qM:=W.codeHd_of_K KB hd12;have c:Cg l.prog w K mg base sP _ _ _:=#[_,_,Lu (P:=l.prog) (w:=w) (base:=base) J jD qP qK,ji X G a32,k32,J.binds (ps:=[sH]) λ_ _ _ _ _ _=>oh (λ_=>rfl)];have jF:iD l.prog w K mg base sX _ _ _:=#[_,_,IT (P:=l.prog) (w:=w) (base:=base) fy p,ji X G a27,k27,fy.binds (ps:=[sD,tS]) λ_ _ _ _ _ _=>nI (λ_ _=>rfl)];have kR:iD l.prog w K mg base sP _ _ _:=#[_,_,Ki (P:=l.prog) (w:=w) (base:=base) J jD qP qK,ji X G a32,k32,J.binds (ps:=[sH]) λ_ _ _ _ _ _=>oh (λ_=>rfl)];have kT:iD l.prog w K mg base uD _ _ _:=#[_,_,OO (P:=l.prog) (w:=w) (base:=base) fz jB jC jL,ji X G a28,k28,fz.binds (ps:=[tK,tT]) λ_ _ _ _ _ _=>nI (λ_ _=>rfl)];have jT:iD l.prog w K mg base tI _ _ _:=#[_,_,Me (P:=l.prog) (w:=w) (base:=base) fA jF kT jB jC,ji X G a29,k29,fA.binds (ps:=[sD]) λ_ _ _ _ _ _=>oh (λ_=>rfl)];have qY:iD l.prog w K mg base "led" _ _ _:=#[_,_,JO (P:=l.prog) (w:=w) (base:=base) F7,ji X G a7,k7,F7.binds (ps:=[sA,uX,tQ]) λ_ _ _ _ _ _=>xZ (λ_ _ _=>rfl)];have qD:iD l.prog w K mg base uK _ _ _:=#[_,_,Iu (P:=l.prog) (w:=w) (base:=base) F8 p,ji X G a8,k8,F8.binds (ps:=[sC]) λ_ _ _ _ _ _=>oh (λ_=>rfl)];have qG:iD l.prog w K mg base uL _ _ _:=#[_,_,Nu (P:=l.prog) (w:=w) (base:=base) F9 qD jJ,ji X G a9,k9,F9.binds (ps:=[sT]) λ_ _ _ _ _ _=>oh (λ_=>rfl)];have jN:iD l.prog w K mg base uA _ _ _:=#[_,_,MH (P:=l.prog) (w:=w) (base:=base) fk qY jC jJ kE,ji X G a11,k11,fk.binds (ps:=[sA,sC,tQ]) λ_ _ _ _ _ _=>xZ (λ_ _ _=>rfl)];have FI:=j4 (st:=xc) lI cI kI;have qL:Ev l.prog w K mg base "TooMany" _ _ _ kK:=#[_,_,_,eI,Ll (P:=l.prog) (w:=w) (mg:=mg) (base:=base) FI eI bI sI kU,FI.binds (ps:=["self",sG]) λ_ _ _ _ _ _=>nI (λ_ _=>rfl),qA];have jK:D9 l.prog w K mg base tO _ _ _:=#[_,_,Mo (P:=l.prog) (w:=w) (base:=base) F1 qL p,ji X G a1,k1,F1.binds (ps:=["things",sG]) λ_ _ _ _ _ _=>nI (λ_ _=>rfl)];have d:=Ju (P:=l.prog) (w:=w) (base:=base) F2 jK jB;have kH:CalleeDX l.prog w K mg base tN _ _ _ []:=#[_,_,[],d,ji X G a2,k2,(λs i KX j=>by have x:i.length=4:=(by simpa using j);clear j;revert i;exact Nl (λ_ _ _ _=>BindsTo.of_defaults rZ (KX _ _ lD2) qD2 rZ rZ)),.nil];have k:CalleeDX l.prog w K mg base tN _ _ _ [.non]:=#[_,_,[.none],d,ji X G a2,k2,(λs i KX j=>by have x:i.length=3:=(by simpa using j);clear j;revert i;exact xZ (λ_ _ _=>BindsTo.of_defaults rZ (KX _ _ lD2) qD2 rZ rZ)),.cons rZ .nil];have jI:iD l.prog w K mg base sM _ _ _:=#[_,_,KI (P:=l.prog) (w:=w) (base:=base) g5 qM fG Ci jN (k.calm<|Ml) p,ji X G a12,k12,.all (nI (λ_ _=>rfl))];have kZ:iD l.prog w K mg base uT _ _ _:=#[_,_,Mn (P:=l.prog) (w:=w) (base:=base) F3 jC jB,ji X G a3,k3,F3.binds (ps:=[sC]) λ_ _ _ _ _ _=>oh (λ_=>rfl)];have jH:iD l.prog w K mg base tV _ _ _:=#[_,_,Of (P:=l.prog) (w:=w) (base:=base) F4 jC,ji X G a4,k4,F4.binds (ps:=[uH,sQ]) λ_ _ _ _ _ _=>nI (λ_ _=>rfl)];have a:=NJ (P:=l.prog) (w:=w) (base:=base) F5 qU fG Ei kZ jH (kH.imp<|K5) p jL;have kX:CalleeDX l.prog w K mg base sY _ _ _ []:=#[_,_,[],a,ji X G a5,k5,(λs i KX j=>by have x:i.length=2:=(by simpa using j);clear j;revert i;exact nI (λ_ _=>BindsTo.of_defaults rZ (KX _ _ lD5) qD5 rZ rZ)),.nil];have y:CalleeDX l.prog w K mg base sY _ _ _ [.int 400]:=#[_,_,[.int 400 fg],a,ji X G a5,k5,(λs i KX j=>by have x:i.length=1:=(by simpa using j);clear j;revert i;exact oh (λ_=>BindsTo.of_defaults rZ (KX _ _ lD5) qD5 rZ rZ)),.cons #[_,rZ] .nil];have qF:iD l.prog w K mg base uM _ _ _:=#[_,_,Nz (P:=l.prog) (w:=w) (base:=base) fo kZ jI p jL,ji X G a17,k17,fo.binds (ps:=[sA]) λ_ _ _ _ _ _=>oh (λ_=>rfl)];have kJ:iD l.prog w K mg base uP _ _ _:=#[_,_,N1 (P:=l.prog) (w:=w) (base:=base) fp qF qG p jB,ji X G a18,k18,fp.binds (ps:=[sA]) λ_ _ _ _ _ _=>oh (λ_=>rfl)];have jY:iD l.prog w K mg base uI _ _ _:=#[_,_,JA (P:=l.prog) (w:=w) (base:=base) fj qZ,ji X G a10,k10,fj.binds (ps:=[uH,sQ]) λ_ _ _ _ _ _=>nI (λ_ _=>rfl)];have kN:iD l.prog w K mg base tW _ _ _:=#[_,_,LG (P:=l.prog) (w:=w) (base:=base) fq jY qQ,ji X G a19,k19,fq.binds (ps:=["part",sT]) λ_ _ _ _ _ _=>nI (λ_ _=>rfl)];have qS:iD l.prog w K mg base uV _ _ _:=#[_,_,L' (P:=l.prog) (w:=w) (base:=base) fr kJ jY kN,ji X G a20,k20,fr.binds (ps:=[sA,sC]) λ_ _ _ _ _ _=>nI (λ_ _=>rfl)];have jV:iD l.prog w K mg base sZ _ _ _:=#[_,_,IU (P:=l.prog) (w:=w) (base:=base) fs kJ jI p,ji X G a21,k21,fs.binds (ps:=[sA]) λ_ _ _ _ _ _=>oh (λ_=>rfl)];have kO:iD l.prog w K mg base tX _ _ _:=#[_,_,Ky (P:=l.prog) (w:=w) (base:=base) ft,ji X G a22,k22,ft.binds (ps:=[sJ,sC]) λ_ _ _ _ _ _=>nI (λ_ _=>rfl)];have jU:iD l.prog w K mg base sW _ _ _:=#[_,_,Lp (P:=l.prog) (w:=w) (base:=base) fu kO,ji X G a23,k23,fu.binds (ps:=[sJ]) λ_ _ _ _ _ _=>oh (λ_=>rfl)];have kW:iD l.prog w K mg base uE _ _ _:=#[_,_,Nr (P:=l.prog) (w:=w) (base:=base) fv qQ,ji X G a24,k24,fv.binds (ps:=[sJ,sT,tG]) λ_ _ _ _ _ _=>xZ (λ_ _ _=>rfl)];have jS:iD l.prog w K mg base sS _ _ _:=#[_,_,JB (P:=l.prog) (w:=w) (base:=base) fw kW,ji X G a25,k25,fw.binds (ps:=[sJ,tG]) λ_ _ _ _ _ _=>nI (λ_ _=>rfl)];have qO:iD l.prog w K mg base uR _ _ _:=#[_,_,Kt (P:=l.prog) (w:=w) (base:=base) fx jV jU jS qS,ji X G a26,k26,fx.binds (ps:=[sA]) λ_ _ _ _ _ _=>oh (λ_=>rfl)];have jW:iD l.prog w K mg base tE _ _ _:=#[_,_,NI (P:=l.prog) (w:=w) (base:=base) F6 jH,ji X G a6,k6,F6.binds (ps:=[sO]) λ_ _ _ _ _ _=>oh (λ_=>rfl)];have qT:iD l.prog w K mg base uW _ _ _:=#[_,_,Oe (P:=l.prog) (w:=w) (base:=base) fl jN,ji X G a13,k13,fl.binds (ps:=[sO,sC]) λ_ _ _ _ _ _=>nI (λ_ _=>rfl)];have kP:iD l.prog w K mg base tY _ _ _:=#[_,_,Ob (P:=l.prog) (w:=w) (base:=base) fm p kE,ji X G a14,k14,fm.binds (ps:=[sO]) λ_ _ _ _ _ _=>oh (λ_=>rfl)];have kQ:iD l.prog w K mg base tZ _ _ _:=#[_,_,NK (P:=l.prog) (w:=w) (base:=base) fn jW kP qR,ji X G a15,k15,fn.binds (ps:=[tR]) λ_ _ _ _ _ _=>oh (λ_=>rfl)];have b:=OP (P:=l.prog) (w:=w) (base:=base) g6 kX qT kQ jH jJ kE;have jM:CalleeDX l.prog w K mg base sV _ _ _ []:=#[_,_,[],b,ji X G a16,k16,(λs i KX j=>by have x:i.length=3:=(by simpa using j);clear j;revert i;exact xZ (λ_ _ _=>BindsTo.of_defaults rZ (KX _ _ lD16) qD16 rZ rZ)),.nil];have z:CalleeDX l.prog w K mg base sV _ _ _ [.int 400]:=#[_,_,[.int 400 aJ],b,ji X G a16,k16,(λs i KX j=>by have x:i.length=2:=(by simpa using j);clear j;revert i;exact nI (λ_ _=>BindsTo.of_defaults rZ (KX _ _ lD16) qD16 rZ rZ)),.cons #[_,rZ] .nil];have jG:iD l.prog w K mg base tH _ _ _:=#[_,_,Mw (P:=l.prog) (w:=w) (base:=base) fB jC,ji X G a30,k30,fB.binds (ps:=[uQ,tL]) λ_ _ _ _ _ _=>nI (λ_ _=>rfl)];have qH:iD l.prog w K mg base uN _ _ _:=#[_,_,K1 (P:=l.prog) (w:=w) (base:=base) fC jG jC jB p,ji X G a31,k31,fC.binds (ps:=[sF,sL]) λ_ _ _ _ _ _=>nI (λ_ _=>rfl)];have kB:iD l.prog w K mg base tJ _ _ _:=#[_,_,OB (P:=l.prog) (w:=w) (base:=base) fD jM c qA eI.cls gE,ji X G a33,k33,fD.binds (ps:=[sF,tM,sL]) λ_ _ _ _ _ _=>xZ (λ_ _ _=>rfl)];have qI:iD l.prog w K mg base uO _ _ _:=#[_,_,Ln (P:=l.prog) (w:=w) (base:=base) fE jG jC jJ kE p jB,ji X G a34,k34,fE.binds (ps:=[sU,uB]) λ_ _ _ _ _ _=>nI (λ_ _=>rfl)];have kF:iD l.prog w K mg base uF _ _ _:=#[_,_,Jk (P:=l.prog) (w:=w) (base:=base) fF kR jD jL,ji X G a35,k35,fF.binds (ps:=[sH,sN]) λ_ _ _ _ _ _=>nI (λ_ _=>rfl)];exact NV (P:=l.prog) (w:=w) (base:=base) g7 jF jT qH qO kB qI jM kF p rA qR jL
def c9s:As:=[121,76]
def walk{l:PySem.W.OpenLaw}{q:Pg}{b:Ss}{j:SV->Heap->Prop}{g:World->Heap->Prop}{d:DefRec}{K:Params->O0}(m:l.most=some 63)(i:d.params.defaults=[])(o:∀(w:World) (h:Heap),g w h->(K w.params).In h) (hT:∀w:World,∀t∈c9s,(K w.params).lookup t=none/\((∃y c,PySem.W.tabIn (K w.params) y=some (c,t)/\∃e,(recsOf q).find? (λr=>r.name==y)=some e)\/((∃c,PySem.W.codeHdIn (K w.params) c t=true)/\∀h,g w h->h.get? t=some (PySem.W.tabObj #v[]))))(F:∀(w:World) (mg:SV) (fa:Ad) (h:Heap),(K w.params).In h->h.Ns mainGlobals mg->mg d.name=some (.ref fa)->
   ∃fd:Fd,(∀(s:Sh) (u:Vl),BindsTo s fd #[[u],[]] [(sD,u)])/\∀base:Heap,(K w.params).In base->base.Ns mainGlobals mg->rX mg base->FnOk l.prog w (K w.params) mg base iF 20 fa fd [sD] (n6 (K w.params))):
  PySem.W.WalkO q b j g l.row.toRowW d [] (λf p=>PySem.call f p):=
 L2.c4e (n:=63) (k:=20) (x:=sD) (tabs:=c9s) (sp:=λw=>n6 (K w.params)) m (by decide) i #[rZ,by decide,by decide] o hT F λw H a v z ht A=>#[a,v,rZ,A,z,(λq B=> .inl (ht _ ((show j3.map (·.2.2)=c9s from rfl)▸List.mem_map_of_mem B))),λ_=>rfl]
end My
namespace PySem.W.Fast
def tw7182473835801911832:=0
theorem te7182473835801911832 : True := ⟨⟩
def tw2955693913348823297:=0
def tw13013388559042359529:=0
def tw7221233078629249888:=0
def tw15566109844790005709:=0
def tw12487073859381375272:=0
def tw3056804075810572737:=0
def tw17516257043620535547:=0
def tw10643495707943706636:=0
def tw10366424911470421955:=0
def tw14975198504166648497:=0
def tw7916698323326815060:=0
def tw11420078602422035638:=0
def tw12008170610820231753:=0
def tw7754410734473691629:=0
def tw17702035824608102774:=0
def tw8518785224780198812:=0
def tw3988939791936911181:=0
def tw13898627581432149115:=0
def tw17520221320833572273:=0
def tw17875639574657051923:=0
def tw4042030494502131277:=0
def tw17109660533471753714:=0
def tw8575159908060634399:=0
def tw5297239703751479053:=0
def tw6727173537788510813:=0
def tw5537076760333257554:=0
def tw11211761734440160436:=0
def tw15677892640026358738:=0
def tw3194688139940086907:=0
def tw16589808968449415478:=0
def tw8508362403070041476:=0
def tw10048590498457763141:=0
def tw16259459742558780181:=0
def tw18083320899386883583:=0
def tw11974823881133442251:=0
def tw11723662902267954843:=0
def tw3276007838854517892:=0
def tw14650534278417268513:=0
def tw7263219349604455130:=0
def tw1091988468950587283:=0
def tw10163064510935187368:=0
def tw10423065033265703856:=0
def tw746094857747542113:=0
def tw5572011064408281333:=0
def tw10913038795123690291:=0
def tw10125164158854372680:=0
def tw4488454839619826123:=0
def tw7441130209429360742:=0
def tw8197496880012900198:=0
def tw10957364274825240584:=0
def tw4616184886890220965:=0
def tw17876596069001594845:=0
def tw14808066503561499495:=0
def tw11595647098199366786:=0
def tw9958541335951961869:=0
def tw4777495036259643570:=0
def tw221492676668367362:=0
def tw2282408221642602126:=0
def tw4570008183882575446:=0
def tw14510556978978093173:=0
def tw10798597205995100718:=0
def tw5292355263468395803:=0
def tw2462747608289401194:=0
def tw14243661103152350414:=0
def tw11077734779047535408:=0
def tw14085585125918484099:=0
def tw12544450591188558852:=0
def tw8751872707616566875:=0
def tw1520386919153095544:=0
def tw9586901150169476397:=0
def tw523668418870012207:=0
def tw502385339414887270:=0
def tw18246105600383382041:=0
def tw4191082329323640302:=0
def tw13354116829947524161:=0
def tw14906530389938033462:=0
def tw2632138415856156056:=0
def tw6574205206890067653:=0
def tw15866639353398276680:=0
def tw855855049110514223:=0
def tw13029353933381439259:=0
def tw5372475276915095038:=0
def tw8598741424028327619:=0
def tw7654732567031832749:=0
def tw3517887555108597766:=0
def tw7519818968311215422:=0
def tw4576567215867279628:=0
def tw18137938064756054835:=0
def tw17362494459605764574:=0
def tw7470867556604971676:=0
def tw13909403552511125541:=0
def tw3859451549830154884:=0
def tw12960300831612785682:=0
def tw3140944957458364823:=0
def tw1087878759214320511:=0
def tw9163956196975162137:=0
def tw5055371338404617283:=0
def tw3392576381656011344:=0
def tw3499987842214608961:=0
def tw18298180803884586637:=0
def tw17093269032585373179:=0
def tw7750536157865837483:=0
def tw8622692635945637846:=0
def tw6539631551797903274:=0
def tw14978468166468445456:=0
def tw8889136100166815399:=0
def tw14818036401820794285:=0
def tw7664948387340740604:=0
def tw2716836177512988890:=0
def tw11193602866974497538:=0
def tw3689370376446697826:=0
def tw7126888572758164787:=0
def tw7131277792454502251:=0
def tw6643075042182029997:=0
def tw6809039557811542317:=0
def tw922389563871056129:=0
def tw1743248586249997272:=0
def tw12155604169734898660:=0
def tw4861399430821612831:=0
def tw12290482462723133920:=0
def tw4123108618570627399:=0
def tw12476486870258730286:=0
def tw8422847245676420782:=0
def tw11116581110431100012:=0
def tw4039982912343681536:=0
def tw12043800111546450376:=0
def tw15526185132883762043:=0
def tw16725722329023500365:=0
def tw10739300416545400517:=0
def tw4699554374755521356:=0
def tw14334366206056271316:=0
def tw9172129250258884208:=0
def tw9959231027645159009:=0
def tw1203631714505906253:=0
def tw3675219688827055556:=0
def tw6142326814888355029:=0
def tw1797558341798533740:=0
def tw14316652424440470330:=0
def tw3913128016582438346:=0
def tw10561348685902862167:=0
def tw17753287913462930721:=0
def tw12649696493786515664:=0
def tw47202732555099522:=0
def tw5223915513137001895:=0
def tw15232393760675734741:=0
def tw921091255111161732:=0
def tw2433236886421094925:=0
def tw9059068237370879877:=0
def tw8003843588407310271:=0
def tw11818352532669589362:=0
def tw17391406234693965910:=0
def tw17334155451248343876:=0
def tw7500002921380385637:=0
def tw15089911466246437434:=0
def tw12259341240394148747:=0
def tw15821038272270789255:=0
def tw11754486372616845510:=0
def tw9326785148104931033:=0
def tw7366120276522206726:=0
def tw14303639691307513217:=0
def tw3031362394157006158:=0
def tw307873910274724943:=0
def tw10815583510199429868:=0
def tw709128717025430688:=0
def tw17694581516040932188:=0
def tw6662361213602634554:=0
def tw15583446596284758975:=0
def tw11309612549360513661:=0
def tw17093459972876011944:=0
def tw14600984991529794373:=0
def tw10764580258844283928:=0
def tw5272562470121599413:=0
def tw1371934453037443483:=0
def tw11998036705816628108:=0
def tw3178176360812737725:=0
def tw12563058693149839018:=0
def tw6329492954152290094:=0
def tw565960424829568580:=0
def tw5315738904261135478:=0
def tw14578956038300123316:=0
def tw10925446750452782894:=0
def tw4549031064538527553:=0
def tw14313229154387523287:=0
def tw2249376913091706576:=0
def tw7986419606607277672:=0
def tw14484872442439571572:=0
def tw5427566850880263190:=0
def tw9541861246557115055:=0
def tw1757731398278412264:=0
def tw18363228716034756694:=0
def tw8493523007745854153:=0
def tw5418562713620694742:=0
def tw12280989102921518658:=0
def tw12235207625892026183:=0
def tw18235580107279531883:=0
def tw11657489229858490183:=0
def tw11902139803797586079:=0
def tw13490413775701017362:=0
def tw18377429859325464686:=0
def tw12527418843724099022:=0
end PySem.W.Fast
open PySem PySem.W PyProof.Rows
set_option maxRecDepth 100000 in
set_option maxHeartbeats 0 in
theorem PySem.Challenge.cw_cascade_k63_own_turns_told_holds : PySem.Challenge.rw_cascade_k63_own_turns_told.Holds := by
 w_on; o_law; k_head; (case hw => w_witness2)
 k_fill
 refine' My.walk (l := PySem.Challenge.rw_cascade_k63_own_turns_told) rfl rfl (fun w h Y => PySem.W.km_in_of Y) ?hT ?F
 case hT =>
  intro w t ht
  simp only [My.c9s, List.mem_cons, List.not_mem_nil, or_false] at ht
  rcases ht with rfl | rfl
  ·exact ⟨by kernel_rfl, .inl ⟨"sets_reached", 125, by kernel_rfl, _, rfl⟩⟩
  ·exact ⟨by kernel_rfl, .inr ⟨⟨80, by kernel_rfl⟩, fun h Y => PySem.W.km_tabs_of Y _ (by simp)⟩⟩
 case F =>
  intro w mg fa h KX G hmg
  refine' My.d6c KX G hmg ?a1 ?l1 ?c1 ?k1 ?a2 ?l2 ?c2 ?k2 ?lD2 ?qD2 ?a3 ?l3 ?c3 ?k3 ?a4 ?l4 ?c4 ?k4 ?a5 ?l5 ?c5 ?k5 ?lD5 ?qD5 ?hd5 ?a6 ?l6 ?c6 ?k6 ?a7 ?l7 ?c7 ?k7 ?a8 ?l8 ?c8 ?k8 ?a9 ?l9 ?c9 ?k9 ?a10 ?l10 ?c10 ?k10 ?a11 ?l11 ?c11 ?k11 ?a12 ?l12 ?c12 ?k12 ?hd12 ?a13 ?l13 ?c13 ?k13 ?a14 ?l14 ?c14 ?k14 ?a15 ?l15 ?c15 ?k15 ?a16 ?l16 ?c16 ?k16 ?lD16 ?qD16 ?a17 ?l17 ?c17 ?k17 ?a18 ?l18 ?c18 ?k18 ?a19 ?l19 ?c19 ?k19 ?a20 ?l20 ?c20 ?k20 ?a21 ?l21 ?c21 ?k21 ?a22 ?l22 ?c22 ?k22 ?a23 ?l23 ?c23 ?k23 ?a24 ?l24 ?c24 ?k24 ?a25 ?l25 ?c25 ?k25 ?a26 ?l26 ?c26 ?k26 ?a27 ?l27 ?c27 ?k27 ?a28 ?l28 ?c28 ?k28 ?a29 ?l29 ?c29 ?k29 ?a30 ?l30 ?c30 ?k30 ?a31 ?l31 ?c31 ?k31 ?a32 ?l32 ?c32 ?k32 ?a33 ?l33 ?c33 ?k33 ?a34 ?l34 ?c34 ?k34 ?a35 ?l35 ?c35 ?k35 ?a36 ?l36 ?c36 ?k36 ?n_TooMany ?n_HallError ?lI ?cI ?kI ?eI ?bI ?sI ?gE ?z0 ?z1 ?z2 ?z3 ?z4 ?z5 ?z6 ?z7 ?z8 ?z9 ?z10 ?z11 ?z12
  (case a1 => k_is); (case l1 => k_is); (case c1 => k_is); (case k1 => k_is)
  (case a2 => k_is); (case l2 => k_is); (case c2 => k_is); (case k2 => k_is)
  (case lD2 => k_is); (case qD2 => rfl)
  (case a3 => k_is); (case l3 => k_is); (case c3 => k_is); (case k3 => k_is)
  (case a4 => k_is); (case l4 => k_is); (case c4 => k_is); (case k4 => k_is)
  (case a5 => k_is); (case l5 => k_is); (case c5 => k_is); (case k5 => k_is)
  (case lD5 => k_is); (case qD5 => rfl)
  (case hd5 => kernel_rfl)
  (case a6 => k_is); (case l6 => k_is); (case c6 => k_is); (case k6 => k_is)
  (case a7 => k_is); (case l7 => k_is); (case c7 => k_is); (case k7 => k_is)
  (case a8 => k_is); (case l8 => k_is); (case c8 => k_is); (case k8 => k_is)
  (case a9 => k_is); (case l9 => k_is); (case c9 => k_is); (case k9 => k_is)
  (case a10 => k_is); (case l10 => k_is); (case c10 => k_is); (case k10 => k_is)
  (case a11 => k_is); (case l11 => k_is); (case c11 => k_is); (case k11 => k_is)
  (case a12 => k_is); (case l12 => k_is); (case c12 => k_is); (case k12 => k_is)
  (case hd12 => kernel_rfl)
  (case a13 => k_is); (case l13 => k_is); (case c13 => k_is); (case k13 => k_is)
  (case a14 => k_is); (case l14 => k_is); (case c14 => k_is); (case k14 => k_is)
  (case a15 => k_is); (case l15 => k_is); (case c15 => k_is); (case k15 => k_is)
  (case a16 => k_is); (case l16 => k_is); (case c16 => k_is); (case k16 => k_is)
  (case lD16 => k_is); (case qD16 => rfl)
  (case a17 => k_is); (case l17 => k_is); (case c17 => k_is); (case k17 => k_is)
  (case a18 => k_is); (case l18 => k_is); (case c18 => k_is); (case k18 => k_is)
  (case a19 => k_is); (case l19 => k_is); (case c19 => k_is); (case k19 => k_is)
  (case a20 => k_is); (case l20 => k_is); (case c20 => k_is); (case k20 => k_is)
  (case a21 => k_is); (case l21 => k_is); (case c21 => k_is); (case k21 => k_is)
  (case a22 => k_is); (case l22 => k_is); (case c22 => k_is); (case k22 => k_is)
  (case a23 => k_is); (case l23 => k_is); (case c23 => k_is); (case k23 => k_is)
  (case a24 => k_is); (case l24 => k_is); (case c24 => k_is); (case k24 => k_is)
  (case a25 => k_is); (case l25 => k_is); (case c25 => k_is); (case k25 => k_is)
  (case a26 => k_is); (case l26 => k_is); (case c26 => k_is); (case k26 => k_is)
  (case a27 => k_is); (case l27 => k_is); (case c27 => k_is); (case k27 => k_is)
  (case a28 => k_is); (case l28 => k_is); (case c28 => k_is); (case k28 => k_is)
  (case a29 => k_is); (case l29 => k_is); (case c29 => k_is); (case k29 => k_is)
  (case a30 => k_is); (case l30 => k_is); (case c30 => k_is); (case k30 => k_is)
  (case a31 => k_is); (case l31 => k_is); (case c31 => k_is); (case k31 => k_is)
  (case a32 => k_is); (case l32 => k_is); (case c32 => k_is); (case k32 => k_is)
  (case a33 => k_is); (case l33 => k_is); (case c33 => k_is); (case k33 => k_is)
  (case a34 => k_is); (case l34 => k_is); (case c34 => k_is); (case k34 => k_is)
  (case a35 => k_is); (case l35 => k_is); (case c35 => k_is); (case k35 => k_is)
  (case a36 => k_is); (case l36 => k_is); (case c36 => k_is); (case k36 => k_is)
  (case n_TooMany => k_is)
  (case n_HallError => k_is)
  (case eI => exact ⟨⟨(by show PySem.W.excIn _ _ L2.veMro "ValueError.__new__" = true; k_exc), _, _, _, _, _, _, _, _, _, _, _, _, _, _, by k_is⟩, by k_is, by k_is, by k_is⟩)
  (case lI => k_is); (case cI => k_is); (case kI => k_is)
  (case bI => exact ⟨by k_is, by k_is, by k_is⟩)
  (case sI => exact ⟨by k_is, by k_is⟩)
  (case gE => exact ⟨by k_is, by k_is, by k_is⟩)
  (case z0 => k_is)
  (case z1 => k_is)
  (case z2 => k_is)
  (case z3 => k_is)
  (case z4 => k_is)
  (case z5 => k_is)
  (case z6 => k_is)
  (case z7 => k_is)
  (case z8 => k_is)
  (case z9 => k_is)
  (case z10 => k_is)
  (case z11 => k_is)
  (case z12 => k_is)
