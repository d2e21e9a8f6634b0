import PyProof.Rows.All
import Wide.All
import OpenK.AllK
import Wide.FinOn
import Lean
import PyProof.EqAt
import PyProof.EqKinds
import PyProof.TupleCall
import PyProof.NeKinds
import PySem.Challenge.RW_cascade_k70_rows_put_together
set_option maxHeartbeats 2000000
set_option Elab.async false
set_option compiler.extract_closed false
set_option linter.all false
set_option maxRecDepth 100000
local macro_rules|`(())=>`(by lia)
def b7:=@List.getElem?_eq_getElem
def cf:=@List.getElem?_eq_some_iff
def bW:=@List.length_map
def bU:=@PySem.wpAny_bind
def cF:=@List.mem_of_getElem?
def cz:=@List.getElem?_map
def cJ:=@List.mem_singleton
def c7:=@PySem.Heap.get?_push_of_some
def b9:=@PySem.wpAny_pure
def dO:=@List.getD_eq_getElem?_getD
def cg:=@Nat.le_refl
def eC:=@List.getElem?_append_right
def di:=@List.length_append
def d7:=@List.getElem?_append_left
def dy:=@List.mem_cons_self
def cH:=@List.mem_map
def cW:=@List.mem_append
def dW:=@Option.map_eq_some_iff
def cK:=@PySem.Heap.lt_size
def dY:=@List.mem_append_right
def dR:=@Array.length_toList
def cP:=@List.mem_cons
def dm:=@List.mem_filter
def eM:=@List.mem_cons_of_mem
def dH:=@List.map_append
def eB:=@Nat.lt_of_lt_of_le
def eQ:=@PySem.Heap.get?_push_size
def dF:=@decide_eq_true
def dh:=@Nat.le_trans
def fF:=@List.mem_iff_getElem?
def eF:=@List.size_toArray
def cC:=@PyProof.Rows.wpS_bind
def dq:=@Nat.ne_of_lt
def db:=@PySem.sizeLine_eq
def cL:=@PyProof.Rows.wpS_pure
def fu:=@List.append_assoc
def hO:=@List.contains_iff_mem
def f':=@Bool.false_ne_true
def iD:=@PySem.F.plainAttrs_list
def e8:=@decide_eq_false
def f7:=@of_decide_eq_true
def fK:=@Option.some.inj
def gk:=@List.length_take
def jg:=@List.getElem?_eq_none
def iS:=@List.pairwise_append
def ft:=@List.mem_range
def md:=@Array.getElem?_eq_getElem
def ko:=@PySem.Heap.get?_update_other
def de:=@congrArg
def lU:=@PySem.F.slot_list_append
def lL:=@PySem.F.type_list_append
def j8:=@List.length_filter_le
def gW:=@List.take_length
def iW:=@Int.toNat_natCast
def iV:=@PySem.wpAny_loadPart_at
def hA:=@List.append_nil
def fL:=@Nat.le_of_lt
def hX:=@List.nodup_cons
def i8:=@List.take_add_one
def lY:=@Array.getElem?_toList
def jj:=@List.getElem?_inj
def iO:=@List.lookup_cons
def qi:=@Nat.exists_eq_add_one_of_ne_zero
def oP:=@Array.getElem?_eq_some_iff
def ot:=@Array.perm_iff_toList_perm
def iX:=@PySem.PassesOwn.never
def eZ:=@PySem.wpAny_mono
def jv:=@List.getElem_mem
def hJ:=@List.map_cons
def oM:=@List.pairwise_iff_getElem
def mM:=@List.mem_append_left
def lK:=@List.length_range
def dG:=@Ne.symm
def mS:=@List.getElem?_range
def qq:=@Array.getD_eq_getD_getElem?
def mL:=@Array.toList_append
def iG:=@Nat.lt_irrefl
def lV:=@PySem.wpAny_call_entry
def oz:=@List.take_append_drop
def pS:=@List.pairwise_singleton
def om:=@PySem.mem_of_lookup
def ti:=@PySem.F.slot_dict_keyiterator_next
def jo:=@PySem.wpAny_holding
def mF:=@List.length_cons
def mK:=@Bool.and_eq_true
def n7:=@PySem.wpAny_Call_Name_kw
def pM:=@PySem.Heap.get?_update_self
def i0:=@List.map_map
def u0:=@List.Nodup.length_le_of_subset
def pK:=@List.Pairwise.sublist
def oq:=@beq_eq_false_iff_ne
def qo:=@List.length_eq_zero_iff
def mv:=@Bool.eq_iff_iff
def nj:=@Nat.lt_succ_self
def mI:=@PyProof.Rows.boot_isinstance
def nq:=@PySem.wpAny_newObj_type
def nr:=@List.ext_getElem?
def jm:=@PyProof.Rows.wpS_forRange
def iE:=@Nat.zero_le
def oy:=@PySem.wpAny_setField_rec
def mW:=@PySem.W.kia_one
def m7:=@Nat.not_lt_zero
def pi:=@Nat.add_sub_cancel'
def oi:=@List.mem_reverse
def n':=@Nat.le_add_right
def ux:=@PySem.wpAny_callSpecial?_slot
def rc:=@List.getElem?_of_mem
def yc:=@PySem.F.slot_dict_itemiterator_next
def f6:=@PySem.boot_len
def lW:=@PySem.codeAny_mono
def r9:=@Classical.choose_spec
def pq:=@List.foldl_append
def mh:=@PySem.W.mg_none_of
def pY:=@PySem.W.callWith_K
def mC:=@Nat.ne_of_gt
def qj:=@PySem.wpAny_truthy_bool
def uj:=@PySem.wpAny_isSubtype_exc
def sq:=@List.map_congr_left
def j9:=@PyProof.Rows.boot_tuple
def ul:=@List.filter_sublist
def xI:=@Nat.sub_lt_left_of_lt_add
def AW:=@PySem.wpAny_typeNameOfWhole_itemiter
def m9:=@Nat.sub_self
def pE:=@Array.size_push
def yu:=@List.idxOf_lt_length_iff
def qm:=@beq_self_eq_true
def rj:=@List.all_eq_true
def Ac:=@PySem.wpAny_typeNameOfWhole_keyiter
def vi:=@PySem.lookup_relabel_local
def vr:=@PySem.Around.under_plainId
def wT:=@PySem.codeAny_call_builtin
def wZ:=@List.mem_of_mem_take
def Cm:=@PySem.F.slot_dict_keyiterator_iter
def zz:=@Nat.add_sub_cancel_left
def sj:=@PySem.wpAny_dictEntries
def ud:=@PySem.wpAny_setState_of
def tr:=@PySem.PassesOwn.leaving
def wm:=@PySem.W.hideAll_get
def Ch:=@PyProof.Rows.callWith_type1
def q0:=@PySem.codeAny_builtin
def mj:=@beq_iff_eq
def pL:=@PySem.Paired.length
def zr:=@List.length_singleton
def xc:=@List.contains_cons
def yL:=@List.Perm.append_left
def we:=@List.pairwise_cons
def pW:=@PySem.Heap.size_push
def Bz:=@List.drop_eq_getElem_cons
def Cq:=@Classical.byContradiction
def Cb:=@List.extract_eq_take_drop
def t5:=@PySem.wpAny_passesOwn
def A4:=@List.getElem?_take_of_lt
def wq:=@List.take_sublist
def um:=@List.length_set
def wn:=@Bool.eq_false_iff
def vh:=@Array.toList_push
def xa:=@PySem.wpAny_pyIter_slot
def vb:=@List.pairwise_map
def u7:=@List.filter_congr
def pO:=@Nat.zero_add
def y9:=@Nat.add_le_add_left
def oF:=@PySem.wpAny_field
def qb:=@PySem.wpAny_attempt
def ye:=@PySem.F.plain_extend_loop
def j3:=@PyProof.Rows.wpS_mono
def B6:=@PySem.F.slot_list_index
def Cd:=@PySem.F.type_list_index
def wU:=@List.cons_append
def vg:=@List.getElem_map
def nR:=@PySem.wpAny_call
def BG:=@List.take_of_length_le
def B8:=@List.length_pos_of_mem
def Ag:=@List.Perm.append_right
def zi:=@Nat.lt_of_le_of_lt
def yh:=@PySem.F.store_ValueError
def E3:=@List.dropLast_concat_getLast
def zL:=@Nat.lt_of_le_of_ne
def zy:=@List.getElem?_drop
def zp:=@List.filter_append
def xY:=@decide_eq_true_iff
def Fk:=@List.countP_eq_length_filter
def vf:=@PySem.wpAny_execs_nil
def ql:=@Nat.le_of_eq
def rm:=@PySem.F.called_set
def u8:=@PySem.wpAny_dictEpoch
def vy:=@Nat.min_eq_left
def AJ:=@List.perm_append_comm
def uk:=@PySem.wpAny_standAt
def x6:=@Nat.lt_succ_of_lt
def yd:=@Nat.le_succ_of_le
def ou:=@PyProof.Rows.wpS_modify
def Bp:=@PySem.W.hideAll_none
def BH:=@PySem.Heap.get?_none_of_le
def AZ:=@PySem.F.excAttr_ValueError
def Bw:=@Array.toList_extract
def A8:=@Array.toList_reverse
def z5:=@List.mem_erase_of_ne
def EM:=@PySem.Calls.call_function_entry
def wR:=@PySem.wpAny_fieldsOf
def DW:=@List.getElem?_eq_none_iff
def yQ:=@List.length_drop
def xW:=@PySem.wpAny_askSetting
def zg:=@List.any_eq_true
def re:=@Nat.le_succ
def AY:=@PySem.wpAny_raiseNew_none
def BI:=@List.toList_toArray
def BJ:=@Nat.add_lt_add_left
def jz:=@PySem.W.mg_of
def Dw:=@PySem.wpAny_comprehension_free
def pC:=@PySem.wpAny_rule
def uh:=@Int.zero_add
def D6:=@List.length_erase_of_mem
def Di:=@List.Pairwise.imp_of_mem
def x4:=@List.of_mem_zip
def wV:=@List.any_cons
def Ao:=@PySem.tupleKind_room_in1
def wg:=@PySem.plainId_quiet
def AR:=@PySem.Code.quiet_builtin
def Fx:=@PyProof.Rows.F.plain_set_update_loop
def Cs:=@List.getElem?_take
def xC:=@PyProof.Rows.get?_update_seq
def wW:=@PyProof.Rows.listUpdate_at
def Bg:=@List.getElem_idxOf
def FU:=@PySem.W.cellsFrom_some
def DH:=@PySem.Calls.callWith_builtin
def FP:=@PySem.wpAny_isOneOf_itemiter
def ES:=@Array.getElem?_eq_none
def BK:=@PySem.wpAny_pyIter_list
def Bu:=@List.any_eq_false
def Jp:=@PySem.plainObj_wpAny_Assign_Attribute
def Ct:=@List.nodup_append
def GL:=@PySem.F.args_dict_itemiterator_next_1
def Cf:=@Nat.le_of_lt_succ
def Ab:=@Array.size_append
def De:=@PySem.W.methodCall_KW
def CS:=@List.length_replicate
def IE:=@PyProof.Rows.callWith_builtin1
def Eo:=@PySem.F.typeOf_object_class
def F7:=@PySem.F.entry_dict_itemiterator_next
def J9:=@PySem.F.args_dict_keyiterator_next_1
def JS:=@PySem.F.args_dict_keyiterator_iter_1
def FQ:=@Array.mem_of_getElem?
def Ak:=@Nat.le_of_not_lt
def BL:=@List.ext_getElem
def Js:=@PySem.F.entry_dict_keyiterator_next
def Hz:=@PySem.F.entry_dict_keyiterator_iter
def AH:=@Array.toList_map
def BX:=@List.countP_cons
def DO:=@List.getElem?_set_ne
def DZ:=@Array.mem_toList_iff
def DP:=@PySem.SeqAt.EqAt.bool_bool
def Fj:=@Nat.le_sub_of_add_le
def Fh:=@List.mem_of_mem_drop
def zw:=@Int.ofNat.inj
def yM:=@PySem.wpAny_newList
def zc:=@Bool.true_and
def Fn:=@PySem.W.plainGet_of
def zW:=@PySem.wpAny_loadPart'
def AI:=@PySem.size_of_entries
def FL:=@PySem.Heap.get?_update_ne
def Bs:=@PySem.wpAny_updateSeq
def mX:=@PyProof.Rows.wpS_get
def BN:=@List.idxOf_cons
def Hk:=@PySem.Calls.Name_function_global
def G0:=@PySem.wpAny_newFunctionEnv_cells
def GN:=@Array.toList_setIfInBounds
def Ga:=@List.nodup_iff_pairwise_ne
def Ej:=@PySem.W.of_hideAll
def C1:=@List.mem_filterMap
def EG:=@PySem.SeqAt.EqAt.int_int
def xS:=@Nat.add_zero
def DC:=@Array.Perm.mem_iff
def xr:=@Int.lt_trans
def Ee:=@of_decide_eq_false
def Cp:=@Bool.false_and
def AN:=@List.nodup_nil
def ED:=@PySem.wpAny_assign_Name
def EY:=@Option.isSome_map
def EK:=@PySem.wpAny_execs_cons
def Es:=@PySem.wpAny_forIn_list
def zP:=@List.map_nil
def FS:=@List.length_nil
def A6:=@Nat.lt_trans
def BA:=@List.all_map
def FZ:=@PySem.codeAny_of_tree
def Ah:=@Bool.or_true
def EW:=@List.nil_append
def Cw:=@PySem.wpAny_ite_split
def Fy:=@PyProof.Rows.entry_list_sort
def Bl:=@List.any_map
def vz:=@ite_congr
def EO:=@Array.Perm.refl
def yK:=@PySem.call_meets
def xp:=@PySem.intKind_is
def td:=@PyProof.Rows.wpS_lift
def Aq:=@PySem.wpAny_of_eq
def A1:=@PySem.wpAny_alloc
def B7:=@PyProof.Rows.seqEpoch_at
def yx:=@PyProof.Rows.boot_list
section
open PySem
abbrev ig:=List (List (List Nat))
abbrev LN:=List (List Nat)
abbrev bS:=List Nat
abbrev VP:=Value -> Shared -> Prop
abbrev AO:=List (Addr × Obj)
abbrev SV:=Str -> Option Value
abbrev As:=List Addr
abbrev Vs:=List Value
abbrev AV:=Array Value
abbrev Zs:=List Int
abbrev Ss:=List Str
abbrev Sh:=Shared
abbrev Vl:=Value
abbrev Pg:=Program
abbrev Fd:=FuncData
abbrev Ar:=Around
end
def wA:=@if_neg
def wB:=@if_pos
abbrev wC:=@absurd
abbrev wE:=@False.elim
open PySem in
abbrev Ad:=Addr
abbrev zZ:=@rfl
abbrev R6:=PySem.W.Frag
theorem Z':a=a∨q:=.inl rfl
theorem Z0:q∨a=a:=.inr rfl
local macro_rules|`(#[$x,*])=>`(⟨$x,*⟩)
local macro_rules|`(#v[$x,*])=>`(List.toArray [$x,*])
namespace L2
open PySem PySem.Spec PyProof.Rows
abbrev cQ:=Sum Int Str
noncomputable def vq:cQ->Vl->Bool
 |.inl k,v=>Value.isInt k v
 |.inr x,v=>Value.isStrOf x v
noncomputable def Du(w:World):cQ->Int
 |.inl k=>hashInt k
 |.inr x=>hashStr w x
theorem py:∀{k} {v},vq k v=true->(∃i t,k=Sum.inl i/\v=Value.int i t)\/(∃x t,k=Sum.inr x/\v=Value.str x t)
 |.inl i,v,h=>by
  obtain⟨t,e⟩:=Value.isInt_shape h;exact .inl #[i,t,zZ,e]
 |.inr x,v,h=>by
  obtain⟨t,e⟩:=Value.isStrOf_shape h;exact .inr #[x,t,zZ,e]
theorem Ob(i)(t):vq (.inl i) (.int i t)=true:=by simp[vq,Value.isInt]
theorem Nf(x)(t):vq (.inr x) (.str x t)=true:=by simp[vq,Value.isStrOf]
theorem Mt(a b):decide ((Sum.inl a:cQ)=Sum.inl b)=(a==b):=by
 by_cases e:a=b
 .subst e;simp
 .have h: ¬(Sum.inl a:cQ)=Sum.inl b:=λq=>e (Sum.inl.inj q);rw[e8 h];exact(oq.mpr e).symm
theorem NO(a b):decide ((Sum.inr a:cQ)=Sum.inr b)=decide (a=b):=by
 by_cases e:a=b
 .simp
 .have h: ¬(Sum.inr a:cQ)=Sum.inr b:=λq=>e (Sum.inr.inj q);rw[e8 h,e8 e]
theorem NT(a)(b):decide ((Sum.inl a:cQ)=Sum.inr b)=false:=e8 (λq=>nomatch q)
theorem PM(a)(b):decide ((Sum.inr a:cQ)=Sum.inl b)=false:=e8 (λq=>nomatch q)
noncomputable def l8(c:Pg)(w):PySem.KeyKind c w cQ where
 is:=vq
 hash:=Du w
 inj:=λv a b l g=>by
  rcases py l with⟨i,t,rfl,rfl⟩|⟨x,t,rfl,rfl⟩
  .rcases py g with⟨j,u,rfl,e⟩|⟨y,u,rfl,e⟩
   .injection e with d _;rw[d]
   .exact nomatch e
  .rcases py g with⟨j,u,rfl,e⟩|⟨y,u,rfl,e⟩
   .exact nomatch e
   .injection e with d _;rw[d]
 byValue:=λk v h=>by
  rcases py h with⟨i,t,rfl,rfl⟩|⟨x,t,rfl,rfl⟩<;>rfl
 pyHash:=λf h=>by
  rcases py f with⟨i,t,rfl,rfl⟩|⟨x,t,rfl,rfl⟩
  .exact wpAny_pyHash_int h
  .exact wpAny_pyHash_str h
 eqBool:=λm f h=>by
  rcases py m with⟨i,t,rfl,rfl⟩|⟨x,t,rfl,rfl⟩
  .rcases py f with⟨j,u,rfl,rfl⟩|⟨y,u,rfl,rfl⟩
   .rw[Mt]at h;exact wpAny_eqBool_int h
   .rw[NT]at h;exact SeqAt.EqAt.int_str i t y u _ _ _ _ h
  .rcases py f with⟨j,u,rfl,rfl⟩|⟨y,u,rfl,rfl⟩
   .rw[PM]at h;exact SeqAt.EqAt.str_int x t j u _ _ _ _ h
   .rw[NO]at h;exact wpAny_eqBool_str h
 «strs»:=λk x t v h=>by
  rcases py h with⟨i,u,rfl,e⟩|⟨y,u,rfl,e⟩
  .exact nomatch e
  .injection e with d _
   subst d;cases v<;>rfl
theorem QM(a)(w)(i)(t):(l8 a w).is (.inl i) (.int i t)=true:=Ob i t
theorem Lh(a)(w)(x)(t):(l8 a w).is (.inr x) (.str x t)=true:=Nf x t
inductive V where
 |non|bl (b:Bool)|int (i:Int)|str (x:Str)|byt (b:Array UInt8)|flt (b:UInt64)|ref (a:Ad)|ty (n:String)
 deriving DecidableEq
def RelV:V->Vl->Prop
 |.non,u=>u=Value.none
 |.bl b,u=>u=Value.bool b
 |.int i,u=>∃t,u=Value.int i t
 |.str x,u=>∃t,u=Value.str x t
 |.byt b,u=>∃t,u=Value.bytes b t
 |.flt b,u=>∃t,u=Value.float b t
 |.ref a,u=>u=Value.ref a
 |.ty n,u=>u=Value.type n
abbrev Vals:List V->List Vl->Prop:=Paired RelV
theorem Vals.length{a:Vs}(r:Vals xs a):xs.length=a.length:=pL r
theorem Vals.get:∀{a} {b:Vs} {i:Nat} {x},Vals a b->a[i]?=some x->∃u,b[i]?=some u/\RelV x u
 |_,_,_,_,.nil,e=>by simp at e
 |_,_,0,_,.cons r _,e=>by simp at e;subst e;exact#[_,zZ,r]
 |_,_,i+1,x,.cons _ t,e=>by
  obtain⟨u,c,d⟩:=Vals.get t e;exact#[u,by simpa using c,d]
theorem Vals.set(r:RelV x u):∀{a} {b:Vs} i,Vals a b->Vals (a.set i x) (b.set i u)
 |_,_,_,.nil=> .nil
 |_,_,0,.cons _ t=> .cons r t
 |_,_,i+1,.cons q t=> .cons q (Vals.set r i t)
theorem Vals.append:∀{a b} {c d:Vs},Vals a c->Vals b d->Vals (a++b) (c++d)
 |_,_,_,_,.nil,s=>s
 |_,_,_,_,.cons r t,s=> .cons r (Vals.append t s)
def RelO:Option V->Option Vl->Prop
 |some v,some u=>RelV v u
 |none,none=>True
 |_,_=>False
def KV:List (a×V)->List (a×Vl)->Prop:=Paired λ(p:a×V) (q:a×Vl)=>p.1=q.1/\RelV p.2 q.2
noncomputable def kV:cQ->V
 |.inl i=> .int i
 |.inr x=> .str x
inductive HO where
 |lst (xs:List V)
 |tup (xs:List V)
 |dK (kvs:List (cQ×V))|dT (kvs:List (List cQ×V))
 |set (S:Int->Bool) (n:Nat)
 |ins (C dx:Ad) (fs:List (Str×V))
 |own (x:Ad)
 |xd (fs:List (Str×V))
 |met (f x:Ad)
 |rng (lo hi:Int)
 |frz (o:Obj) (u:HO)
 |tbl (ps:AV)
 |ext (φ:Heap->Prop)
abbrev Hp:=Ad->Option HO
noncomputable def bT(H:Hp)(a:Ad)(o:HO):Hp:=λb=>if b=a then some o else H b
theorem bY:bT H a o a=some o:=by unfold bT;rw[wB zZ]
theorem bX(h:b≠a):bT H a o b=H b:=by unfold bT;rw[wA h]
theorem Gr:bT (bT H a o) a u=bT H a u:=by
 funext b;unfold bT;split<;>rfl
theorem io{H:Hp}(h:H a=some o)(c:H b=some u)(d:o≠u):a≠b:=by
 intro e;subst e;rw[h]at c;exact d (fK c)
noncomputable def IR:HO->Nat
 |.lst _=>0
 |.tup _=>1
 |.dK _=>2
 |.dT _=>3
 |.tbl _=>4
 |.ext _=>5
 |.rng _ _=>6
 |.frz _ _=>7
 |_=>8
theorem nE{H:Hp}(h:H a=some o)(k:H b=some u)(d:(IR o==IR u)=false:=by rfl):a≠b:=io h k λe=>by rw[e,qm]at d;cases d
theorem dj{H:Hp}(h:H a=some o)(c:H b=none):a≠b:=by
 intro e;subst e;rw[h]at c;cases c
def TupD(h:Heap)(a:Ad)(b:AV):Prop:=∃o,h.get? a=some o/\o.cls=.type "tuple"/\∃n,o.data=.seq b n/\o.dict=none
theorem TupD.is(p:TupD h a b):IsTup h a b:=let⟨o,e,c,n,d,_⟩:=p;#[o,e,c,n,d]
theorem TupD.new(h:Heap)(a:AV):TupD (h.push {cls:= .type "tuple",data:= .seq a}) h.objs.size a:=#[_,eQ _ zZ,zZ,_,zZ,zZ]
section
variable(P:Pg)(w:World)
def ObjOk(H:Hp)(h:Heap)(a:Ad):HO->Prop
 |.lst d=>d.length<=sizeLine/\∃(b:Vs) (n:Nat),Vals d b/\h.get? a=some {cls:= .type "list",data:= .seq b.toArray n}
 |.tup d=>d.length<=sizeLine/\∃b:Vs,Vals d b/\TupD h a b.toArray
 |.dK c=>c.length<=sizeLine/\(a==sysModules)=false/\∃j,KV c j/\h.DictOf (l8 P w) a j
 |.dT c=>c.length<=sizeLine/\(a==sysModules)=false/\∃d:List (List cQ×Ad×Vl),
   Paired (λ(p:List cQ×V) (q:List cQ×Ad×Vl)=>p.1=q.1/\H q.2.1=some (.tup (p.1.map kV))/\RelV p.2 q.2.2) c d/\
   ∃o k r,h.get? a=some o/\o.ExactDict/\o.data=.dict k r/\k.toList=d.map (entryOfKey (tupleKind (l8 P w)))/\(d.map (·.1)).Nodup
 |.set S n=>h.SetOf (intKind P w) a S n
 |.ins C g fs=>H g=some (.own a)/\fs.length<=1000/\g≠a/\h.get? a=some (PySem.W.instObj C g)/\
   ∃e,h.Ns1 g e/\(∀f,RelO (fs.lookup f) (e f))/\PySem.Within e (fs.map (·.1))
 |.own _=>∃o,h.get? a=some o
 |.xd fs=>∃e,h.Ns1 a e/\∀f,RelO (fs.lookup f) (e f)
 |.rng lo s=>∃t u v,h.get? a=some {cls:= .type "range",data:= .fields #v[.int lo t,.int s u,.int 1 v]}
 |.frz o u=>h.get? a=some o/\ObjOk H h a u
 |.tbl y=>h.get? a=some {cls:= .none,data:= .fields y}
 |.met f x=>h.get? a=some (PySem.W.methodObj (.ref f) (.ref x))
 |.ext i=>i h/\(∃o,h.get? a=some o)/\∀l m:Heap,i l->(∀o,l.get? a=some o->m.get? a=some o)->i m
def HOk(H:Hp)(h:Heap):Prop:=∀a o,H a=some o->ObjOk P w H h a o
end
section
variable{a:Ad}
theorem ObjOk.lt(x:ObjOk P w H h a o):a<h.objs.size:=by
 cases o with
 |lst xs=>obtain⟨_,_,_,_,e⟩:=x;exact cK e
 |tup xs=>obtain⟨_,_,_,p⟩:=x;exact p.is.lt
 |dK b=>obtain⟨_,_,_,_,o,_,_,e,_⟩:=x;exact cK e
 |dT b=>obtain⟨_,_,_,_,o,_,_,e,_⟩:=x;exact cK e
 |set S n=>obtain⟨o,_,_,_,e,_⟩:=x;exact cK e
 |ins C c fs=>obtain⟨_,_,_,e,_⟩:=x;exact cK e
 |own y=>obtain⟨_,e⟩:=x;exact cK e
 |xd fs=>obtain⟨_,⟨_,_,_,e,_⟩,_⟩:=x;exact cK e
 |rng lo d=>obtain⟨_,_,_,e⟩:=x;exact cK e
 |frz g u=>obtain⟨e,_⟩:=x;exact cK e
 |tbl i=>exact cK (x)
 |met f y=>exact cK (x)
 |ext j=>obtain⟨_,⟨_,e⟩,_⟩:=x;exact cK e
theorem Paired.mapP:∀{c:List e} {d:List g},Paired F c d->(∀a b,F a b->G a b)->Paired G c d
 |_,_,.nil,_=> .nil
 |_,_,.cons r t,f=> .cons (f _ _ r) (Paired.mapP t f)
theorem ObjOk.stay(x:ObjOk P w H h a o)(k:∀b u,(b=a\/H b=some (.own a))->h.get? b=some u->h'.get? b=some u)(E:∀b,H b=some (.own a)->H' b=some (.own a)) (ht:∀b m,H b=some (.tup m)->H' b=some (.tup m)):ObjOk P w H' h' a o:=by
 induction o with
 |lst m=>obtain⟨z,l,n,r,e⟩:=x;exact#[z,l,n,r,k _ _ (.inl zZ) e]
 |tup m=>obtain⟨z,l,r,g,e,c⟩:=x;exact#[z,l,r,g,k _ _ (.inl zZ) e,c]
 |dK s=>obtain⟨z,y,G,r,g,i,j,e,c⟩:=x;exact#[z,y,G,r,g,i,j,k _ _ (.inl zZ) e,c]
 |dT s=>
  obtain⟨z,y,m,r,g,i,j,e,c⟩:=x;exact#[z,y,m,Paired.mapP r λp q z=>#[z.1,ht _ _ z.2.1,z.2.2],g,i,j,k _ _ (.inl zZ) e,c]
 |set S n=>obtain⟨g,i,j,t,e,c⟩:=x;exact#[g,i,j,t,k _ _ (.inl zZ) e,c]
 |ins C M fs=>
  obtain⟨d,z,I,e,A,⟨B,i,j,J,c⟩,r⟩:=x;exact#[E _ d,z,I,k _ _ (.inl zZ) e,A,#[B,i,j,k _ _ (.inr d) J,c],r]
 |own y=>obtain⟨g,e⟩:=x;exact#[g,k _ _ (.inl zZ) e]
 |xd fs=>obtain⟨A,⟨B,i,j,e,c⟩,r⟩:=x;exact#[A,#[B,i,j,k _ _ (.inl zZ) e,c],r]
 |rng lo N=>obtain⟨t,u,v,e⟩:=x;exact#[t,u,v,k _ _ (.inl zZ) e]
 |frz g u L=>obtain⟨e,q⟩:=x;exact#[k _ _ (.inl zZ) e,L q]
 |tbl D=>
  have e:=x;exact k a _ (.inl zZ) e
 |met f y=>
  have e:=x;exact k a _ (.inl zZ) e
 |ext O=>obtain⟨p,⟨o,e⟩,st⟩:=x;exact#[st _ _ p λo q=>k _ _ (.inl zZ) q,#[o,k _ _ (.inl zZ) e],st]
theorem HOk.lt(x:HOk P w H h)(e:H a=some o):a<h.objs.size:=(x a o e).lt
theorem HOk.fresh(x:HOk P w H h)(e:h.objs.size<=a):H a=none:=by
 cases q:H a with
 |none=>rfl
 |some u=>exact wC (eB (x.lt q) e) (iG _)
theorem HOk.kept(x:HOk P w H h)(k:∀b u,h.get? b=some u->h'.get? b=some u):HOk P w H h':=λa o e=>
 (x a o e).stay (λb u _ q=>k b u q) (λ_ q=>q) λ_ _ q=>q
theorem HOk.laid(x:HOk P w H h)(k:∀b u,h.get? b=some u->h'.get? b=some u)(g:h.objs.size<=a)(new:ObjOk P w (bT H a o) h' a o):HOk P w (bT H a o) h':=λb u e=>by
 have d:=x.fresh g;by_cases f:b=a
 .subst f;rw[bY]at e;cases e;exact new
 .rw[bX f]at e;exact(x b u e).stay (λc v _ q=>k c v q) (λc q=>by rw[bX (dj q d)];exact q) λc i q=>by rw[bX (dj q d)];exact q
end
def Rd(H:Hp)(a:Ad)(u:HO):Prop:=H a=some u\/∃o,H a=some (.frz o u)
theorem Rd.ok(r:Rd H a u)(x:HOk P w H h):ObjOk P w H h a u:=by
 rcases r with r|⟨o,r⟩
 .exact x a u r
 .obtain⟨_,q⟩:=x a _ r;exact q
def yR:Option HO->Prop
 |some (.lst _)=>True
 |some (.dK _)=>True
 |some (.dT _)=>True
 |some (.set _ _)=>True
 |some (.ins _ _ _)=>True
 |some (.ext _)=>True
 |_=>False
theorem HOk.write(ok:HOk P w H h)(i:yR (H x))(n:e=x\/H e=some (.own x))(k:∀b u,b≠e->h.get? b=some u->h'.get? b=some u)(m:∃u,h'.get? e=some u)(new:ObjOk P w (bT H x a) h' x a):HOk P w (bT H x a) h':=λb u q=>by
 have f:∀c y,H c=some (.own y)->c≠x:=λc y r z=>by subst z;rw[r]at i;exact i
 have g:∀c j,H c=some (.tup j)->c≠x:=λc j r z=>by subst z;rw[r]at i;exact i
 by_cases l:b=x
 .subst l;rw[bY]at q;cases q;exact new
 .rw[bX l]at q;by_cases d:b=e
  .have o:H b=some (.own x):=by
    rcases n with z|z
    .exact wC (d.trans z) l
    .rw[d];exact z
   rw[q]at o;cases o;obtain⟨v,p⟩:=m;exact#[v,by rw[d];exact p]
  .refine(ok b u q).stay (λc v hc r=>k c v ?_ r) (λc r=>by rw[bX (f c b r)];exact r) λc j r=>by rw[bX (g c j r)];exact r
   rcases hc with rfl|hc
   .exact d
   .rintro rfl
    rcases n with z|z
    .exact f c b hc z
    .rw[hc]at z;cases z;exact l rfl
structure Un(fs ex:As)(H H':Hp)(h h':Heap):Prop where
 keep:∀b o,h.get? b=some o->H b=none->b∉fs->b∉ex->h'.get? b=some o
 slot:∀b o,h.get? b=some o->H b=none->b∈fs->b∉ex->∃sl,h'.get? b=some {o with slots:=sl}
 free:∀b o,h.get? b=some o->H b=none->b∉ex->H' b=none
 there:∀b o,h.get? b=some o->b∉ex->∃o',h'.get? b=some o'
 tups:∀b xs,H b=some (.tup xs)->H' b=some (.tup xs)
 frzs:∀b o u,H b=some (.frz o u)->H' b=some (.frz o u)
 tbls:∀b ps,H b=some (.tbl ps)->∃more,H' b=some (.tbl (ps++more))
section
variable{h d j h':Heap}{a x e:Ad}
theorem Un.any(u:Un fs c H g h d){b:Ad}(q:h.get? b=some ob)(n:H b=none)(a:b∉c):∃sl,d.get? b=some {ob with slots:=sl}:=by
 by_cases e:b∈fs
 .exact u.slot b ob q n e a
 .exact#[ob.slots,u.keep b ob q n e a]
theorem Un.kept(k:∀b u,h.get? b=some u->h'.get? b=some u):Un fs c H H h h':=
 #[λb a q _ _ _=>k b a q,λb a q _ _ _=>#[a.slots,k b a q],λ_ _ _ n _=>n,λb a q _=>#[a,k b a q],λ_ _ q=>q,λ_ _ _ q=>q,λ_ d q=>#[#v[],by rw[q];simp]]
theorem Un.refl:Un fs c H H h h:=Un.kept λ_ _ q=>q
theorem Un.laid(k:∀b u,h.get? b=some u->h'.get? b=some u)(e:h.objs.size<=a)(d:H a=none):Un fs c H (bT H a o) h h' where
 keep:=λb u q _ _ _=>k b u q
 slot:=λb u q _ _ _=>#[u.slots,k b u q]
 free:=λb u q n _=>by rw[bX (dq (eB (cK q) e))];exact n
 there:=λb u q _=>#[u,k b u q]
 tups:=λb f q=>by rw[bX (dj q d)];exact q
 frzs:=λb u f q=>by rw[bX (dj q d)];exact q
 tbls:=λb g q=>#[#v[],by rw[bX (dj q d),q];simp]
theorem Un.write(d:yR (H x))(l:e=x\/H e=some (.own x))(k:∀b u,b≠e->h.get? b=some u->h'.get? b=some u)(f:∃u,h'.get? e=some u):Un fs c H (bT H x o) h h':=by
 have i:∀b,H b=none->b≠x:=λb n z=>by subst z;rw[n]at d;exact d
 have j:∀b,H b=none->b≠e:=λb n z=>by
  subst z
  rcases l with r|r
  .exact i b n r
  .rw[n]at r;cases r
 have g:∀b u,H b=some u-> ¬yR (some u)->b≠x:=λb u q m z=>by subst z;rw[q]at d;exact m d
 refine#[λb u q n _ _=>k b u (j b n) q,λb u q n _ _=>#[u.slots,k b u (j b n) q],λb u q n _=>by rw[bX (i b n)];exact n,λb u q _=>?_,
  λb p q=>by rw[bX (g b _ q λz=>z)];exact q,λb u p q=>by rw[bX (g b _ q λz=>z)];exact q,λb s q=>#[#v[],by rw[bX (g b _ q λz=>z),q];simp]]
 by_cases a:b=e
 .subst a;exact f
 .exact#[u,k b u a q]
end
noncomputable def AL(h:Heap)(H:Hp):As:=(List.range h.objs.size).filter λa=>(H a).isSome
noncomputable def pD(h:Heap)(H:Hp):Heap:=PySem.W.hideAll h (AL h H)
theorem LG(h)(H):(pD h H).objs.size=h.objs.size:=PySem.W.hideAll_size _ _
theorem E8{b:Ad}(e:h.get? b=some o)(n:H b=none):(pD h H).get? b=some o:=
 wm _ e λa=>by
  have q:=(dm.mp a).2;rw[n]at q;simp at q
theorem Oc{b:Ad}(e:(pD h H).get? b=some o):h.get? b=some o/\H b=none:=by
 have a:=Ej (AL h H) e;refine#[a,?_];cases q:H b with
 |none=>rfl
 |some x=>
  have c:b∈AL h H:=dm.mpr #[ft.mpr (cK a),by simp[q]];have z:(pD h H).get? b=none:=Bp (AL h H) c;rw[z]at e;cases e
noncomputable def P0(g h:Heap)(L:Ad):AO:=(List.range h.objs.size).filterMap λa=>if a=L\/(g.get? a).isSome=true then none else(h.get? a).map λo=>(a,o)
noncomputable def rest(g h:Heap)(L d:Ad):AO:=(P0 g h L).filter λp=>decide (p.1≠d)
structure Mod(K:R6)(mg:SV)(base:Heap):Prop where
 kin:K.In base
 glob:base.Ns mainGlobals mg
 blt:∃mb,base.Ns builtinsNs mb/\∀x:Str,x≠"__name__"->mb x=bootBuiltins x
 nolimit:base.NoLimit
structure Cx where
 prog:Pg
 w:World
 K:R6
 mg:SV
 base:Heap
 A:Ar
 N:Ss
 s₀:Sh
 H₀:Hp
 env:Env
 outer:List Env
 stack:List Env
 ex:As
 fn:Str->Bool
 calm:Bool
 pn:AO
 xe:VP
noncomputable def cV(l:List Env):As:=l.filterMap (·.frame)
noncomputable abbrev Cx.fs(X:Cx):As:=cV X.outer
def Ck(a:Scope)(x:Str):Prop:=a.names.lookup x=some .local\/a.names.lookup x=some .cell\/a.names.lookup x=some .free
def wy(a:Scope)(x:Str):Prop:=a.names.lookup x=some .local\/a.names.lookup x=some .cell
def Do(a:Env)(h:Heap)(m:SV)(x:Str)(u:Vl):Prop:=
 (a.kindOf x=some .local/\m x=some u)\/((a.kindOf x=some .cell\/a.kindOf x=some .free)/\∃c,a.cells.lookup x=some c/\h.IsCell c (some u))
structure Cx.Ok(X:Cx):Prop where
 mod:Mod X.K X.mg X.base
 kind:X.env.scope.kind=.function
 glob:X.env.globals=mainGlobals
 blt:X.env.builtins=builtinsNs
 above:X.s₀.heap.objs.size<=X.env.locals
 inj:∀x y c,X.env.cells.lookup x=some c->X.env.cells.lookup y=some c->x=y
 has:∀x,(X.env.kindOf x=some .cell\/X.env.kindOf x=some .free)->∃c,X.env.cells.lookup x=some c
 cab:∀x c,X.fn x=true->X.env.cells.lookup x=some c->X.s₀.heap.objs.size<=c
 hd:X.calm=true->X.A.handled=none
 frames:X.A.frames=some X.stack
 stk:X.stack=X.outer\/(X.stack=X.env::X.outer/\X.env.frame=some X.env.locals)
 exf:∀b∈X.ex,b≠X.env.locals/\∀x c,X.env.cells.lookup x=some c->c≠b
 bs:∀b o,X.base.get? b=some o->X.s₀.heap.get? b=some o/\X.H₀ b=none
 bsz:X.base.objs.size<=X.s₀.heap.objs.size
 noex:∀b o,X.base.get? b=some o->b∉X.ex
 exfs:∀b∈X.ex,b∉X.fs
 funs:X.s₀.heap.FunFrames X.base X.outer
 frf:∀b∈X.fs,X.H₀ b=none
structure Inv(X:Cx)(za:AO)(σ:List (Option V))(H:Hp)(s:Sh):Prop where
 ok:X.Ok
 os:s.os=X.s₀.os
 bare:AllBare s.gens
 base:Un X.fs X.ex X.H₀ H X.s₀.heap s.heap
 loc:∃m,s.heap.Ns X.env.locals m/\∀(i:Nat) (x:Str) (v:V),X.N[i]?=some x->σ[i]?=some (some v)->Ck X.env.scope x->∃u,RelV v u/\Do X.env s.heap m x u
 cell:∀x c,X.env.cells.lookup x=some c->∃v,s.heap.IsCell c v
 free:H X.env.locals=none
 freeC:∀x c,X.env.cells.lookup x=some c->H c=none
 pin:∀p∈X.pn++za,s.heap.get? p.1=some p.2/\H p.1=none/\p.1≠X.env.locals/\p.1∉X.fs/\∀v,p.2.data≠ .cell v
 hok:HOk X.prog X.w H s.heap
 len:σ.length=X.N.length
section
variable{X:Cx}
theorem Cx.Ok.nofr(ok:X.Ok){b:Ad}(e:X.base.get? b=some o):b∉X.fs:=λa=>by
 have:=(ok.funs.mem a).1;rw[e]at this;cases this
theorem Inv.bs(I:Inv X f g H s):∀b o,X.base.get? b=some o->s.heap.get? b=some o/\H b=none:=λb o e=>
 #[I.base.keep b o (I.ok.bs b o e).1 (I.ok.bs b o e).2 (I.ok.nofr e) (I.ok.noex b o e),I.base.free b o (I.ok.bs b o e).1 (I.ok.bs b o e).2 (I.ok.noex b o e)]
theorem Inv.bk(I:Inv X f g H s):∀b o,X.base.get? b=some o->s.heap.get? b=some o:=λb o e=>(I.bs b o e).1
theorem Inv.mod(I:Inv X f g H s):Mod X.K X.mg X.base:=I.ok.mod
theorem Inv.kIn(I:Inv X f g H s):X.K.In s.heap:=I.ok.mod.kin.keeps I.bk
theorem Inv.lt(I:Inv X f g H s):X.env.locals<s.heap.objs.size:=let⟨_,a,_⟩:=I.loc;a.lt
theorem Inv.sz(I:Inv X f g H s):X.s₀.heap.objs.size<=s.heap.objs.size:=dh I.ok.above (fL I.lt)
theorem Inv.nofs(I:Inv X f g H s){a:Ad}(h:s.heap.objs.size<=a):a∉X.fs:=λb=>by
 obtain⟨_,o,c,_⟩:=I.ok.funs.mem b;exact wC (eB (cK c) (dh I.sz h)) (iG _)
theorem Inv.cne(I:Inv X f g H s):∀x c,X.env.cells.lookup x=some c->c≠X.env.locals:=λx c e z=>by
 obtain⟨v,o,d,h⟩:=I.cell x c e;obtain⟨m,⟨i,j,k,a,b,_⟩,_⟩:=I.loc;rw[z,a]at d;cases d;rw[b]at h;cases h
theorem Inv.funs(I:Inv X f g H s):s.heap.FunFrames X.base X.outer:=by
 have all:∀l,(∀b∈cV l,b∈X.fs)->X.s₀.heap.FunFrames X.base l->s.heap.FunFrames X.base l:=by
  intro l
  induction l with
  |nil=>intro _ _;trivial
  |cons i r j=>
   intro h k;obtain⟨m,⟨L,o,a,n,p,q⟩,t⟩:=k;have c:=h L (by unfold cV;rw[List.filterMap_cons,a];exact List.mem_cons_self);obtain⟨sl,e⟩:=I.base.slot L o p (I.ok.frf L c) c λz=>I.ok.exfs L z c
   exact#[m,#[L,_,a,n,e,q],j (λb d=>h b (by unfold cV;rw[List.filterMap_cons,a];exact List.mem_cons_of_mem _ d)) t]
 exact all X.outer (λ_ d=>d) I.ok.funs
theorem Inv.stack(I:Inv X f g H s):s.heap.FunFrames X.base X.stack:=by
 rcases I.ok.stk with e|⟨e,a⟩
 .rw[e];exact I.funs
 .rw[e];obtain⟨m,b,_⟩:=I.loc;refine .cons (by rw[I.ok.kind];decide) a b (BH (dh I.ok.bsz I.ok.above)) I.funs
theorem Inv.stkSub(I:Inv X f g H s):∀b∈cV X.stack,b∈X.env.locals::X.fs:=λb a=>by
 rcases I.ok.stk with e|⟨e,c⟩
 .rw[e]at a;exact eM _ a
 .rw[e]at a;unfold cV at a;rw[List.filterMap_cons,c]at a;exact a
theorem Inv.stkFree(I:Inv X f g H s):∀b∈cV X.stack,H b=none:=λb hb=>by
 rcases cP.mp (I.stkSub b hb)with e|hb
 .rw[e];exact I.free
 .obtain⟨_,o,a,_⟩:=I.ok.funs.mem hb;exact I.base.free b o a (I.ok.frf b hb) λz=>I.ok.exfs b z hb
theorem Inv.step{g':Array GenState}{t':Nat}{d':Drawn}{ch:As}(I:Inv X f g H s)(h:∀b∈ch,(b∈X.ex\/X.s₀.heap.objs.size<=b)/\b≠X.env.locals/\(∀x c,X.env.cells.lookup x=some c->c≠b)/\∀p∈X.pn++f,p.1≠b)(keep:∀b o,b≠X.env.locals->b∉X.fs->b∉ch->s.heap.get? b=some o->H b=none->h'.get? b=some o)(A:∀b o,b≠X.env.locals->b∈X.fs->b∉ch->s.heap.get? b=some o->H b=none->∃sl,h'.get? b=some {o with slots:=sl}) (free:∀b o,b∉ch->s.heap.get? b=some o->H b=none->H' b=none)
  (C:∀b o,b∉ch->s.heap.get? b=some o->∃G,h'.get? b=some G)
  (tups:∀b B,H b=some (.tup B)->H' b=some (.tup B)) (J:∀b o u,H b=some (.frz o u)->H' b=some (.frz o u)) (L:∀b O,H b=some (.tbl O)->∃more,H' b=some (.tbl (O++more)))
  (ns:∀m,s.heap.Ns X.env.locals m->h'.Ns X.env.locals m) (Q:HOk X.prog X.w H' h') (hg:AllBare g'):
  Inv X f g H' {s with heap:=h',gens:=g',drawn:=d',toks:=t'}:=by
 have M:∀b o,X.s₀.heap.get? b=some o->b≠X.env.locals:=λb o e=>dq (eB (cK e) I.ok.above);have w:∀b o,X.s₀.heap.get? b=some o->b∉X.ex->b∉ch:=λb o e a D=>by
  rcases (h b D).1 with z|z
  .exact a z
  .exact wC (eB (cK e) z) (iG _)
 have j:∀x c,X.env.cells.lookup x=some c->∀v,s.heap.IsCell c v->h'.IsCell c v:=λx c e v ⟨o,E,T⟩=>by
  have t:=λz=>(h c z).2.2.1 x c e rfl;by_cases Y:c∈X.fs
  .obtain⟨sl,q⟩:=A c o (I.cne x c e) Y t E (I.freeC x c e);exact#[_,q,T]
  .exact#[o,keep c o (I.cne x c e) Y t E (I.freeC x c e),T]
 refine#[I.ok,I.os,hg,#[λb o e n D a=>?_,λb o e n D a=>?_,λb o e n a=>?_,λb o e a=>?_,λb B e=>tups b B (I.base.tups b B e),λb o B e=>J b o B (I.base.frzs b o B e),λb O e=>?_],?_,λx c e=>?_,?_,λx c e=>?_,λp hp=>?_,Q,I.len]
 .exact keep b o (M b o e) D (w b o e a) (I.base.keep b o e n D a) (I.base.free b o e n a)
 .obtain⟨sl,y⟩:=I.base.slot b o e n D a;obtain⟨U,N⟩:=A b _ (M b o e) D (w b o e a) y (I.base.free b o e n a);exact#[U,N]
 .obtain⟨G,y⟩:=I.base.there b o e a;exact free b G (w b o e a) y (I.base.free b o e n a)
 .obtain⟨G,y⟩:=I.base.there b o e a;exact C b G (w b o e a) y
 .obtain⟨m1,y⟩:=I.base.tbls b O e;obtain⟨m2,N⟩:=L b _ y;exact#[m1++m2,by rw[N,Array.append_assoc]]
 .obtain⟨m,hn,hl⟩:=I.loc;refine#[m,ns m hn,λi x v y N e3=>?_];obtain⟨u,r,l⟩:=hl i x v y N e3;refine#[u,r,?_]
  rcases l with l|⟨k,c,e,z⟩
  .exact .inl l
  .exact .inr #[k,c,e,j x c e _ z]
 .obtain⟨v,z⟩:=I.cell x c e;exact#[v,j x c e v z]
 .obtain⟨m,⟨o,_,_,E,_⟩,_⟩:=I.loc;exact free _ o (λz=>(h _ z).2.1 zZ) E I.free
 .obtain⟨v,o,E,T⟩:=I.cell x c e;exact free c o (λz=>(h c z).2.2.1 x c e zZ) E (I.freeC x c e)
 .obtain⟨e,n,ne,nf,d⟩:=I.pin p hp;have t:=λz=>(h p.1 z).2.2.2 p hp rfl;exact#[keep p.1 p.2 ne nf t e n,free p.1 p.2 t e n,ne,nf,d]
theorem Inv.un(I:Inv X f g H s)(u:Un X.fs [] H H' s.heap h')(c:HOk X.prog X.w H' h'):Inv X f g H' {s with heap:=h',toks:=t'}:=by
 obtain⟨m,⟨o,q,t,j,r⟩,_⟩:=id I.loc;obtain⟨sl,k⟩:=u.any j I.free (by simp);exact I.step (ch:=[]) (λ_ z=>nomatch z) (λb o _ d _ e n=>u.keep b o e n d (by simp)) (λb o _ d _ e n=>u.slot b o e n d (by simp)) (λb o _ e n=>u.free b o e n (by simp)) (λb o _ e=>u.there b o e (by simp)) u.tups u.frzs u.tbls (λv l=>by
  obtain⟨w,h,i,a,p⟩:=l;rw[j]at a;cases a;exact#[_,h,i,k,p]) c I.bare
theorem Inv.call(I:Inv X f g H s)(u:Un (cV X.stack) ch H H' s.heap h')(i:HOk X.prog X.w H' h')(t:AllBare g')(d:∀b∈ch,(b∈X.ex\/X.s₀.heap.objs.size<=b)/\b≠X.env.locals/\(∀x c,X.env.cells.lookup x=some c->c≠b)/\∀p∈X.pn++f,p.1≠b):
  Inv X f g H' {s with heap:=h',gens:=g',drawn:=d',toks:=t'}:=by
 obtain⟨m,⟨o,A,B,q,r⟩,_⟩:=id I.loc;obtain⟨sl,j⟩:=u.any q I.free λz=>(d _ z).2.1 rfl;exact I.step d (λb o j v a e n=>u.keep b o e n (λz=>(cP.mp (I.stkSub b z)).elim j v) a) (λb o _ _ a e n=>u.any e n a) (λb o a e n=>u.free b o e n a) (λb o a e=>u.there b o e a) u.tups u.frzs u.tbls (λC w=>by
  obtain⟨D,k,l,h,y⟩:=w;rw[q]at h;cases h;exact#[_,k,l,j,y]) i t
theorem Inv.turned{it:Ad}(I:Inv X f g H s)(k:∀b o,b≠it->s.heap.get? b=some o->h'.get? b=some o)(i:H it=none)(h:it≠X.env.locals)(j:it∈X.ex\/X.s₀.heap.objs.size<=it) (l:∀x c,X.env.cells.lookup x=some c->c≠it) (t:∀p∈X.pn++f,p.1≠it):Inv X f g H {s with heap:=h',toks:=t'}:=by
 have d:∀b u,H b=some u->b≠it:=λb u e z=>by rw[z,i]at e;cases e
 refine I.step (ch:=[it]) (λb w=>?_) (λb o _ _ a e _=>k b o (λz=>a (by simp[z])) e) (λb o _ _ a e _=>#[o.slots,k b o (λz=>a (by simp[z])) e]) (λ_ _ _ _ n=>n)
  (λb o a e=>#[o,k b o (λz=>a (by simp[z])) e]) (λ_ _ e=>e) (λ_ _ _ e=>e) (λb D e=>#[#v[],by rw[e];simp]) (λm y=>?_) (λb u e=>?_) I.bare
 .have e:b=it:=by simpa using w
  subst e;exact#[j,h,l,t]
 .obtain⟨o,A,B,C,r⟩:=y;exact#[o,A,B,k _ o (dG h) C,r]
 .refine(I.hok b u e).stay (λc v a q=>k c v ?_ q) (λ_ q=>q) λ_ _ q=>q
  rcases a with z|z
  .rw[z];exact d b u e
  .exact d c _ z
theorem Inv.tok(I:Inv X f g H s)(t):Inv X f g H {s with toks:=t}:=I.un Un.refl I.hok
theorem Inv.kept(I:Inv X f g H s)(k:∀b u,s.heap.get? b=some u->h'.get? b=some u):Inv X f g H {s with heap:=h',toks:=t'}:=I.un (Un.kept k) (I.hok.kept k)
theorem Inv.laid{a:Ad}(I:Inv X f g H s)(k:∀b u,s.heap.get? b=some u->h'.get? b=some u)(c:s.heap.objs.size<=a)(new:ObjOk X.prog X.w (bT H a o) h' a o):
  Inv X f g (bT H a o) {s with heap:=h',toks:=t'}:=I.un (Un.laid k c (I.hok.fresh c)) (I.hok.laid k c new)
theorem Inv.write(I:Inv X f g H s)(c:yR (H x))(d:e=x\/H e=some (.own x))(k:∀b u,b≠e->s.heap.get? b=some u->h'.get? b=some u)(a:∃u,h'.get? e=some u)(new:ObjOk X.prog X.w (bT H x o) h' x o):Inv X f g (bT H x o) {s with heap:=h',toks:=t'}:=I.un (Un.write c d k a) (I.hok.write c d k a new)
theorem Inv.weak(I:Inv X f g H s)(c:a.length=g.length)(w:∀(i:Nat) v,a[i]?=some (some v)->g[i]?=some (some v)):Inv X f a H s:=
 #[I.ok,I.os,I.bare,I.base,let⟨m,d,b⟩:=I.loc;#[m,d,λi x v e h j=>b i x v e (w i v h) j],I.cell,I.free,I.freeC,I.pin,I.hok,c.trans I.len]
theorem Inv.pins_of(I:Inv X f g H s)(h:∀p∈a,s.heap.get? p.1=some p.2/\H p.1=none/\p.1≠X.env.locals/\p.1∉X.fs/\∀v,p.2.data≠ .cell v):Inv X a g H s:=
 #[I.ok,I.os,I.bare,I.base,I.loc,I.cell,I.free,I.freeC,λp b=>(cW.mp b).elim (λz=>I.pin p (mM _ z)) (h p),I.hok,I.len]
theorem CH{N:Ss}(c:N.Nodup){i j:Nat}(a:N[i]?=some x)(b:N[j]?=some x):i=j:=by
 obtain⟨f,d⟩:=cf.mp a;obtain⟨g,e⟩:=cf.mp b;exact(List.getElem_inj c).mp (d.trans e.symm)
theorem Fq{A:Ar}{E:VP}{Q:Unit->Sh->Prop}(I:Inv X f g H s)(hN:X.N.Nodup)(O:X.N[i]?=some x)(B:wy X.env.scope x)(r:RelV v u)(h:∀s',Inv X f (g.set i (some v)) H s'->(∃a,Heap.SameBut a s.heap s'.heap/\(a=X.env.locals\/X.env.cells.lookup x=some a))->Q ⟨⟩ s') (hf:X.fn x=true\/X.env.scope.names.lookup x=some .local:=by first|exact .inl rfl|exact .inr rfl|assumption):wpAny M A (storeName X.env x u) Q E s:=by
 obtain⟨m,hn,hl⟩:=id I.loc;have T:(X.env.scope.kind== .class || (X.env.scope.kind== .module&&X.env.locals != X.env.globals))=false:=by rw[I.ok.kind];rfl
 have G:i<g.length:=by rw[I.len];exact(cf.mp O).1
 have cne:=I.cne;have t:∀{a} {h'},(∃o,s.heap.get? a=some o/\H a=none)->Heap.SameBut a s.heap h'->HOk X.prog X.w H h':=λ{a h'} ha l b ob e=>by
  obtain⟨_,_,C⟩:=ha;refine(I.hok b ob e).stay (λc w' hc q=>(l.2 c ?_).trans q) (λ_ q=>q) λ_ _ q=>q;rintro rfl
  rcases hc with rfl|hc
  .rw[C]at e;cases e
  .rw[C]at hc;cases hc
 rcases B with hk|hk
 .refine wpAny_storeName_local hk hn (λh' ae l=>?_) T;obtain⟨oL,_,_,af,_⟩:=id hn;refine h _ #[I.ok,I.os,I.bare,#[λb o e n J B=>?_,λb o e n J B=>?_,I.base.free,λb o e B=>?_,I.base.tups,I.base.frzs,I.base.tbls],#[_,ae,λj y v' w D e3=>?_],λy c e=>?_,I.free,I.freeC,λp hp=>?_,t #[oL,af,I.free] l,by simpa using I.len] #[_,l,.inl zZ]
  .exact(l.2 b (dq (eB (cK e) I.ok.above))).trans (I.base.keep b o e n J B)
  .obtain⟨sl,w⟩:=I.base.slot b o e n J B;exact#[sl,(l.2 b (dq (eB (cK e) I.ok.above))).trans w]
  .obtain⟨o',w⟩:=I.base.there b o e B;exact#[o',(l.2 b (dq (eB (cK e) I.ok.above))).trans w]
  .by_cases L:j=i
   .subst L;rw[O]at w;cases w;rw[List.getElem?_set_self G]at D;cases D;exact#[u,r,.inl #[hk,by simp]]
   .rw[DO (dG L)]at D;obtain⟨u',r',q⟩:=hl j y v' w D e3;refine#[u',r',?_]
    rcases q with⟨k,e⟩|⟨k,c,e,z⟩
    .refine .inl #[k,?_];have:y≠x:=λe=>L (CH hN w (e▸O));simp[this,e]
    .exact .inr #[k,c,e,z.sameBut l (cne y c e)]
  .obtain⟨w',z⟩:=I.cell y c e;exact#[w',z.sameBut l (cne y c e)]
  .obtain⟨e,n,ne,nf,d⟩:=I.pin p hp;exact#[(l.2 p.1 ne).trans e,n,ne,nf,d]
 .have N:X.fn x=true:=by
   rcases hf with z|z
   .exact z
   .rw[z]at hk;cases hk
  obtain⟨c,hc⟩:=I.ok.has x (.inl hk);obtain⟨w',z⟩:=I.cell x c hc;refine wpAny_storeName_cell I.ok.kind hk hc z (λh' U l=>?_);obtain⟨oc,Y,aa⟩:=id z;refine h {s with heap:=h'} #[I.ok,I.os,I.bare,#[λb o e n J B=>?_,λb o e n J B=>?_,I.base.free,λb o e B=>?_,I.base.tups,I.base.frzs,I.base.tbls],#[m,hn.sameBut l (dG (cne x c hc)),λj y v' w D e3=>?_],λy c' e=>?_,I.free,I.freeC,λp hp=>?_,t #[oc,Y,I.freeC x c hc] l,by simpa using I.len] #[c,l,.inr hc]
  .exact(l.2 b (dq (eB (cK e) (I.ok.cab x c N hc)))).trans (I.base.keep b o e n J B)
  .obtain⟨sl,w⟩:=I.base.slot b o e n J B;exact#[sl,(l.2 b (dq (eB (cK e) (I.ok.cab x c N hc)))).trans w]
  .obtain⟨o',w⟩:=I.base.there b o e B;exact#[o',(l.2 b (dq (eB (cK e) (I.ok.cab x c N hc)))).trans w]
  .by_cases L:j=i
   .subst L;rw[O]at w;cases w;rw[List.getElem?_set_self G]at D;cases D;exact#[u,r,.inr #[.inl hk,c,hc,U]]
   .rw[DO (dG L)]at D;obtain⟨u',r',q⟩:=hl j y v' w D e3;refine#[u',r',?_]
    rcases q with q|⟨k,c',e,z'⟩
    .exact .inl q
    .refine .inr #[k,c',e,z'.sameBut l ?_];rintro rfl;exact L (CH hN w (I.ok.inj _ _ _ e hc▸O))
  .by_cases ab:c'=c
   .subst ab;exact#[_,U]
   .obtain⟨w2,z2⟩:=I.cell y c' e;exact#[w2,z2.sameBut l ab]
  .obtain⟨e,n,ne,nf,d⟩:=I.pin p hp;refine#[(l.2 p.1 ?_).trans e,n,ne,nf,d];intro q;rw[q,Y]at e;have q':=fK e;exact d w' (by rw[<-q'];exact aa)
theorem Be{A:Ar}{E:VP}{Q:Unit->Sh->Prop}(I:Inv X f g H s)(b:X.N.Nodup)(c:X.N[i]?=some x)(d:wy X.env.scope x)(r:RelV v u)(h:∀a,Inv X f (g.set i (some v)) H a->Q ⟨⟩ a) (e:X.fn x=true\/X.env.scope.names.lookup x=some .local:=by first|exact .inl rfl|exact .inr rfl|assumption):wpAny M A (storeName X.env x u) Q E s:=
 Fq I b c d r (λa j _=>h a j) e
theorem Inv.call'(I:Inv X f g H s)(h:s'.os=s.os)(u:Un (cV X.stack) ch H H' s.heap s'.heap)(a:HOk X.prog X.w H' s'.heap)(i:AllBare s'.gens)(d:∀b∈ch,(b∈X.ex\/X.s₀.heap.objs.size<=b)/\b≠X.env.locals/\(∀x c,X.env.cells.lookup x=some c->c≠b)/\∀p∈X.pn++f,p.1≠b):Inv X f g H' s':=by
 obtain⟨h',g',d',t',j⟩:=s';have e:=h;subst e;exact I.call u a i d
end
abbrev XK:=Vl->Option Ad->Hp->Prop
abbrev St:=List (Option V)
abbrev VK:=V->Hp->Prop
abbrev TE:=St->Hp->VK->Prop
abbrev TT:=St->Hp->(Bool->Hp->Prop)->Prop
abbrev TA:=St->Hp->(List V->Hp->Prop)->Prop
structure Ends where
 nx:St->Hp->Prop
 rt:VK
 bk:St->Hp->Prop:=λ_ _=>False
 ct:St->Hp->Prop:=λ_ _=>False
abbrev TS:=Ends->St->Hp->Prop
def EP(X:Cx)(b:AO)(c:St)(Q:VK)(u:Vl)(d:Sh):Prop:=∃v a,Inv X b c a d/\RelV v u/\Q v a
def TP(X:Cx)(c:AO)(d:St)(Q:Bool->Hp->Prop)(b:Bool)(e:Sh):Prop:=∃a,Inv X c d a e/\Q b a
def AP(X:Cx)(c:AO)(d:St)(Q:List V->Hp->Prop)(e:Vs)(f:Sh):Prop:=∃a b,Inv X c d b f/\Vals a e/\Q a b
def SP(X:Cx)(c:AO)(D:Ends)(f:Flow)(d:Sh):Prop:=
 match f with
 |.next=>∃a b,Inv X c a b d/\D.nx a b
 |.brk=>∃a b,Inv X c a b d/\D.bk a b
 |.cont=>∃a b,Inv X c a b d/\D.ct a b
 |.ret u=>∃v a b,Inv X c a b d/\RelV v u/\D.rt v b
def PE(X:Cx)(e:Expr)(t:TE):Prop:=
 ∀(b:AO) (s:Sh) (a:St) (H:Hp) (Q:VK),Inv X b a H s->t a H Q->wpAny (model X.prog X.w) X.A (eval e X.env) (EP X b a Q) X.xe s
def PT(X:Cx)(e:Expr)(t:TT):Prop:=
 ∀(b:AO) (s:Sh) (a:St) (H:Hp) (Q:Bool->Hp->Prop),Inv X b a H s->t a H Q->wpAny (model X.prog X.w) X.A (isTrue e X.env (eval e X.env)) (TP X b a Q) X.xe s
def PW(X:Cx)(e:Expr)(t:TT):Prop:=
 ∀(a:Sem Vl) (c:AO) (s:Sh) (b:St) (H:Hp) (Q:Bool->Hp->Prop),Inv X c b H s->t b H Q->wpAny (model X.prog X.w) X.A (isTrue e X.env a) (TP X c b Q) X.xe s
theorem PW.pt(h:PW X e t):PT X e t:=h _
def PA(X:Cx)(d:List Expr)(t:TA):Prop:=
 ∀(a:Pos) (c:AO) (s:Sh) (b:St) (H:Hp) (Q:List V->Hp->Prop),Inv X c b H s->t b H Q->wpAny (model X.prog X.w) X.A (spliced (backTo a (starEach d X.env))) (AP X c b Q) X.xe s
def PS(X:Cx)(st:Stmt)(t:TS):Prop:=
 ∀(a:AO) (s:Sh) (b:St) (H:Hp) (D:Ends),Inv X a b H s->t D b H->wpAny (model X.prog X.w) X.A (exec st X.env) (SP X a D) X.xe s
def PSs(X:Cx)(st:List Stmt)(t:TS):Prop:=
 ∀(a:AO) (s:Sh) (b:St) (H:Hp) (D:Ends),Inv X a b H s->t D b H->wpAny (model X.prog X.w) X.A (execs st X.env) (SP X a D) X.xe s
theorem cj{Q c:b->Sh->Prop}{A:Ar}{E:VP}{s:Sh}(h:wpAny M A t Q E s)(d:∀a s,Q a s->c a s):wpAny M A t c E s:=eZ h d λ_ _ x=>x
section
variable{X:Cx}
inductive cX(i:Nat)(a:St)(H:Hp)(Q:VK):Prop|mk:∀v,a[i]?=some (some v)->Q v H->cX i a H Q
def tC(v:V):TE:=λ_ H Q=>Q v H
theorem Lq{f:Pos}(j:X.N[i]?=some x)(k:Ck X.env.scope x)(b:(x==("__debug__":Str))=false:=by decide)(d:(x==("__classdict__":Str))=false:=by decide):PE X (.Name x f) (cX i):=by
 intro n s o H Q I h;obtain⟨v,e,h⟩:=h;obtain⟨m,p,q⟩:=I.loc;obtain⟨u,r,l⟩:=q i x v j e k;have fin:EP X n o Q u s:=#[v,H,I,r,h]
 rcases l with⟨hk,t⟩|⟨hk,c,g,a⟩
 .exact wpAny_Name (wpAny_loadName_local I.ok.kind hk p t fin) b
 .rcases hk with hk|hk
  .exact wpAny_Name (wpAny_loadName_cell I.ok.kind hk g a fin) b
  .exact wpAny_Name (wpAny_loadName_free I.ok.kind hk g a fin d) b
theorem cD{i j f}:PE X (.Constant (.int i) j f) (tC (.int i)):=λ_ _ _ H _ I h=>wpAny_Constant_int #[.int i,H,I.tok _,#[_,zZ],h]
theorem oK{b j f}:PE X (.Constant (.bool b) j f) (tC (.bl b)):=λ_ _ _ H _ I h=>Constant_bool #[.bl b,H,I,zZ,h]
theorem qf{j f}:PE X (.Constant .none j f) (tC .non):=λ_ _ _ H _ I h=>Constant_none #[.non,H,I,zZ,h]
def Gl(X:Cx)(x:Str):Prop:=X.env.kindOf x=some .globalImplicit
theorem nK{E:VP}{b:St}{u:Vl}{Q:VP}(I:Inv X a b H s)(c:Gl X x)(d:X.mg x=some u)(h:Q u s)(e:(x==("__debug__":Str))=false:=by decide):wpAny (model X.prog X.w) X.A (eval (.Name x f) X.env) Q E s:=
 Hk I.ok.kind c (Calls.loadGlobal_global (by rw[I.ok.glob];exact I.mod.glob.keeps I.bk) d h) e
theorem tm{E:VP}{b:St}{u:Vl}{f:Pos}{Q:VP}(I:Inv X a b H s)(c:Gl X x)(d:X.mg x=none)(e:bootBuiltins x=some u)(h:Q u s)(g:x≠"__name__":=by decide) (i:(x==("__debug__":Str))=false:=by decide):wpAny (model X.prog X.w) X.A (eval (.Name x f) X.env) Q E s:=by
 obtain⟨l,j,k⟩:=I.mod.blt;exact Hk I.ok.kind c (Calls.loadGlobal_builtin (by rw[I.ok.glob];exact I.mod.glob.keeps I.bk) d (by rw[I.ok.blt];exact j.keeps I.bk) ((k x g).trans e) h) i
theorem xF{u:Vl}(a:Gl X x)(b:X.mg x=some u)(r:RelV v u)(c:(x==("__debug__":Str))=false:=by decide):PE X (.Name x f) (tC v):=
 λ_ _ _ H _ I h=>nK I a b #[v,H,I,r,h] c
theorem Lr{u:Vl}{f:Pos}(a:Gl X x)(b:X.mg x=none)(c:bootBuiltins x=some u)(r:RelV v u)(d:x≠"__name__":=by decide)(e:(x==("__debug__":Str))=false:=by decide):PE X (.Name x f) (tC v):=
 λ_ _ _ H _ I h=>tm I a b c #[v,H,I,r,h] d e
def PC(X:Cx)(g:CmpOp)(a b:Expr)(t:TE):Prop:=
 ∀(f:AO) (s:Sh) (e:St) (H:Hp) (Q:VK),Inv X f e H s->t e H Q->
  wpAny (model X.prog X.w) X.A (eval a X.env) (λv c=>wpAny (model X.prog X.w) X.A (eval b X.env) (λu d=>wpAny (model X.prog X.w) X.A (compareOp g v u) (EP X f e Q) X.xe d) X.xe c) X.xe s
theorem HV(b)(h:a≠ .In)(c:a≠ .NotIn):behindInMarks a b=false:=by
 have d:(a==CmpOp.In)=false:=by cases a<;>first|rfl|exact wC zZ h
 have e:(a==CmpOp.NotIn)=false:=by cases a<;>first|rfl|exact wC zZ c
 cases b<;>simp[behindInMarks,d,e]
def tB(t:TE):TT:=λa H Q=>t a H λx b=>∃c,x=.bl c/\Q c b
theorem MZ(h:PC X c a b t)(d:behindInMarks c b=false:=by first|exact HV _ (by decide) (by decide)|rfl):PE X (.Compare a [c] [b] f) t:=λe s g H Q I hw=>wpAny_Compare1 (h e s g H Q I hw) d
theorem oY(h:PC X e a b t)(g:behindInMarks e b=false:=by first|exact HV _ (by decide) (by decide)|rfl):PT X (.Compare a [e] [b] f) (tB t):=by
 intro i s j H Q I hw;refine wpAny_isTrue_Compare1 (cj (h i s j H _ I hw) λv p g=>cj g λu r k=>cj k λc w ⟨x,l,m,n,o⟩=>?_) g;obtain⟨d,rfl,q⟩:=o;cases n;exact qj #[l,m,q]
theorem iN(h:PE X e t)(b:∀a,isTrue e X.env a=(do let v <-a;standAt e.pos;holding [v] (truthy v)):=by intro _;rfl):PT X e (tB t):=by
 intro c s f H Q I hw;refine isTrue_plain (cj (h c s f H _ I hw) λv l ⟨x,g,i,j,k⟩=>?_) (b _);obtain⟨d,rfl,q⟩:=k;cases j;exact qj #[g,i,q]
variable{rest:List Expr}
def EN(t u:TT):TT:=λa H Q=>t a H λc b=>if c=true then u a b Q else Q false b
def Pa(t u:TT):TT:=λa H Q=>t a H λc b=>if c=true then Q true b else u a b Q
def Fg(t:TT):TT:=λa H Q=>t a H λc b=>Q (!c) b
theorem wQ(b:PT X a g):PW X (.BoolOp .And [a] f) g:=by
 intro j d s i H Q I h;refine isTrue_and (cj (b d s i H Q I h) λc k e=>?_);cases c with
 |true=>exact isTrue_and_nil e
 |false=>exact e
theorem wY(b:PT X a g):PW X (.BoolOp .Or [a] f) g:=by
 intro j d s i H Q I h;refine isTrue_or (cj (b d s i H Q I h) λc k e=>?_);cases c with
 |false=>exact isTrue_or_nil e
 |true=>exact e
theorem wr(l:PT X a g)(m:PW X (.BoolOp .And (b::rest) f) n):PW X (.BoolOp .And (a::b::rest) f) (EN g n):=by
 intro o d s e H Q I h;refine isTrue_and (cj (l d s e H _ I h) λc p ⟨i,j,k⟩=>?_);cases c with
 |true=>exact m o d p e i Q j k
 |false=>exact#[i,j,k]
theorem pG(l:PT X a g)(m:PW X (.BoolOp .Or (b::rest) f) n):PW X (.BoolOp .Or (a::b::rest) f) (Pa g n):=by
 intro o d s e H Q I h;refine isTrue_or (cj (l d s e H _ I h) λc p ⟨i,j,k⟩=>?_);cases c with
 |true=>exact#[i,j,k]
 |false=>exact m o d p e i Q j k
theorem mQ(b:PT X a g):PT X (.UnaryOp .Not a f) (Fg g):=by
 intro d s e H Q I h;exact isTrue_not (b d s e H (λc i=>Q (!c) i) I h)
def yl(k o:TE):TE:=λa H Q=>k a H λx b=>∃c,x=.bl c/\if c=true then o a b Q else Q (.bl false) b
def y3(k:TE):TE:=λa H Q=>k a H λx b=>∃c,x=.bl c/\Q (.bl (!c)) b
theorem zI{b}(h:PE X a t):PE X (.BoolOp b [a] f) t:=λc s d H Q I hw=>BoolOp_one (h c s d H Q I hw)
theorem v4(l:PE X a k)(m:PE X (.BoolOp .And (b::rest) f) o):PE X (.BoolOp .And (a::b::rest) f) (yl k o):=by
 intro e s g H Q I h;refine BoolOp_and (cj (l e s g H _ I h) λv n ⟨x,i,j,p,d⟩=>?_);obtain⟨c,rfl,d⟩:=d;cases p;refine qj ?_;cases c with
 |true=>exact m e n g i Q j d
 |false=>exact#[.bl false,i,j,zZ,d]
theorem Q6(d:PE X a k):PE X (.UnaryOp .Not a f) (y3 k):=by
 intro e s g H Q I h;refine UnaryOp_ (cj (d e s g H _ I h) λv m ⟨x,i,j,l,b⟩=>?_);obtain⟨c,rfl,b⟩:=b;cases l;exact not_of (qj #[.bl (!c),i,j,zZ,b])
def L1(t:TT)(k o:TE):TE:=λa H Q=>t a H λc b=>if c=true then k a b Q else o a b Q
theorem Nm(p:PT X c g)(q:PE X a k)(r:PE X b o):PE X (.IfExp c a b f) (L1 g k o):=by
 intro e s i H Q I h;refine wpAny_IfExp (cj (p e s i H _ I h) λd j ⟨l,m,n⟩=>?_);cases d with
 |true=>exact q e j i l Q m n
 |false=>exact r e j i l Q m n
end
def SqL(K:R6)(H:Hp)(a:Ad)(xs:List V):Prop:=
 Rd H a (.lst xs)\/
  ∃(o:Obj) (b:AV) (n:Nat),K.lookup a=some o/\o.cls=.type "list"/\o.dict=none/\o.data=.seq b n/\b.size<=sizeLine/\Vals xs b.toList
def SqT(K:R6)(H:Hp)(a:Ad)(xs:List V):Prop:=
 Rd H a (.tup xs)\/
  ∃(o:Obj) (b:AV) (n:Nat),K.lookup a=some o/\o.cls=.type "tuple"/\o.data=.seq b n/\b.size<=sizeLine/\Vals xs b.toList
noncomputable def Dz:Vl->Option V
 |.none=>some .non
 |.bool b=>some (.bl b)
 |.int i _=>some (.int i)
 |.str x _=>some (.str x)
 |.bytes b _=>some (.byt b)
 |.float b _=>some (.flt b)
 |.ref a=>some (.ref a)
 |.type n=>some (.ty n)
 |_=>none
theorem RelV.abs(r:RelV x u):Dz u=some x:=by
 cases x with
 |non=>cases r;rfl
 |bl _=>cases r;rfl
 |int _=>obtain⟨t,rfl⟩:=r;rfl
 |str _=>obtain⟨t,rfl⟩:=r;rfl
 |byt _=>obtain⟨t,rfl⟩:=r;rfl
 |flt _=>obtain⟨t,rfl⟩:=r;rfl
 |ref _=>cases r;rfl
 |ty _=>cases r;rfl
theorem RelV.inj(r:RelV x u)(q:RelV y u):x=y:=fK (r.abs.symm.trans q.abs)
theorem Vals.inj:∀{a b} {c:Vs},Vals a c->Vals b c->a=b
 |_,_,_,.nil,.nil=>rfl
 |_,_,_,.cons r t,.cons d t'=>by rw[r.inj d,Vals.inj t t']
section
variable{b:St}
theorem R3{K:R6}(h:H a=some (.lst xs)):SqL K H a xs:= .inl (.inl h)
theorem R4{K:R6}(h:H a=some (.tup xs)):SqT K H a xs:= .inl (.inl h)
theorem Inv.list(I:Inv X c b H s)(h:SqL X.K H a xs):∃its:Vs,Vals xs its/\PlainL s.heap a its.toArray/\xs.length<=sizeLine:=by
 rcases h with h|⟨o,its,n,d,f,g,i,j,r⟩
 .obtain⟨z,its,n,r,e⟩:=h.ok I.hok;exact#[its,r,#[_,n,e,zZ,zZ,zZ],z]
 .refine#[its.toList,r,#[o,n,I.kIn a o d,f,g,by simpa using i],?_];have e:=r.length;simp only[Array.length_toList]at e;lia
theorem Inv.tuple(I:Inv X c b H s)(h:SqT X.K H a xs):∃its:Vs,Vals xs its/\IsTup s.heap a its.toArray/\xs.length<=sizeLine:=by
 rcases h with h|⟨o,its,n,d,f,g,i,r⟩
 .obtain⟨z,its,r,p⟩:=h.ok I.hok;exact#[its,r,p.is,z]
 .refine#[its.toList,r,#[o,I.kIn a o d,f,n,by simpa using g],?_];have e:=r.length;simp only[Array.length_toList]at e;lia
theorem Inv.list_inj(I:Inv X c b H s)(h:SqL X.K H a xs)(h':SqL X.K H a ys):xs=ys:=by
 obtain⟨g,r,⟨o,n,e,_,_,d⟩,_⟩:=I.list h;obtain⟨f,j,⟨l,m,i,_,_,d'⟩,_⟩:=I.list h';rw[e]at i;cases i;rw[d]at d';injection d' with k _
 have:g=f:=by simpa using congrArg Array.toList k
 subst this;exact r.inj j
theorem Inv.tuple_inj(I:Inv X c b H s)(h:SqT X.K H a xs)(h':SqT X.K H a ys):xs=ys:=by
 obtain⟨g,r,⟨o,e,_,n,d⟩,_⟩:=I.tuple h;obtain⟨f,j,⟨l,i,_,m,d'⟩,_⟩:=I.tuple h';rw[e]at i;cases i;rw[d]at d';injection d' with k _
 have:g=f:=by simpa using congrArg Array.toList k
 subst this;exact r.inj j
end
abbrev Cx.wish(X:Cx)(E:VP):Cx:={X with xe:=E}
abbrev Cx.nox(X:Cx):Cx:=X.wish λ_ _=>False
theorem Cx.Ok.wish{X:Cx}(ok:X.Ok)(E):(X.wish E).Ok:=
 #[ok.mod,ok.kind,ok.glob,ok.blt,ok.above,ok.inj,ok.has,ok.cab,ok.hd,ok.frames,ok.stk,ok.exf,ok.bs,ok.bsz,ok.noex,ok.exfs,ok.funs,ok.frf]
theorem Cx.Ok.unwish{X:Cx}(ok:(X.wish E).Ok):X.Ok:=
 #[ok.mod,ok.kind,ok.glob,ok.blt,ok.above,ok.inj,ok.has,ok.cab,ok.hd,ok.frames,ok.stk,ok.exf,ok.bs,ok.bsz,ok.noex,ok.exfs,ok.funs,ok.frf]
section
variable{b:St}
theorem Inv.wish(I:Inv X a b H s)(E):Inv (X.wish E) a b H s:=#[I.ok.wish E,I.os,I.bare,I.base,I.loc,I.cell,I.free,I.freeC,I.pin,I.hok,I.len]
theorem Inv.unwish(I:Inv (X.wish E) a b H s):Inv X a b H s:=#[I.ok.unwish,I.os,I.bare,I.base,I.loc,I.cell,I.free,I.freeC,I.pin,I.hok,I.len]
theorem SP.unwish(h:SP (X.wish E) a D f d):SP X a D f d:=by
 cases f with
 |next=>obtain⟨b,c,I,q⟩:=h;exact#[b,c,I.unwish,q]
 |brk=>obtain⟨b,c,I,q⟩:=h;exact#[b,c,I.unwish,q]
 |cont=>obtain⟨b,c,I,q⟩:=h;exact#[b,c,I.unwish,q]
 |ret u=>obtain⟨v,b,c,I,r,q⟩:=h;exact#[v,b,c,I.unwish,r,q]
theorem PSs.nox{st:List Stmt}(h:PSs X.nox st t):PSs X st t:=λa s b H D I hw=>
 eZ (h a s b H D (I.wish _) hw) (λ_ _ q=>q.unwish) λ_ _ z=>wE z
end
section
variable{st:Stmt}{rest:List Stmt}
def Ij:TS:=λD a H=>D.nx a H
def nW(t u:TS):TS:=λD a H=>t {D with nx:=u D} a H
theorem fJ:PSs X [] Ij:=λ_ _ a H _ I h=>vf #[a,H,I,h]
theorem cq(c:PS X st t)(d:PSs X rest u):PSs X (st::rest) (nW t u):=by
 intro b s e H D I h;refine EK (cj (c b s e H {D with nx:=u D} I h) λf g q=>?_);cases f with
 |next=>
  obtain⟨a,i,j,q⟩:=q;exact d b g a i D j q
 |ret v=>exact q
 |brk=>exact q
 |cont=>exact q
theorem cy(a:PS X st t):PSs X [st] t:=by
 intro b s c H D I h;refine EK (cj (a b s c H D I h) λf d q=>?_);cases f with
 |next=>exact vf q
 |ret v=>exact q
 |brk=>exact q
 |cont=>exact q
theorem Inv.quiet{b:St}(I:Inv X a b H s):interactive X.env=false:=by simp[interactive,I.ok.kind]
def zH(i:TE):TS:=λD a H=>i a H λ_ b=>D.nx a b
theorem iq(b:PE X e i)(c:swapsWith e none g.line X.env=pure false:=by rfl):PS X (.Expr e g) (zH i):=by
 intro d s a H D I h;exact wpAny_Expr_any (cj (b d s a H _ I h) λv l ⟨x,f,j,m,k⟩=>#[a,f,j,k]) I.quiet c
def sE(i:TE):TS:=λD a H=>i a H D.rt
theorem c8(b:PE X e i):PS X (.Return (some e) g) (sE i):=by
 intro c s a H D I h;exact wpAny_Return_some (cj (b c s a H _ I h) λv l ⟨x,d,f,j,k⟩=>#[x,a,d,f,j,k])
def yo(c:TT)(t u:TS):TS:=λD a H=>c a H λb d=>if b=true then t D a d else u D a d
theorem fG(n:PT X c i)(o:PSs X a t)(p:PSs X b u):PS X (.If c a b g) (yo i t u):=by
 intro e s f H D I h;refine wpAny_If (cj (n e s f H _ I h) λd j ⟨k,l,m⟩=>?_);cases d with
 |true=>exact o e j f k D l m
 |false=>exact p e j f k D l m
end
abbrev TG:=V->St->Hp->(St->Hp->Prop)->Prop
abbrev xf:=List V->St->Hp->(St->Hp->Prop)->Prop
def PG(X:Cx)(a:Expr)(t:TG):Prop:=
 ∀(c:AO) (s:Sh) (d:St) (H:Hp) (v:V) (u:Vl) (Q:St->Hp->Prop),Inv X c d H s->RelV v u->t v d H Q->
  wpAny (model X.prog X.w) X.A (assign a X.env u) (λ_ f=>∃b e,Inv X c b e f/\Q b e) X.xe s
def BV(X:Cx)(g:List Expr)(t:xf):Prop:=
 ∀(b:AO) (s:Sh) (c:St) (H:Hp) (d:List V) (e:Vs) (Q:St->Hp->Prop),Inv X b c H s->Vals d e->t d c H Q->
  wpAny (model X.prog X.w) X.A (assignInOrder ((assignEach g X.env).map (·.2)) e) (λ_ h=>∃a f,Inv X b a f h/\Q a f) X.xe s
abbrev rP:=V->V->V->Hp->(Hp->Prop)->Prop
def x8(X:Cx)(t:rP):Prop:=
 ∀(a:AO) (s:Sh) (b:St) (H:Hp) (o i v:V) (c d u:Vl) (Q:Hp->Prop),Inv X a b H s->RelV o c->RelV i d->RelV v u->t o i v H Q->
  wpAny (model X.prog X.w) X.A (setItem c d u) (λ_ f=>∃e,Inv X a b e f/\Q e) X.xe s
abbrev Bb:=V->V->Hp->VK->Prop
def HZ(X:Cx)(c:Operator)(t:Bb):Prop:=
 ∀(a:AO) (s:Sh) (b:St) (H:Hp) (x y:V) (v u:Vl) (Q:VK),Inv X a b H s->RelV x v->RelV y u->t x y H Q->
  wpAny (model X.prog X.w) X.A (inplaceOp c v u) (EP X a b Q) X.xe s
section
variable{d:Pos}
def ge(i:Nat):TG:=λv a H Q=>Q (a.set i (some v)) H
theorem fB(a:X.N.Nodup)(b:X.N[i]?=some x)(c:wy X.env.scope x)(e:X.fn x=true\/X.env.scope.names.lookup x=some .local:=by first|exact .inl rfl|exact .inr rfl|assumption):PG X (.Name x d) (ge i):=by
 intro g s j H v u Q I r h;exact ED (Be I a b c r (λk f=>#[_,H,f,h]) e)
def xz:xf:=λa b H Q=>a=[]/\Q b H
inductive l7(t:TG)(u:xf)(b:List V)(c:St)(H:Hp)(Q:St->Hp->Prop):Prop|mk:∀v r,b=v::r->(t v c H λa d=>u r a d Q)->l7 t u b c H Q
theorem AD:BV X [] xz:=by
 intro b s a H c d Q I r h;obtain⟨e,h⟩:=h;subst e;cases r;exact assignInOrder_nil #[a,H,I,h]
theorem qu(d:PG X e t)(f:BV X a u)(g:(assignEach (e::a) X.env).map (·.2)=assign e X.env::(assignEach a X.env).map (·.2):=by rfl):BV X (e::a) (l7 t u):=by
 intro c s i H p q Q I r h;obtain⟨v,w,j,h⟩:=h;subst j;cases r with
 |cons r k=>
  rw[g];refine assignInOrder_cons (cj (d c s i H _ _ _ I r h) λ_ l ⟨b,m,n,o⟩=>f c l b m _ _ Q n k o)
inductive tq(K:R6)(n:Nat)(t:xf)(v:V)(c:St)(H:Hp)(Q:St->Hp->Prop):Prop|mk:∀a b,v=.ref a->SqT K H a b->b.length=n->t b c H Q->tq K n t v c H Q
theorem zU{k:Nat}(l:X.calm=true)(h:BV X c t)(m:(assignEach c X.env).length=n:=by rfl) (f:(assignEach c X.env).findIdx? (·.1)=none:=by rfl):PG X (.Tuple c k d) (tq X.K n t):=by
 intro g s i H v u Q I r hw;obtain⟨a,p,q,w,x,hw⟩:=hw;subst q;cases r;obtain⟨y,j,ht,C⟩:=I.tuple w;refine assign_Tuple_tuple (I.ok.hd l) ht (by simp[m,<-x,j.length]) f λz A=>?_;have B:=I.kept (t':=s.toks) λb o e=>A b o (dq (cK e)) e;exact h g _ i H p _ Q B j hw
def DT(to b:TE)(t:rP):TG:=λv a H Q=>to a H λo c=>b a c λi d=>t o i v d λe=>Q a e
theorem BM(g:PE X o to)(j:PE X i f)(k:x8 X t)(l:∀v,assign (.Subscript o i d) X.env v=(do
   let a <-holding [v] (eval o X.env)
   let b <-holding [v,a] (eval i X.env)
   standAt d
   holding [v,a,b] (setItem a b v)
   release [v,a,b] []):=by intro _;rfl):PG X (.Subscript o i d) (DT to f t):=by
 intro e s c H v u Q I r h;rw[l];refine bU (jo (cj (g e s c H _ I h) λa m ⟨x,n,p,q,w⟩=>bU (jo (cj (j e m c n _ p w) λb z ⟨y,A,B,C,D⟩=>?_))));refine bU (uk (bU (jo (cj (k e z c A x y v a b u _ B q C r D) λ_ L ⟨E,G,J⟩=>wpAny_release #[c,E,G,J]))))
def nh(b:TE)(g:TG):TS:=λD a H=>b a H λx c=>g x a c D.nx
theorem zY(i:PE X e b)(j:PG X a g)(k:swapsWithSole [a] e d.line X.env=pure false:=by rfl)(hw:swappedStores [a] e X.env=pure none:=by rfl)
  (l:(assignEach [a] X.env).map (·.2)=[assign a X.env]:=by rfl):PS X (.Assign [a] e d) (nh b g):=by
 intro c s f H D I h;refine wpAny_Assign_stores (cj (i c s f H _ I h) λv m ⟨x,n,o,p,r⟩=>?_) k hw;rw[l];exact cj (j c m f n x v _ o p r) λ_ t q=>q
theorem cT(c:X.N.Nodup)(f:X.N[i]?=some x)(g:wy X.env.scope x)(j:PE X e b)(k:swapsWith e (some (.Name x a)) d.line X.env=pure false:=by rfl)(l:X.fn x=true\/X.env.scope.names.lookup x=some .local:=by first|exact .inl rfl|exact .inr rfl|assumption):
  PS X (.Assign [.Name x a] e d) (nh b (ge i)):=by
 intro m s n H D I h;refine wpAny_Assign_Name (cj (j m s n H _ I h) λv u ⟨y,o,p,q,r⟩=>Be p c f g q (λw t=>#[_,o,t,r]) l) k
def Fu(i:Nat)(b:TE)(c:Bb):TS:=λD a H=>∃x,a[i]?=some (some x)/\b a H λy d=>c x y d λz e=>D.nx (a.set i (some z)) e
theorem Kd(C:X.N.Nodup)(A:X.N[i]?=some x)(n:wy X.env.scope x)(E:PE X e q)(G:HZ X j t)(J:X.fn x=true\/X.env.scope.names.lookup x=some .local:=by first|exact .inl rfl|exact .inr rfl|assumption):
  PS X (.AugAssign (.Name x b) j e d) (Fu i q t):=by
 intro o s B H D I h;obtain⟨v,L,h⟩:=h;obtain⟨m,M,N⟩:=I.loc;have p:Ck X.env.scope x:=by rcases n with k|k;exact .inl k;exact .inr (.inl k)
 obtain⟨u,r,l⟩:=N i x v A L p;refine wpAny_AugAssign_Name ?_;have go:wpAny (model X.prog X.w) X.A (eval e X.env) (λw f=>wpAny (model X.prog X.w) X.A (inplaceOp j u w) (λr g=>wpAny (model X.prog X.w) X.A (storeName X.env x r) (λ_=>SP X o D .next) X.xe g) X.xe f) X.xe s:=by
  refine cj (E o s B H _ I h) λw O ⟨y,Q,T,U,Y⟩=>cj (G o O B Q v y u w _ T r U Y) λz s2 ⟨zv,H2,I2,r2,q2⟩=>?_;exact Be I2 C A n r2 (λs3 I3=>#[_,H2,I3,q2]) J
 rcases l with⟨hk,hm⟩|⟨hk,c,hc,a⟩
 .exact wpAny_loadName_local I.ok.kind hk M hm go
 .rcases hk with hk|hk
  .exact wpAny_loadName_cell I.ok.kind hk hc a go
  .rcases n with k|k
   .have:X.env.scope.names.lookup x=some .free:=hk;rw[k]at this;cases this
   .have:X.env.scope.names.lookup x=some .free:=hk;rw[k]at this;cases this
def OT(f:Int->Int->Int):Bb:=λx y H Q=>∃i j,x=.int i/\y=.int j/\Q (.int (f i j)) H
theorem Gw:HZ X .Add (OT λi j=>i+j):=by
 intro e s f H x y v u Q I a b h;obtain⟨i,j,c,d,q⟩:=h;subst c;subst d;obtain⟨t,rfl⟩:=a;obtain⟨g,rfl⟩:=b;exact iadd_int #[.int _,H,I.tok _,#[_,zZ],q]
end
def Jr(c:TT)(h:TS):TS:=λD a H=>∃W:Nat->St->Hp->Prop,(∃m,W m a H)/\∀m a H,W m a H->
 c a H λb e=>if b=true then ∃N:St->Hp->Prop,(∀d f,N d f->∃g,g<m/\W g d f)/\h {D with nx:=N,ct:=N,bk:=D.nx} a e else D.nx a e
theorem Aw(x:PassesOwn (model X.prog X.w) X.A X.env X.xe)(E:PT X c u)(G:PSs X g w):PS X (.While c g [] a) (Jr u w):=by
 intro m s J H D I h;obtain⟨W,⟨L,M⟩,turn⟩:=h;refine wpAny_While (codeAny_whileLoop (λn O=>∃i y,Inv X m i y O/\W n i y) ?_ L #[J,H,I,M]);rintro n Q ⟨e,z,T,U⟩;refine t5 x (cj (E m Q e z _ T (turn n e z U)) λb Y ⟨A,B,k⟩=>?_);cases b with
 | true=>
  obtain⟨N,C,k⟩:=k;rw[wB zZ];refine t5 x (cj (G m Y e A _ B k) λf s3 l=>?_);cases f with
  |next=>
   obtain⟨d,j,o,p⟩:=l;obtain⟨q,r,t⟩:=C d j p;exact#[q,r,d,j,o,t]
  |cont=>
   obtain⟨d,j,o,p⟩:=l;obtain⟨q,r,t⟩:=C d j p;exact#[q,r,d,j,o,t]
  |brk=>exact l
  |ret v=>exact l
 |false=>
  rw[wA f'];exact vf #[e,A,B,k]
structure It where
 go:Nat->Hp->Prop
 yld:Nat->Hp->V->Hp->Prop
 stop:Nat->Hp->Prop
def FpOk(X:Cx)(a:AO)(H:Hp)(b:Ad):Prop:=
 H b=none/\b≠X.env.locals/\b∉X.fs/\(b∈X.ex\/X.s₀.heap.objs.size<=b)/\(∀x c,X.env.cells.lookup x=some c->c≠b)/\∀p∈X.pn++a,p.1≠b
theorem Inv.fpOk{f:St}{b:Ad}(I:Inv X d f H s)(a:s.heap.objs.size<=b)(g:H' b=none):FpOk X d H' b:=by
 refine#[g,mC (eB I.lt a),I.nofs a,.inr (dh I.sz a),λx c e z=>?_,λp h z=>?_]
 .obtain⟨v,q⟩:=I.cell x c e;exact wC (eB q.lt (by rw[z];exact a)) (iG _)
 .exact wC (eB (cK (I.pin p h).1) (by rw[z];exact a)) (iG _)
structure Turn(P:Pg)(w:World)(K:R6)(tg:Expr)(J:It)(fp:As)(it:Ad)(tn:Nat->Heap->Prop):Prop where
 mem:it∈fp
 obj:∀i h,tn i h->∀b∈fp,∃o,h.get? b=some o/\∀v,o.data≠ .cell v
 keep:∀i h h',tn i h->(∀b∈fp,∀o,h.get? b=some o->h'.get? b=some o)->tn i h'
 item:∀(X:Cx),X.prog=P->X.w=w->X.K=K->X.calm=true->∀(i:Nat) (za:AO) (s:Sh) (σ:St) (H:Hp) (E:VP),Inv X za σ H s->(∀b∈fp,FpOk X za H b)->tn i s.heap->J.go i H->
  wpAny (model P w) X.A (pyNext (.ref it)) (λr s1=>∃u,r=some u/\
   wpAny (model P w) X.A (letOwnedTupleGo tg (.ref it) u) (λ_ s2=>∃x H',Inv X za σ H' s2/\RelV x u/\J.yld i H x H'/\tn (i+1) s2.heap/\∀b∈fp,H' b=none) E s1) E s
 done:∀(X:Cx),X.prog=P->X.w=w->X.K=K->X.calm=true->∀(i:Nat) (za:AO) (s:Sh) (σ:St) (H:Hp) (E:VP),Inv X za σ H s->(∀b∈fp,FpOk X za H b)->tn i s.heap->J.stop i H->
  wpAny (model P w) X.A (pyNext (.ref it)) (λr s1=>r=none/\Inv X za σ H s1) E s
 self:∀(A:Ar) (i:Nat) (s:Sh) (Q:VP) (E:VP),tn i s.heap->Q (.ref it) s->wpAny (model P w) A (pyIter (.ref it)) Q E s
abbrev TI:=St->Hp->(It->Hp->Prop)->Prop
def Dl(X:Cx)(d:AO)(i:St)(j:Expr)(R:It->Hp->Prop)(a:Vl)(e:Sh):Prop:=
 ∃(f:Ad) (g:As) (h:Nat->Heap->Prop) (J:It) (c:Hp),a=.ref f/\Inv X d i c e/\Turn X.prog X.w X.K j J g f h/\h 0 e.heap/\(∀b∈g,FpOk X d c b)/\R J c
def PI(X:Cx)(d a:Expr)(e:TI):Prop:=
 ∀(c:AO) (s:Sh) (b:St) (H:Hp) (R:It->Hp->Prop),Inv X c b H s->e b H R->
  wpAny (model X.prog X.w) X.A (eval a X.env) (λv f=>wpAny (model X.prog X.w) X.A (pyIter v) (Dl X c b d R) X.xe f) X.xe s
theorem zV{A:Ar}{E:VP}{c:Ad}{u:Vl}{d:AV}{Q:Unit->Sh->Prop}(e:s.heap.get? c=some o)(f:o.cls=.type n)(g:o.data=.fields d)(i:["enumerate","zip","dict_itemiterator","dict_reverseitemiterator","odict_iterator","itertools.zip_longest","itertools.pairwise"].contains n=false) (a:Q ⟨⟩ s):wpAny M A (letOwnedTupleGo b (.ref c) u) Q E s:=by
  cases b<;>first
    |exact b9 a
    |(cases u<;>first
        |exact b9 a
        | (refine bU (wpAny_load e ?_)
           rw[f,g];show wpAny M A (if(["enumerate","zip","dict_itemiterator","dict_reverseitemiterator","odict_iterator","itertools.zip_longest","itertools.pairwise"].contains n&&d[0]? ==some (rawInt _))=true then _ else _) Q E s
           rw[wA (by intro h;rw[i,Cp]at h;cases h)];exact b9 a))
noncomputable def sk(K:R6)(a:Ad):It:=
 #[λi H=>∃b x,SqL K H a b/\b[i]?=some x,λi H x c=>c=H/\∀b,SqL K H a b->b[i]?=some x,λi H=>∃b,SqL K H a b/\b.length<=i]
noncomputable def AE(K:R6)(a:Ad):It:=
 #[λi H=>∃b x,SqT K H a b/\b[i]?=some x,λi H x c=>c=H/\∀b,SqT K H a b->b[i]?=some x,λi H=>∃b,SqT K H a b/\b.length<=i]
noncomputable def qx(lo:Int)(n:Nat):It:=#[λi _=>i<n,λi H x a=>a=H/\x=.int (lo+i),λi _=>n<=i]
theorem Px{K:R6}(a f:Ad):Turn P w K Q (sk K a) [f] f (λi h=>h.IsListIter f a i) where
 mem:=by simp
 obj:=λi h st b g=>by
  have e:b=f:=by simpa using g
  subst e;obtain⟨o,e,c,d⟩:=st;exact#[o,e,λv z=>by rw[d]at z;cases z]
 keep:=λi h l st k=>st.at λo e=>k f (by simp) o e
 item:=by
  intro X q hw r M i N s O H E I m st t;subst q hw r;obtain⟨T,x,n,y⟩:=t;obtain⟨A,B,p,U⟩:=I.list n;obtain⟨u,Y,ru⟩:=B.get y;obtain⟨C,D,f2,G,J,L⟩:=m f (by simp);refine wpAny_pyNext_list_item st p.isList (by simpa using Y) λl j sb=>?_;have I1:=I.turned (t':=s.toks) (λb o g e=>(sb.2 b g).trans e) C D G J L;obtain⟨o,e,c,d⟩:=id j;exact#[u,zZ,zV e c d zZ #[x,H,I1,ru,#[rfl,λys hy=>by rw[I.list_inj hy n];exact y],j,λb g=>(m b g).1]]
 done:=by
  intro X q hw r M i N s O H E I m st t;subst q hw r;obtain⟨T,n,y⟩:=t;obtain⟨A,B,p,U⟩:=I.list n;obtain⟨C,D,f2,G,J,L⟩:=m f (by simp);have hl:=B.length;exact wpAny_pyNext_list_end (I.ok.hd M) st p.isList (by simp;lia) λl eb=>#[zZ,I.turned (λb o g e=>eb b o g e) C D G J L]
 self:=λ_ _ _ _ _ st h=>wpAny_pyIter_listiter st h
theorem On{K:R6}(a f:Ad):Turn P w K Q (AE K a) [f] f (λi h=>h.IsTupleIter f a i) where
 mem:=by simp
 obj:=λi h st b g=>by
  have e:b=f:=by simpa using g
  subst e;obtain⟨o,e,c,d⟩:=st;exact#[o,e,λv z=>by rw[d]at z;cases z]
 keep:=λi h m st k=>st.at λo e=>k f (by simp) o e
 item:=by
  intro X r hw t M i N s O H E I n st y;subst r hw t;obtain⟨T,x,q,A⟩:=y;obtain⟨j,B,p,U⟩:=I.tuple q;obtain⟨u,Y,ru⟩:=B.get A;obtain⟨C,D,f2,G,J,L⟩:=n f (by simp);refine wpAny_pyNext_tuple_item st (p) (by simpa using Y) λm l sb=>?_;have I1:=I.turned (t':=s.toks) (λb o g e=>(sb.2 b g).trans e) C D G J L;obtain⟨o,e,c,d⟩:=id l;exact#[u,zZ,zV e c d zZ #[x,H,I1,ru,#[rfl,λys hy=>by rw[I.tuple_inj hy q];exact A],l,λb g=>(n b g).1]]
 done:=by
  intro X r hw t M i N s O H E I n st y;subst r hw t;obtain⟨T,q,A⟩:=y;obtain⟨j,B,p,U⟩:=I.tuple q;obtain⟨C,D,f2,G,J,L⟩:=n f (by simp);have hl:=B.length;exact wpAny_pyNext_tuple_end (I.ok.hd M) st (p) (by simp;lia) λm eb=>#[zZ,I.turned (λb o g e=>eb b o g e) C D G J L]
 self:=λ_ _ _ _ _ st h=>wpAny_pyIter_tupleiter st h
theorem Od{K:R6}(a:Ad)(lo)(n):Turn P w K D (qx lo n) [a] a (λi h=>IsRangeIter h a (lo+(i:Nat) * 1) ((n:Int)-(i:Nat)) 1) where
 mem:=by simp
 obj:=λi h st b c=>by
  have e:b=a:=by simpa using c
  subst e;exact#[_,st,λv z=>by
   have G:=z;cases G]
 keep:=λi h f st k=>k a (by simp) _ st
 item:=by
  intro X j hw l m i A s B H E I g st p;subst j hw l;obtain⟨q,r,J,u,x,y⟩:=g a (by simp);have W:=Walks.range (prog:=X.prog) (w:=X.w) (I.ok.hd m) a lo 1 n;refine W.item i s _ _ p st λv f C L d M=>?_;obtain⟨t,rfl⟩:=L;have N:Inv X A B H {s with heap:=f,toks:=C}:=I.turned (λb o c e=>M b o (by simpa using c) e) q r u x y;refine#[_,zZ,zV d rfl rfl zZ #[.int (lo+i),H,N,#[t,?_],#[rfl,rfl],d,λb c=>(g b c).1]];rw[Int.mul_one]
 done:=by
  intro X j hw l m i A s B H E I g st p;obtain⟨q,r,J,u,x,y⟩:=g a (by simp);exact wpAny_pyNext_range_end (I.ok.hd m) st (by have:n<=i:=p;lia) λf O=>#[zZ,I.turned (λb o c e=>O b o c e) q r u x y]
 self:=λ_ _ _ _ _ st h=>wpAny_pyIter_rangeiter st h
def FC(K:R6)(tl:TE):TI:=λc H R=>tl c H λx b=>∃a,x=.ref a/\(∃d,SqL K b a d)/\R (sk K a) b
def EZ(K:R6)(tl:TE):TI:=λc H R=>tl c H λx b=>∃a,x=.ref a/\(∃d,SqT K b a d)/\R (AE K a) b
theorem gY(g:PE X l tl):PI X c l (FC X.K tl):=by
 intro i s j H R I h;refine cj (g i s j H _ I h) λv d ⟨x,k,f,m,n⟩=>?_;obtain⟨a,e,⟨w,r⟩,q⟩:=n;subst e;cases m;obtain⟨t,y,p,z⟩:=f.list r;refine BK p.isList ?_;refine#[d.heap.objs.size,[d.heap.objs.size],_,_,k,zZ,f.kept λb o e=>c7 _ e,Px a _,#[_,eQ _ zZ,zZ,zZ],λb u=>?_,q];have e:b=d.heap.objs.size:=by simpa using u
 subst e;exact f.fpOk (cg _) (f.hok.fresh (cg _))
theorem wP(i:PE X l tl):PI X c l (EZ X.K tl):=by
 intro j s k H R I h;refine cj (i j s k H _ I h) λv d ⟨x,m,f,n,r⟩=>?_;obtain⟨a,e,⟨w,t⟩,q⟩:=r;subst e;cases n;obtain⟨g,y,p,z⟩:=f.tuple t;refine wpAny_pyIter_tuple (p) ?_;refine#[d.heap.objs.size,[d.heap.objs.size],_,_,m,zZ,f.kept λb o e=>c7 _ e,On a _,#[_,eQ _ zZ,zZ,zZ],λb u=>?_,q];have e:b=d.heap.objs.size:=by simpa using u
 subst e;exact f.fpOk (cg _) (f.hok.fresh (cg _))
theorem MI{f:St}{E:VP}{lo a:Int}(I:Inv X d f H s)(i: -(2 ^ 62)<=lo)(j:lo<2 ^ 62)(k: -(2 ^ 62)<=a)(l:a<2 ^ 62)(q:R (qx lo (a-lo).toNat) H):wpAny (model X.prog X.w) X.A (pyIter (.ref s.heap.objs.size)) (Dl X d f c R) E {s with heap:=s.heap.push {cls:= .type "range",data:= .fields #v[.int lo t,.int a u,.int 1 v]},toks:=g}:=by
 refine wpAny_pyIter_range (IsRange.new ..) (small_one i j k l) ?_;have h:Inv X d f H {s with heap:=s.heap.push {cls:= .type "range",data:= .fields #v[.int lo t,.int a u,.int 1 v]},toks:=g}:=I.kept λb o e=>c7 _ e;refine#[(s.heap.push {cls:= .type "range",data:= .fields #v[.int lo t,.int a u,.int 1 v]}).objs.size,[(s.heap.push {cls:= .type "range",data:= .fields #v[.int lo t,.int a u,.int 1 v]}).objs.size],_,_,H,zZ,
  h.kept λb o e=>c7 _ e,Od _ lo (a-lo).toNat,?_,λb m=>?_,q]
 .have n:lo+((0:Nat):Int) * 1=lo:=by simp
  have p:(((a-lo).toNat:Nat):Int)-((0:Nat):Int)=Builtin.Range.rangeSize lo a 1:=by rw[rangeSize_one];split<;>lia
  rw[n,p];exact eQ _ rfl
 .have e:b=(s.heap.push {cls:= .type "range",data:= .fields #v[.int lo t,.int a u,.int 1 v]}).objs.size:=by simpa using m
  subst e;exact h.fpOk (cg _) (h.hok.fresh (cg _))
def HD(a:TA):TI:=λb H R=>a b H λc d=>∃j:Int,c=[.int j]/\ -(2 ^ 62)<=j/\j<2 ^ 62/\R (qx 0 j.toNat) d
theorem mq(g:Gl X "range")(i:X.mg "range"=none)(k:PA X [a] f)(l:starEach [a] X.env=[(false,eval a X.env)]:=by rfl):PI X c (.Call (.Name "range" p) [a] [] b) (HD f):=by
 intro m s n H R I h;refine Call_ (tm I g i boot_range (Ch (cj (k b m s n H _ I h) λx y ⟨z,A,o,u,d⟩=>?_) l zZ));obtain⟨j,e,d,v,q⟩:=d;subst e;cases u with
 |cons r w=>
  cases w;obtain⟨t,rfl⟩:=r;exact call_range_1 (MI o () () d v (by simpa using q))
def ub(f:TI)(g:TG)(h:TS):TS:=λD a H=>f a H λJ j=>∃W:Nat->Nat->St->Hp->Prop,(∃m,W 0 m a j)/\∀i m a H,W i m a H->
 (J.stop i H/\D.nx a H)\/(J.go i H/\∃N:St->Hp->Prop,(∀b c,N b c->∃e,e<m/\W (i+1) e b c)/\∀x c,J.yld i H x c->g x a c λd k=>h {D with nx:=N,ct:=N,bk:=D.nx} d k)
noncomputable def v0(a:As)(h:Heap):AO:=a.filterMap λb=>(h.get? b).map λo=>(b,o)
theorem v6{b:Ad}(c:b∈a)(e:h.get? b=some o):(b,o)∈v0 a h:=C1.mpr #[b,c,by rw[e];rfl]
theorem Ll{p:Ad×Obj}(c:p∈v0 a h):p.1∈a/\h.get? p.1=some p.2:=by
 obtain⟨b,d,e⟩:=C1.mp c;cases q:h.get? b with
 |none=>rw[q]at e;cases e
 |some o=>
  rw[q]at e;have f:=fK e;subst f;exact#[d,q]
theorem Inv.pinned{f:St}{c:As}(I:Inv X a f H s)(i:∀b∈c,FpOk X a H b)(j:∀b∈c,∃o,s.heap.get? b=some o/\∀v,o.data≠ .cell v):Inv X (a++v0 c s.heap) f H s:=
 I.pins_of λp k=>(cW.mp k).elim (λz=>I.pin p (dY _ z)) λz=>by
  obtain⟨g,e⟩:=Ll z;obtain⟨l,m,n,_⟩:=i p.1 g;obtain⟨o,h,d⟩:=j p.1 g;rw[e]at h;cases h;exact#[e,l,m,n,d]
theorem Inv.unpinned{b:St}(I:Inv X (a++c) b H s):Inv X a b H s:=I.pins_of λp d=>I.pin p (dY _ (mM _ d))
theorem hK(E:PassesOwn (model X.prog X.w) X.A X.env X.xe)(hc:X.calm=true)(hi:PI X c j wi)(hg:PG X c g)(k:PSs X z tb)(hs:∀x,foldedSetIterable j X.env x=pure x:=by intro _;rfl):PS X (.For c j z [] U) (ub wi g tb):=by
 intro B s σ H D I h;refine wpAny_For (cj (hi B s σ H _ I h) λv s1 h1=>cj h1 λaf s2 h2=>?_) hs;obtain⟨it,G,tn,J,H2,e,I2,T,Y,f2,W,⟨m0,w0⟩,turn⟩:=h2;subst e;have l:∀{y},(∀b∈G,y b=none)->∀b∈G,FpOk X B y b:=λhn b k=>#[hn b k,(f2 b k).2];refine codeAny_forLoop_any (λn s'=>∃i p y,Inv X B p y s'/\tn i s'.heap/\(∀b∈G,y b=none)/\W i n p y) ?_ m0 #[0,σ,H2,I2,Y,λb k=>(f2 b k).1,w0];rintro n s3 ⟨i,q,Q,I3,L,M,w3⟩
 rcases turn i n q Q w3 with⟨stop,qn⟩|⟨go,N,hN,step⟩
 .refine t5 E (cj (T.done X zZ zZ zZ hc i B s3 q Q X.xe I3 (l M) L stop) λr s4 ⟨hr,I4⟩=>?_);subst hr;exact vf #[q,Q,I4,qn]
 .refine t5 E (cj (T.item X zZ zZ zZ hc i B s3 q Q X.xe I3 (l M) L go) λr s4 ⟨u,hr,h4⟩=>?_);subst hr;refine t5 E (cj h4 λ_ s5 ⟨x,H5,I5,r5,y5,C,aa⟩=>?_);have ab:=I5.pinned (l aa) (T.obj _ _ C);refine t5 E (cj (hg _ s5 q H5 x u _ ab r5 (step x H5 y5)) λ_ s6 ⟨ae,H6,I6,q6⟩=>t5 E (cj (k _ s6 ae H6 _ I6 q6) λf s7 A=>?_));have again:∀{a} {t},Inv X (B++v0 G s5.heap) a t s7->N a t->∃m,m<n/\∃i p y,Inv X B p y s7/\tn i s7.heap/\(∀b∈G,y b=none)/\W i m p y:=λ{a t} w O=>by
   obtain⟨m',hm,w7⟩:=hN a t O;refine#[m',hm,i+1,a,t,w.unpinned,T.keep _ _ _ C λb k o e=>(w.pin (b,o) (dY _ (dY _ (v6 k e)))).1,λb k=>?_,w7];obtain⟨o,e,d⟩:=T.obj _ _ C b k;exact(w.pin (b,o) (dY _ (dY _ (v6 k e)))).2.1
  cases f with
  |next=>obtain⟨a,t,w,O⟩:=A;exact again w O
  |cont=>obtain⟨a,t,w,O⟩:=A;exact again w O
  |brk=>obtain⟨a,t,w,A⟩:=A;exact#[a,t,w.unpinned,A]
  |ret v=>obtain⟨x7,a,t,w,r7,A⟩:=A;exact#[x7,a,t,w.unpinned,r7,A]
theorem qr{K:R6}{g:TG}{k:TS}{D:Ends}(Pv:Nat->St->Hp->Prop)(n:Pv 0 b H)(o:∀i b H,i<=xs.length->Pv i b H->SqL K H a xs)(r:∀i x b H,xs[i]?=some x->Pv i b H->g x b H λc j=>k {D with nx:=Pv (i+1),ct:=Pv (i+1),bk:=D.nx} c j) (s:∀b H,Pv xs.length b H->D.nx b H):
  ∃W:Nat->Nat->St->Hp->Prop,(∃m,W 0 m b H)/\∀i m b H,W i m b H->
   ((sk K a).stop i H/\D.nx b H)\/((sk K a).go i H/\∃N,(∀d f,N d f->∃l,l<m/\W (i+1) l d f)/\∀x f,(sk K a).yld i H x f->g x b f λc j=>k {D with nx:=N,ct:=N,bk:=D.nx} c j):=by
 refine#[λi m b H=>m=xs.length-i/\i<=xs.length/\Pv i b H,#[xs.length,by simp,Nat.zero_le _,n],?_];rintro i m b H ⟨rfl,t,p⟩;have q:=o i b H t p;by_cases h:i<xs.length
 .refine .inr #[#[xs,xs[i],q,by simp[h]],Pv (i+1),λd f u=>#[xs.length-(i+1),Nat.sub_succ_lt_self _ _ h,zZ,h,u],λx f y=>?_];obtain⟨e,y⟩:=y;subst e;exact r i x b _ (y xs q) p
 .have e:i=xs.length:=by lia
  subst e;exact .inl #[#[xs,q,cg _],s b H p]
theorem ug{lo:Int}{g:TG}{j:TS}{D:Ends}(Pv:Nat->St->Hp->Prop)(l:Pv 0 a H)(o:∀i a H,i<n->Pv i a H->g (.int (lo+i)) a H λc h=>j {D with nx:=Pv (i+1),ct:=Pv (i+1),bk:=D.nx} c h) (q:∀a H,Pv n a H->D.nx a H):
  ∃W:Nat->Nat->St->Hp->Prop,(∃m,W 0 m a H)/\∀i m a H,W i m a H->
   ((qx lo n).stop i H/\D.nx a H)\/((qx lo n).go i H/\∃N,(∀d f,N d f->∃k,k<m/\W (i+1) k d f)/\∀x f,(qx lo n).yld i H x f->g x a f λc h=>j {D with nx:=N,ct:=N,bk:=D.nx} c h):=by
 refine#[λi m a H=>m=n-i/\i<=n/\Pv i a H,#[n,by simp,Nat.zero_le _,l],?_];rintro i m a H ⟨rfl,s,p⟩;by_cases b:i<n
 .refine .inr #[b,Pv (i+1),λd f r=>#[n-(i+1),Nat.sub_succ_lt_self _ _ b,zZ,b,r],λx f y=>?_];obtain⟨e,y⟩:=y;subst e y;exact o i a _ b p
 .have e:i=n:=by lia
  subst e;exact .inl #[cg _,q a H p]
abbrev R2:=V->V->Hp->VK->Prop
def OpR(X:Cx)(f:Vl->Vl->Sem Vl)(r:R2):Prop:=
 ∀(a:AO) (s:Sh) (b:St) (H:Hp) (x y:V) (v u:Vl) (Q:VK),Inv X a b H s->RelV x v->RelV y u->r x y H Q->
  wpAny (model X.prog X.w) X.A (f v u) (EP X a b Q) X.xe s
def D5(X:Cx)(f:Vl->Sem Vl)(r:V->Hp->VK->Prop):Prop:=
 ∀(a:AO) (s:Sh) (b:St) (H:Hp) (x:V) (v:Vl) (Q:VK),Inv X a b H s->RelV x v->r x H Q->
  wpAny (model X.prog X.w) X.A (f v) (EP X a b Q) X.xe s
def CallR(X:Cx)(f:Vl)(r:List V->Hp->VK->Prop):Prop:=
 ∀(a:AO) (s:Sh) (b:St) (H:Hp) (c:List V) (d:Vs) (Q:VK),Inv X a b H s->Vals c d->r c H Q->
  wpAny (model X.prog X.w) X.A (call f d) (EP X a b Q) X.xe s
def EV(X:Cx)(r:V->Hp->(Bool->Hp->Prop)->Prop):Prop:=
 ∀(a:AO) (s:Sh) (b:St) (H:Hp) (x:V) (v:Vl) (Q:Bool->Hp->Prop),Inv X a b H s->RelV x v->r x H Q->
  wpAny (model X.prog X.w) X.A (truthy v) (TP X a b Q) X.xe s
def sv(r:R2)(b c:TE):TE:=λa H Q=>b a H λx d=>c a d λy e=>r x y e Q
def OW(r:V->Hp->VK->Prop)(a:TE):TE:=λb H Q=>a b H λx c=>r x c Q
inductive rI(C:Int->Int->Prop)(g:Int->Int->V)(x y:V)(H:Hp)(Q:VK):Prop|mk:∀i j,x=.int i->y=.int j->C i j->Q (g i j) H->rI C g x y H Q
inductive qp(g:Int->Int->V)(x y:V)(H:Hp)(Q:VK):Prop|mk:∀i j,x=.int i->y=.int j->Q (g i j) H->qp g x y H Q
inductive rU(g:Int->V)(x:V)(H:Hp)(Q:VK):Prop|mk:∀i,x=.int i->Q (g i) H->rU g x H Q
theorem uy(n:PE X a d)(o:PE X b k){c:St}{R:V->V->Hp->Prop}(I:Inv X j c H s)(h:d c H λx m=>k c m λy e=>R x y e) {Q:VP} {f:Vl->Vl->Sem Vl}(p:∀v u l x y e,Inv X j c e l->RelV x v->RelV y u->R x y e->wpAny (model X.prog X.w) X.A (f v u) Q X.xe l):
  wpAny (model X.prog X.w) X.A (eval a X.env) (λv g=>wpAny (model X.prog X.w) X.A (eval b X.env) (λu i=>wpAny (model X.prog X.w) X.A (f v u) Q X.xe i) X.xe g) X.xe s:=by
 refine cj (n j s c H _ I h) λv q ⟨x,m,r,t,w⟩=>cj (o j q c m _ r w) λu l ⟨y,e,z,A,B⟩=>?_;exact p v u l x y e z t A B
theorem dQ(f:OpR X (binaryOp c) r)(g:PE X a d)(i:PE X b k):PE X (.BinOp a c b e) (sv r d k):=by
 intro j s l H Q I h;exact wpAny_BinOp (uy g i I h λv u m x y n o p t q=>f j m l n x y v u Q o p t q)
theorem J4(g:D5 X (unaryOp b) r)(i:PE X a d):PE X (.UnaryOp b a e) (OW r d):=by
 intro c s f H Q I h;exact UnaryOp_ (cj (i c s f H _ I h) λv j ⟨x,k,l,m,n⟩=>g c j f k x v Q l m n)
theorem E5{f:Vl->Vl->Sem Vl}{g:Int->Int->Int}(rule:∀i j t u (s:Sh) (Q:VP) (E:VP),C i j->Q (.int (g i j) s.toks) {s with toks:=s.toks+1}->wpAny (model X.prog X.w) X.A (f (.int i t) (.int j u)) Q E s):
  OpR X f (rI C λi j=> .int (g i j)):=by
 intro e s k H x y v u Q I a b h;obtain⟨i,j,rfl,rfl,c,q⟩:=h;obtain⟨t,rfl⟩:=a;obtain⟨d,rfl⟩:=b;exact rule i j t d s _ _ c #[.int (g i j),H,I.tok _,#[_,zZ],q]
theorem yZ{f:Vl->Vl->Sem Vl}{g:Int->Int->Int}(rule:∀i j t u (s:Sh) (Q:VP) (E:VP),Q (.int (g i j) s.toks) {s with toks:=s.toks+1}->wpAny (model X.prog X.w) X.A (f (.int i t) (.int j u)) Q E s):
  OpR X f (qp λi j=> .int (g i j)):=by
 intro d s e H x y v u Q I a b h;obtain⟨i,j,rfl,rfl,q⟩:=h;obtain⟨t,rfl⟩:=a;obtain⟨c,rfl⟩:=b;exact rule i j t c s _ _ #[.int (g i j),H,I.tok _,#[_,zZ],q]
theorem ui{f:Vl->Vl->Sem Vl}{g:Int->Int->Bool}(rule:∀i j t u (s:Sh) (Q:VP) (E:VP),Q (.bool (g i j)) s->wpAny (model X.prog X.w) X.A (f (.int i t) (.int j u)) Q E s):
  OpR X f (qp λi j=> .bl (g i j)):=by
 intro d s e H x y v u Q I a b h;obtain⟨i,j,rfl,rfl,q⟩:=h;obtain⟨t,rfl⟩:=a;obtain⟨c,rfl⟩:=b;exact rule i j t c s _ _ #[.bl (g i j),H,I,zZ,q]
def D3(i j:Int):Prop:=0<j/\j<1073741824
def CMul(i j:Int):Prop:=(-(2 ^ 64)<i/\i<2 ^ 64)\/(-(2 ^ 64)<j/\j<2 ^ 64)
theorem CMul.ok(h:CMul i j):IntMulOk i j:=by
 rcases h with⟨a,b⟩|⟨a,b⟩
 .exact .of_left (intBits_le_64 a b)
 .exact .of_right (intBits_le_64 a b)
theorem nZ:OpR X (binaryOp .Add) (qp λi j=> .int (i+j)):=yZ λ_ _ _ _ _ _ _ q=>add_int q
theorem HX:OpR X (binaryOp .Sub) (qp λi j=> .int (i-j)):=yZ λ_ _ _ _ _ _ _ q=>sub_int q
theorem xm:OpR X (binaryOp .Mult) (rI CMul λi j=> .int (i * j)):=E5 λ_ _ _ _ _ _ _ a q=>mul_int q a.ok
theorem u6:OpR X (binaryOp .FloorDiv) (rI D3 λi j=> .int (i/j)):=E5 λi j _ _ _ _ _ a q=>by
 have b:=a.1;have c:=a.2;exact floordiv_int () (by rw[Int.fdiv_eq_ediv_of_nonneg i ()];exact q) (.inl (PyProof.noPylong_small ()))
theorem jx:OpR X (binaryOp .Mod) (rI (λ_ j=>0<j) λi j=> .int (i%j)):=E5 λi j _ _ _ _ _ a q=>by
 have b:=a;exact mod_int' () (by rw[Int.fmod_eq_emod_of_nonneg i ()];exact q)
theorem ON{f:Vl->Sem Vl}{g:Int->Int}(rule:∀i t (s:Sh) (Q:VP) (E:VP),Q (.int (g i) s.toks) {s with toks:=s.toks+1}->wpAny (model X.prog X.w) X.A (f (.int i t)) Q E s):
  D5 X f (rU λi=> .int (g i)):=by
 intro b s c H x v Q I a h;obtain⟨i,rfl,q⟩:=h;obtain⟨t,rfl⟩:=a;exact rule i t s _ _ #[.int (g i),H,I.tok _,#[_,zZ],q]
theorem Ha:D5 X (unaryOp .USub) (rU λi=> .int (-i)):=ON λ_ _ _ _ _ q=>neg_int q
noncomputable def y7:V->V->Bool
 |.non,.non=>true|.non,.int _=>true|.int _,.non=>true|.non,.bl _=>true|.bl _,.non=>true|.non,.str _=>true|.str _,.non=>true
 |.int _,.int _=>true|.bl _,.bl _=>true|.str _,.str _=>true|.byt _,.byt _=>true
 |.int _,.str _=>true|.str _,.int _=>true|.bl _,.str _=>true|.str _,.bl _=>true
 |_,_=>false
def NK:R2:=λx y H Q=>y7 x y=true/\Q (.bl (decide (x=y))) H
def QN:R2:=λx y H Q=>y7 x y=true/\Q (.bl (!decide (x=y))) H
theorem Ge:decide (V.int i=V.int j)=(i==j):=by
 rw[mv];simp
theorem HI:decide (V.bl i=V.bl j)=(i==j):=by
 rw[mv];simp
theorem G9:decide (V.str i=V.str j)=(i==j):=by
 rw[mv];simp
theorem HH:decide (V.byt i=V.byt j)=(i.toList==j.toList):=by
 rw[mv];cases i;cases j;simp
theorem eY{b:St}(I:Inv X a b H s)(q:Q (.bl k) H)(e:k=c):EP X a b Q (.bool c) s:=by
 subst e;exact#[.bl k,H,I,zZ,q]
theorem wx:OpR X (compareOp .Eq) NK:=by
 intro e s f H x y v u Q I d a h;obtain⟨c,q⟩:=h;cases x with
 |non=>
  cases d;cases y with
  |non=>cases a;exact PySem.EqNone.eq_none_none (eY I q (by simp))
  |bl j=>cases a;exact PySem.EqNone.eq_none_bool (eY I q (by simp))
  |int j=>obtain⟨b,rfl⟩:=a;exact PySem.EqNone.eq_none_int (eY I q (by simp))
  |str j=>obtain⟨b,rfl⟩:=a;exact PySem.EqNone.eq_none_str (eY I q (by simp))
  |_=>exact wC (c) f'
 |bl i=>
  cases d;cases y with
  |non=>cases a;exact PySem.EqNone.eq_bool_none (eY I q (by simp))
  |bl j=>cases a;exact eq_bool (eY I q HI)
  |str j=>obtain⟨b,rfl⟩:=a;exact PySem.EqMixed.eq_bool_str (eY I q (by simp))
  |_=>exact wC (c) f'
 |int i=>
  obtain⟨t,rfl⟩:=d;cases y with
  |non=>cases a;exact PySem.EqNone.eq_int_none (eY I q (by simp))
  |int j=>obtain⟨b,rfl⟩:=a;exact eq_int (eY I q Ge)
  |str j=>obtain⟨b,rfl⟩:=a;exact PySem.EqMixed.eq_int_str (eY I q (by simp))
  |_=>exact wC (c) f'
 |str i=>
  obtain⟨t,rfl⟩:=d;cases y with
  |non=>cases a;exact PySem.EqNone.eq_str_none (eY I q (by simp))
  |bl j=>cases a;exact PySem.EqMixed.eq_str_bool (eY I q (by simp))
  |int j=>obtain⟨b,rfl⟩:=a;exact PySem.EqMixed.eq_str_int (eY I q (by simp))
  |str j=>obtain⟨b,rfl⟩:=a;exact eq_str (eY I q G9)
  |_=>exact wC (c) f'
 |byt i=>
  obtain⟨t,rfl⟩:=d;cases y with
  |byt j=>obtain⟨b,rfl⟩:=a;exact PySem.W.eq_bytes (eY I q HH)
  |_=>exact wC (c) f'
 |_=>cases y<;>exact wC (c) f'
theorem yC:OpR X (compareOp .NotEq) QN:=by
 intro e s f H x y v u Q I d a h;obtain⟨c,q⟩:=h;cases x with
 |non=>
  cases d;cases y with
  |non=>cases a;exact PySem.EqNone.ne_none_none (eY I q (by simp))
  |bl j=>cases a;exact PySem.EqNone.ne_none_bool (eY I q (by simp))
  |int j=>obtain⟨b,rfl⟩:=a;exact PySem.EqNone.ne_none_int (eY I q (by simp))
  |str j=>obtain⟨b,rfl⟩:=a;exact PySem.EqNone.ne_none_str (eY I q (by simp))
  |_=>exact wC (c) f'
 |bl i=>
  cases d;cases y with
  |non=>cases a;exact PySem.EqNone.ne_bool_none (eY I q (by simp))
  |bl j=>cases a;exact ne_bool (eY I q (de not HI))
  |str j=>obtain⟨b,rfl⟩:=a;exact PySem.EqMixed.ne_bool_str (eY I q (by simp))
  |_=>exact wC (c) f'
 |int i=>
  obtain⟨t,rfl⟩:=d;cases y with
  |non=>cases a;exact PySem.EqNone.ne_int_none (eY I q (by simp))
  |int j=>obtain⟨b,rfl⟩:=a;exact ne_int (eY I q (de not Ge))
  |str j=>obtain⟨b,rfl⟩:=a;exact PySem.EqMixed.ne_int_str (eY I q (by simp))
  |_=>exact wC (c) f'
 |str i=>
  obtain⟨t,rfl⟩:=d;cases y with
  |non=>cases a;exact PySem.EqNone.ne_str_none (eY I q (by simp))
  |bl j=>cases a;exact PySem.EqMixed.ne_str_bool (eY I q (by simp))
  |int j=>obtain⟨b,rfl⟩:=a;exact PySem.EqMixed.ne_str_int (eY I q (by simp))
  |str j=>obtain⟨b,rfl⟩:=a;exact ne_str (eY I q (de not G9))
  |_=>exact wC (c) f'
 |byt i=>
  obtain⟨t,rfl⟩:=d;cases y with
  |byt j=>obtain⟨b,rfl⟩:=a;exact PySem.W.ne_bytes (eY I q (de not HH))
  |_=>exact wC (c) f'
 |_=>cases y<;>exact wC (c) f'
theorem Hr:OpR X (compareOp .Lt) (qp λi j=> .bl (decide (i<j))):=ui λ_ _ _ _ _ _ _ q=>lt_int q
theorem yk:OpR X (compareOp .LtE) (qp λi j=> .bl (decide (i<=j))):=ui λ_ _ _ _ _ _ _ q=>le_int q
theorem xT:OpR X (compareOp .Gt) (qp λi j=> .bl (decide (j<i))):=ui λ_ _ _ _ _ _ _ q=>gt_int q
theorem KH:OpR X (compareOp .Is) (λx y H Q=>y=.non/\Q (.bl (decide (x=.non))) H):=by
 intro c s d H x y v u Q I a b h;obtain⟨rfl,q⟩:=h;cases b;refine is_none_gen (eY I q ?_);cases x<;>first
  |(cases a;rfl)
  |(obtain⟨t,rfl⟩:=a;rfl)
theorem D9:OpR X (compareOp .IsNot) (λx y H Q=>y=.non/\Q (.bl (!decide (x=.non))) H):=by
 intro c s d H x y v u Q I a b h;obtain⟨rfl,q⟩:=h;cases b;refine isnot_none_gen (eY I q ?_);cases x<;>first
  |(cases a;rfl)
  |(obtain⟨t,rfl⟩:=a;rfl)
theorem fS(b)(h:a≠ .In:=by decide)(c:a≠ .NotIn:=by decide):behindInMarks a b=false:=by
 have d:(a==CmpOp.In)=false:=by cases a<;>first|rfl|exact wC zZ h
 have e:(a==CmpOp.NotIn)=false:=by cases a<;>first|rfl|exact wC zZ c
 cases b<;>simp[behindInMarks,d,e]
theorem tu(e:OpR X (compareOp c) r)(i:PE X a d)(j:PE X b g)(k:behindInMarks c b=false):PE X (.Compare a [c] [b] f) (sv r d g):=by
 intro l s m H Q I h;exact wpAny_Compare1 (uy i j I h λv u n x y o p t w q=>e l n m o x y v u Q p t w q) k
def xt(t:TE):TT:=λa H Q=>t a H λx b=>∃k,x=.bl k/\Q k b
theorem hG(m:OpR X (compareOp i) r)(n:PE X a d)(o:PE X b g)(p:behindInMarks i b=false):PT X (.Compare a [i] [b] f) (xt (sv r d g)):=by
 intro j s l H Q I h;refine wpAny_isTrue_Compare1 (cj (n j s l H _ I h) λv q ⟨x,t,w,A,B⟩=>cj (o j q l t _ w B) λu C ⟨y,D,E,G,J⟩=>
  cj (m j C l D x y v u _ E A G J) λc T ⟨z,L,M,N,k,e,O⟩=>?_) p
 subst e;cases N;exact qj #[L,M,O]
def t8(K:R6)(x:V)(H:Hp)(k:Bool):Prop:=
 match x with
 |.non=>k=false
 |.bl b=>k=b
 |.int i=>k=(i != 0)
 |.str y=>y.length<=sizeLine/\k=((y.length:Int) != 0)
 |.byt y=>y.size<=sizeLine/\k=((y.size:Int) != 0)
 |.ref p=>(∃a,SqL K H p a/\k= !a.isEmpty)\/(∃a,SqT K H p a/\k= !a.isEmpty)\/∃c,H p=some (.dK c)/\k= !c.isEmpty
 |_=>False
theorem LM{c:List (b×Vl)}(r:KV a c):(!c.isEmpty)= !a.isEmpty:=by
 cases r<;>rfl
theorem Jq{a:Vs}(r:Vals b a):(!a.toArray.isEmpty)= !b.isEmpty:=by
 cases r<;>simp
theorem yr:(sizeLine:Nat)<2 ^ 63:=by rw[db];decide
theorem Qr:EV X (λx H Q=>∃k,t8 X.K x H k/\Q k H):=by
 intro A s B H x v Q I g h;obtain⟨k,e,q⟩:=h;have C:=yr;have D:=db;cases x with
 |non=>
  cases g;have a:=e;subst a;exact truthy_none #[H,I,q]
 |bl b=>
  cases g;have a:=e;subst a;exact qj #[H,I,q]
 |int i=>
  obtain⟨t,rfl⟩:=g;have a:=e;subst a;exact PySem.P.truthy_int #[H,I,q]
 |str y=>
  obtain⟨t,rfl⟩:=g;obtain⟨w,a⟩:y.length<=sizeLine/\k=((y.length:Int) != 0):=e;subst a;exact PySem.P.truthy_str () #[H,I.tok _,q]
 |byt y=>
  obtain⟨t,rfl⟩:=g;obtain⟨w,a⟩:y.size<=sizeLine/\k=((y.size:Int) != 0):=e;subst a;exact PySem.W.truthy_bytes () #[H,I.tok _,q]
 | ref p=>
  cases g;have a:=e
  rcases a with⟨f,j,a⟩|⟨f,j,a⟩|⟨c,j,a⟩
  .subst a;obtain⟨n,r,o,u⟩:=I.list j;have d:=r.length;exact wpAny_truthy_list o.isList (by simp only[List.size_toArray];lia) #[H,I.tok _,by rw[Jq r];exact q]
  .subst a;obtain⟨n,r,o,u⟩:=I.tuple j;have d:=r.length;exact truthy_tuple o (by simp only[List.size_toArray];lia) #[H,I.tok _,by rw[Jq r];exact q]
  .subst a;obtain⟨u,z,l,r,m⟩:c.length<=sizeLine/\(p==sysModules)=false/\∃l,KV c l/\s.heap.DictOf (l8 X.prog X.w) p l:=I.hok p _ j;have d:=pL r;exact wpAny_truthy_dict z m () #[H,I.tok _,by rw[LM r];exact q]
 |_=>exact(e).elim
theorem Ft(g:PE X a d)(i:∀b,isTrue a X.env b=(do let v <-b;standAt a.pos;holding [v] (truthy v))):
  PT X a (λc H Q=>d c H λx e=>∃k,t8 X.K x e k/\Q k e):=by
 intro f s c H Q I h;exact isTrue_plain (cj (g f s c H _ I h) λv j ⟨x,l,m,n,o⟩=>Qr f j c l x v Q m n o) (i _)
theorem iz{a:Vs}(r:Vals [x] a):∃u,a=[u]/\RelV x u:=by
 cases r with
 |cons b c=>cases c;exact#[_,zZ,b]
theorem FT{a:Vs}(r:Vals [x,y] a):∃u b,a=[u,b]/\RelV x u/\RelV y b:=by
 cases r with
 |cons c d=>
  cases d with
  |cons e f=>cases f;exact#[_,_,zZ,c,e]
structure ObjM(h:Heap)(x dx C:Ad)(mA:SV):Prop where
 obj:h.get? x=some (PySem.W.instObj C dx)
 ns:h.Ns1 dx mA
 ne:dx≠x
theorem NQ{h:Heap}{c:Ad}{d:SV}(n:h.Ns1 c d):∃f,h.get? c=some f/\∀name,PySem.W.lookIn name f=some (d name):=by
 obtain⟨o,g,r,i,j,k,_,l⟩:=n;refine#[o,i,λname=>?_];have e:=l name;unfold nsFind findBy at e;rw[<-Array.find?_toList]at e;unfold PySem.W.lookIn;rw[j];dsimp only;split
 .rename_i y q
  rw[q]at e;exact de some e
 .rename_i q
  rw[q]at e;have a:g.toList.any (·.refKey)=false:=by
   rw[Bu];intro y m;obtain⟨z,t,b⟩:=k y (DZ.mp m);simp[DictEntry.refKey,b]
  have p: ¬g.toList.any (·.refKey)=true:=by rw[a];exact f'
  rw[wA p];exact de some e
theorem ObjM.look(I:ObjM h x b C c):∃a,PySem.W.InstAt h x (PySem.W.instObj C b) C (some a)/\∀name,PySem.W.lookIn name a=some (c name):=
 let⟨a,d,e⟩:=NQ I.ns
 #[a,#[I.obj,zZ,zZ,d],e]
section
variable{c:Pg}{A:Ar}{E:VP}{s:Sh}{K:R6}{x e C f:Ad}{v:Vl}
theorem OC{Q:VP}(X:K.In s.heap)(I:ObjM s.heap x e C i)(d:PySem.W.plainGet K C name=true)(f:PySem.W.hasDictIn K C=true)(g:PySem.W.findIn K (.ref C) name=some none) (j:i name=some v) (b:PySem.W.handedIn v=true) (h:Q v {s with toks:=s.toks+1}):
  wpAny (model c w) A (getAttr (.ref x) name a) Q E s:=by
 obtain⟨l,J,k⟩:=I.look;exact PySem.W.get_value X J (Fn d).1 (PySem.W.findObj_own f g zZ (by rw[k,j])) b h
theorem PQ{Q:Vl×Vs->Sh->Prop}(X:K.In s.heap)(I:ObjM s.heap x e C i)(a:PySem.W.plainGet K C name=true)(d:PySem.W.findIn K (.ref C) name=some (some (.ref f))) (ht:PySem.W.isFn K (.ref f)=true) (g:i name=none) (h:Q (.ref f,[.ref x]) s):
  wpAny (model c w) A (getMethod (.ref x) name b) Q E s:=by
 obtain⟨j,J,k⟩:=I.look;exact PySem.W.method_fn X J (Fn a).1 (Fn a).2 d (mj.mp ht) (by show(PySem.W.lookIn name j).map (·.isSome)=some false;rw[k,g];rfl) h
theorem Rp{n:Ss}{Q:Unit->Sh->Prop}(X:K.In s.heap)(I:ObjM s.heap x e C i)(o:PySem.W.findIn K (.ref C) "__setattr__"=some (some (.builtin "object.__setattr__"))) (p:PySem.W.plainOver K C=true) (ht:PySem.W.takerIn K C name=some none) (q:PySem.W.hasDictIn K C=true)(hw:PySem.Within i n) (t:n.length<=sizeLine)(h:∀g,ObjM g x e C (λy=>if y=name then some v else i y)->Heap.SameBut e s.heap g->Q ⟨⟩ {s with heap:=g,toks:=s.toks+2}):
  wpAny (model c w) A (setAttr (.ref x) name v) Q E s:=by
 obtain⟨G,J,H⟩:=I.look;refine PySem.W.set_plain X J o (PySem.W.osa_open X J p ht λb=>?_);obtain⟨L,u,j⟩:=PySem.W.any_some q;have z:=I.obj;refine bU (b9 (bU (bU (wpAny_loadPart z (bU (PySem.W.Looks.here (PySem.W.looks_clsIn X u) ?_))))));rw[j];refine b9 (bU (b9 (bU ?_)));refine wpAny_nsSet1 I.ns λg d f=>?_;obtain⟨M,B,D,k,l,m⟩:=d.count (PySem.Within.cons name v hw);refine bU (wpAny_lookBehind k (by rw[l];exact pastItsLine_dict (dh m (by rw[mF];lia))) (b9 (h _ #[(f.2 _ (dG I.ne)).trans I.obj,d,I.ne] f)))
theorem OR{R:Result->Sh->Prop}{a:Vs}{b:List (Str×Vl)}(X:K.In s.heap)(e:PySem.W.makesIn K C=true)(i:PySem.W.findIn K (.ref C) "__init__"=some (some (.ref f))) (j:PySem.W.typeIn K (.ref f)=some (.type "function"))(h:codeAny (model c w) (A.under (.builtin "type.__call__" #[.ref C::a,b])) (.call (.ref f) #[.ref (s.heap.objs.size+1)::a,b]) (PySem.W.InitBack (s.heap.objs.size+1) R) {s with heap:=(s.heap.push PySem.W.emptyDict).push (PySem.W.instObj C s.heap.objs.size)}):
    codeAny (model c w) A (.call (.ref C) #[a,b]) R s:=by
  obtain⟨k,g,d,t,os⟩:=s;exact PySem.W.make_core (PySem.W.makes_of X e) (PySem.W.looks_findIn X i) (λself=>PySem.W.bind_fn X self j) (.inl zZ) h
end
noncomputable def dA(f:Str)(v:V):List (Str×V)->List (Str×V)
 | []=>[(f,v)]
 |(g,x)::r=>if g=f then(g,v)::r else(g,x)::dA f v r
theorem Ik(f g)(v):∀fs,(dA f v fs).lookup g=if g=f then some v else fs.lookup g
 | []=>by
  show List.lookup g [(f,v)]=_;by_cases h:g=f
  .have a:=mj.mpr h;simp only[List.lookup,a,wB h]
  .have a:=oq.mpr h;simp only[List.lookup,a,wA h]
 | (k,x)::r=>by
  have c:=Ik f g v r;rw[show dA f v ((k,x)::r)=(if k=f then(k,v)::r else(k,x)::dA f v r)from rfl];by_cases b:k=f
  .rw[wB b];by_cases h:g=k
   .have a:=mj.mpr h;simp only[List.lookup,a,wB (h.trans b)]
   .have a:=oq.mpr h;simp only[List.lookup,a,wA (λe:g=f=>h (e.trans b.symm))]
  .rw[wA b];by_cases h:g=k
   .have a:=mj.mpr h;simp only[List.lookup,a,wA (λe=>b (h.symm.trans e))]
   .have a:=oq.mpr h;simp only[List.lookup,a];exact c
theorem Dp(f)(v):∀fs,f∈(dA f v fs).map (·.1)/\∀g,g∈fs.map (·.1)->g∈(dA f v fs).map (·.1)
 | []=>#[by simp[dA],λg h=>by simp at h]
 | (k,x)::r=>by
  obtain⟨i1,i2⟩:=Dp f v r;rw[show dA f v ((k,x)::r)=(if k=f then(k,v)::r else(k,x)::dA f v r)from rfl];by_cases a:k=f
  .rw[wB a];subst a;exact#[by simp,λg h=>by simpa using h]
  .rw[wA a];refine#[?_,λg h=>?_]
   .rw[hJ];exact eM _ i1
   .rw[hJ]at h|-
    rcases cP.mp h with e|e
    .exact cP.mpr (.inl e)
    .exact eM _ (i2 g e)
theorem HR(f)(v):∀fs,(dA f v fs).length<=fs.length+1
 | []=>by simp[dA]
 |(k,x)::r=>by
  have b:=HR f v r;rw[show dA f v ((k,x)::r)=(if k=f then(k,v)::r else(k,x)::dA f v r)from rfl];by_cases a:k=f
  .rw[wB a,mF,mF];lia
  .rw[wA a,mF,mF];lia
theorem RelO.some_of(r:RelO (some v) o):∃u,o=some u/\RelV v u:=by
 cases o with
 |none=>exact(r).elim
 |some u=>exact#[u,zZ,r]
theorem RelO.none_of(r:RelO none o):o=none:=by
 cases o with
 |none=>rfl
 |some u=>exact(r).elim
theorem Oh(r:RelV v u):PySem.W.handedIn u=true:=by
 cases v with
 |non=>cases(r);rfl
 |bl b=>cases(r);rfl
 |int i=>obtain⟨t,e⟩:=(r);cases e;rfl
 |str x=>obtain⟨t,e⟩:=(r);cases e;rfl
 |byt b=>obtain⟨t,e⟩:=(r);cases e;rfl
 |flt b=>obtain⟨t,e⟩:=(r);cases e;rfl
 |ref a=>cases(r);rfl
 |ty n=>cases(r);rfl
theorem A3(g:HOk P w H h)(e:H a=some (.ins C b fs)):∃c,ObjM h a b C c/\(∀f,RelO (fs.lookup f) (c f))/\PySem.Within c (fs.map (·.1))/\fs.length<=1000/\H b=some (.own a):=by
 obtain⟨d,z,i,j,c,n,r,q⟩:=(g a _ e);exact#[c,#[j,n,i],r,q,z,d]
structure Cls(K:R6)(C:Ad):Prop where
 pg:PySem.W.plainGet K C Str.empty=true
 hd:PySem.W.hasDictIn K C=true
 po:PySem.W.plainOver K C=true
 sa:PySem.W.findIn K (.ref C) "__setattr__"=some (some (.builtin "object.__setattr__"))
theorem Cls.get{K:R6}(c:Cls K C)(f):PySem.W.plainGet K C f=true:=c.pg
def NoAttr(K:R6)(C:Ad)(f:Str):Prop:=PySem.W.findIn K (.ref C) f=some none
theorem NoAttr.taker{K:R6}(n:NoAttr K C f):PySem.W.takerIn K C f=some none:=by
 unfold PySem.W.takerIn;rw[n];rfl
structure Meth(K:R6)(C:Ad)(m:Str)(f:Ad):Prop where
 at_:PySem.W.findIn K (.ref C) m=some (some (.ref f))
 fn:PySem.W.isFn K (.ref f)=true
 kp:PySem.W.keepIn K (.ref f)=true
section
variable{d:St}{A:Ar}{E:VP}
theorem Mu{Q:VP}(I:Inv X i d H s)(e:H a=some (.ins C j fs))(c:Cls X.K C)(n:NoAttr X.K C f)(l:fs.lookup f=some v)(h:∀u g,Inv X i d H g->RelV v u->Q u g):wpAny (model X.prog X.w) A (getAttr (.ref a) f b) Q E s:=by
 obtain⟨m,O,r,_,_,_⟩:=A3 I.hok e;obtain⟨u,p,k⟩:=RelO.some_of (by rw[<-l];exact r f);exact OC I.kIn O (c.get f) c.hd n p (Oh k) (h u _ (I.tok _) k)
theorem Gm{Q:Vl×Vs->Sh->Prop}(I:Inv X i d H s)(e:H a=some (.ins C j fs))(c:Cls X.K C)(k:Meth X.K C m g)(l:fs.lookup m=none)(h:Q (.ref g,[.ref a]) s):wpAny (model X.prog X.w) A (getMethod (.ref a) m b) Q E s:=by
 obtain⟨f,O,r,_,_,_⟩:=A3 I.hok e;have n:=RelO.none_of (by rw[<-l];exact r m);exact PQ I.kIn O (c.get m) k.at_ k.fn n h
theorem OE{Q:Unit->Sh->Prop}(I:Inv X i d H s)(e:H a=some (.ins C j fs))(c:Cls X.K C)(n:NoAttr X.K C f)(N:fs.length<1000)(v:RelV y u)(h:∀l,Inv X i d (bT H a (.ins C j (dA f y fs))) l->Q ⟨⟩ l):wpAny (model X.prog X.w) A (setAttr (.ref a) f u) Q E s:=by
 obtain⟨m,O,r,p,_,t⟩:=A3 I.hok e;have w:(fs.map (·.1)).length<=sizeLine:=by rw[bW,db];lia
 refine Rp I.kIn O c.sa c.po n.taker c.hd p w λB k D=>h _ ?_;have G:∃o,B.get? j=some o:=let⟨o,_,_,J,_⟩:=k.ns;#[o,J]
 refine I.write (by rw[e];exact True.intro) (.inr t) (λb q L z=>(D.2 b L).trans z) G #[by rw[bX O.ne];exact t,?_,O.ne,k.obj,_,k.ns,λg=>?_,λg M=>?_]
 .have:=HR f y fs;lia
 .rw[Ik];by_cases q:g=f
  .rw[wB q,wB q];exact v
  .rw[wA q,wA q];exact r g
 .by_cases q:g=f
  .rw[q];exact(Dp f y fs).1
  .refine(Dp f y fs).2 g (p g λz=>M ?_);show(if g=f then some u else m g)=none;rw[wA q];exact z
theorem Inv.made(I:Inv X i d H s):Inv X i d (bT (bT H s.heap.objs.size (.own (s.heap.objs.size+1))) (s.heap.objs.size+1) (.ins C s.heap.objs.size [])) {s with heap:=(s.heap.push PySem.W.emptyDict).push (PySem.W.instObj C s.heap.objs.size)}:=by
  have c:(s.heap.push PySem.W.emptyDict).get? s.heap.objs.size=some PySem.W.emptyDict:=eQ s.heap rfl;have g:((s.heap.push PySem.W.emptyDict).push (PySem.W.instObj C s.heap.objs.size)).get? (s.heap.objs.size+1)=some (PySem.W.instObj C s.heap.objs.size):=by
    have:=eQ (s.heap.push PySem.W.emptyDict) (o:=PySem.W.instObj C s.heap.objs.size) rfl;rwa[pW]at this
  have h:(s.heap.push PySem.W.emptyDict).Ns s.heap.objs.size (λ_=>none):=#[PySem.W.emptyDict,#v[],_,c,zZ,(λe j=>wC j (by simp)),λ_=>rfl];have k:=I.laid (o:= .own (s.heap.objs.size+1)) (t':=s.toks) (λb u q=>c7 _ q) (cg _) #[_,c];refine k.laid (λb u q=>c7 _ q) (ql (pW _ _)) ?_;have f:s.heap.objs.size≠s.heap.objs.size+1:=dq (nj _);refine#[by rw[bX f,bY],iE _,f,g,λ_=>none,(Heap.Ns1.of_empty h).at λo q=>c7 _ q,λ_=>True.intro,λy l=>wC rfl l]
theorem JU{a:Pg}{d:Pos}{s:Sh}{Q:VP}(g:attributeBase e f b (eval e b)=eval e b)(h:wpAny (model a w) A (eval e b) (λo c=>wpAny (model a w) A (getAttr o f true) Q E c) E s):wpAny (model a w) A (eval (.Attribute e f d) b) Q E s:=
 Attribute_any_ h (by rw[arm_eval_Attribute,g])
end
def Dn(K:R6)(c:TE)(f:Str):TE:=λd H Q=>c d H λx b=>∃a C e fs v,x=.ref a/\b a=some (.ins C e fs)/\Cls K C/\NoAttr K C f/\fs.lookup f=some v/\Q v b
def Ds(K:R6)(e g:TE)(f:Str):TS:=λD b H=>g b H λy h=>e b h λx c=>∃a C d fs,x=.ref a/\c a=some (.ins C d fs)/\Cls K C/\NoAttr K C f/\fs.length<1000/\
 D.nx b (bT c a (.ins C d (dA f y fs)))
theorem gG(b:PE X e i)(d:attributeBase e f X.env (eval e X.env)=eval e X.env):PE X (.Attribute e f g) (Dn X.K i f):=by
 intro j s k H Q I h;refine JU d (cj (b j s k H _ I h) λu z ⟨x,m,o,p,a,C,A,fs,v,r,t,c,n,l,q⟩=>?_);subst r;obtain rfl:u=Value.ref a:=p;exact Mu o t c n l λB D w y=>#[v,m,w,y,q]
theorem ss(m:PE X o i)(p:PE X b j)(r:swapsWith b (some (.Attribute o f d)) g.line X.env=pure false):PS X (.Assign [.Attribute o f d] b g) (Ds X.K i j f):=by
 intro k s e H D I h;refine Jp (cj (p k s e H _ I h) λu t ⟨y,v,w,z,q⟩=>cj (m k t e v _ w q) λA N ⟨x,O,B,E,a,C,Q,fs,G,J,c,n,l,L⟩=>?_) r;subst G;obtain rfl:A=Value.ref a:=E;exact OE B J c n l z λT M=>#[e,_,M,L]
section
variable{σ:St}{A:Ar}{E:VP}{Q:VP}{c:Vl}
inductive TyOf (K:R6) (H:Hp):V->Vl->Prop where
 |non:TyOf K H .non (.type "NoneType")
 |bl (x:Bool):TyOf K H (.bl x) (.type "bool")
 |int (i:Int):TyOf K H (.int i) (.type "int")
 |str (x:Str):TyOf K H (.str x) (.type "str")
 |flt (x:UInt64):TyOf K H (.flt x) (.type "float")
 |lst {a:Ad} {xs:List V} (e:H a=some (.lst xs)):TyOf K H (.ref a) (.type "list")
 |frz {a:Ad} {o:Obj} {xs:List V} (e:H a=some (.frz o (.lst xs))):TyOf K H (.ref a) (.type "list")
 |tup {a:Ad} {xs:List V} (e:H a=some (.tup xs)):TyOf K H (.ref a) (.type "tuple")
 |dK {a:Ad} {kvs:List (cQ×V)} (e:H a=some (.dK kvs)):TyOf K H (.ref a) (.type "dict")
 |dT {a:Ad} {kvs:List (List cQ×V)} (e:H a=some (.dT kvs)):TyOf K H (.ref a) (.type "dict")
 | ins {a C dx:Ad} {fs:List (Str×V)} (e:H a=some (.ins C dx fs)) (cl:Cls K C) (ha:PySem.W.findIn K (.ref C) "__class__"=some (some (.builtin "object.__class__")))
   (hn:PySem.W.specialIn K (.builtin "object.__class__") "__get__"=some (some (.builtin "getset_descriptor.__get__"))) (htk:PySem.W.takesIn K (.builtin "object.__class__")=some true)
   (hm:PySem.W.mroIn K C (.type "object")=some true):TyOf K H (.ref a) (.ref C)
theorem KC(I:Inv X za σ H s)(d:RelV x u)(ty:TyOf X.K H x t)(e:PySem.W.kitOne X.K t c=some b)(h:∀v,Q (.bool b) {s with toks:=v}):
  wpAny (model X.prog X.w) A (call (.builtin "isinstance") [u,c]) Q E s:=by
 cases ty with
 |non=>cases(d);exact mW PySem.W.kitx_none I.kIn True.intro e (λz=>nomatch z) h
 |bl y=>cases(d);exact mW PySem.W.kitx_bool I.kIn True.intro e (λz=>nomatch z) h
 |int i=>obtain⟨t,q⟩:=(d);cases q;exact mW PySem.W.kitx_int I.kIn True.intro e (λz=>nomatch z) h
 |str y=>obtain⟨t,q⟩:=(d);cases q;exact mW PySem.W.kitx_str I.kIn True.intro e (λz=>nomatch z) h
 |flt y=>obtain⟨t,q⟩:=(d);cases q;exact mW PySem.W.kitx_float I.kIn True.intro e (λz=>nomatch z) h
 | @lst a k f=>
  cases(d);obtain⟨_,_,n,_,g⟩:=(I.hok a _ f);exact mW PySem.W.kitx_list I.kIn #[_,g,zZ] e (λz=>nomatch z) h
 | @frz a w k f=>
  cases(d);obtain⟨_,_,_,n,_,g⟩:=(I.hok a _ f);exact mW PySem.W.kitx_list I.kIn #[_,g,zZ] e (λz=>nomatch z) h
 | @tup a k f=>
  cases(d);obtain⟨_,_,_,p⟩:=(I.hok a _ f);obtain⟨o,g,l,_⟩:=p;exact mW PySem.W.kitx_tuple I.kIn #[o,g,l] e (λz=>nomatch z) h
 | @dK a j f=>
  cases(d);obtain⟨_,_,N,_,p⟩:=(I.hok a _ f);obtain⟨o,B,D,g,l,_⟩:=p;exact mW PySem.W.kitx_dict I.kIn #[o,g,l.1] e (λz=>nomatch z) h
 | @dT a j f=>
  cases(d);obtain⟨_,_,k,_,o,B,D,g,l,_⟩:=(I.hok a _ f);exact mW PySem.W.kitx_dict I.kIn #[o,g,l.1] e (λz=>nomatch z) h
 | @ins a C T fs f r G L m M=>
  cases(d);obtain⟨U,O,_⟩:=A3 I.hok f;obtain⟨Y,J,_⟩:=O.look;exact mW (PySem.W.kitx_own (r.get _) r.hd G L m M) I.kIn J e (λz=>nomatch z) h
end
structure Room(k:Nat)(A:Ar):Prop where
 hd:A.handled=none
 dp:A.depth+3 * k+5<recursionLimit
 un:A.units+16 * k+200<cLine
theorem Room.mono(r:Room k A)(h:j<=k):Room j A:=#[r.hd,by have:=r.dp;lia,by have:=r.un;lia]
theorem Room.m(h:Room k A)(d:j≤k:=by decide):Room j A:=h.mono d
theorem Room.deeper(r:Room (k+1) A)(a):Room k (A.deeper a):=
 #[r.hd,by have:=r.dp;show A.depth+1+3 * k+5<_;lia,by have:=r.un;show A.units+3+16 * k+200<_;lia]
theorem Room.in1(r:Room (k+1) A):Room k A.in1:=
 #[r.hd,by have:=r.dp;lia,by have:=r.un;lia]
theorem Nd{A:Ar}{C:Ad}{a:Vs}{b:List (Str×Vl)}:(A.under (.builtin "type.__call__" #[.ref C::a,b])).depth=A.depth+1:=by
 first|rfl|simp[Around.under,Code.weight,Code.isCreation,Code.isGuard,Code.isCaller,Code.frames,Code.isFrame,guardIds]
theorem O3{A:Ar}{C:Ad}{a:Vs}{b:List (Str×Vl)}:(A.under (.builtin "type.__call__" #[.ref C::a,b])).units=A.units+1:=by
 first|rfl|simp[Around.under,Code.cUnits,Code.frames,Code.isFrame]
theorem Room.make(r:Room (k+1) A)(C:Ad)(a:Vs)(b:List (Str×Vl)):Room k (A.under (.builtin "type.__call__" #[.ref C::a,b])):=
 #[r.hd,by have:=r.dp;rw[Nd];lia,by have:=r.un;rw[O3];lia]
theorem Room.depth(r:Room k A):A.depth<recursionLimit:=by have:=r.dp;lia
theorem Room.units(r:Room k A):A.units+64<cLine:=by have:=r.un;lia
def f8:TA:=λ_ H Q=>Q [] H
def ik(b:TE)(c:TA):TA:=λa H Q=>b a H λx d=>c a d λe f=>Q (x::e) f
theorem ce:PA X [] f8:=λ_ _ _ _ H Q I h=>Calls.spliced_nil #[[],H,I,.nil,h]
theorem ci(g:PE X e d)(i:PA X c t)(j:starEach (e::c) X.env=(false,eval e X.env)::starEach c X.env:=by rfl):PA X (e::c) (ik d t):=by
 intro a b s f H Q I h;rw[j];refine Calls.spliced_cons (cj (g b s f H _ I h) λu k ⟨x,l,m,n,o⟩=>cj (i a b k f l _ m o) λy z ⟨p,q,r,v,w⟩=>#[x::p,q,r,.cons n v,w])
def zt(t:TA):TE:=λc H Q=>t c H λa b=>a.length<=sizeLine/\∀p,b p=none->Q (.ref p) (bT b p (.tup a))
def w9(t:TA):TE:=λc H Q=>t c H λa b=>a.length<=sizeLine/\∀p,b p=none->Q (.ref p) (bT b p (.lst a))
theorem kS{i}(h:PA X c t):PE X (.Tuple c i a) (zt t):=by
 intro j s k H Q I l;refine wpAny_Tuple_spliced (cj (h a j s k H _ I l) λm d ⟨n,f,g,r,z,q⟩=>#[by rw[<-r.length];exact z,?_]);have o:=g.hok.fresh (cg _);refine#[.ref d.heap.objs.size,bT f d.heap.objs.size (.tup n),g.laid (λb u e=>c7 _ e) (cg _) #[z,m,r,#[_,eQ _ zZ,zZ,_,zZ,zZ]],zZ,q _ o]
theorem gB(h:PA X c t):PE X (.List c a) (w9 t):=by
 intro i s j H Q I k;refine wpAny_List_spliced (cj (h a i s j H _ I k) λl d ⟨m,f,g,r,z,q⟩=>#[by rw[<-r.length];exact z,?_]);have n:=g.hok.fresh (cg _);refine#[.ref d.heap.objs.size,bT f d.heap.objs.size (.lst m),g.laid (λb u e=>c7 _ e) (cg _) #[z,l,0,r,eQ _ zZ],zZ,q _ n]
abbrev Sp:=List V->Hp->VK->XK->Prop
abbrev oV:=List Env->Hp->Sh->XK->Vl->Sh->Prop
structure Env0(P:Pg)(w:World)(K:R6)(mg:SV)(base:Heap)(A:Ar)(outer:List Env)(s:Sh)(H:Hp):Prop where
 frames:A.frames=some outer
 mod:Mod K mg base
 bs:∀b o,base.get? b=some o->s.heap.get? b=some o/\H b=none
 bsz:base.objs.size<=s.heap.objs.size
 funs:s.heap.FunFrames base outer
 frf:∀b∈cV outer,H b=none
 hok:HOk P w H s.heap
 bare:AllBare s.gens
def CE(a:List Env)(P:Pg)(w:World)(H:Hp)(s:Sh)(Q:VK)(u:Vl)(b:Sh):Prop:=
 ∃v c,b.os=s.os/\AllBare b.gens/\Un (cV a) [] H c s.heap b.heap/\HOk P w c b.heap/\RelV v u/\Q v c
def CR(c:oV)(a:List Env)(P:Pg)(w:World)(H:Hp)(s:Sh)(Q:VK)(E:XK)(r:Result)(b:Sh):Prop:=
 match r with
 |.ok (.ret u)=>CE a P w H s Q u b
 |.ok _=>False
 |.error e=>c a H s E e b
structure FnOk(P:Pg)(w:World)(K:R6)(mg:SV)(base:Heap)(CX:oV)(k:Nat)(f:Ad)(fd:Fd)(ps:Ss)(sp:Sp):Prop where
 len:∀vs H Q E,sp vs H Q E->vs.length=ps.length
 run:∀(A:Ar) (outer:List Env) (s:Sh) (H:Hp) (args:Args) (us:Vs) (vs:List V) (Q:VK) (E:XK),Room k A->Env0 P w K mg base A outer s H->BindsTo s fd args (ps.zip us)->Vals vs us->sp vs H Q E->
  codeAny (model P w) A (.call (.ref f) args) (CR CX outer P w H s Q E) s
theorem Env0.make{K:R6}(e:Env0 P w K mg b A a s H)(C:Ad)(c:Vs)(d:List (Str×Vl)):
  Env0 P w K mg b (A.under (.builtin "type.__call__" #[.ref C::c,d])) a s H:=#[by first|exact e.frames|(simpa[Around.under,Code.envs,Code.isFrame,pushEnvs]using e.frames),e.mod,e.bs,e.bsz,e.funs,e.frf,e.hok,e.bare]
theorem Env0.in1{K:R6}(e:Env0 P w K mg b A a s H):
  Env0 P w K mg b A.in1 a s H:=#[e.frames,e.mod,e.bs,e.bsz,e.funs,e.frf,e.hok,e.bare]
section
variable{c:St}
theorem Inv.env0(I:Inv X a c H s):Env0 X.prog X.w X.K X.mg X.base X.A X.stack s H:=
 #[I.ok.frames,I.ok.mod,I.bs,dh I.ok.bsz I.sz,I.stack,I.stkFree,I.hok,I.bare]
theorem Inv.after(I:Inv X a c H s)(h:CE X.stack X.prog X.w H s Q u s'):EP X a c Q u s':=by
 obtain⟨v,H',os,e,un,f,r,q⟩:=h;obtain⟨j,g,d,t,i⟩:=s';obtain rfl:i=s.os:=os;exact#[v,H',I.call un f e (λb z=>wC z (by simp)),r,q]
end
def qd(b:Sp)(a:List V)(E:XK)(t:TA):TE:=λc H Q=>t c H λd e=>b (d++a) e Q E
def Bt(C:Ad)(m:Str)(e:Sp)(b:List V)(E:XK)(f:TE)(t:TA):TE:=λc H Q=>f c H λx d=>∃a g fs,x=.ref a/\d a=some (.ins C g fs)/\fs.lookup m=none/\
 t c d λh i=>e (x::(h++b)) i Q E
def Gu(C:Ad)(d:Sp)(b:List V)(E:XK)(t:TA):TE:=λe H Q=>t e H λf c=>∀x a,c x=none->c a=none->a≠x->
 d (.ref x::(f++b)) (bT (bT c a (.own x)) x (.ins C a [])) (λv g=>v=.non/\Q (.ref x) g) E
def Binds(K:R6)(d:Fd)(b:Ss)(c:Vs):Prop:=
 ∀(s:Sh) (a:Vs),K.In s.heap->(a++c).length=b.length->BindsTo s d #[a,[]] (b.zip (a++c))
theorem Binds.all{K:R6}{c:Fd}(h:∀a:Vs,a.length=b.length->bindArgs c #[a,[]]=pure (b.zip a)):Binds K c b []:=λs a _ d=>by
 rw[hA]at d|-;exact .of_eq (h a d)
def mN(b:oV)(X:Cx)(E:XK):Prop:=∀(c:AO) (d:St) (H:Hp) (s:Sh) (e:Vl) (a:Sh),Inv X c d H s->b X.stack H s E e a->X.xe e a
section
variable{p pos apos:Pos}
theorem zQ{c:St}{us:Vs}(F:FnOk X.prog X.w X.K X.mg X.base CX k f fd ps sp)(g:Room k X.A)(i:Binds X.K fd ps ds)(j:Vals dvs ds)(l:mN CX X E)(I:Inv X b c H s) (r:Vals vs us) (h:sp (vs++dvs) H Q E):wpAny (model X.prog X.w) X.A (call (.ref f) us) (EP X b c Q) X.xe s:=by
 have d:=r.append j;have m:(us++ds).length=ps.length:=by rw[<-d.length];exact F.len _ _ _ _ h
 refine nR (lW (F.run X.A X.stack s H #[us,[]] (us++ds) (vs++dvs) Q E g I.env0 (i s us I.kIn m) d h) λr n a=>?_);cases r with
 |error e=>exact l b c H s e n I a
 |ok o=>
  cases o with
  |ret u=>exact I.after a
  |next=>exact wE a
  |brk=>exact wE a
  |cont=>exact wE a
theorem C0(F:FnOk X.prog X.w X.K X.mg X.base CX k f fd ps sp)(d:Room k X.A)(g:Gl X x)(i:X.mg x=some (.ref f))(j:PySem.W.keepIn X.K (.ref f)=true)(l:Binds X.K fd ps ds)(m:Vals dvs ds)(n:mN CX X E)(o:PA X (e::es) t) (a:(x==("__debug__":Str))=false:=by decide) (u:starEach (e::es) X.env=(false,eval e X.env)::starEach es X.env:=by rfl) (b:(backTo pos (starEach es X.env)).any (·.1)=false:=by rfl):
  PE X (.Call (.Name x p) (e::es) [] pos) (qd sp dvs E t):=by
 intro v s w H Q I h;refine n7 (nK I g i ?_ a);refine pY I.ok.mod.kin j (cj (o pos v s w H _ I h) λy z ⟨A,B,c,r,q⟩=>#[c.kIn,?_]) u b;exact zQ F d l m n c r q
theorem KS{g:Sem Bool}(y:PE X o ta)(c:Cls X.K C)(i:Meth X.K C m f)(F:FnOk X.prog X.w X.K X.mg X.base CX k f fd ps sp)(z:Room k X.A)(A:Binds X.K fd ps ds)(B:Vals dvs ds)(D:mN CX X E)(G:PA X (e::es) t)(b:starEach (e::es) X.env=(false,eval e X.env)::starEach es X.env:=by rfl) (d:(backTo pos (starEach es X.env)).any (·.1)=false:=by rfl)
  (ht:eval (.Call (.Attribute o m apos) (e::es) [] pos) X.env=(do
   let j <-eval o X.env
   standAt apos.atName
   let(f,first) <-holding [j] (getMethod j m g)
   callWith pos f first (backTo pos (starEach (e::es) X.env)) (backToKw pos (keywordEach [] X.env))):=by rfl):
  PE X (.Call (.Attribute o m apos) (e::es) [] pos) (Bt C m sp dvs E ta t):=by
 intro n s p H Q I h;refine De (cj (y n s p H _ I h) λu J ⟨x,L,v,M,a,dx,fs,N,O,l,q⟩=>?_) ht;subst N;obtain rfl:u=Value.ref a:=M;refine Gm v O c i l ?_;refine pY I.ok.mod.kin i.kp (cj (G pos n J p L _ v q) λT s2 ⟨U,H2,w,r,Y⟩=>#[w.kIn,?_]) b d;exact zQ (vs:= .ref a::U) F z A B D w (.cons zZ r) Y
theorem LB(g:PE X o ta)(c:Cls X.K C)(d:Meth X.K C m f)(F:FnOk X.prog X.w X.K X.mg X.base CX k f fd ps sp)(i:Room k X.A)(j:Binds X.K fd ps ds)(n:Vals dvs ds)(p:mN CX X E)(ht:eval (.Call (.Attribute o m apos) [] [] pos) X.env=(do
   let e <-eval o X.env
   standAt apos.atName
   let(f,first) <-holding [e] (getMethod e m pl)
   callWith pos f first (backTo pos (starEach [] X.env)) (backToKw pos (keywordEach [] X.env))):=by rfl):
  PE X (.Call (.Attribute o m apos) [] [] pos) (Bt C m sp dvs E ta f8):=by
 intro r s t H Q I h;refine De (cj (g r s t H _ I h) λu z ⟨x,A,b,v,a,B,fs,w,y,l,q⟩=>?_) ht;subst w;obtain rfl:u=Value.ref a:=v;refine Gm b y c d l ?_;exact PySem.W.callWith_K0 b.kIn d.kp (zQ (vs:=[.ref a]) F i j n p b (.cons zZ .nil) q)
structure Mk(K:R6)(C f:Ad):Prop where
 makes:PySem.W.makesIn K C=true
 init:PySem.W.findIn K (.ref C) "__init__"=some (some (.ref f))
 fn:PySem.W.isFn K (.ref f)=true
 kp:PySem.W.keepIn K (.ref C)=true
theorem QT{i:St}{b:Vs}(M:Mk X.K C f)(F:FnOk X.prog X.w X.K X.mg X.base CX k f fd ps sp)(n:Room (k+1) X.A)(o:Binds X.K fd ps ds)(p:Vals dvs ds)(q:mN CX X E) (I:Inv X g i H s) (r:Vals j b)(h:∀x c,H x=none->H c=none->c≠x->sp (.ref x::(j++dvs)) (bT (bT H c (.own x)) x (.ins C c [])) (λv t=>v=.non/\Q (.ref x) t) E):
  wpAny (model X.prog X.w) X.A (call (.ref C) b) (EP X g i Q) X.xe s:=by
 have l:=h (s.heap.objs.size+1) s.heap.objs.size (I.hok.fresh (re _)) (I.hok.fresh (cg _)) (dq (nj _));have d:=Inv.made (C:=C) I;have m:Vals (V.ref (s.heap.objs.size+1)::(j++dvs)) (Value.ref (s.heap.objs.size+1)::(b++ds)):= .cons zZ (r.append p);have w:(Value.ref (s.heap.objs.size+1)::b++ds).length=ps.length:=by
  have e:=m.length;rw[F.len _ _ _ _ l]at e;exact e.symm
 refine nR (OR I.kIn M.makes M.init (mj.mp M.fn) (lW (F.run _ X.stack _ _ #[Value.ref (s.heap.objs.size+1)::b,[]] (Value.ref (s.heap.objs.size+1)::(b++ds)) _ _ E (n.make C b [])
  (d.env0.make C b []) (o _ (Value.ref (s.heap.objs.size+1)::b) d.kIn w) m l) λr y a=>?_))
 cases r with
 |error e=>exact q g i _ _ e y d a
 | ok z=>
  cases z with
  |ret u=>
   obtain⟨v,A,B,D,G,J⟩:=d.after a;subst G;exact#[D,#[V.ref (s.heap.objs.size+1),A,B,zZ,J]]
  |next=>exact wE a
  |brk=>exact wE a
  |cont=>exact wE a
theorem NA(M:Mk X.K C f)(F:FnOk X.prog X.w X.K X.mg X.base CX k f fd ps sp)(d:Room (k+1) X.A)(g:Gl X x)(i:X.mg x=some (.ref C))(j:Binds X.K fd ps ds)(l:Vals dvs ds)(m:mN CX X E)(n:PA X (e::es) t) (a:(x==("__debug__":Str))=false:=by decide) (o:starEach (e::es) X.env=(false,eval e X.env)::starEach es X.env:=by rfl) (b:(backTo pos (starEach es X.env)).any (·.1)=false:=by rfl):
  PE X (.Call (.Name x p) (e::es) [] pos) (Gu C sp dvs E t):=by
 intro u s v H Q I h;refine n7 (nK I g i ?_ a);refine pY I.ok.mod.kin M.kp (cj (n pos u s v H _ I h) λw y ⟨z,A,c,r,q⟩=>#[c.kIn,?_]) o b;exact QT M F d j l m c r q
end
structure FnScope(N P:Ss)(sc:Scope):Prop where
 kind:sc.kind=.function:=by rfl
 co:sc.isCoroutine=false:=by rfl
 gen:sc.isGenerator=false:=by rfl
 nd:N.Nodup:=by decide+kernel
 pre:N.take P.length=P:=by rfl
 par:∀x∈P,sc.names.lookup x=some .local\/sc.names.lookup x=some .cell:=by decide+kernel
 nofree:∀y∈sc.names,y.2≠ .free:=by decide+kernel
theorem Ib{kindOf:Str->Option NameKind}:∀{binds:List (Str×Vl)} {m:SV},(∀v,(x,v)∉binds)->bindL kindOf binds m x=m x
 | [],_,_=>rfl
 | (n,v)::r,m,h=>by
  unfold bindL;rw[Ib λw hw=>h w (eM _ hw)];split
  .have:x≠n:=by rintro rfl;exact h v dy
   simp[this]
  .rfl
theorem JL{kindOf:Str->Option NameKind}:∀{binds:List (Str×Vl)} {m:SV},(∀v,(x,v)∉binds)->bindC kindOf binds m x=m x
 | [],_,_=>rfl
 | (n,v)::r,m,h=>by
  unfold bindC;rw[JL λw hw=>h w (eM _ hw)];split
  .rfl
  .have:x≠n:=by rintro rfl;exact h v dy
   simp[this]
theorem Gy{kindOf:Str->Option NameKind}{v:Vl}:∀{P:Ss} {a:Vs} {i:Nat} {m:SV},P.Nodup->P[i]?=some x->a[i]?=some v->kindOf x=some .local->
  bindL kindOf (P.zip a) m x=some v
 | [],_,_,_,_,h,_,_=>by simp at h
 |_::_,[],_,_,_,_,h,_=>by simp at h
 |p::P,w::a,0,m,nd,b,c,d=>by
  simp at b c;subst b;subst c;show bindL kindOf ((p,w)::P.zip a) m p=_;unfold bindL;rw[Ib λv e=>(hX.mp nd).1 (x4 e).1,wB d];simp
 |p::P,w::a,i+1,m,nd,b,c,d=>by
  unfold bindL;exact Gy (hX.mp nd).2 b c d
theorem JD{kindOf:Str->Option NameKind}{v:Vl}:∀{P:Ss} {a:Vs} {i:Nat} {m:SV},P.Nodup->P[i]?=some x->a[i]?=some v->kindOf x≠some .local->
  bindC kindOf (P.zip a) m x=some v
 | [],_,_,_,_,h,_,_=>by simp at h
 |_::_,[],_,_,_,_,h,_=>by simp at h
 |p::P,w::a,0,m,nd,b,c,d=>by
  simp at b c;subst b;subst c;show bindC kindOf ((p,w)::P.zip a) m p=_;unfold bindC;rw[JL λv e=>(hX.mp nd).1 (x4 e).1,wA d];simp
 |p::P,w::a,i+1,m,nd,b,c,d=>by
  unfold bindC;exact JD (hX.mp nd).2 b c d
noncomputable def start(N:Ss)(a:List V):St:=a.map some++List.replicate (N.length-a.length) none
noncomputable def kh(g:oV)(P:Pg)(w:World)(K:R6)(mg:SV)(base:Heap)(N:Ss)(b:Str)(a:Scope)(f:Ad)(d:Vl)(A:Ar)(outer:List Env)(s:Sh)(H:Hp)(E:XK):Cx where
 prog:=P
 w:=w
 K:=K
 mg:=mg
 base:=base
 A:=A.deeper (envOfC b a s.heap.objs.size f d)
 N:=N
 s₀:=s
 H₀:=H
 env:=envOfC b a s.heap.objs.size f d
 outer:=outer
 stack:=envOfC b a s.heap.objs.size f d::outer
 ex:=[]
 calm:=true
 fn:=λ_=>true
 pn:=[]
 xe:=λe h=>wpAny (model P w) (A.deeper (envOfC b a s.heap.objs.size f d)) (leaving (envOfC b a s.heap.objs.size f d) e) (λ_ c=>g outer H s E e c) (λi c=>g outer H s E i c) h
theorem Iw{a:Scope}(h:a.names.lookup x=some .cell):∃c,(cellsFrom n a.names []).lookup x=some c:=by
 have q:=FU a.names n [] (.inl h);exact Option.isSome_iff_exists.mp q
theorem Kb{K:R6}{f:Ad}{I:Vl}{s Q:Sh}{M:Vs}(S:FnScope N t d) (Y:A.handled=none) (o:Env0 P w K mg m A g s H) (hl:B.length=t.length) (r:Vals B M)(x:InCallC s s.heap.objs.size (bindL (envOfC j d s.heap.objs.size f I).kindOf (t.zip M) λ_=>none) (cellsFrom (s.heap.objs.size+1) d.names []) (bindC (envOfC j d s.heap.objs.size f I).kindOf (t.zip M) λ_=>none) Q):
  Inv (kh O P w K mg m N j d f I A g s H E) [] (start N B) H Q:=by
 have aa:t.length<=N.length:=by have:=de List.length S.pre;rw[gk]at this;lia
 obtain⟨J,tk,rfl,T⟩:=x.done;have C:∀b,b∉(kh O P w K mg m N j d f I A g s H E).ex:=λb z=>wC (show b∈([]:As)from z) (by simp);refine#[#[o.mod,S.kind,zZ,zZ,cg _,λy z c J l=>?_,λy hy=>?_,λy c _ h=>?_,λ_=>Y,Around.frames_deeper o.frames,.inr #[zZ,zZ],λb z=>wC z (C b),o.bs,o.bsz,λb _ _=>C b,λb z=>wC z (C b),o.funs,o.frf],
  rfl,o.bare,Un.kept T,#[_,x.toInCall.ns,λi y v J l h3=>?_],λy c h=>#[_,x.cell y c h],o.hok.fresh (cg _),λy c h=>?_,λp D=>wC (show p∈([]:AO)from D) (by simp),o.hok.kept T,?_]
 .exact name_of_addr x.apart (om J) (om l)
 .have hy:=hy
  rcases hy with hy|hy
  .exact Iw hy
  .exact wC zZ (S.nofree _ (om hy))
 .exact fL (x.above y c (om h))
 .have L:i<B.length:=by
   unfold start at l;by_cases L:i<B.length
   .exact L
   .rw[eC (by simpa using L)]at l;rw[List.getElem?_replicate]at l;split at l<;>cases l
  have ha:B[i]?=some v:=by
   unfold start at l;rw[d7 (by simpa using L),List.getElem?_map]at l;cases e:B[i]? with
   |none=>rw[e]at l;cases l
   |some a=>rw[e]at l;cases l;rfl
  obtain⟨u,U,rv⟩:=r.get ha;have D:t[i]?=some y:=by
   rw[<-S.pre,A4 ()];exact J
  have G:t.Nodup:=by rw[<-S.pre];exact S.nd.sublist (wq _ _)
  refine#[u,rv,?_]
  rcases S.par y (cF D)with k|k
  .exact .inl #[k,Gy G D U k]
  .obtain⟨c,e⟩:=Iw k;refine .inr #[.inl k,c,e,?_];have q:=x.cell y c e;rw[JD G D U (by show d.names.lookup y≠_;rw[k];decide)]at q;exact q
 .exact o.hok.fresh (fL (x.above y c (om h)))
 .unfold start;show _=N.length;rw[di,bW,CS];lia
theorem AS{K:R6}{f:Ad}{dV kV D pm g ct oc:Vl}{an od:Option Ad}{T:Array (Option Vl)}   (lk:K.lookup f=some #[oc,od,.func (PySem.W.fnOf name d i j a dV kV D pm an g ct),T]) (Y:PySem.W.codeIn K g d=true) (S:FnScope N O a)(len:∀l H Q E,U l H Q E->l.length=O.length)(z:∀A c s H l Q E,Room k (A.deeper (envOfC d a s.heap.objs.size f g))->U l H Q E->
   ∃t,PSs (kh M P w K mg h N d a f g A c s H E) j t/\t {nx:=λ_ p=>Q .non p,rt:=Q} (start N l) H):
  FnOk P w K mg h M (k+1) f (PySem.W.fnOf name d i j a dV kV D pm an g ct) O U:=by
 refine#[len,λA c s H args us l Q E hr G hb r L=>?_];have hl:=len _ _ _ _ L;have KX:=G.mod.kin.keeps λb o e=>(G.bs b o e).1;have aa:=G.mod.nolimit.keeps λb o e=>(G.bs b o e).1;have B:∀y∈O.zip us,a.names.lookup y.1=some .local\/(a.names.lookup y.1=some .cell/\((cellsFrom (s.heap.objs.size+1) a.names []).lookup y.1).isSome=true):=λ⟨n,v⟩ hy=>by
  rcases S.par n (x4 hy).1 with q|q
  .exact .inl q
  .exact .inr #[q,FU _ _ _ (.inl q)]
 refine codeAny_call_function hr.depth (KX _ _ lk) zZ S.co S.gen zZ (PySem.W.codeRec_of KX Y) (hb _ _ _ _ (G0 S.kind B λab he s1 x=>?_));subst he;refine#[aa.keeps x.toInCall.keep,codeAny_func ?_];obtain⟨t,ht,hq⟩:=z A c s H l Q E (hr.deeper _) L;have I:Inv (kh M P w K mg h N d a f g A c s H E) [] (start N l) H s1:=Kb S hr.hd G hl r x;refine eZ (ht [] s1 (start N l) H _ I hq) (λfl s' C=>?_) λe s' C=>C;have fin:∀{m} {p} {v} {u},Inv (kh M P w K mg h N d a f g A c s H E) [] m p s'->RelV v u->Q v p->CE c P w H s Q u s':=
  λ{m p v u} J rv q=>#[v,p,J.os,J.bare,J.base,J.hok,rv,q]
 cases fl with
 |ret u=>
  obtain⟨v,m,p,J,rv,q⟩:=C;exact fin J rv q
 |next=>
  obtain⟨m,p,J,q⟩:=C;exact fin (v:=V.non) J zZ q
 |brk=>
  obtain⟨_,_,_,q⟩:=C;exact wE q
 |cont=>
  obtain⟨_,_,_,q⟩:=C;exact wE q
section
variable{p a:Pos}{id T:String}
def Bq(r:List V->Hp->VK->Prop)(t:TA):TE:=λa H Q=>t a H λb c=>r b c Q
theorem dM(i:CallR X (.builtin id) r)(j:Gl X x)(k:X.mg x=none)(l:bootBuiltins x=some (.builtin id))(m:PA X (e::b) t)(n:x≠"__name__":=by decide)(c:(x==("__debug__":Str))=false:=by decide)
  (o:starEach (e::b) X.env=(false,eval e X.env)::starEach b X.env:=by rfl) (d:(backTo a (starEach b X.env)).any (·.1)=false:=by rfl):PE X (.Call (.Name x p) (e::b) [] a) (Bq r t):=by
 intro f s g H Q I h;refine n7 (tm I j k l (IE (cj (m a f s g H _ I h) λq u ⟨v,w,y,z,A⟩=>i f u g w v q Q y z A) o d) n c)
theorem iC(i:CallR X (.type T) r)(j:Gl X x)(k:X.mg x=none)(l:bootBuiltins x=some (.type T))(m:PA X (e::b) t)(n:x≠"__name__":=by decide)(c:(x==("__debug__":Str))=false:=by decide)
  (o:starEach (e::b) X.env=(false,eval e X.env)::starEach b X.env:=by rfl) (d:(backTo a (starEach b X.env)).any (·.1)=false:=by rfl):PE X (.Call (.Name x p) (e::b) [] a) (Bq r t):=by
 intro f s g H Q I h;refine n7 (tm I j k l (Ch (cj (m a f s g H _ I h) λq u ⟨v,w,y,z,A⟩=>i f u g w v q Q y z A) o d) n c)
end
end L2
namespace HT
open PySem PyProof.Rows
noncomputable def xu:Zs->List Int->Bool
 | [],[]=>false
 | [],_::_=>true
 |_::_,[]=>false
 |x::a,y::b=>if x=y then xu a b else decide (x<y)
theorem fE(A:Ar)(s:Sh)(a)(t)(c)(u):∃e,SeqAt.EqAt A s (.int a t) (.int c u) e/\(e=true↔a=c):=
 #[(a==c),EG a t c u,by simp]
end HT
namespace L2
open PySem PySem.Spec PyProof.Rows
abbrev TO:=St->Hp->(Option Int->Hp->Prop)->Prop
theorem Lj{a:Zs}:∀{b:Vs},Vals (a.map V.int) b->IntsAre b a:=by
 induction a with
 |nil=>intro b r;rw[zP]at r;cases r;exact .nil
 | cons n a c=>
  intro b r;rw[hJ]at r;cases r with
  |cons d f=>
   obtain⟨t,e⟩:=d;subst e;exact .cons n t (c f)
noncomputable def oj(n:Nat)(i:Int):Option Nat:=if 0<=i then(if i<n then some i.toNat else none)else if -(n:Int)<=i then some (i+n).toNat else none
noncomputable def ja{a:Type}(b:List a)(i:Int):Option a:=(oj b.length i).bind λj=>b[j]?
theorem HC(h:oj n i=some j):seqIndex? i n=some j/\j<n/\ -(n:Int)<=i/\i<n:=by
 unfold oj at h;by_cases b:0<=i
 .rw[wB b]at h;by_cases a:i<n
  .rw[wB a]at h;have e:=fK h;exact#[by rw[seqIndex_of b a,e],(),(),a]
  .rw[wA a]at h;cases h
 .rw[wA b]at h;by_cases a: -(n:Int)<=i
  .rw[wB a]at h;have e:=fK h;exact#[by rw[seqIndex_neg () a,e],(),a,()]
  .rw[wA a]at h;cases h
theorem JW{v:b}(h:ja a i=some v):∃j,seqIndex? i a.length=some j/\a[j]?=some v/\j<a.length/\ -(a.length:Int)<=i/\i<a.length:=by
 unfold ja at h;cases e:oj a.length i with
 |none=>rw[e]at h;cases h
 |some j=>
  rw[e]at h;obtain⟨c,d,f,g⟩:=HC e;exact#[j,c,h,d,f,g]
theorem iM{j:Nat}{v:b}(h:a[j]?=some v):ja a (j:Int)=some v:=by
 have c:=(cf.mp h).1;have e:oj a.length (j:Int)=some j:=by
  unfold oj;rw[wB (),wB ()];simp
 unfold ja;rw[e];exact h
theorem Rf(a)(v:b):ja (a++[v]) (-1)=some v:=by
 have c:(a++[v]).length=a.length+1:=by simp
 have e:oj (a++[v]).length (-1)=some a.length:=by
  unfold oj;rw[c,wA (by decide),wB ()]
  congr 1
  lia
 unfold ja;rw[e];simp
def Iy(b:Expr):Prop:=∀o i,subscripted b false o i=operate [o,i] (getItem o i)
def IxR(X:Cx)(r:R2):Prop:=
 ∀(b a:Expr) (c:AO) (s:Sh) (d:St) (H:Hp) (x y:V) (v u:Vl) (Q:VK),Inv X c d H s->RelV x v->RelV y u->r x y H Q->
  subscripted a false v u=operate [v,u] (getItem v u)->wpAny (model X.prog X.w) X.A (subscriptTail b a v u) (EP X c d Q) X.xe s
def uo(X:Cx)(id:String)(r:V->List V->Hp->VK->Prop):Prop:=
 ∀(a:AO) (s:Sh) (b:St) (H:Hp) (x:V) (c:List V) (v:Vl) (d:Vs) (Q:VK),Inv X a b H s->RelV x v->Vals c d->r x c H Q->
  wpAny (model X.prog X.w) X.A (call (.builtin id) (v::d)) (EP X a b Q) X.xe s
section
theorem cU(c:IxR X r)(d:PE X a D)(e:PE X b C)(f:Iy b):PE X (.Subscript a b B) (sv r D C):=by
 intro g s i H Q I h;exact Subscript_ (uy d e I h λv u j x y k l m n q=>c a b g j i k x y v u Q l m n q (f _ _))
inductive nI(K:R6)(x y:V)(H:Hp)(Q:VK):Prop|mk:∀p a i v,x=.ref p->y=.int i->SqL K H p a->ja a i=some v->Q v H->nI K x y H Q
inductive tA(K:R6)(x y:V)(H:Hp)(Q:VK):Prop|mk:∀p a i v,x=.ref p->y=.int i->SqT K H p a->ja a i=some v->Q v H->tA K x y H Q
theorem fH:IxR X (nI X.K):=by
 intro b c k s l H x y v u Q I A B h m;obtain⟨p,N,i,z,rfl,rfl,C,D,q⟩:=h;cases A;obtain⟨t,rfl⟩:=B;obtain⟨d,r,e,O⟩:=I.list C;obtain⟨j,a,E,T,G,J⟩:=JW D;obtain⟨w,n,f⟩:=r.get E;have L:=r.length;have U:=yr;have fin:EP X k l Q w s:=#[z,H,I,f,q];by_cases o:0<=i
 .have g:i.toNat=j:=by
   rw[seqIndex_of o J]at a;exact fK a
  exact item_listR e.isList o () (by rw[g];simpa using n) fin m
 .have g:(i+(d.toArray.size:Int)).toNat=j:=by
   rw[seqIndex_neg () G]at a;rw[eF,<-L];exact fK a
  exact subscriptTail_builtinR e.isList.typeIs slot_list_getitem.lookup
   (wpAny_getItem_list_neg e.isList () (by rw[eF]<;>lia) () (by rw[g];simpa using n) #[zZ,fin]) m
theorem d6:IxR X (tA X.K):=by
 intro a b d s e H x y v u Q I g k h l;obtain⟨p,G,i,z,rfl,rfl,m,n,q⟩:=h;cases g;obtain⟨t,rfl⟩:=k;obtain⟨o,r,f,J⟩:=I.tuple m;obtain⟨j,A,B,L,M,N⟩:=JW n;obtain⟨w,C,c⟩:=r.get B;have D:=r.length;have O:=yr;have fin:EP X d e Q w s:=#[z,H,I,c,q];exact subscriptTail_builtinR f.typeIs slot_tuple_getitem.lookup
  (getItem_tuple f () () (by rw[eF,<-D];exact A) (by simpa using C) #[zZ,fin]) l
theorem QX(a:Vs)(n j)(u:Vl):Obj.mapSeq (·.setIfInBounds j u) {cls:= .type "list",data:= .seq a.toArray n}={cls:= .type "list",data:= .seq (a.set j u).toArray n}:=by
 simp[Obj.mapSeq]
theorem Inv.lst{b:AO}{c:St}{H:Hp}{s:Sh}{p:Ad}{a:List V}(I:Inv X b c H s)(h:H p=some (.lst a)):
  ∃(its:Vs) (n:Nat),Vals a its/\s.heap.get? p=some {cls:= .type "list",data:= .seq its.toArray n}/\a.length<=sizeLine:=by
 obtain⟨z,its,n,r,e⟩:=I.hok p _ h;exact#[its,n,r,e,z]
theorem Inv.lstUpd{j:St}{c a:Vs}(I:Inv X i j H s)(h:H p=some (.lst l))(m:s.heap.get? p=some {cls:= .type "list",data:= .seq c.toArray n}) (k:f {cls:= .type "list",data:= .seq c.toArray n}={cls:= .type "list",data:= .seq a.toArray g}) (r:Vals d a) (o:d.length<=sizeLine) (t):
  Inv X i j (bT H p (.lst d)) {s with heap:=s.heap.update p f,toks:=t}:=by
 have e:(s.heap.update p f).get? p=some {cls:= .type "list",data:= .seq a.toArray g}:=by
  rw[pM f m (by rw[k]<;>rfl),k]
 refine I.write (by rw[h];trivial) (.inl zZ) (λb u v q=>(ko _ _ (dG v)).trans q) #[_,e] #[o,a,g,r,e]
inductive qt(o i v:V)(H:Hp)(Q:Hp->Prop):Prop|mk:∀p a k j,o=.ref p->i=.int k->H p=some (.lst a)->oj a.length k=some j->Q (bT H p (.lst (a.set j v)))->qt o i v H Q
theorem Ai:x8 X qt:=by
 intro x s y H o i v G J u Q I z A B h;obtain⟨p,C,k,j,rfl,rfl,f,D,q⟩:=h;cases z;obtain⟨t,rfl⟩:=A;obtain⟨a,n,r,c,E⟩:=I.lst f;obtain⟨b,L,g,l⟩:=HC D;have d:=r.length;have M:=yr;have m:=
  I.lstUpd f c (QX a n j u) (r.set B j) (by rw[um];exact E) s.toks
 by_cases w:0<=k
 .have e:k.toNat=j:=by
   rw[seqIndex_of w l]at b;exact fK b
  exact PySem.W.ki_setAt c w () (by rw[eF,<-d];exact l) (by rw[e];exact#[_,m,q])
 .have e:(k+(a.toArray.size:Int)).toNat=j:=by
   rw[seqIndex_neg () g]at b;rw[eF,<-d];exact fK b
  exact PySem.W.ki_setBack c () (by rw[eF,<-d];exact g) () (by rw[e];exact#[_,m,q])
noncomputable def jr:V->Bool
 |.non=>true
 |.bl _=>true
 |.int _=>true
 |.str _=>true
 |_=>false
noncomputable def nY:V->V->Bool
 |.non,.non=>true
 |.bl a,.bl b=>a==b
 |.bl a,.int b=>(if a then 1 else 0)==b
 |.int a,.bl b=>a==(if b then 1 else 0)
 |.int a,.int b=>a==b
 |.str a,.str b=>a==b
 |_,_=>false
theorem AQ{A:Ar}{s:Sh}(e:RelV y u)(c:RelV x v)(g:jr y=true)(f:jr x=true):SeqAt.EqAt A s u v (nY y x):=by
 cases y with
 |non=>
  cases e;cases x with
  |non=>cases c;exact SeqAt.EqAt.same _
  |bl b=>cases c;exact SeqAt.EqAt.none_bool b
  |int b=>obtain⟨t,rfl⟩:=c;exact SeqAt.EqAt.none_int b t
  |str b=>obtain⟨t,rfl⟩:=c;exact SeqAt.EqAt.none_str b t
  |_=>exact wC (f) f'
 |bl a=>
  cases e;cases x with
  |non=>cases c;exact SeqAt.EqAt.bool_none a
  |bl b=>cases c;exact DP a b
  |int b=>obtain⟨t,rfl⟩:=c;exact SeqAt.EqAt.bool_int a b t
  |str b=>obtain⟨t,rfl⟩:=c;exact SeqAt.EqAt.bool_str a b t
  |_=>exact wC (f) f'
 |int a=>
  obtain⟨d,rfl⟩:=e;cases x with
  |non=>cases c;exact SeqAt.EqAt.int_none a d
  |bl b=>cases c;exact SeqAt.EqAt.int_bool a d b
  |int b=>obtain⟨t,rfl⟩:=c;exact EG a d b t
  |str b=>obtain⟨t,rfl⟩:=c;exact SeqAt.EqAt.int_str a d b t
  |_=>exact wC (f) f'
 |str a=>
  obtain⟨d,rfl⟩:=e;cases x with
  |non=>cases c;exact SeqAt.EqAt.str_none a d
  |bl b=>cases c;exact SeqAt.EqAt.str_bool a d b
  |int b=>obtain⟨t,rfl⟩:=c;exact SeqAt.EqAt.str_int a d b t
  |str b=>obtain⟨t,rfl⟩:=c;exact SeqAt.EqAt.str_str a d b t
  |_=>exact wC (f) f'
 |_=>exact wC (g) f'
noncomputable def ph(x:V)(u:Vl):Bool:=match u with
 |.none=>nY .non x
 |.bool b=>nY (.bl b) x
 |.int i _=>nY (.int i) x
 |.str z _=>nY (.str z) x
 |_=>false
theorem JO(r:RelV y u)(f:jr y=true):ph x u=nY y x:=by
 cases y with
 |non=>cases r;rfl
 |bl b=>cases r;rfl
 |int i=>obtain⟨t,rfl⟩:=r;rfl
 |str z=>obtain⟨t,rfl⟩:=r;rfl
 |_=>exact wC (f) f'
theorem D8:∀{a} {b:Vs},Vals a b->a.all jr=true->b.any (ph x)=a.any λy=>nY y x
 |_,_,.nil,_=>rfl
 |y::a,u::b,.cons r t,f=>by
  rw[List.all_cons,mK]at f;rw[wV,wV,JO r f.1,D8 t f.2]
theorem DK{A:Ar}{s:Sh}{x:V}{v:Vl}(c:RelV x v)(d:jr x=true):∀{a} {b:Vs},Vals a b->a.all jr=true->∀u∈b,SeqAt.EqAt A s u v (ph x u)
 |_,_,.nil,_=>λu hu=>by cases hu
 |y::a,u::b,.cons r t,f=>λe hu=>by
  rw[List.all_cons,mK]at f
  rcases cP.mp hu with rfl|hu
  .rw[JO r f.1];exact AQ r c f.1 d
  .exact DK c d t f.2 e hu
noncomputable def AC(x:V)(a:List V):Bool:=a.any λy=>nY y x
inductive Ey(K:R6)(a:Bool)(x y:V)(H:Hp)(Q:VK):Prop|mk:∀p b,y=.ref p->((SqL K H p b\/SqT K H p b))->jr x=true->b.all jr=true->(Q (.bl (if a then !AC x b else AC x b)) H)->Ey K a x y H Q
theorem KA:OpR X (compareOp .In) (Ey X.K false):=by
 intro g s i H x y v u Q I c e h;obtain⟨p,j,rfl,hq,d,fs,q⟩:=h;cases e
 rcases hq with hq|hq
 .obtain⟨a,r,b,f⟩:=I.list hq;refine SeqAt.in_listAt (ph x) b.isList (λw hw=>DK c d r fs w (by simpa using hw)) #[.bl _,H,I,zZ,?_];rw[show a.toArray.any (ph x)=a.any (ph x) by simp,D8 r fs];exact q
 .obtain⟨a,r,b,f⟩:=I.tuple hq;refine SeqAt.in_tupleAt (ph x) b (λw hw=>DK c d r fs w (by simpa using hw)) #[.bl _,H,I,zZ,?_];rw[show a.toArray.any (ph x)=a.any (ph x) by simp,D8 r fs];exact q
theorem gq:CallR X (.builtin "len") (λf H Q=>∃p b,f=[.ref p]/\(SqL X.K H p b\/SqT X.K H p b)/\Q (.int b.length) H):=by
 intro j s k H f l Q I r h;obtain⟨p,b,rfl,hq,q⟩:=h;obtain⟨u,rfl,g⟩:=iz r;cases g;have m:=yr
 rcases hq with hq|hq
 .obtain⟨c,d,e,i⟩:=I.list hq;have a:=d.length;exact Calls.call_len_list e.isList (by simp only[List.size_toArray]<;>lia) #[.int b.length,H,I.tok _,#[s.toks+1,by rw[List.size_toArray,a]],q]
 .obtain⟨c,d,e,i⟩:=I.tuple hq;have a:=d.length;exact len_tuple e (by simp only[List.size_toArray]<;>lia) #[.int b.length,H,I.tok _,#[s.toks+1,by rw[List.size_toArray,a]],q]
theorem Ny:CallR X (.type "list") (λx H Q=>∃p d,x=[.ref p]/\(SqL X.K H p d\/SqT X.K H p d)/\∀l,H l=none->Q (.ref l) (bT H l (.lst d))):=by
 intro z s A H x C Q I r h;obtain⟨p,d,rfl,hq,q⟩:=h;obtain⟨u,rfl,B⟩:=iz r;cases B;have fin:∀a,Vals d a->d.length<=sizeLine->∀c f,(∀b y,s.heap.get? b=some y->c.get? b=some y)->
   c.get? s.heap.objs.size=some {cls:= .type "list",dict:=none,data:= .seq a.toArray f,slots:= #v[]}->EP X z A Q (.ref s.heap.objs.size) {s with heap:=c}:=λa g i c f j e=>
  #[.ref s.heap.objs.size,_,I.laid j (cg _) (show ObjOk X.prog X.w _ c _ (.lst d)from#[i,a,f,g,e]),zZ,q _ (I.hok.fresh (cg _))]
 rcases hq with hq|hq
 .obtain⟨a,g,m,i⟩:=I.list hq;have k:=g.length;obtain⟨o,t,v,n,w⟩:=m.isList;exact call_list_seq p (.inl zZ) t v w (λc f j e=>fin a g i c f j e) (by simp only[List.size_toArray]<;>lia)
 .obtain⟨a,g,m,i⟩:=I.tuple hq;have k:=g.length;obtain⟨o,t,v,n,w⟩:=m;exact call_list_seq p (.inr zZ) t v w (λc f j e=>fin a g i c f j e) (by simp only[List.size_toArray]<;>lia)
theorem nC:CallR X (.type "tuple") (λj H Q=>∃p c,j=[.ref p]/\((SqL X.K H p c/\∀l,H l=none->Q (.ref l) (bT H l (.tup c)))\/(SqT X.K H p c/\Q (.ref p) H))):=by
 intro k s m H j z Q I r h;obtain⟨p,c,rfl,h⟩:=h;obtain⟨u,rfl,w⟩:=iz r;cases w
 rcases h with⟨f,q⟩|⟨f,q⟩
 .obtain⟨a,g,i,n⟩:=I.list f;have t:=g.length;refine call_tuple_list i.isList (λd x=>?_) (by simp only[List.size_toArray]<;>lia);have v:=I.kept (t':=s.toks) x;have y:=
   v.laid (t':=s.toks) (λb o e=>c7 _ e) (cg _) (show ObjOk X.prog X.w _ _ _ (.tup c)from#[n,a,g,TupD.new _ _])
  exact#[.ref d.objs.size,_,y,zZ,q _ (v.hok.fresh (cg _))]
 .obtain⟨a,g,i,n⟩:=I.tuple f;exact call_tuple_same i #[.ref p,H,I,zZ,q]
def CT(K:R6)(T:String)(x:V)(H:Hp):Prop:=match x with
 |.str _=>T="str"
 |.int _=>T="int"
 |.ref p=>(T="list"/\∃b,SqL K H p b)\/(T="tuple"/\∃o,K.lookup p=some o/\o.cls=.type "tuple"/\o.dict=none)\/
   (T="dict"/\((∃a,H p=some (.dK a))\/∃a,H p=some (.dT a)))\/(T="set"/\∃S n,H p=some (.set S n))
 |_=>False
theorem Hh{m:St}(I:Inv X l m H s)(r:RelV x v)(ty:CT X.K T x H):
  s.TypeIs v T/\∀a,v=.ref a->∃j,s.heap.get? a=some j/\j.dict=none:=by
 cases x with
 |str z=>
  obtain⟨t,rfl⟩:=r;cases(ty);exact#[typeIs_str s z t,λ_ e=>nomatch e]
 |int i=>
  obtain⟨t,rfl⟩:=r;cases(ty);exact#[typeIs_int s i t,λ_ e=>nomatch e]
 | ref p=>
  cases r
  rcases ty with⟨rfl,y,q⟩|⟨rfl,o,b,u,f⟩|⟨rfl,b⟩|⟨rfl,S,n,b⟩
  .obtain⟨w,_,k,_⟩:=I.list q;refine#[k.isList.typeIs,λa e=>?_];cases e;obtain⟨o,n,e,c,f,_⟩:=k;exact#[o,e,f]
  .refine#[#[o,I.kIn p o b,u],λa e=>?_];cases e;exact#[o,I.kIn _ o b,f]
  .have z:∃o,s.heap.get? p=some o/\o.ExactDict:=by
    rcases b with⟨g,b⟩|⟨g,b⟩
    .obtain⟨_,_,_,_,o,_,_,e,d,_⟩:=I.hok p _ b;exact#[o,e,d]
    .obtain⟨_,_,_,_,o,_,_,e,d,_⟩:=I.hok p _ b;exact#[o,e,d]
   obtain⟨o,e,d⟩:=z;refine#[#[o,e,d.1],λa h=>?_];cases h;exact#[o,e,d.2.1]
  .obtain⟨o,_,_,_,e,d,_⟩:=I.hok p _ b;refine#[#[o,e,d.1],λa h=>?_];cases h;exact#[o,e,d.2.1]
 |_=>exact wE ty
def Fe(K:R6)(T:String)(r:V->List V->Hp->VK->Prop)(to:TE):TE:=λb H Q=>to b H λx a=>CT K T x a/\r x [] a Q
def A2(K:R6)(T:String)(r:V->List V->Hp->VK->Prop)(to:TE)(t:TA):TE:=λa H Q=>to a H λx b=>CT K T x b/\t a b λc d=>r x c d Q
variable{g d:Pos}{T id:String}
theorem Jc(l:PlainAttrs T)(c:Slot T name id)(e:typeOf (.builtin id)=pure (.type "method_descriptor"))(m:uo X id r)(n:PE X o to)(a:attributeBase o name X.env (eval o X.env)=eval o X.env:=by rfl) (b:(g.endLine==d.line)=true:=by rfl):PE X (.Call (.Attribute o name g) [] [] d) (Fe X.K T r to):=by
 intro f s i H Q I h;refine wpAny_Call_method0_late a b (cj (n f s i H _ I h) λv p ⟨x,q,j,k,ty,t⟩=>?_);obtain⟨u,w⟩:=Hh j k ty;exact#[T,id,l,c,e,u,w,DH zZ (PySem.evalArgs_none (m f p i q x [] v [] Q j k .nil t))]
theorem iZ(u:PlainAttrs T)(f:Slot T name id)(j:typeOf (.builtin id)=pure (.type "method_descriptor"))(w:uo X id r)(y:PE X o to)(z:PA X (e::m) t)(b:attributeBase o name X.env (eval o X.env)=eval o X.env:=by rfl)
  (i:((backTo d (starEach (e::m) X.env)).all (λx=> !x.1)&&(backToKw d (keywordEach [] X.env)).all (λx=>x.1.isSome)
   &&decide ((e::m).length+([]:List Keyword).length+(if([]:List Keyword).isEmpty then 0 else 1)<30))=true:=by rfl)
  (c:(g.endLine==d.line)=true:=by rfl) (A:starEach (e::m) X.env=(false,eval e X.env)::starEach m X.env:=by rfl) (a:(backTo d (starEach m X.env)).any (·.1)=false:=by rfl):
  PE X (.Call (.Attribute o name g) (e::m) [] d) (A2 X.K T r to t):=by
 intro k s l H Q I h;refine wpAny_Call_method_late b i c zZ (cj (y k s l H _ I h) λv B ⟨x,C,n,p,ty,D⟩=>?_);obtain⟨E,G⟩:=Hh n p ty;refine#[T,id,u,f,j,E,G,?_];have q:=z d k B l C _ n D;rw[A]at q|-;refine DH (by show(false || (backTo d (starEach m X.env)).any (·.1))=false;rw[a]<;>rfl) (Calls.evalArgs_plain (cj q λJ L ⟨M,N,O,U,Y⟩=>w k L l N x M v J Q O p U Y))
end
def Ip(X:Cx)(id:String)(r:V->List V->Hp->VK->Prop):Prop:=
 ∀(a:AO) (s:Sh) (b:St) (H:Hp) (x:V) (c:List V) (v:Vl) (d:Vs) (Q:VK),Inv X a b H s->RelV x v->Vals c d->r x c H Q->
  wpAny (model X.prog X.w) X.A (call (.builtin id) (v::d)) (EP X a b Q) X.xe s
theorem Vals.one:∀{x} {a:Vs},Vals [x] a->∃u,a=[u]/\RelV x u
 |_,_,.cons r .nil=>#[_,zZ,r]
theorem Vals.zero:∀{a:Vs},Vals [] a->a=[]
 |_,.nil=>rfl
section
variable{a:St}
theorem Inv.lset{b its':Vs}{f:AV->Array Vl}(I:Inv X c a H s)(g:H l=some (.lst d))(e:s.heap.get? l=some {cls:= .type "list",data:= .seq b.toArray n}) (h:f b.toArray=its'.toArray) (i:Vals ys its') (j:ys.length<=sizeLine):
  Inv X c a (bT H l (.lst ys)) {s with heap:=s.heap.update l (Obj.mapSeq f),toks:=t'}:=by
 have q:=PySem.IsL.update e f;rw[h]at q;refine I.write (by rw[g];exact trivial) (.inl zZ) (λo u k m=>(ko s.heap (Obj.mapSeq f) (dG k)).trans m) #[_,q] #[j,its',_,i,q]
theorem Inv.lnew{b:Vs}(I:Inv X c a H s)(d:Vals ys b)(e:ys.length<=sizeLine):
  Inv X c a (bT H s.heap.objs.size (.lst ys)) {s with heap:=s.heap.push {cls:= .type "list",data:= .seq b.toArray},toks:=t'}:=
 I.laid (λ_ _ q=>c7 _ q) (cg _) #[e,b,0,d,eQ _ zZ]
theorem Inv.fresh(I:Inv X c a H s):H s.heap.objs.size=none:=I.hok.fresh (cg _)
theorem Inv.lstM(I:Inv X c a H s)(f:H l=some (.lst d)):d.length<=sizeLine/\∃(b:Vs) (n:Nat),Vals d b/\d.length=b.length/\s.heap.get? l=some {cls:= .type "list",data:= .seq b.toArray n}:=by
 obtain⟨z,b,n,r,e⟩:=I.hok l _ f;exact#[z,b,n,r,r.length,e]
end
inductive iU(x:V)(b:List V)(H:Hp)(Q:VK):Prop|mk:∀l a y,x=.ref l->b=[y]->H l=some (.lst a)->a.length<sizeLine->Q .non (bT H l (.lst (a++[y])))->iU x b H Q
theorem me:Ip X "list.append" iU:=by
 intro g s i H x j v k Q I c d h;obtain⟨l,m,y,rfl,rfl,b,o,q⟩:=h;cases c;obtain⟨u,rfl,f⟩:=d.one;obtain⟨z,a,n,r,p,e⟩:=I.lstM b;refine yK F.slot_list_append #[_,e,zZ] F.entry_list_append (F.args_list_append_2 _ _) (PySem.list_append l a.toArray n u (by rw[eF];lia)) #[e,?_];refine#[.non,_,I.lset b e (by simp) (r.append (.cons f .nil)) ?_,zZ,q];rw[di,zr];lia
inductive n6(x:V)(a:List V)(H:Hp)(Q:VK):Prop|mk:∀l b,x=.ref l->a=[]->H l=some (.lst b)->Q .non (bT H l (.lst []))->n6 x a H Q
theorem N5:Ip X "list.clear" n6:=by
 intro g s i H x j v k Q I d f h;obtain⟨l,m,rfl,rfl,c,q⟩:=h;cases d;have a:=f.zero;subst a;obtain⟨z,b,n,r,o,e⟩:=I.lstM c;refine yK F.slot_list_clear #[_,e,zZ] F.entry_list_clear (F.args_list_clear_1 _) (AutoSeq1.list_clear_list_0 l b.toArray n (by rw[eF];lia)) #[e,?_];exact#[.non,_,I.lset c e zZ .nil (iE _),zZ,q]
end L2
namespace Att
open PySem PySem.W PySem.Calls PyProof.Rows
theorem MF:∀(c:Zs) (d:Vs),WellAll P h d (c.map WData.int)->IntsAre d c:=by
 intro c
 induction c with
 |nil=>
  intro d w;rw[zP]at w;cases w;exact .nil
 | cons n c e=>
  intro d w;rw[hJ]at w;cases w with
  |cons a b=>
   cases a;exact .cons _ _ (e _ b)
theorem Rt{l:OpenLaw}(s:l.most=some n){c:Vs}(e:l.row.toRowW.claim.pre args=true) (k:WellAll P h c args):
  ∃a o b,c=[Value.ref a]/\args=[WData.list (b.map WData.int)]/\h.get? a=some {cls:= .type "list",data:= .seq o.toArray}/\IntsAre o b/\b.length<=n:=by
 have m:=(pre_splitW e).1;have p:l.pre.holds [] {args:=args}=true:=(pre_splitW e).2;obtain⟨d,r,rfl,t,u⟩:=hasAllW_cons m;obtain rfl:=hasAllW_nil u;obtain⟨A,rfl,v⟩:=hasW_list t;obtain⟨b,rfl⟩:=items_int v;have f:b.length<=n:=by
  unfold OpenLaw.pre at p;have i:(WTm.not (.lt (.lit (.int (n:Int))) (.len (.arg 0)))).holds [] {args:=[.list (b.map .int)]}=true:=by
   have i:=(holds_andW p).1;rw[s]at i;exact i
  have j:=condW_of i (w_not (w_lt w_lit (w_len_list (w_arg zZ))));rw[bW]at j;refine Ak λq=>?_;have w:(n:Int)<((b.length:Nat):Int):=by lia
  first
   |(rw[dF w]at j;exact wC j zZ)
   |(simp at j;lia)
 cases k with
 |cons x y=>
  cases y;cases x with
  |list z g=>exact#[_,_,b,zZ,zZ,z,MF b _ g,f]
theorem OJ(l:OpenLaw)(args):l.row.toRowW.claim.post args (.bool true) args=true:=
 postW_of
  (show WShape.has [] (.bool true) .bool=true by first|rfl|decide|simp[WShape.has,WShape.arms,WShape.armsAll])
  (w_eq_bool (w_res zZ) w_lit) rfl
theorem attach_call{l:OpenLaw}{q:Pg}{c:Ss}{z:SV->Heap->Prop}(E:l.most=some n) (u:d.params.defaults=[])(call:∀w (e b:Sh) (mg v:SV) (fa:Ad) o (pm p g:Vl) (a:Ad) (i:Vs) (s:Zs),
   Ground q c [] z w e mg v b.heap->A w b.heap->
   b.heap.get? fa=some o->o.data=.func (docDef d.name d.params d.body d.scope pm p g)->b.heap.CodeRec p d.name->mg d.name=some (.ref fa)->
   b.heap.get? a=some {cls:= .type "list",data:= .seq i.toArray}->IntsAre i s->s.length<=n->b.gens= #v[]->
   codeAny (model l.prog w) callerA (.call (.ref fa) #[[.ref a],[]]) (λr t=>r=.ok (.ret (.bool true))/\OldK b.heap t.heap/\t.os=b.os/\AllBare t.gens) b):
  WalkO q c z A l.row.toRowW d [] (λf i=>PySem.call f i):=by
 intro w e b mg v G Y fa o pm p g H kV I J x B hmg L args C as j D M y N;obtain rfl:H=.none:=Dflts.none B u;obtain rfl:kV=.none:=Dflts.noKw B;obtain⟨a,i,s,rfl,rfl,k,h,m⟩:=Rt E j y;refine enter_call (lW (call w e b mg v fa o pm p g a i s G Y I (fd_plain J) x hmg k h m L) λr t O=>?_);obtain⟨rfl,Q,T,U⟩:=O;exact#[.inl #[.bool true,.bool true,[],zZ,λ_=>rfl,.bool true,OJ l _,λ_=>#[List.Pairwise.nil,λ_ hm=>(nomatch hm)]],Q,T,U]
end Att
namespace L2
open PySem PySem.Spec PyProof.Rows
theorem Gp:∀{a:Vs} {b:Zs},IntsAre a b->Vals (b.map V.int) a
 |_,_,.nil=> .nil
 |_,_,.cons n t h=> .cons #[t,zZ] (Gp h)
abbrev RB{K:R6}(_:K.In h):R6:=K
end L2
namespace L2
open PySem PySem.Spec PyProof.Rows
noncomputable def iy(s:Stmt):Arguments:=match s with
 | .FunctionDef _ a _ _ _ _ _ _ _ _=>a
 |_=>{posonlyargs:=[],args:=[],vararg:=none,kwonlyargs:=[],kw_defaults:=[],kwarg:=none,defaults:=[]}
noncomputable def fc(s:Stmt):List Stmt:=match s with
 | .FunctionDef _ _ b _ _ _ _ _ _ _=>b
 |_=>[]
noncomputable def cu(s:Stmt):Scope:=match s with
 | .FunctionDef _ _ _ _ _ _ a _ _ _=>a
 |_=>{kind:= .function,names:=[],isGenerator:=false,isCoroutine:=false}
abbrev cG:oV:=λ_ _ _ _ _ _=>False
abbrev E0:XK:=λ_ _ _=>False
theorem yE:mN cG X E0:=λ_ _ _ _ _ _ _ h=>h.elim
structure Fun(K:R6)(x qual:Str)(st:Stmt)(f:Ad)(fd:Fd):Prop where
 ex:∃(oc:Vl) (od:Option Ad) (kV doc pm:Vl) (an:Option Ad) (cdv ct:Vl) (osl:Array (Option Vl)),
  fd=PySem.W.fnOf x qual (iy st) (fc st) (cu st) .none kV doc pm an cdv ct/\K.lookup f=some #[oc,od,.func fd,osl]/\PySem.W.codeIn K cdv qual=true
 kp:PySem.W.keepIn K (.ref f)=true
section
variable{K:R6}
theorem Fun.ok{st:Stmt}(F:Fun K x b st f l)(S:FnScope N e (cu st))(d:∀c A a s H vs Q E,Room k (A.deeper (envOfC b (cu st) s.heap.objs.size f c))->g vs H Q E->
   ∃t,PSs (kh cG P w K mg base N b (cu st) f c A a s H E).nox (fc st) t/\t {nx:=λ_ H'=>Q .non H',rt:=Q} (start N vs) H)(len:∀vs H Q E,g vs H Q E->vs.length=e.length:=by (intro _ _ _ _ h;first|(cases h;subst_vars;rfl)|((repeat obtain⟨_,h⟩:=h);subst_vars;rfl))):FnOk P w K mg base cG (k+1) f l e g:=by
 obtain⟨p,r,kV,m,pm,u,c,v,n,rfl,lk,i⟩:=F.ex;refine AS lk i S len λA a s H vs Q E o j=>?_;obtain⟨t,h,q⟩:=d c A a s H vs Q E o j;exact#[t,h.nox,q]
theorem Fun.binds{st:Stmt}(F:Fun K x a st f i)(h:∀(kV b pm:Vl) (d:Option Ad) (c e:Vl) (g:Vs),g.length=ps.length->bindArgs (PySem.W.fnOf x a (iy st) (fc st) (cu st) .none kV b pm d c e) #[g,[]]=pure (ps.zip g)):Binds K i ps []:=by
 obtain⟨l,m,kV,b,pm,d,c,e,j,rfl,lk,k⟩:=F.ex;exact .all (h kV b pm d c e)
theorem b4r{st:Stmt}{f:Ad}{i:Vl}{j g:Option Ad}{e:Array (Option Vl)}{kV d pm b h:Vl}(l:K.lookup f=some #[i,j,.func (PySem.W.fnOf x a (iy st) (fc st) (cu st) .none kV d pm g b h),e])(c:PySem.W.codeIn K b a=true) (k:PySem.W.keepIn K (.ref f)=true):Fun K x a st f (PySem.W.fnOf x a (iy st) (fc st) (cu st) .none kV d pm g b h):=#[#[i,j,kV,d,pm,g,b,h,e,zZ,l,c],k]
end
theorem iT(a:Room k A):A.units+1<cLine:=zi (y9 (by decide:1<=64) _) a.units
theorem K4(h:n<=1000):n<sizeLine:=zi h (by decide)
section
variable{X:Cx}
theorem pv(i){a:Pos}(c:X.N[i]?=some x:=by rfl)(d:Ck X.env.scope x:=by first|exact Or.inl rfl|exact Or.inr Z'|exact Or.inr Z0)(e:(x==("__debug__":Str))=false:=by decide)
  (b:(x==("__classdict__":Str))=false:=by decide):PE X (.Name x a) (cX i):=Lq c d e b
end
theorem eA{A B:Prop}(h:B):if false=true then A else B:=by
 rw[wA f'];exact h
theorem fy{A B:Prop}(h:A):if true=true then A else B:=by
 rw[wB zZ];exact h
theorem lH{c A B:Prop}[Decidable c](a:c->A)(b: ¬c->B):if c then A else B:=by
 by_cases h:c
 .rw[wB h];exact a h
 .rw[wA h];exact b h
theorem xK{c A B:Prop}[Decidable c](a:c)(h:B):if(!decide c)=true then A else B:=by
 rw[dF a];exact eA h
def Same(H a:Hp):Prop:=∀b o,H b=some o->a b=some o
theorem Same.refl(H):Same H H:=λ_ _ h=>h
theorem Same.trans(a:Same H d)(b:Same d e):Same H e:=λc o h=>b c o (a c o h)
theorem Same.free(e:Same H a)(h:a l=Option.none):H l=Option.none:=by
 cases q:H l with
 |none=>rfl
 |some o=>
  rw[e l o q]at h;cases h
theorem Same.seq{K:R6}(e:Same H b)(h:SqL K H a c):SqL K b a c:=by
 rcases h with(h|⟨o,h⟩)|h
 .exact .inl (.inl (e _ _ h))
 .exact .inl (.inr #[o,e _ _ h])
 .exact .inr h
section
variable{a:Type}[DecidableEq a]
noncomputable def gn(b:List (a×V))(k:a):Option V:=(b.find? λc=>decide (c.1=k)).map (·.2)
noncomputable def jq(b:List (a×V))(k:a)(v:V):List (a×V):=
 if(b.any λc=>decide (c.1=k))=true then b.map (λc=>if c.1=k then(c.1,v)else c)else b++[(k,v)]
theorem yS{k:a}(e:p.1=k):gn (p::r) k=some p.2:=by simp[gn,List.find?_cons,e]
theorem v5{k:a}(e: ¬p.1=k):gn (p::r) k=gn r k:=by simp[gn,List.find?_cons,e]
theorem AG(k:a):∀b,(b.any λc=>decide (c.1=k))=(gn b k).isSome
 | []=>rfl
 |p::r=>by
  rw[wV];by_cases e:p.1=k
  .simp only[yS e,decide_eq_true e,Bool.true_or,Option.isSome_some]
  .rw[v5 e,e8 e,Bool.false_or];exact AG k r
theorem HW(b:List (a×V))(k)(v):(jq b k v).length<=b.length+1:=by
 unfold jq;split
 .rw[bW];lia
 .rw[di,mF,FS];lia
theorem yy{k:a}(v)(h:gn b k=none):jq b k v=b++[(k,v)]:=by
 unfold jq;rw[AG,h];exact wA (by decide)
theorem RelO.isSome_eq(r:RelO o u):o.isSome=u.isSome:=by
 cases o with
 |none=>cases u with
  |none=>rfl
  |some _=>exact(r).elim
 |some _=>cases u with
  |none=>exact(r).elim
  |some _=>rfl
theorem KV.val(r:KV c g)(k:a):RelO (gn c k) (valueAt g k):=by
 unfold KV at r
 induction r with
 |nil=>exact True.intro
 | @cons p q m d h t j=>
  obtain⟨i,l⟩:=h;by_cases e:p.1=k
  .have f:q.1=k:=i.symm.trans e;have b:valueAt (q::d) k=some q.2:=by simp[valueAt,List.find?_cons,f]
   rw[yS e,b];exact l
  .have f: ¬q.1=k:=λz=>e (i.trans z);have b:valueAt (q::d) k=valueAt d k:=by simp[valueAt,List.find?_cons,f]
   rw[v5 e,b];exact j
theorem KV.any(r:KV b d)(k:a):(b.any λc=>decide (c.1=k))=d.any λc=>decide (c.1=k):=by
 induction r with
 |nil=>rfl
 |cons h t e=>rw[wV,wV,e,h.1]
theorem KV.repl(r:KV c f)(k:a)(g:RelV y u):
  KV (c.map λb=>if b.1=k then(b.1,y)else b) (f.map λb=>if b.1=k then(b.1,u)else b):=by
 induction r with
 |nil=>exact .nil
 | @cons p q l m h t i=>
  rw[hJ,hJ];refine .cons ?_ i;obtain⟨d,j⟩:=h;by_cases e:p.1=k
  .rw[wB e,wB (d.symm.trans e)];exact#[d,g]
  .rw[wA e,wA (λz=>e (d.trans z))];exact#[d,j]
theorem KV.put(r:KV b c)(k:a)(d:RelV y u):KV (jq b k y) (stored c k u):=by
 unfold jq stored;rw[r.any k];by_cases e:(c.any λf=>decide (f.1=k))=true
 .rw[wB e,wB e];exact r.repl k d
 .rw[wA e,wA e];exact Paired.snoc r #[zZ,d]
theorem KV.length{vs:List (a×Vl)}(r:KV b vs):b.length=vs.length:=pL r
end
theorem zm(r:RelV (kV k) u):(l8 P w).is k u=true:=by
 cases k with
 |inl i=>obtain⟨t,e⟩:=(r);subst e;exact QM P w i t
 |inr x=>obtain⟨t,e⟩:=(r);subst e;exact Lh P w x t
theorem Kf:∀{a} {b:Vs},Vals (a.map kV) b->ItemsAre (l8 P w) a b
 | [],_,r=>by rw[zP]at r;cases r;exact .nil
 |k::a,_,r=>by
  rw[hJ]at r;cases r with
  |cons h t=>exact .cons (zm h) (Kf t)
abbrev KT(H:Hp):List (List cQ×V)->List (List cQ×Ad×Vl)->Prop:=Paired λp q=>p.1=q.1/\H q.2.1=some (.tup (p.1.map kV))/\RelV p.2 q.2.2
theorem KT.val(r:KT H a f)(k):RelO (gn a k) ((atKey f k).map (·.2)):=by
 induction r with
 |nil=>exact True.intro
 | @cons p q l c h t i=>
  obtain⟨g,_,j⟩:=h;by_cases e:p.1=k
  .have d:q.1=k:=g.symm.trans e;have b:atKey (q::c) k=some q.2:=by simp[atKey,List.find?_cons,d]
   rw[yS e,b];exact j
  .have d: ¬q.1=k:=λz=>e (g.trans z);have b:atKey (q::c) k=atKey c k:=by simp[atKey,List.find?_cons,d]
   rw[v5 e,b];exact i
theorem KT.repl(r:KT H a d)(k)(g:RelV y u):
  KT H (a.map λc=>if c.1=k then(c.1,y)else c) (d.map (putAt k u)):=by
 induction r with
 |nil=>exact .nil
 | @cons p q l m h t i=>
  rw[hJ,hJ];refine .cons ?_ i;obtain⟨b,f,j⟩:=h;unfold putAt;by_cases e:p.1=k
  .rw[wB e,wB (b.symm.trans e)];exact#[b,f,g]
  .rw[wA e,wA (λz=>e (b.trans z))];exact#[b,f,j]
theorem KT.put(r:KT H a c)(k)(f:H b=some (.tup (k.map kV)))(d:RelV y u):
  KT H (jq a k y) (storedH c k b u):=by
 have e:(a.any λg=>decide (g.1=k))=(atKey c k).isSome:=by
  rw[AG,(r.val k).isSome_eq,EY]
 unfold jq storedH;rw[e];by_cases q:(atKey c k).isSome=true
 .rw[wB q,wB q];exact r.repl k d
 .rw[wA q,wA q];exact Paired.snoc r #[zZ,f,d]
theorem KT.keeps(r:KT H a c)(ht:∀b ys,H b=some (.tup ys)->H' b=some (.tup ys)):KT H' a c:=
 Paired.mapP r λ_ _ z=>#[z.1,ht _ _ z.2.1,z.2.2]
theorem Gb(ok:HOk P w H h)(e:Rd H a u):ObjOk P w H h a u:=e.ok ok
theorem zF(ok:HOk P w H h)(e:Rd H a (.dK b)):b.length<=sizeLine/\(a==sysModules)=false/\∃c,KV b c/\h.DictOf (l8 P w) a c:=
 show ObjOk P w H h a (.dK b)from Gb ok e
theorem xD(ok:HOk P w H h)(e:H a=some (.dK b)):b.length<=sizeLine/\(a==sysModules)=false/\∃c,KV b c/\h.DictOf (l8 P w) a c:=zF ok (.inl e)
theorem u4(ok:HOk P w H h)(e:H a=some (.tup (b.map kV))):(tupleKind (l8 P w)).is h b a:=by
 obtain⟨_,c,r,o,d,f,n,g,_⟩:=(ok a _ e);exact#[o,c.toArray,n,d,f,g,by simpa using Kf r]
theorem zJ(ok:HOk P w H h)(e:Rd H a (.dT b)):b.length<=sizeLine/\(a==sysModules)=false/\
  ∃c,KT H b c/\h.DictOfH (tupleKind (l8 P w)) a c:=by
 obtain⟨z,y,c,r,o,f,g,i,j,k,n,s⟩:=(Gb ok e);refine#[z,y,c,r,o,f,g,i,j,k,n,λx hx=>?_,s];have all:∀{l} {m},KT H l m->∀x∈m,(tupleKind (l8 P w)).is h x.1 x.2.1:=by
  intro l m q
  induction q with
  |nil=>intro x hx;exact nomatch hx
  | @cons p q v A d t u=>
   intro x hx
   rcases cP.mp hx with e|hx
   .subst e;exact u4 ok (by rw[<-d.1];exact d.2.1)
   .exact u x hx
 exact all r x hx
theorem DQ(ok:HOk P w H h)(e:H a=some (.dT b)):b.length<=sizeLine/\(a==sysModules)=false/\
  ∃c,KT H b c/\h.DictOfH (tupleKind (l8 P w)) a c:=zJ ok (.inl e)
def DGet(H:Hp)(a:Ad)(y:V)(r:Option V):Prop:=
 (∃c k,Rd H a (.dK c)/\y=kV k/\r=gn c k)\/∃c k b,Rd H a (.dT c)/\y=.ref b/\H b=some (.tup (k.map kV))/\r=gn c k
def DPut(H:Hp)(a:Ad)(y v:V)(d:Hp):Prop:=
 (∃c k,H a=some (.dK c)/\y=kV k/\c.length<sizeLine/\d=bT H a (.dK (jq c k v)))\/
 ∃c k b,H a=some (.dT c)/\y=.ref b/\H b=some (.tup (k.map kV))/\c.length<sizeLine/\d=bT H a (.dT (jq c k v))
theorem DGet.t(e:H a=some (.dT c))(d:H b=some (.tup (k.map kV))):DGet H a (.ref b) (gn c k):= .inr #[c,k,b,.inl e,zZ,d,zZ]
theorem DPut.t(e:H a=some (.dT c))(d:H b=some (.tup (k.map kV)))(f:c.length<sizeLine):
  DPut H a (.ref b) v (bT H a (.dT (jq c k v))):= .inr #[c,k,b,e,zZ,d,f,zZ]
section
variable{d:St}{a:Ad}{A:Ar}{E:VP}
theorem Inv.big(I:Inv X f d H s):sysModules<s.heap.objs.size:=by
 have h:=(I.mod.glob.keeps I.bk).lt;exact A6 (by decide) h
theorem Pr{Q:VP}(x:A.units+1<cLine)(I:Inv X f d H s)(g:DGet H a y (some v))(t:RelV y u)(h:∀j w,Inv X f d H w->RelV v j->Q j w):
  wpAny (model X.prog X.w) A (getItem (.ref a) u) Q E s:=by
 rcases g with⟨m,k,e,n,l⟩|⟨m,k,b,e,n,B,l⟩
 .subst n;obtain⟨z,C,D,c,q⟩:=zF I.hok e;obtain⟨j,hw,i⟩:=RelO.some_of (by rw[l];exact c.val k);exact wpAny_getItem_of (zm t) q.mapOf hw (h j _ (I.tok _) i)
 .subst n;cases(t);obtain⟨z,C,G,c,q⟩:=zJ I.hok e;obtain⟨j,hw,i⟩:=RelO.some_of (by rw[l];exact c.val k);obtain⟨p,J,r⟩:=dW.mp hw;refine wpAny_getItem_heap (Ao x) (u4 I.hok B) q J ?_;rw[r];exact h j _ (I.tok _) i
theorem Em{Q:VP}(t:A.units+1<cLine)(I:Inv X f d H s)(g:DGet H a y o)(p:RelV y u)(h:∀r,Inv X f d H r->Q (.bool o.isSome) r):
  wpAny (model X.prog X.w) A (compareOp .In u (.ref a)) Q E s:=by
 rcases g with⟨i,k,e,j,l⟩|⟨i,k,b,e,j,v,l⟩
 .subst j;obtain⟨z,m,w,c,n⟩:=zF I.hok e;refine wpAny_in_of (zm p) m n.mapOf ?_;rw[<-(c.val k).isSome_eq,<-l];exact h _ (I.tok _)
 .subst j;cases(p);obtain⟨z,m,x,c,n⟩:=zJ I.hok e;refine wpAny_in_heap (Ao t) (u4 I.hok v) m n ?_;have q:=(c.val k).isSome_eq;rw[EY]at q;rw[<-q,<-l];exact h _ (I.tok _)
theorem Om{Q:VP}(t:A.units+1<cLine)(I:Inv X f d H s)(g:DGet H a y o)(p:RelV y u)(h:∀r,Inv X f d H r->Q (.bool (!o.isSome)) r):
  wpAny (model X.prog X.w) A (compareOp .NotIn u (.ref a)) Q E s:=by
 rcases g with⟨i,k,e,j,l⟩|⟨i,k,b,e,j,v,l⟩
 .subst j;obtain⟨z,m,w,c,n⟩:=zF I.hok e;refine wpAny_notIn_of (zm p) m n.mapOf ?_;rw[<-(c.val k).isSome_eq,<-l];exact h _ (I.tok _)
 .subst j;cases(p);obtain⟨z,m,x,c,n⟩:=zJ I.hok e;refine wpAny_notIn_heap (Ao t) (u4 I.hok v) m n ?_;have q:=(c.val k).isSome_eq;rw[EY]at q;rw[<-q,<-l];exact h _ (I.tok _)
theorem FG(I:Inv X f d H s)(i:yR (H a))(j:Heap.SameBut a s.heap c)(k:∃q,c.get? a=some q)(new:ObjOk X.prog X.w (bT H a g) c a g):
  Inv X f d (bT H a g) {s with heap:=c,toks:=h}:=
 I.write i (.inl zZ) (λb q l z=>(j.2 b l).trans z) k new
theorem Ou(z:b.length<=sizeLine)(g:(a==sysModules)=false)(d:KV b c)(h:e.DictOf (l8 P w) a c):
  ObjOk P w f e a (.dK b):=#[z,g,c,d,h]
theorem QF{Q:Unit->Sh->Prop}(T:A.units+1<cLine)(I:Inv X f d H s)(g:DPut H a y v D)(G:RelV y u)(J:RelV v r)(h:∀L,Inv X f d D L->Q ⟨⟩ L):
  wpAny (model X.prog X.w) A (setItem (.ref a) u r) Q E s:=by
 rcases g with⟨i,k,e,o,l,p⟩|⟨i,k,b,e,o,M,l,p⟩
 .subst o p;obtain⟨z,t,U,j,w⟩:=xD I.hok e;have x:U.length<=sizeLine:=by rw[<-j.length];exact z
  have B:(jq i k v).length<=sizeLine:=by have:=HW i k v;lia
  refine wpAny_setItem_pairs (zm G) w λN m C=>h _ ?_;have Y:∃q,N.get? a=some q:=let⟨q,_,_,n,_⟩:=m;#[q,n]
  exact FG I (by rw[e];exact True.intro) C Y (Ou B t (j.put k J) m)
 .subst o p;cases(G);obtain⟨z,t,xs,j,w⟩:=DQ I.hok e;have x:xs.length<=sizeLine:=by rw[<-pL j];exact z
  have B:(jq i k v).length<=sizeLine:=by have:=HW i k v;lia
  refine wpAny_setItem_heap (Ao T) (u4 I.hok M) w λN m C=>h _ ?_;obtain⟨q,es,ep,n,h2,h3,h4,_,h5⟩:=m;refine FG I (by rw[e];exact True.intro) C #[q,n] #[B,t,_,(j.put k M J).keeps λc ys O=>?_,q,es,ep,n,h2,h3,h4,h5];rw[bX (nE O e)];exact O
end
def xv(i:Expr):Prop:=∀a b,subscripted i false a b=operate [a,b] (getItem a b)
theorem Pp{a:Pg}{A:Ar}{E:VP}{s:Sh}{T id:String}{Q:VP}(n:typeLookup (.type T) "__getitem__"=pure (some (.builtin id))) (p:xv b)(h:wpAny (model a w) A (eval c j) (λo f=>wpAny (model a w) A (eval b j) (λi d=>d.TypeIs o T/\wpAny (model a w) A (getItem o i) Q E d) E f) E s):
  wpAny (model a w) A (eval (.Subscript c b m) j) Q E s:=by
 refine Subscript_ (eZ h (λo f k=>eZ k (λi d e=>?_) λ_ _ x=>x) λ_ _ x=>x);obtain⟨hT,e⟩:=e;refine bU ?_;rw[getitemInPython_of_ne hT.not_modules];refine bU (wpAny_specialOf hT n ?_);have fin:wpAny (model a w) A (subscripted b false o i) (λr g=>wpAny (model a w) A (letTemporaryGo c o r >>= λ_=>pure r) Q E g) E d:=by
  rw[p o i];exact wpAny_operating (eZ e (λr g l=>bU (wpAny_letTemporaryGo (b9 l))) λ_ _ x=>x)
 first
  |exact b9 (bU fin)
  |exact bU (b9 (bU fin))
  |exact bU fin
theorem LC{h:St}(I:Inv X f h H s)(g:DGet H a y o):s.TypeIs (.ref a) "dict":=by
 rcases g with⟨c,k,e,_,_⟩|⟨c,k,b,e,_,_,_⟩
 .obtain⟨_,_,i,_,d⟩:=zF I.hok e;exact d.typeIs
 .obtain⟨_,_,j,_,d⟩:=zJ I.hok e;exact d.typeIs
def Ic(d ty:TE):TE:=λb H Q=>d b H λx e=>ty b e λy c=>∃a v,x=.ref a/\DGet c a y (some v)/\Q v c
def Fm(ty d:TE):TE:=λb H Q=>ty b H λy e=>d b e λx c=>∃a o,x=.ref a/\DGet c a y o/\Q (.bl o.isSome) c
def Gs(ty d:TE):TE:=λb H Q=>ty b H λy e=>d b e λx c=>∃a o,x=.ref a/\DGet c a y o/\Q (.bl (!o.isSome)) c
def Gj(d ty e:TE):TS:=λD b H=>e b H λv f=>d b f λx g=>ty b g λy h=>∃a c,x=.ref a/\DPut h a y v c/\D.nx b c
theorem mR(k:X.A.units+1<cLine)(l:PE X o d)(m:PE X i ty)(n:xv i):PE X (.Subscript o i f) (Ic d ty):=by
 intro c s e H Q I h;refine Pp PySem.F.slot_dict_getitem.lookup n (cj (l c s e H _ I h) λu p ⟨x,q,r,t,w⟩=>cj (m c p e q _ r w) λE G ⟨y,z,j,A,a,v,B,g,C⟩=>?_);subst B;obtain rfl:u=Value.ref a:=t;exact#[LC j g,Pr k j g A λJ L D b=>#[v,z,D,b,C]]
theorem zC(e:X.A.units+1<cLine)(f:PE X i ty)(j:PE X o d):PC X .In i o (Fm ty d):=by
 intro b s c H Q I h;refine cj (f b s c H _ I h) λB k ⟨y,l,m,n,p⟩=>cj (j b k c l _ m p) λu C ⟨x,q,r,t,a,v,w,g,z⟩=>?_;subst w;obtain rfl:u=Value.ref a:=t;exact Em e r g n λD A=>#[.bl v.isSome,q,A,zZ,z]
theorem xN(e:X.A.units+1<cLine)(f:PE X i ty)(j:PE X o d):PC X .NotIn i o (Gs ty d):=by
 intro b s c H Q I h;refine cj (f b s c H _ I h) λB k ⟨y,l,m,n,p⟩=>cj (j b k c l _ m p) λu C ⟨x,q,r,t,a,v,w,g,z⟩=>?_;subst w;obtain rfl:u=Value.ref a:=t;exact Om e r g n λD A=>#[.bl (!v.isSome),q,A,zZ,z]
theorem ra(l:X.A.units+1<cLine)(m:PE X o d)(n:PE X i ty)(p:PE X b j)(q:swapsWith b (some (.Subscript o i c)) f.line X.env=pure false):
  PS X (.Assign [.Subscript o i c] b f) (Gj d ty j):=by
 intro k s e H D I h;refine wpAny_Assign_Subscript (cj (p k s e H _ I h) λr t ⟨v,w,z,A,B⟩=>cj (m k t e w _ z B) λu C ⟨x,E,G,J,L⟩=>cj (n k C e E _ G L) λY s3 ⟨y,H3,M,N,a,O,Q,g,T⟩=>?_) q;subst Q;obtain rfl:u=Value.ref a:=J;exact QF l M g N A λs4 U=>#[e,O,U,T]
theorem GI(h:Heap)(a:sysModules<h.objs.size):ObjOk P w H (h.push {cls:= .type "dict",data:= .dict #v[]}) h.objs.size (.dT []):=
 #[iE _,oq.mpr (dG (dq a)),[],.nil,_,#v[],0,eQ _ zZ,#[zZ,zZ,zZ],zZ,zZ,AN]
def Kg:TE:=λ_ H Q=>∀p,H p=none->Q (.ref p) (bT H p (.dT []))
theorem zb:PE X (.Dict [] [] b) Kg:=λc s d H Q I h=>
 wpAny_Dict_empty #[.ref s.heap.objs.size,_,I.laid (λ_ _ q=>c7 _ q) (cg _) (GI s.heap I.big),zZ,h _ (I.hok.fresh (cg _))]
def GY:List (TE×TE)->St->Hp->(List (V×V)->Hp->Prop)->Prop
 | [],_,H,Q=>Q [] H
 |(b,c)::r,a,H,Q=>b a H λx d=>c a d λy e=>GY r a e λf g=>Q ((x,y)::f) g
abbrev VV:List (V×V)->List (Vl×Vl)->Prop:=Paired λp q=>RelV p.1 q.1/\RelV p.2 q.2
def CM(X:Cx)(b:Pos)(keys:List (Option Expr))(a:List Expr)(c:List (TE×TE)):Prop:=
 ∀(e:AO) (s:Sh) (d:St) (H:Hp) (Q:List (V×V)->Hp->Prop),Inv X e d H s->GY c d H Q->
  wpAny (model X.prog X.w) X.A (evalPairs (pairTrees keys a X.env b)) (λh i=>∃f g,Inv X e d g i/\VV f h/\Q f g) X.xe s
theorem KE:CM X a [] [] []:=λb s c H Q I h=>pairTrees_nil_walk #[[],H,I,.nil,h]
theorem NI(j:PE X k g)(l:PE X v i)(m:CM X pos e f a):
  CM X pos (some k::e) (v::f) ((g,i)::a):=λb s c H Q I h=>
 pairTrees_cons_walk (cj (j b s c H _ I h) λu n ⟨x,o,p,q,r⟩=>cj (l b n c o _ p r) λJ t ⟨y,w,z,A,B⟩=>
  cj (m b t c w _ z B) λL M ⟨C,D,E,d,G⟩=>#[(x,y)::C,D,E,.cons #[q,A] d,G])
structure M1(X:Cx)(o:Expr)(m:Str)(apos:Pos)(e:Expr)(cpos:Pos):Prop where
 base:attributeBase o m X.env (eval o X.env)=eval o X.env
 few:((backTo cpos (starEach [e] X.env)).all (λx=> !x.1)&&(backToKw cpos (keywordEach [] X.env)).all (λx=>x.1.isSome)
  &&decide (([e]:List Expr).length+([]:List Keyword).length+(if([]:List Keyword).isEmpty then 0 else 1)<30))=true
 line:(apos.endLine==cpos.line)=true
 trees:backTo cpos (starEach [e] X.env)=[(false,eval e X.env)]
structure M2(X:Cx)(o:Expr)(m:Str)(apos:Pos)(e f:Expr)(cpos:Pos):Prop where
 base:attributeBase o m X.env (eval o X.env)=eval o X.env
 few:((backTo cpos (starEach [e,f] X.env)).all (λx=> !x.1)&&(backToKw cpos (keywordEach [] X.env)).all (λx=>x.1.isSome)
  &&decide (([e,f]:List Expr).length+([]:List Keyword).length+(if([]:List Keyword).isEmpty then 0 else 1)<30))=true
 line:(apos.endLine==cpos.line)=true
 trees:backTo cpos (starEach [e,f] X.env)=[(false,eval e X.env),(false,eval f X.env)]
theorem HP{b a:Type}{f:b->a->Sem (ForInStep a)}{g:a->b->a}:∀{l:List b} c,(∀x∈l,∀c,f x c=pure (.yield (g c x)))->forIn l c f=pure (l.foldl g c)
 | [],_,_=>rfl
 |x::l,c,h=>by
  rw[List.forIn_cons,h x (dy ..),pure_bind];exact HP (g c x) λy d=>h y (eM _ d)
noncomputable def on(b:Env)(a:List (Str×Ad))(y:Str×NameKind):List (Str×Ad):=
 if y.2== .free then(match b.cells.lookup y.1 with|some c=>(y.1,c)::a|none=>a)else a
noncomputable def gA(a:Env)(b:Scope):List (Str×Ad):=b.names.foldl (on a) []
theorem Ju(h:∀y∈b.names,y.2=.free->∃c,a.cells.lookup y.1=some c):closureFor b a=pure (gA a b):=by
 simp only[closureFor];rw[HP [] λx i c=>?_]
 .rfl
 .obtain⟨n,k⟩:=x;by_cases f:k=.free
  .subst f;obtain⟨d,j⟩:=h _ i rfl;have e:=j;simp only[on,cellOf,e,beq_self_eq_true,if_true,pure_bind]
  .have l:(k==NameKind.free)=false:=by simpa using f
   simp only[on,l,Bool.false_eq_true,if_false]
theorem sr{a:Env}:∀(names:List (Str×NameKind)) (b:List (Str×Ad)),(∀y c,b.lookup y=some c->a.cells.lookup y=some c)->
  ∀y c,(names.foldl (on a) b).lookup y=some c->a.cells.lookup y=some c
 | [],_,h=>h
 | (n,k)::r,b,h=>by
  refine sr r _ λy c e=>?_;unfold on at e;split at e
  .split at e
   .rename_i d i
    rw[iO]at e;cases f:y==n with
    |true=>
     rw[f]at e;have g:=eq_of_beq f;cases e;rw[g];exact i
    |false=>rw[f]at e;exact h y c e
   .exact h y c e
  .exact h y c e
theorem GK:∀(a:List (Str×NameKind)) b y,(∃c,b.lookup y=some c)->∃c,(a.foldl (on e) b).lookup y=some c
 | [],_,_,h=>h
 | (n,k)::r,b,y,h=>by
  refine GK r _ y ?_;unfold on;split
  .split
   .rename_i d f
    rw[iO];cases g:y==n with
    |true=>exact#[_,zZ]
    |false=>exact h
   .exact h
  .exact h
theorem DE:∀(a:List (Str×NameKind)) b y,a.lookup y=some .free->(∃c,d.cells.lookup y=some c)->∃c,(a.foldl (on d) b).lookup y=some c
 | [],_,_,h,_=>by simp at h
 | (n,k)::r,b,y,h,e=>by
  rw[iO]at h;cases f:y==n with
  |true=>
   rw[f]at h;cases h;have g:=eq_of_beq f;subst g;obtain⟨c,e⟩:=e;refine GK r _ y #[c,?_];unfold on;rw[wB (by rfl)]
   rw[e];simp
  |false=>
   rw[f]at h;exact DE r _ y h e
theorem uf{a:Env}:∀{names:List (Str×NameKind)} {y} {k},
  (names.map λ(n,k)=>if(k==NameKind.free&&a.scope.kind== .function&&a.kindOf n==some .cell)then(n,NameKind.cell)else(n,k)).lookup y=some k->
   names.lookup y=some k\/(names.lookup y=some .free/\k=.cell)
 | [],_,_,h=>by simp at h
 | (n,c)::r,y,k,h=>by
  have g:=@uf a r y k;rw[hJ]at h;by_cases f:(c==NameKind.free&&a.scope.kind== .function&&a.kindOf n==some .cell)=true
  .have b:List.lookup y ((n,NameKind.cell)::(r.map λ(n,k)=>if(k==NameKind.free&&a.scope.kind== .function&&a.kindOf n==some .cell)then(n,NameKind.cell)else(n,k)))=some k:=by
    have e:(if(c==NameKind.free&&a.scope.kind== .function&&a.kindOf n==some .cell)=true then(n,NameKind.cell)else(n,c))=(n,NameKind.cell):=wB f;rw[<-e];exact h
   rw[iO]at b|-;cases d:y==n with
   | true=>
    rw[d]at b;cases b;have i:c=.free:=by
     rw[mK,mK]at f;exact eq_of_beq f.1.1
    exact .inr #[by rw[i],zZ]
   |false=>rw[d]at b;exact g b
  .have b:List.lookup y ((n,c)::(r.map λ(n,k)=>if(k==NameKind.free&&a.scope.kind== .function&&a.kindOf n==some .cell)then(n,NameKind.cell)else(n,k)))=some k:=by
    have e:(if(c==NameKind.free&&a.scope.kind== .function&&a.kindOf n==some .cell)=true then(n,NameKind.cell)else(n,c))=(n,c):=wA f;rw[<-e];exact h
   rw[iO]at b|-;cases d:y==n with
   |true=>rw[d]at b;exact .inl b
   |false=>rw[d]at b;exact g b
noncomputable def xh(y:Str):Str:=#[#v[46]++y.cps]
noncomputable def gF(a:Ss)(y:Str):Str:=if a.contains y=true then xh y else y
structure CompScope(X:Cx)(vs:Ss)(sc:Scope):Prop where
 kind:sc.kind=.function
 cell:∀y∈sc.names,y.2≠ .cell
 locs:∀y∈sc.names,y.2=.local->sc.names.lookup y.1=some .local
 own:∀y∈X.N.map (gF vs),sc.names.lookup y≠some .local
 hid:∀y∈vs,sc.names.lookup (xh y)=none
 nd:(vs++X.N.map (gF vs)).Nodup
 free:∀y∈sc.names,y.2=.free->X.env.kindOf y.1=some .cell\/X.env.kindOf y.1=some .free
noncomputable def gy(X:Cx)(a:Ss)(b:Scope)(C:Ad)(s:Sh)(H:Hp)(c:As):Cx where
 prog:=X.prog
 w:=X.w
 K:=X.K
 mg:=X.mg
 base:=X.base
 A:=X.A
 N:=a++X.N.map (gF a)
 s₀:=s
 H₀:=H
 env:=compEnvC b (gA X.env b) C X.env
 outer:=X.stack
 stack:=X.stack
 ex:=c
 fn:=λ_=>false
 calm:=X.calm
 pn:=X.pn
 xe:=λ_ _=>False
noncomputable def iv(a:Ss)(b:St):St:=List.replicate a.length none++b
section
variable{h:St}
theorem MT{C:Ad}{L:As}{m0:SV}(S:CompScope X f a)(I:Inv X g h H s)(M:∀b∈L,FpOk X g H b)(ho:∀b∈L,∃o,s.heap.get? b=some o)(k:∀b o,s.heap.get? b=some o->E.get? b=some o) (N:E.Ns C m0) (G:s.heap.objs.size<=C):Inv (gy X f a C s H L) g (iv f h) H {s with heap:=E,toks:=tk}:=by
 have j:∀y c,(gA X.env a).lookup y=some c->X.env.cells.lookup y=some c:=sr a.names [] λy c e=>by simp at e
 have fr:=λy e=>S.free (y,.free) (om e) rfl;have O:=λy e=>I.ok.has y e;have l:∀{y} {J},(relabel a X.env).names.lookup y=some J->J=.cell\/J=.free->a.names.lookup y=some .free:=λ{y J} e hk=>by
  rcases uf e with z|⟨z,_⟩
  .rcases hk with q|q
   .subst q;exact wC zZ (S.cell _ (om z))
   .subst q;exact z
  .exact z
 have has:=λy e=>DE a.names [] y e (O y (fr y e));have aa:=λy c e=>let⟨_,z⟩:=I.cell y c e;z.lt
 have kc:∀{c v},s.heap.IsCell c v->E.IsCell c v:=λ{c v} ⟨o,e,d⟩=>#[o,k _ _ e,d];refine#[#[I.ok.mod,S.kind,I.ok.glob,I.ok.blt,G,λy z c Q T=>I.ok.inj y z c (j y c Q) (j z c T),λy hy=>?_,λy c z _=>(nomatch z),I.ok.hd,I.ok.frames,.inl zZ,λb A=>#[?_,λy c e=>?_],I.bs,dh I.ok.bsz I.sz,λb o e A=>?_,λb A hs=>?_,I.stack,I.stkFree],
  rfl,I.bare,Un.kept k,#[m0,N,λi y v e1 B e3=>?_],λy c e=>?_,I.hok.fresh G,λy c e=>I.freeC y c (j y c e),λp hp=>?_,I.hok.kept k,?_]
 .have U:=hy
  rcases U with z|z
  .exact has y (l z (.inl zZ))
  .exact has y (l z (.inr zZ))
 .obtain⟨o,e⟩:=ho b A;exact dq (eB (cK e) G)
 .exact(M b A).2.2.2.2.1 y c (j y c e)
 .obtain⟨_,_,_,z,_⟩:=M b A
  rcases z with z|z
  .exact I.ok.noex b o e z
  .exact wC (eB (cK (I.ok.bs b o e).1) z) (iG _)
 .obtain⟨_,Q,T,_⟩:=M b A
  rcases cP.mp (I.stkSub b hs)with z|z
  .exact Q z
  .exact T z
 .have t:(f++X.N.map (gF f))[i]?=some y:=e1;have w:(List.replicate f.length none++h)[i]?=some (some v):=B;have hi:f.length<=i:=by
   by_cases z:i<f.length
   .rw[d7 (by simpa using z),List.getElem?_replicate]at w;split at w<;>cases w
   .lia
  rw[eC hi]at t;rw[eC (by simpa using hi),List.length_replicate]at w;have yN:=cF t;have D:=e3;have x:a.names.lookup y=some .free:=by
   rcases D with z|z|z
   .rcases uf z with q|⟨_,q⟩
    .exact wC q (S.own y yN)
    .cases q
   .exact l z (.inl zZ)
   .exact l z (.inr zZ)
  have t:X.N[i-f.length]?=some y:=by
   rw[cz]at t;cases e:X.N[i-f.length]? with
   |none=>rw[e]at t;cases t
   | some y0=>
    rw[e]at t;have B:=fK t;unfold gF at B
    split at B
    .rename_i Y
     rw[<-B,S.hid y0 (by simpa using Y)]at x;cases x
    .rw[B]
  have ok:=fr y x;obtain⟨m,_,hl⟩:=I.loc;obtain⟨u,r,lk⟩:=hl (i-f.length) y v t w (.inr ok);refine#[u,r,?_]
  rcases lk with⟨q,_⟩|⟨_,c,ec,Y⟩
  .rcases ok with z|z<;>rw[z]at q<;>cases q
  .obtain⟨c',e'⟩:=has y x;have:=fK ((j y c' e').symm.trans ec);subst this;refine .inr #[?_,c',e',kc Y]
   rcases D with z|z|z
   .rcases uf z with q|⟨_,q⟩
    .exact wC q (S.own y yN)
    .cases q
   .exact .inl z
   .exact .inr z
 .obtain⟨v,z⟩:=I.cell y c (j y c e);exact#[v,kc z]
 .obtain⟨e,n,ne,nf,d⟩:=I.pin p hp;refine#[k _ _ e,n,dq (eB (cK e) G),λz=>?_,d]
  rcases cP.mp (I.stkSub p.1 z)with q|q
  .exact ne q
  .exact nf q
 .show(List.replicate f.length none++h).length=(f++X.N.map (gF f)).length;rw[di,di,CS,bW,I.len]
theorem Inv.adopt{a:Vs}(I:Inv X g h H s)(i:f.length<=sizeLine)(j:Vals f a)(k:H D=none)(e:s.heap.get? D=some {cls:= .type "list",data:= .seq a.toArray n})
  (l:X.s₀.heap.objs.size<=D) (r:D≠X.env.locals) (t:∀x c,X.env.cells.lookup x=some c->c≠D) (v:∀p∈X.pn++g,p.1≠D):Inv X g h (bT H D (.lst f)) s:=by
 have nd:∀b u,H b=some u->b≠D:=λb u q z=>by rw[z,k]at q;cases q
 have q:=I.step (H':=bT H D (.lst f)) (t':=s.toks) (d':=s.drawn) (ch:=[D]) (λb d=>by
   have z:b=D:=by simpa using d
   subst z;exact#[.inr l,r,t,v])
  (λb o _ _ _ e _=>e) (λb o _ _ _ e _=>#[o.slots,e]) (λb o d _ n=>by rw[bX (λz=>d (by simp[z]))];exact n) (λb o _ e=>#[o,e])
  (λb w q=>by rw[bX (nd b _ q)];exact q) (λb o u q=>by rw[bX (nd b _ q)];exact q) (λb A q=>#[#v[],by rw[bX (nd b _ q),q];simp]) (λm y=>y) (λb u q=>?_) I.bare
 .exact q
 .by_cases d:b=D
  .subst d;rw[bY]at q;cases q;exact#[i,a,n,j,e]
  .rw[bX d]at q;exact(I.hok b u q).stay (λ_ _ _ z=>z) (λc z=>by rw[bX (nd c _ z)];exact z) λc w z=>by rw[bX (nd c _ z)];exact z
end
def oH(X:Cx)(a:List Expr)(t:TT):Prop:=
 ∀(d:AO) (s:Sh) (b:St) (H:Hp) (Q:Bool->Hp->Prop),Inv X d b H s->t b H Q->
  wpAny (model X.prog X.w) X.A (forIn a true λc r=>if r=true then do let ok <-isTrue c X.env (eval c X.env);pure (ForInStep.yield ok)else pure (ForInStep.yield r)) (TP X d b Q) X.xe s
def vx:TT:=λ_ H Q=>Q true H
theorem jt{F G:Hp->Prop}(h:F H):vx c H (λb a=>if b=true then F a else G a):=by
 show(if true=true then F H else G H);exact fy h
theorem hZ:oH X [] vx:=λ_ _ _ H _ I h=>b9 #[H,I,h]
theorem zo(h:PT X c t):oH X [c] t:=λa s b H Q I q=>wpAny_tests_one (h a s b H Q I q)
theorem IB{a:Pg}{A:Ar}{R:Result->Sh->Prop}{o g:Vl}(j:Nat->Sh->Prop)(turn:∀n s,j n s->wpAny (model a w) A (pyNext o) (λr k=>match r with
   |none=>R (.ok .next) k
   | some v=>wpAny (model a w) A (letOwnedTupleGo l o v) (λ_ k=>wpAny (model a w) A (assign l b v) (λ_ u=>
     wpAny (model a w) A (forIn f true λc r=>if r=true then do let ok <-isTrue c b (eval c b);pure (ForInStep.yield ok)else pure (ForInStep.yield r)) (λok p=>
      if ok=true then wpAny (model a w) A (eval e b) (λy B=>wpAny (model a w) A (call (.builtin "list.append") [g,y]) (λ_ C=>∃m,m<n/\j m C) (λ_ _=>False) B) (λ_ _=>False) p
      else ∃m,m<n/\j m p) (λ_ _=>False) u) (λ_ _=>False) k) (λ_ _=>False) k) (λ_ _=>False) s)(n) (h:j n s):codeAny (model a w) A (.compLoop (.ListComp e [#[l,d,f,0]] t i) 0 o g b) R s:=by
 refine codeAny_loop zZ j (λn s H=>?_) n h;refine wpAny_noted (eZ (E:=λ_ _=>False) ?_ (λ_ _ q=>q) λ_ _ z=>z.elim);rw[compTurn_list];refine bU (uk (bU (cj (turn n s H) λr k D=>?_)));cases r with
 |none=>exact b9 D
 |some v=>
  refine bU (cj D λ_ u I=>bU (cj I λ_ p J=>bU (cj J λok B G=>?_)));cases ok with
  |false=>exact b9 #[zZ,G]
  |true=>exact bU (bU (cj G λy C L=>bU (cj L λ_ N M=>b9 (b9 #[zZ,M]))))
def sh(b a:St):Prop:=∀(i:Nat) v,b[i]?=some (some v)->a[i]?=some (some v)
theorem ie{a:St}:sh (none::a) (x::a):=λi v e=>by
 cases i with
 |zero=>cases e
 |succ i=>exact e
theorem Ms{a:St}:sh (none::none::a) (x::y::a):=λi v e=>by
 match i,e with
 |0,e=>cases e
 |1,e=>cases e
 |_+2,e=>exact e
section
variable{A:St}
def oN(l:Ss)(g:TG)(L:TT)(G:TE)(A:St)(J:It)(H:Hp)(Fin:List V->Hp->Prop):Prop:=
 ∃W:Nat->Nat->List V->Hp->Prop,(∃m,W 0 m [] H)/\∀i m c H,W i m c H->
  (J.stop i H/\c.length<=sizeLine/\Fin c H)\/(J.go i H/\c.length<sizeLine/\∃N:List V->Hp->Prop,(∀e d,N e d->∃f,f<m/\W (i+1) f e d)/\
   ∀v d,J.yld i H v d->g v (iv l A) d λa j=>sh (iv l A) a/\L a j λb h=>if b=true then G a h λy k=>N (c++[y]) k else N c h)
theorem Il{E:VP}{RR:Vl->Ad->Result->Sh->Prop}{Fin:List V->Hp->Prop}(S:CompScope X l k) (hc:X.calm=true) (hg:∀C s H h,PG (gy X l k C s H h) M g) (ht:∀C s H h,oH (gy X l k C s H h) q L) (he:∀C s H h,PE (gy X l k C s H h) t G)(I:Inv X w A H s) (T:Turn X.prog X.w X.K M J h it tn) (st:tn 0 s.heap) (hf:∀b∈h,FpOk X w H b) (hW:oN l g L G A J H Fin)(av:∀D C Q a U m',Inv X w A (bT a D (.lst U)) Q->a D=none->FpOk X w (bT a D (.lst U)) C->Q.heap.Ns C m'->Fin U a->RR (.ref D) C (.ok .next) Q):
  wpAny (model X.prog X.w) X.A (newList []) (λar s3=>wpAny (model X.prog X.w) X.A (newFunctionEnv k X.env.globals (gA X.env k) [] X.env.qual none .none (some X.env)) (λcenv s4=>
   codeAny (model X.prog X.w) X.A (.compStart (.ListComp t [#[M,f,q,0]] k B) 0 (.ref it) ar {cenv with scope:=relabel k X.env}) (RR ar cenv.locals) s4) E s3) E s:=by
 obtain⟨W,⟨m0,w0⟩,turn⟩:=hW;refine nq (wpAny_newFunctionEnv S.cell (by intro y hy;simp at hy) (λh1 ab Y=>?_) S.kind);dsimp only at ab Y|-;generalize am:s.heap.push {cls:= .type "list",dict:=none,data:= .seq ([]:Vs).toArray}=H2 at ab Y|-;have hC:H2.objs.size=s.heap.objs.size+1:=by rw[<-am,pW]
 generalize aI:H2.objs.size=C at ab Y hC|-;generalize ae:s.heap.objs.size=D at hC|-;have af:D≠C:=by lia
 have below:∀b o,s.heap.get? b=some o->b≠D/\b≠C:=λb o e=>by
  have z:=cK e;rw[ae]at z;exact#[dq z,dq (by rw[hC];exact x6 z)]
 have old:=λb o e=>Y.extBut b o (below b o e).2 (c7 _ (am▸c7 _ e));have aw:=
  Y.extBut _ _ af (c7 _ (by rw[<-am,<-ae];exact eQ _ zZ))
 have ai:∀b∈h,∃o,s.heap.get? b=some o:=λb m=>let⟨o,e,_⟩:=T.obj 0 _ st b m;#[o,e]
 have an:=λb m=>let⟨o,e⟩:=ai b m;below b o e
 have fD:∀a,a D=none->FpOk X w a D:=λa n=>I.fpOk () n;have fC:∀a,a C=none->FpOk X w a C:=λa n=>I.fpOk () n;have ax:=λp hp=>(below _ _ (I.pin p hp).1).1;have ao:∀y c,(gA X.env k).lookup y=some c->c≠D:=λy c e=>by
  have e':=sr k.names [] (λy c e=>by simp at e) y c e;obtain⟨v,z⟩:=I.cell y c e';have z':c<s.heap.objs.size:=z.lt;rw[ae]at z';exact dq z'
 have ay:∀b,b∈cV X.stack->∃o,s.heap.get? b=some o:=λb m=>let⟨_,o,ho,_⟩:=I.stack.mem m;#[o,ho]
 have az:D∉cV X.stack:=λz=>let⟨o,e⟩:=ay D z;(below _ _ e).1 rfl
 have ap:∀{pl:AO} {a:Hp},(∀p∈pl,p.1=D)->(∀b∈h,a b=none)->∀b∈h,FpOk (gy X l k C s H h) (w++pl) a b:=λ{pl a} aA hn b m=>by
  obtain⟨_,q1,q2,q3,q4,q5⟩:=hf b m;refine#[hn b m,(an b m).2,λz=>?_,.inl m,λy c e=>q4 y c (sr k.names [] (λy c e=>by simp at e) y c e),λp hp=>?_]
  .rcases cP.mp (I.stkSub b z)with y|y
   .exact q1 y
   .exact q2 y
  .rcases cW.mp hp with z|z
   .exact q5 p (mM _ z)
   .rcases cW.mp z with y|y
    .exact q5 p (dY _ y)
    .rw[aA p y];exact dG (an b m).1
 have aj:∀s3:Sh,s3={s with heap:=h1,toks:=s.toks+([]:List (Str×Vl)).length}->
   codeAny (model X.prog X.w) X.A (.compLoop (.ListComp t [#[M,f,q,0]] k B) 0 (.ref it) (.ref D) (compEnvC k (gA X.env k) C X.env)) (RR (.ref D) C) s3:=by
  rintro s3 rfl;have I0:Inv (gy X l k C s H h) w (iv l A) H {s with heap:=h1,toks:=s.toks+([]:List (Str×Vl)).length}:=MT S I hf ai old ab ();refine IB (λn Q=>∃i U j no a,Inv (gy X l k C s H h) w (iv l A) a Q/\tn i Q.heap/\(∀b∈h,a b=none)/\a D=none/\
   Q.heap.get? D=some {cls:= .type "list",data:= .seq j.toArray no}/\Vals U j/\W i n U a) ?_ m0
   #[0,[],[],0,H,I0,T.keep 0 _ _ st λb m o e=>old b o e,λb m=>(hf b m).1,I.hok.fresh (),aw,.nil,w0]
  rintro n Q ⟨i,U,j,no,a,I1,as,au,ag,aB,ah,w1⟩;have ak:Inv (gy X l k C s H h) (w++[(D,{cls:= .type "list",data:= .seq j.toArray no})]) (iv l A) a Q:=I1.pins_of λp hp=>by
   rcases cW.mp hp with z|z
   .exact I1.pin p (dY _ z)
   .have e:p=(D,{cls:= .type "list",data:= .seq j.toArray no}):=by simpa using z
    subst e;exact#[aB,ag,af,az,λv z=>by have z':Data.seq _ _=Data.cell v:=z;cases z']
  have O:∀p∈[((D,{cls:= .type "list",data:= .seq j.toArray no}):Ad×Obj)],p.1=D:=λp hp=>by
   have e:p=(D,{cls:= .type "list",data:= .seq j.toArray no}):=by simpa using hp
   rw[e]
  rcases turn i n U a w1 with⟨stop,hz,fin⟩|⟨go,hz,N,hN,step⟩
  .refine cj (T.done (gy X l k C s H h) zZ zZ zZ hc i _ Q _ a (λ_ _=>False) ak (ap O au) as stop) λr s4 ⟨hr,I4⟩=>?_;subst hr;have d4:s4.heap.get? D=some {cls:= .type "list",data:= .seq j.toArray no}:=(I4.pin (D,_) (dY _ (dY _ (dy ..)))).1;have Io:Inv X w A a s4:=I.call' (H':=a) (ch:=h) I4.os I4.base I4.hok I4.bare λb m=>by
    obtain⟨_,q1,_,q3,q4,q5⟩:=hf b m;exact#[q3,q1,q4,q5]
   obtain⟨_,a1,_,a3,a4,a5⟩:=fD a ag;have Ia:=Io.adopt hz ah ag d4 (dh I.sz ()) a1 a4 a5;obtain⟨m4,aC,_⟩:=I4.loc;refine av D C s4 a U m4 Ia ag (fC _ ?_) aC fin;rw[bX (dG af)];exact I4.free
  .refine cj (T.item (gy X l k C s H h) zZ zZ zZ hc i _ Q _ a (λ_ _=>False) ak (ap O au) as go) λr s4 ⟨u,hr,h4⟩=>?_;subst hr;refine cj h4 λ_ s5 ⟨x,H5,I5,r5,y5,aq,aD⟩=>?_;have aE:=I5.pinned (ap O aD) (T.obj _ _ aq);refine cj (hg C s H h _ s5 _ H5 x u _ aE r5 (step x H5 y5)) λ_ s6 ⟨aa,H6,I6,k6,q6⟩=>?_;refine cj (ht C s H h _ s6 aa H6 _ I6 q6) λok s7 ⟨H7,I7,q7⟩=>?_;have al:(iv l A).length=aa.length:=by rw[I1.len,I6.len]
   have pinned:∀{H8:Hp} {s8:Sh},Inv (gy X l k C s H h) (w++[(D,{cls:= .type "list",data:= .seq j.toArray no})]++v0 h s5.heap) aa H8 s8->
     tn (i+1) s8.heap/\(∀b∈h,H8 b=none)/\H8 D=none/\s8.heap.get? D=some {cls:= .type "list",data:= .seq j.toArray no}:=λ{H8 s8} I8=>by
    refine#[T.keep _ _ _ aq λb m o e=>(I8.pin (b,o) (dY _ (dY _ (v6 m e)))).1,λb m=>?_,?_,?_]
    .obtain⟨o,e,d⟩:=T.obj _ _ aq b m;exact(I8.pin (b,o) (dY _ (dY _ (v6 m e)))).2.1
    .exact(I8.pin (D,_) (dY _ (mM _ (dY _ (dy ..))))).2.1
    .exact(I8.pin (D,_) (dY _ (mM _ (dY _ (dy ..))))).1
   cases ok with
   |false=>
    rw[wA (by decide)]at q7|-;obtain⟨m',hm,w7⟩:=hN _ _ q7;obtain⟨a1,a2,a3,a4⟩:=pinned I7;exact#[m',hm,i+1,U,j,no,H7,(I7.unpinned.unpinned).weak al k6,a1,a2,a3,a4,ah,w7]
   | true=>
    rw[wB zZ]at q7|-;refine cj (he C s H h _ s7 aa H7 _ I7 q7) λyv s8 ⟨y,H8,I8,r8,n8⟩=>?_;obtain⟨m',hm,w8⟩:=hN _ _ n8;obtain⟨a1,a2,a3,a4⟩:=pinned I8;have aF:j.toArray.size<=sizeLine:=by
     have:=ah.length;rw[eF];lia
    refine wpAny_list_append_plain #[no,a4] (λh' pl sb=>?_) aF;obtain⟨aG,aH⟩:=pl;have I9:Inv (gy X l k C s H h) w aa H8 {s8 with heap:=h'}:=(I8.unpinned.unpinned).turned (t':=s8.toks) (it:=D) (λb o m e=>(sb.2 b m).trans e) a3 af (.inr (ql ae)) ao ax;refine#[m',hm,i+1,U++[y],j++[yv],aG,H8,I9.weak al k6,T.keep _ _ _ a1 λb m o e=>(sb.2 b (an b m).1).trans e,a2,a3,?_,ah.append (.cons r8 .nil),w8];rw[aH]
    simp
 exact codeAny_compStart_list (aj _ zZ) (T.self _ 0 _ _ _ (T.keep 0 _ _ st λb m o e=>old b o e) (aj _ zZ))
def t9(l:Ss)(b:TI)(g:TG)(L:TT)(G:TE):TE:=λA H Q=>b A H λJ c=>oN l g L G A J c λd a=>∀p,a p=none->Q (.ref p) (bT a p (.lst d))
theorem CompScope.clos(S:CompScope X l k)(I:Inv X w A H s):closureFor k X.env=pure (gA X.env k):=
 Ju λy a b=>I.ok.has y.1 (S.free y a b)
theorem HA(S:CompScope X l k)(j:X.calm=true)(m:PI X M f i)(n:∀C s H a,PG (gy X l k C s H a) M g)(ht:∀C s H a,oH (gy X l k C s H a) q L)(p:∀C s H a,PE (gy X l k C s H a) t G) (r:∀x,foldedSetIterable f X.env x=pure x:=by intro _;rfl):PE X (.ListComp t [#[M,f,q,0]] k B) (t9 l i g L G):=by
 intro w s A H Q I h;rw[eval_ListComp];refine Dw zZ r (S.clos I) S.kind S.locs (cj (m w s A H _ I h) λv s1 u=>cj u λy s2 z=>?_);obtain⟨it,a,tn,J,H2,e,E,T,c,N,O⟩:=z;subst e;refine Il S j n ht p E T c N O λD C U H' ys Y I' hD fC ns fin=>?_;obtain⟨c0,c1,c2,c3,c4,c5⟩:=fC;refine#[Y,ns,λh' sb=>#[.ref D,_,?_,zZ,fin D hD]];exact I'.turned (λb o hb e=>(sb.2 b hb).trans e) c0 c1 c3 c4 c5
theorem JE(S:CompScope X [x] k)(a:k.names.lookup x=some .local):∀C s H b,PG (gy X [x] k C s H b) (.Name x p) (ge 0):=λC s H b=>
 fB S.nd zZ (.inl (vi a)) (.inr (vi a))
theorem iu(S:CompScope X [x] k)(c:X.calm=true)(d:k.names.lookup x=some .local)(e:PI X (.Name x p) f b)(ht:∀C s H a,oH (gy X [x] k C s H a) q L)(g:∀C s H a,PE (gy X [x] k C s H a) t G) (h:∀x,foldedSetIterable f X.env x=pure x:=by intro _;rfl):PE X (.ListComp t [#[.Name x p,f,q,0]] k B) (t9 [x] b (ge 0) L G):=
 HA S c e (JE S d) ht g h
theorem P4{d c:Pos}(S:CompScope X l k)(hc:X.calm=true)(hN:X.N.Nodup)(hj:X.N[j]?=some y)(U:X.env.scope.names.lookup y=some .local)(hi:PI X M f O)(hg:∀C s H i,PG (gy X l k C s H i) M g)(ht:∀C s H i,oH (gy X l k C s H i) q L)(he:∀C s H i,PE (gy X l k C s H i) t G) (p:swapsWith (.ListComp t [#[M,f,q,0]] k B) (some (.Name y d)) c.line X.env=pure true:=by rfl) (hs:∀x,foldedSetIterable f X.env x=pure x:=by intro _;rfl):
  PS X (.Assign [.Name y d] (.ListComp t [#[M,f,q,0]] k B) c) (nh (t9 l O g L G) (ge j)):=by
 intro w s A H D I h;rw[exec_Assign_Name_used _ _ _ _ p];refine bU (uk (bU ?_));refine bU (eZ (Dw zZ hs (S.clos I) S.kind S.locs (cj (hi w s A H _ I h) λv s1 h1=>cj h1 λaa s2 h2=>?_)) (λ_ m hq=>b9 (b9 hq)) λ_ _ e=>e);obtain⟨it,i,tn,J,H2,e,I2,T,r,f2,hW⟩:=h2;subst e;refine Il S hc hg ht he I2 T r f2 hW λn C m H' ys m' I' hD fC ns fin=>?_;obtain⟨c0,Y,c2,c3,c4,c5⟩:=fC;refine ED (Fq (v:= .ref n) I' hN hj (.inl U) (rfl) (λs3 I3 ⟨a,sb,ha⟩=>?_) (.inr U));have E:a≠C:=by
  rcases ha with z|z
  .rw[z];exact dG Y
  .exact c4 y a z
 refine#[m',ns.sameBut sb (dG E),λh' N=>#[_,_,I3.turned (λb o hb e=>(N.2 b hb).trans e) c0 Y c3 c4 c5,fin n hD]]
theorem AU{p e a:Pos}(S:CompScope X [x] k)(g:X.calm=true)(h:k.names.lookup x=some .local)(i:X.N.Nodup)(l:X.N[j]?=some y)(m:X.env.scope.names.lookup y=some .local)(n:PI X (.Name x p) f d)(ht:∀C s H b,oH (gy X [x] k C s H b) q L) (o:∀C s H b,PE (gy X [x] k C s H b) t G)(c:swapsWith (.ListComp t [#[.Name x p,f,q,0]] k B) (some (.Name y e)) a.line X.env=pure true:=by rfl) (r:∀x,foldedSetIterable f X.env x=pure x:=by intro _;rfl):
  PS X (.Assign [.Name y e] (.ListComp t [#[.Name x p,f,q,0]] k B) a) (nh (t9 [x] d (ge 0) L G) (ge j)):=P4 S g i l m n (JE S h) ht o c r
end
section
variable{K:R6}{c:St}{Fin:List V->Hp->Prop}
theorem Hg(Pv:Nat->List V->Hp->Prop)(B:xs.length<=sizeLine)(o:Pv 0 [] H)(r:∀i f H,i<=xs.length->Pv i f H->SqT K H a xs/\f.length<=i)(s:∀i v f H,xs[i]?=some v->Pv i f H->g v (iv h c) H λk t=>sh (iv h c) k/\j k t λb n=>if b=true then d k n λy u=>Pv (i+1) (f++[y]) u else Pv (i+1) f n)(w:∀f H,Pv xs.length f H->Fin f H):oN h g j d c (AE K a) H Fin:=by
 refine#[λi m f H=>m=xs.length-i/\i<=xs.length/\Pv i f H,#[xs.length,by simp,Nat.zero_le _,o],?_];rintro i m f H ⟨rfl,x,p⟩;obtain⟨q,C⟩:=r i f H x p;by_cases l:i<xs.length
 .refine .inr #[#[xs,xs[i],q,by simp[l]],(),Pv (i+1),λD z A=>#[xs.length-(i+1),Nat.sub_succ_lt_self _ _ l,zZ,l,A],λv z y=>?_];obtain⟨e,y⟩:=y;subst e;exact s i v f _ (y xs q) p
 .have e:i=xs.length:=by lia
  subst e;exact .inl #[#[xs,q,cg _],(),w f H p]
theorem mG(Pv:Nat->List V->Hp->Prop)(B:xs.length<=sizeLine)(o:Pv 0 [] H)(r:∀i f H,i<=xs.length->Pv i f H->SqL K H a xs/\f.length<=i)(s:∀i v f H,xs[i]?=some v->Pv i f H->g v (iv h c) H λk t=>sh (iv h c) k/\j k t λb n=>if b=true then d k n λy u=>Pv (i+1) (f++[y]) u else Pv (i+1) f n)(w:∀f H,Pv xs.length f H->Fin f H):oN h g j d c (sk K a) H Fin:=by
 refine#[λi m f H=>m=xs.length-i/\i<=xs.length/\Pv i f H,#[xs.length,by simp,Nat.zero_le _,o],?_];rintro i m f H ⟨rfl,x,p⟩;obtain⟨q,C⟩:=r i f H x p;by_cases l:i<xs.length
 .refine .inr #[#[xs,xs[i],q,by simp[l]],(),Pv (i+1),λD z A=>#[xs.length-(i+1),Nat.sub_succ_lt_self _ _ l,zZ,l,A],λv z y=>?_];obtain⟨e,y⟩:=y;subst e;exact s i v f _ (y xs q) p
 .have e:i=xs.length:=by lia
  subst e;exact .inl #[#[xs,q,cg _],(),w f H p]
theorem yI{lo:Int}(Pv:Nat->List V->Hp->Prop)(A:n<=sizeLine)(o:Pv 0 [] H)(q:∀i a H,i<=n->Pv i a H->a.length<=i)(r:∀i a H,i<n->Pv i a H->g (.int (lo+i)) (iv h c) H λk s=>sh (iv h c) k/\j k s λb l=>if b=true then d k l λy t=>Pv (i+1) (a++[y]) t else Pv (i+1) a l)(u:∀a H,Pv n a H->Fin a H):oN h g j d c (qx lo n) H Fin:=by
 refine#[λi m a H=>m=n-i/\i<=n/\Pv i a H,#[n,by simp,Nat.zero_le _,o],?_];rintro i m a H ⟨rfl,w,p⟩;have B:=q i a H w p;by_cases f:i<n
 .refine .inr #[f,(),Pv (i+1),λC x z=>#[n-(i+1),Nat.sub_succ_lt_self _ _ f,zZ,f,z],λv x y=>?_];obtain⟨e,y⟩:=y;subst e y;exact r i a _ f p
 .have e:i=n:=by lia
  subst e;exact .inl #[cg _,(),u a H p]
theorem yO(k:xs.length<=sizeLine)(l:SqT K H a xs)(m:∀v Q,v∈xs->Q (f v) H->d (some v::c) H Q)(n:Fin (xs.map f) H):
  oN [x] (ge 0) vx d c (AE K a) H Fin:=by
 refine Hg (λi g h=>h=H/\g=(xs.take i).map f) k #[zZ,zZ] (λi g h o ⟨e,b⟩=>?_) (λi v g h j ⟨e,b⟩=>#[ie,?_]) (λg h ⟨e,b⟩=>?_)
 .subst e b;exact#[l,by simp;lia]
 .subst e b;refine jt (m v _ (cF j) #[zZ,?_]);rw[i8,j,dH];rfl
 .subst e b;rw[gW];exact n
theorem Pu(k:xs.length<=sizeLine)(l:SqL K H a xs)(m:∀v Q,v∈xs->Q (f v) H->d (some v::c) H Q)(n:Fin (xs.map f) H):
  oN [x] (ge 0) vx d c (sk K a) H Fin:=by
 refine mG (λi g h=>h=H/\g=(xs.take i).map f) k #[zZ,zZ] (λi g h o ⟨e,b⟩=>?_) (λi v g h j ⟨e,b⟩=>#[ie,?_]) (λg h ⟨e,b⟩=>?_)
 .subst e b;exact#[l,by simp;lia]
 .subst e b;refine jt (m v _ (cF j) #[zZ,?_]);rw[i8,j,dH];rfl
 .subst e b;rw[gW];exact n
theorem Pd{lo:Int}(h:n<=sizeLine)(j:∀i Q,i<n->Q (f i) H->d (some (.int (lo+(i:Nat)))::c) H Q)(k:Fin ((List.range n).map f) H):
  oN [x] (ge 0) vx d c (qx lo n) H Fin:=by
 refine yI (λi b g=>g=H/\b=(List.range i).map f) h #[zZ,zZ] (λi b g m ⟨e,a⟩=>?_) (λi b g l ⟨e,a⟩=>#[ie,?_]) (λb g ⟨e,a⟩=>?_)
 .subst e a;simp
 .subst e a;refine jt (j i _ l #[zZ,?_]);rw[List.range_succ,dH];rfl
 .subst e a;exact k
end
inductive Dt where
 |non|int (i:Int)|str (x:Str)|lst (ds:List Dt)|tup (ds:List Dt)
inductive Rep (K:R6) (H:Hp):Nat->Dt->V->Prop where
 |non (n:Nat):Rep K H n .non .non
 |int (n:Nat) (i:Int):Rep K H n (.int i) (.int i)
 |str (n:Nat) (x:Str):Rep K H n (.str x) (.str x)
 |lst {n:Nat} {ds:List Dt} {a:Ad} {xs:List V} (h:SqL K H a xs) (hl:xs.length=ds.length) (hi:∀(i:Nat) d v,ds[i]?=some d->xs[i]?=some v->Rep K H n d v):Rep K H (n+1) (.lst ds) (.ref a)
 |tup {n:Nat} {ds:List Dt} {a:Ad} {xs:List V} (h:SqT K H a xs) (hl:xs.length=ds.length) (hi:∀(i:Nat) d v,ds[i]?=some d->xs[i]?=some v->Rep K H n d v):Rep K H (n+1) (.tup ds) (.ref a)
theorem yW{e:Type}{c d:List e}(f:c.length=d.length)(h:∀(i:Nat) a b,c[i]?=some a->d[i]?=some b->a=b):c=d:=by
 refine BL f λi g j=>h i _ _ (by simp[g]) (by simp[j])
section
variable{X:Cx}{c:AO}{k:St}{H:Hp}{s:Sh}
theorem JB(I:Inv X c k H s)(h:SqL X.K H a b)(e:SqT X.K H a d):False:=by
 obtain⟨_,_,p,_⟩:=I.list h;obtain⟨_,_,q,_⟩:=I.tuple e;exact SeqAt.ne_of_list_tuple p.isList (q) rfl
theorem Eh(I:Inv X c k H s):∀n {d f} {v},Rep X.K H n d v->Rep X.K H n f v->d=f:=by
 intro n
 induction n with
 |zero=>
  intro d f v r g;cases r<;>cases g<;>rfl
 | succ n y=>
  intro d f v r g;cases r with
  |non=>cases g;rfl
  |int=>cases g;rfl
  |str=>cases g;rfl
  | @lst _ z a j h p t=>
   cases g with
   | @lst _ u _ w l m o=>
    have e:=I.list_inj h l;subst e;refine de Dt.lst (yW (p.symm.trans m) λi d f q x=>?_);have b:i<j.length:=by rw[p];exact(cf.mp q).1
    exact y (t i d j[i] q (b7 b)) (o i f j[i] x (b7 b))
   |tup l _ _=>exact(JB I h l).elim
  | @tup _ z a j h p t=>
   cases g with
   |lst l _ _=>exact(JB I l h).elim
   | @tup _ u _ w l m o=>
    have e:=I.tuple_inj h l;subst e;refine de Dt.tup (yW (p.symm.trans m) λi d f q x=>?_);have b:i<j.length:=by rw[p];exact(cf.mp q).1
    exact y (t i d j[i] q (b7 b)) (o i f j[i] x (b7 b))
theorem Iu{f c:List Dt}(n:f.length=c.length)(o:N=f.length)(k:∀j d l,f[j]?=some d->c[j]?=some l->(e j=true↔d=l)):((List.range N).all e=true↔f=c):=by
 subst o;rw[rj];constructor
 .intro h;refine yW n λi a b m p=>(k i a b m p).mp (h i (ft.mpr (cf.mp m).1))
 .intro h i q;have g:=ft.mp q;subst h;exact(k i f[i] f[i] (by simp[g]) (by simp[g])).mpr rfl
theorem Lc{P:Nat->Bool->Prop}(h:∀j,∃b,P j b):∃e:Nat->Bool,∀j,P j (e j):=#[λj=>Classical.choose (h j),λj=>r9 (h j)]
theorem G8{A:Ar}{its its':Vs}{ds ds':List Dt}(n:its.length=ds.length)(o:its'.length=ds'.length)(h:∀(j:Nat) u f d a,its[j]?=some u->its'[j]?=some f->ds[j]?=some d->ds'[j]?=some a->∃b,SeqAt.EqAt A s u f b/\(b=true↔d=a)):
  ∃e:Nat->Bool,(∀j i (g2:j<its'.toArray.size),SeqAt.EqAt A s its.toArray[j] its'.toArray[j] (e j))/\∀j d a,ds[j]?=some d->ds'[j]?=some a->(e j=true↔d=a):=by
 obtain⟨e,k⟩:=Lc (P:=λj b=>(∀u f,its[j]?=some u->its'[j]?=some f->SeqAt.EqAt A s u f b)/\∀d a,ds[j]?=some d->ds'[j]?=some a->(b=true↔d=a)) λj=>by
  by_cases g:j<its.length/\j<its'.length
  .obtain⟨b,l,m⟩:=h j its[j] its'[j] (ds[j]'()) (ds'[j]'()) (by simp[g.1]) (by simp[g.2]) (List.getElem?_eq_getElem _) (List.getElem?_eq_getElem _);refine#[b,λu f q c=>?_,λd a q c=>?_]
   .rw[b7 g.1]at q;rw[b7 g.2]at c;cases q;cases c;exact l
   .rw[b7 ()]at q;rw[b7 ()]at c;cases q;cases c;exact m
  .refine#[true,λu f q c=>wC #[(cf.mp q).1,(cf.mp c).1] g,λd a q c=>?_];have p:=(cf.mp q).1;have r:=(cf.mp c).1;exact wC #[(),()] g
 refine#[e,λj i g2=>?_,λj=>(k j).2];exact(k j).1 _ _ (by simp[i]) (by simp[g2])
theorem CO(I:Inv X c k H s){A:Ar}(m:A.units<cLine)(r:Rep X.K H (n+1) d (.ref a))(r':Rep X.K H (n+1) o (.ref t))(ih:∀{d o} {v v'} {u N},Rep X.K H n d v->Rep X.K H n o v'->RelV v u->RelV v' N->∃b,SeqAt.EqAt A.in1 s u N b/\(b=true↔d=o)):
  ∃b,SeqAt.RcAt A s (.ref a) (.ref t) b/\SeqAt.RcNeAt A s (.ref a) (.ref t) (!b)/\(b=true↔d=o):=by
 cases r with
 | @lst _ ds _ y h hl O=>
  obtain⟨its,B,p,_⟩:=I.list h;have l1:=B.length;cases r' with
  | @lst _ ds' _ f w x l=>
   obtain⟨its',g,i,_⟩:=I.list w;have l2:=g.length;by_cases C:ds.length=ds'.length
   .obtain⟨e,D,Q⟩:=G8 (A:=A.in1) (s:=s) (its:=its) (its':=its') (ds:=ds) (ds':=ds') () () λj u N d o T U E G=>by
     have g1:=(cf.mp E).1;have g2:=(cf.mp G).1;have J:y[j]?=some (y[j]'()):=b7 _;have k2:f[j]?=some (f[j]'()):=b7 _;obtain⟨w1,L,Y⟩:=B.get J;obtain⟨w2,M,y2⟩:=g.get k2;rw[T]at L;rw[U]at M;cases L;cases M;exact ih (O j d _ E J) (l j o _ G k2) Y y2
    have q:its.toArray.size=its'.toArray.size:=by simp only[List.size_toArray];lia
    refine#[_,SeqAt.RcAt.lists p.isList i.isList q m D,SeqAt.RcNeAt.lists p.isList i.isList q m D,?_];rw[Iu C (by simp only[List.size_toArray];lia) Q];exact#[λz=>by rw[z],λz=>by cases z;rfl]
   .have q:(its.toArray.size != its'.toArray.size)=true:=by
     rw[bne_iff_ne];simp only[List.size_toArray];lia
    refine#[false,SeqAt.RcAt.lists_lengths p.isList i.isList q m,SeqAt.RcNeAt.lists_lengths p.isList i.isList q m,#[λz=>(by cases z),λz=>?_]];cases z;exact wC zZ C
  | @tup _ ds' _ f w x l=>
   obtain⟨its',g,i,_⟩:=I.tuple w;exact#[false,SeqAt.RcAt.list_tuple p.isList (i) m,SeqAt.RcNeAt.list_tuple p.isList (i) m,#[λz=>(by cases z),λz=>(by cases z)]]
 | @tup _ ds _ y h hl O=>
  obtain⟨its,B,p,_⟩:=I.tuple h;have l1:=B.length;cases r' with
  | @lst _ ds' _ f w x l=>
   obtain⟨its',g,i,_⟩:=I.list w;exact#[false,SeqAt.RcAt.tuple_list (p) i.isList m,SeqAt.RcNeAt.tuple_list (p) i.isList m,#[λz=>(by cases z),λz=>(by cases z)]]
  | @tup _ ds' _ f w x l=>
   obtain⟨its',g,i,_⟩:=I.tuple w;have l2:=g.length;obtain⟨e,D,Q⟩:=G8 (A:=A.in1) (s:=s) (its:=its) (its':=its') (ds:=ds) (ds':=ds') () () λj u N d o T U E G=>by
     have g1:=(cf.mp E).1;have g2:=(cf.mp G).1;have J:y[j]?=some (y[j]'()):=b7 _;have k2:f[j]?=some (f[j]'()):=b7 _;obtain⟨w1,L,Y⟩:=B.get J;obtain⟨w2,M,y2⟩:=g.get k2;rw[T]at L;rw[U]at M;cases L;cases M;exact ih (O j d _ E J) (l j o _ G k2) Y y2
   refine#[_,SeqAt.RcAt.tuples (p) (i) m D,SeqAt.RcNeAt.tuples (p) (i) m D,?_];by_cases C:ds.length=ds'.length
   .have q:(its.toArray.size==its'.toArray.size)=true:=by
     rw[mj];simp only[List.size_toArray];lia
    rw[q,Bool.and_true,Iu C (by simp only[List.size_toArray];lia) Q];exact#[λz=>by rw[z],λz=>by cases z;rfl]
   .have q:(its.toArray.size==its'.toArray.size)=false:=by
     rw[oq];simp only[List.size_toArray];lia
    rw[q,Bool.and_false];refine#[λz=>(by cases z),λz=>?_];cases z;exact wC zZ C
theorem Jx(r:Rep X.K H n d v)(c:Rep X.K H m b a)(f:jr v=true)(e:jr a=true):(nY v a=true↔d=b):=by
 cases r<;>first|(cases f;done)|skip
 all_goals (cases c<;>first|(cases e;done)|skip)
 all_goals first|exact#[λ_=>rfl,λ_=>rfl]|exact#[λz=>Bool.noConfusion z,λz=>by cases z]|exact#[λz=>de Dt.int (eq_of_beq z),λz=>by injection z with z;exact mj.mpr z]|exact#[λz=>de Dt.str (eq_of_beq z),λz=>by injection z with z;exact mj.mpr z]
theorem xX(I:Inv X c k H s):∀n {A:Ar},A.units+n<cLine->∀{d y} {v o} {u B},Rep X.K H n d v->Rep X.K H n y o->RelV v u->RelV o B->∃b,SeqAt.EqAt A s u B b/\(b=true↔d=y):=by
 intro n
 induction n with
 |zero=>
  intro A M d y v o u B r g q j;have f:jr v=true:=by cases r<;>rfl
  have e:jr o=true:=by cases g<;>rfl
  exact#[_,AQ q j f e,Jx r g f e]
 | succ n N=>
  intro A M d y v o u B r g q j;by_cases f:jr v=true
  .by_cases e:jr o=true
   .exact#[_,AQ q j f e,Jx r g f e]
   .refine#[false,?_,#[λz=>(by cases z),λz=>?_]]
    .cases g with
     |non=>exact wC zZ e
     |int=>exact wC zZ e
     |str=>exact wC zZ e
     | @lst _ C a D h E G=>
      cases j;obtain⟨l,_,p,_⟩:=I.list h;cases r with
      |non=>cases q;exact SeqAt.EqAt.none_list p.isList ()
      |int _ i=>obtain⟨t,rfl⟩:=q;exact SeqAt.EqAt.int_list i t p.isList ()
      |str _ x=>obtain⟨t,rfl⟩:=q;exact SeqAt.EqAt.str_list x t p.isList ()
      |lst _ _ _=>cases f
      |tup _ _ _=>cases f
     | @tup _ C a D h E G=>
      cases j;obtain⟨l,_,p,_⟩:=I.tuple h;have w:=p;cases r with
      |non=>cases q;exact SeqAt.EqAt.none_tuple w ()
      |int _ i=>obtain⟨t,rfl⟩:=q;exact SeqAt.EqAt.int_tuple i t w ()
      |str _ x=>obtain⟨t,rfl⟩:=q;exact SeqAt.EqAt.str_tuple x t w ()
      |lst _ _ _=>cases f
      |tup _ _ _=>cases f
    .subst z;cases r<;>first|(cases f;done)|skip
     all_goals (cases g;exact wC zZ e)
  .by_cases e:jr o=true
   .refine#[false,?_,#[λz=>(by cases z),λz=>?_]]
    .cases r with
     |non=>exact wC zZ f
     |int=>exact wC zZ f
     |str=>exact wC zZ f
     | @lst _ C a D h E G=>
      cases q;obtain⟨l,_,p,_⟩:=I.list h;cases g with
      |non=>cases j;exact SeqAt.EqAt.list_none p.isList ()
      |int _ i=>obtain⟨t,rfl⟩:=j;exact SeqAt.EqAt.list_int i t p.isList ()
      |str _ x=>obtain⟨t,rfl⟩:=j;exact SeqAt.EqAt.list_str x t p.isList ()
      |lst _ _ _=>cases e
      |tup _ _ _=>cases e
     | @tup _ C a D h E G=>
      cases q;obtain⟨l,_,p,_⟩:=I.tuple h;have w:=p;cases g with
      |non=>cases j;exact SeqAt.EqAt.tuple_none w ()
      |int _ i=>obtain⟨t,rfl⟩:=j;exact SeqAt.EqAt.tuple_int i t w ()
      |str _ x=>obtain⟨t,rfl⟩:=j;exact SeqAt.EqAt.tuple_str x t w ()
      |lst _ _ _=>cases e
      |tup _ _ _=>cases e
    .subst z;cases g<;>first|(cases e;done)|skip
     all_goals (cases r;exact wC zZ f)
   .have J:∀{m:Nat} {d:Dt} {v:V},Rep X.K H m d v-> ¬jr v=true->∃a,v=.ref a:=λ{m d v} r f=>by
     cases r<;>first|exact#[_,zZ]|exact wC zZ f
    obtain⟨a,rfl⟩:=J r f;obtain⟨O,rfl⟩:=J g e;cases q;cases j;by_cases L:a=O
    .subst L;exact#[true,SeqAt.EqAt.same _,#[λ_=>Eh I (n+1) r g,λ_=>rfl]]
    .obtain⟨b,Q,_,T⟩:=CO I (A:=A) () r g λr g q j=>N (A:=A.in1) (by lia) r g q j;exact#[b,.of_refs L Q,T]
inductive lC(K:R6)(c:Bool)(x y:V)(H:Hp)(Q:VK):Prop|mk:∀a e n d f,x=.ref a->y=.ref e->Rep K H (n+1) d (.ref a)->Rep K H (n+1) f (.ref e)->n<=30->(∀b,(b=true↔d=f)->Q (.bl (if c then !b else b)) H)->lC K c x y H Q
theorem DR(m:X.A.units+64<cLine):OpR X (compareOp .Eq) (lC X.K false):=by
 intro c s k H x y v u Q I f g h;obtain⟨a,o,n,d,p,rfl,rfl,r,e,t,q⟩:=h;cases f;cases g;obtain⟨b,i,_,j⟩:=CO I () r e λr e q l=>xX I n (A:=X.A.in1) (by lia) r e q l;exact i _ _ _ _ #[.bl b,H,I,zZ,q b j]
theorem zX(m:X.A.units+64<cLine):OpR X (compareOp .NotEq) (lC X.K true):=by
 intro c s k H x y v u Q I f g h;obtain⟨a,o,n,d,p,rfl,rfl,r,e,t,q⟩:=h;cases f;cases g;obtain⟨b,_,i,j⟩:=CO I () r e λr e q l=>xX I n (A:=X.A.in1) (by lia) r e q l;exact i _ _ _ _ #[.bl (!b),H,I,zZ,q b j]
end
theorem QK{K:R6}{is:Zs}(i:Nat)(d)(v)(a:(is.map Dt.int)[i]?=some d)(b:(is.map V.int)[i]?=some v):Rep K H n d v:=by
 rw[cz]at a b;cases e:is[i]? with
 |none=>rw[e]at a;cases a
 |some k=>
  rw[e]at a b;cases a;cases b;exact .int n k
theorem C2{K:R6}{is:Zs}(h:SqT K H a (is.map V.int)):Rep K H (n+1) (.tup (is.map Dt.int)) (.ref a):= .tup h (by simp) QK
theorem vj{e i:Type}{f:e->i}(g:∀a b,f a=f b->a=b):∀{c d:List e},c.map f=d.map f->c=d
 | [],[],_=>rfl
 | [],_::_,h=>by simp at h
 |_::_,[],h=>by simp at h
 |a::c,b::d,h=>by
  simp only[List.map_cons,List.cons.injEq]at h;rw[g a b h.1,vj g h.2]
theorem nV{c d:Zs}:Dt.tup (c.map Dt.int)=Dt.tup (d.map Dt.int)↔c=d:=
 #[λh=>by injection h with h;exact vj (λa b e=>by injection e) h,λh=>by rw[h]]
noncomputable def mH(n:Nat):List V:=(List.range n).map λ(i:Nat)=>V.int (i:Int)
inductive nM(a:List V)(H:Hp)(Q:VK):Prop|mk:∀j:Int,a=[.int j]->(∀p,H p=none->Q (.ref p) (bT H p (.rng 0 j)))->nM a H Q
theorem JK:CallR X (.type "range") nM:=by
 intro a s c H d f Q I r h;obtain⟨j,rfl,q⟩:=h;obtain⟨u,rfl,t,rfl⟩:=iz r;refine call_range_1 #[.ref s.heap.objs.size,_,I.laid (λb o e=>c7 _ e) (cg _) (show ObjOk X.prog X.w _ _ _ (.rng 0 j)from#[_,_,_,eQ _ zZ]),zZ,q _ (I.hok.fresh (cg _))]
theorem IW{f:AV}(h:ItemsOf (λi v=>∃t,v=Value.int ((0:Int)+(i:Nat) * 1) t) f n):Vals (mH n) f.toList:=by
 obtain⟨l,m⟩:=h;have go:∀(d:List V) (c:Vs),d.length=c.length->(∀(j:Nat) x u,d[j]?=some x->c[j]?=some u->RelV x u)->Vals d c:=by
  intro d
  induction d with
  |nil=>intro c g _;cases c with
   |nil=>exact .nil
   |cons=>simp at g
  |cons x d o=>
   intro c g h;cases c with
   |nil=>simp at g
   |cons u c=>exact .cons (h 0 x u zZ zZ) (o c (by simpa using g) λj a b e k=>h (j+1) a b (by simpa using e) (by simpa using k))
 refine go _ _ (by simp[mH,l]) λj x u e k=>?_;obtain⟨t,rfl⟩:=m j u (by simpa using k);unfold mH at e;rw[cz]at e;have p:j<n:=by
  have:=(cf.mp k).1;simpa[l]using this
 rw[mS p]at e;cases e;refine#[t,?_]
 congr 1
 lia
theorem Hn(a:0<=j)(b:j<=1000000):Builtin.Range.small 0 j 1=true:=small_one (by decide) (by decide) () ()
theorem F6(a:0<=j):Builtin.Range.rangeSize 0 j 1=(j.toNat:Nat):=by
 rw[rangeSize_one];split<;>lia
inductive ju(a:List V)(H:Hp)(Q:VK):Prop|mk:∀p j,a=[.ref p]->H p=some (.rng 0 j)->0<=j->j<=1000000->(∀l,H l=none->Q (.ref l) (bT H l (.lst (mH j.toNat))))->ju a H Q
theorem Oo(g:X.calm=true):CallR X (.type "list") ju:=by
 intro w s x H y z Q I r h;obtain⟨p,j,rfl,i,c,k,q⟩:=h;obtain⟨u,rfl,l⟩:=iz r;cases l;obtain⟨A,B,C,e⟩:=I.hok p _ i;refine call_list_range (I.ok.hd g) e (Hn c k) (F6 c) () λd m a f n o b=>?_;have t:=IW b;have v:d.get? s.heap.objs.size=some {cls:= .type "list",data:= .seq a.toList.toArray f}:=by simpa using o
 exact#[.ref s.heap.objs.size,_,I.laid n (cg _) (show ObjOk X.prog X.w _ d _ (.lst (mH j.toNat))from#[by rw[db];simp[mH];lia,a.toList,f,t,v]),zZ,q _ (I.hok.fresh (Nat.le_refl _))]
section
open AutoSeq1 (wpAny_loadPart')
abbrev Ay(j:Int)(a:AV):Prop:=ItemsOf (λi v=>∃t,v=Value.int ((0:Int)+(i:Nat) * 1) t) a j.toNat
theorem Nq{k:Pg}{A:Ar}{E:VP}{s:Sh}{Q:Vs->Sh->Prop}{r:Ad}(C:A.handled=none)(y:IsRange s.heap r 0 j 1 t u v)(B:0<=j)(D:j<=1000000)(G:∀d i c,(∀b o,s.heap.get? b=some o->d.get? b=some o)->Ay j c->Q c.toList {s with heap:=d,toks:=i}):wpAny (model k w) A (collect (.ref r)) Q E s:=by
 have H:(s.heap.push {cls:= .type "list",data:= .seq ([]:Vs).toArray}).get? s.heap.objs.size=some {cls:= .type "list",data:= .seq #v[] 0}:=by exact eQ _ rfl
 unfold collect;refine wpAny_bind (wpAny_runValue (codeAny_builtin F.entry_proto_collect ?_));rw[Around.under_plainId F.plain_proto_collect _];refine bU (nq (b9 #[wg F.plain_list_iadd _,q0 F.entry_list_iadd ?_]));rw[vr F.plain_list_iadd _];have m:∀n,(∃d i c p,n={s with heap:=d,toks:=i}/\(∀b o,s.heap.get? b=some o->d.get? b=some o)/\d.get? s.heap.objs.size=some {cls:= .type "list",dict:=none,data:= .seq c p,slots:= #v[]}/\Ay j c)->
   wpAny (model k w) A (match Value.ref s.heap.objs.size with
    | Value.ref a=>do
     let o <-load a
     match o.data with
      |Data.seq I _=>pure I.toList
      |_=>unsupported "internal:collect"
    |_=>unsupported "internal:collect") Q E n:=by
  rintro n ⟨d,i,c,p,rfl,z,q,x⟩;exact bU (wpAny_load q (b9 (G d i c z x)))
 refine eZ (wpAny_extend_range (A:=A) (R:=λr n=>r=.ok (.ret (.ref s.heap.objs.size))/\∃d i c p,n={s with heap:=d,toks:=i}/\(∀b o,s.heap.get? b=some o->d.get? b=some o)/\d.get? s.heap.objs.size=some {cls:= .type "list",dict:=none,data:= .seq c p,slots:= #v[]}/\Ay j c)
  (s:={s with heap:=s.heap.push {cls:= .type "list",data:= .seq ([]:Vs).toArray}}) C (c7 _ y) (Hn B D) (F6 B) () _ (.ref s.heap.objs.size) 0 H λd i c p z q x=>
   #[zZ,d,i,c,p,zZ,λb o e=>z b o (dq (cK e)) (c7 _ e),q,x]) (λfin n h=>?_) (λe n h=>wC h.1 (by simp))
 cases fin with
 |done f=>obtain⟨e,g⟩:=h;cases e;exact m _ g
 |again p=>exact#[h.1,lW h.2 λr J y=>by obtain⟨rfl,g⟩:=y;exact m _ g]
theorem LU(r:Ad)(j)(t u v)(q:0<=j)(x:j<=1000000):Meets (Builtin.«tuple.__new__» #[[.type "tuple",.ref r],[]]) (λA R s=>A.handled=none/\IsRange s.heap r 0 j 1 t u v/\∀(c:Heap) i a,(∀b o,s.heap.get? b=some o->c.get? b=some o)->Ay j a->
   R (.ok (.ret (.ref c.objs.size))) {s with heap:=c.push {cls:= .type "tuple",data:= .seq a},toks:=i}):=
 .of_wp λn w A R s h=>by
  obtain⟨y,g,d,i,os⟩:=s;obtain⟨z,k,h⟩:=h;have p:=sub_tuple_self;have l:=init_tuple_lookup;have B:=madeHere_tuple
  have hT:Shared.TypeIs #[y,g,d,i,os] (.ref r) "range":=#[_,k,zZ]
  wp_walk using zW k,wpAny_typeOf hT,Nq (A:=A.in1) z k q x
  intro c m a C f;show wpAny _ _ (Builtin.Tuple.tupleExact a.toList.toArray >>= λv=>ret v) _ _ _;have D:a.toList.toArray.size<=sizeLine:=by
   have:=f.1;rw[db];simp only[List.size_toArray,Array.length_toList];lia
  unfold Builtin.Tuple.tupleExact;refine wpAny_bind (wpAny_newObj_type (wpAny_pure #[_,zZ,?_]) D);have e:a.toList.toArray=a:=by simp
  rw[e];exact h c m a C f
end
inductive lZ(a:List V)(H:Hp)(Q:VK):Prop|mk:∀p j,a=[.ref p]->H p=some (.rng 0 j)->0<=j->j<=1000000->(∀l,H l=none->Q (.ref l) (bT H l (.tup (mH j.toNat))))->lZ a H Q
theorem QD(l:X.calm=true):CallR X (.type "tuple") lZ:=by
 intro g s i H D E Q I r h;obtain⟨p,j,rfl,m,n,t,q⟩:=h;obtain⟨u,rfl,v⟩:=iz r;cases v;obtain⟨w,x,y,e⟩:=I.hok p _ m;refine callType_new F.called_tuple (by decide) (F.typeCall_tuple_1 _) (F.newCall_tuple_1 _) (λobj=>F.args_object_init_2 obj _) F.entry_tuple_new (LU p j w x y n t) #[I.ok.hd l,e,λc d a z f=>#[#[_,eQ _ zZ,zZ],?_]];have A:=IW f;have k:Inv X g i H {s with heap:=c,toks:=d}:=I.kept z;have B:(mH j.toNat).length<=sizeLine:=by rw[db];simp[mH];lia
 have C:=
  k.laid (t':=d) (λb o e=>c7 _ e) (cg _) (show ObjOk X.prog X.w _ _ _ (.tup (mH j.toNat))from#[B,a.toList,A,by simpa using TupD.new c a])
 exact#[.ref c.objs.size,_,C,zZ,q _ (k.hok.fresh (cg _))]
inductive uu(K:R6)(a:List V)(H:Hp)(Q:VK):Prop|mk:∀x n t b,a=[x,.ty n]->TyOf K H x t->PySem.W.kitOne K t (.type n)=some b->Q (.bl b) H->uu K a H Q
theorem tj:CallR X (.builtin "isinstance") (uu X.K):=by
 intro f s g H i j Q I r h;obtain⟨x,n,t,b,rfl,ty,e,q⟩:=h;obtain⟨u,k,rfl,a,c⟩:=FT r;cases c;exact KC I a ty e λd=>#[.bl b,H,I.tok d,zZ,q]
structure CompSc(N:Ss)(osc:Scope)(vs:Ss)(sc:Scope):Prop where
 kind:sc.kind=.function:=by rfl
 cell:∀y∈sc.names,y.2≠ .cell:=by decide+kernel
 locs:∀y∈sc.names,y.2=.local->sc.names.lookup y.1=some .local:=by decide+kernel
 own:∀y∈N.map (gF vs),sc.names.lookup y≠some .local:=by decide+kernel
 hid:∀y∈vs,sc.names.lookup (xh y)=none:=by decide+kernel
 nd:(vs++N.map (gF vs)).Nodup:=by decide+kernel
 free:∀y∈sc.names,y.2=.free->osc.names.lookup y.1=some .cell\/osc.names.lookup y.1=some .free:=by decide+kernel
theorem CompSc.to{X:Cx}(h:CompSc N osc vs a)(b:X.N=N:=by rfl)(c:X.env.scope=osc:=by rfl):CompScope X vs a:=by
 subst b c;exact#[h.kind,h.cell,h.locs,h.own,h.hid,h.nd,h.free]
def dC(P:Pg)(w:World)(K:R6)(mg:SV)(a:Heap)(x:Str)(k:Nat)(b:Ss)(d:Sp):Prop:=
 ∃f c,FnOk P w K mg a cG k f c b d/\mg x=some (.ref f)/\PySem.W.keepIn K (.ref f)=true/\Binds K c b []
theorem dv{p d:Pos}(c:dC X.prog X.w X.K X.mg X.base x k h g)(i:Room k X.A)(j:Gl X x)(l:PA X (e::a) t)(n:(x==("__debug__":Str))=false:=by decide) (o:starEach (e::a) X.env=(false,eval e X.env)::starEach a X.env:=by rfl) (q:(backTo d (starEach a X.env)).any (·.1)=false:=by rfl):
  PE X (.Call (.Name x p) (e::a) [] d) (qd g [] E0 t):=by
 obtain⟨f,s,F,m,r,b⟩:=c;exact C0 F i j m r b .nil yE l n o q
theorem rb{a:Pos}(b:Gl X x)(c:X.mg x=none)(d:bootBuiltins x=some (.type n))(e:x≠"__name__":=by decide)(f:(x==("__debug__":Str))=false:=by decide):PE X (.Name x a) (tC (.ty n)):=
 Lr b c d (rfl) e f
theorem IxR.k{K:R6}(r:R6->R2)(h:IxR X (r X.K))(a:X.K=K):IxR X (r K):=a▸h
theorem OpR.k{K:R6}(r:R6->R2)(h:OpR X f (r X.K))(a:X.K=K):OpR X f (r K):=a▸h
theorem CallR.k{K:R6}(r:R6->List V->Hp->VK->Prop)(h:CallR X f (r X.K))(a:X.K=K):CallR X f (r K):=a▸h
abbrev BE(K:R6):List V->Hp->VK->Prop:=λb H Q=>∃p a,b=[.ref p]/\((SqL K H p a/\∀l,H l=none->Q (.ref l) (bT H l (.tup a)))\/(SqT K H p a/\Q (.ref p) H))
theorem cn(h:H p=none)(o):Same H (bT H p o):=λb u q=>by rw[bX (dj q h)];exact q
theorem small(h:n<=1000):n<=sizeLine:=fL (K4 h)
abbrev nv(n:Nat):V:= .int (n:Int)
theorem Kj(a:bS):a.map nv=(a.map λ(n:Nat)=>(n:Int)).map V.int:=by rw[i0];rfl
theorem LQ{c d:bS}:(c.map λ(n:Nat)=>(n:Int))=(d.map λ(n:Nat)=>(n:Int))↔c=d:=
 #[λh=>vj (λa b e=>zw e) h,λh=>by rw[h]]
theorem i7{K:R6}{is:bS}(h:SqT K H a (is.map nv)):Rep K H (n+1) (.tup ((is.map λ(n:Nat)=>(n:Int)).map Dt.int)) (.ref a):=C2 (by rw[<-Kj];exact h)
theorem df{a b:bS}:Dt.tup ((a.map λ(n:Nat)=>(n:Int)).map Dt.int)=Dt.tup ((b.map λ(n:Nat)=>(n:Int)).map Dt.int)↔a=b:=nV.trans LQ
theorem tc{a:bS}(h:k<a.length):ja (a.map nv) (k:Int)=some (nv (a.getD k 0)):=iM (by rw[cz,b7 h,dO,b7 h];rfl)
def yi(H:Hp)(b:List V)(Q:VK):Prop:=∀r a,Same H a->a r=some (.tup b)->Q (.ref r) a
def E6(t:TS):TS:=λD c H=>∃S:St->Hp->Prop,t {D with nx:=S} c H/\∀a b,S a b->D.nx a b
theorem sf{st:Stmt}(h:PS X st t):PS X st (E6 t):=by
 intro c s d H D I q;obtain⟨S,e,g⟩:=q;refine cj (h c s d H _ I e) λf j z=>?_;cases f with
 |next=>obtain⟨a,b,i,z⟩:=z;exact#[a,b,i,g a b z]
 |brk=>exact z
 |cont=>exact z
 |ret u=>exact z
theorem iA(g:Same H a)(c:H l=none):Same H (bT a l o):=λb u e=>by rw[bX (dj e c)];exact g b u e
theorem J7{a:Zs}(h:k<a.length):ja (a.map V.int) (k:Int)=some (.int (a.getD k 0)):=iM (by rw[cz,b7 h,dO,b7 h];rfl)
theorem zR(h:k<n):oj n (k:Int)=some k:=by
 unfold oj;rw[wB (),wB (),iW]
theorem tD(c){n:Nat}(h:1<=n):V.int (c%(n:Int))=nv (c%(n:Int)).toNat/\(c%(n:Int)).toNat<n:=by
 have a:=Int.emod_nonneg c (by lia:(n:Int)≠0);have b:=Int.emod_lt_of_pos c (by lia:(0:Int)<(n:Int));refine#[?_,()];show V.int _=V.int (((c%(n:Int)).toNat:Nat):Int);rw[Int.toNat_of_nonneg a]
theorem Am(a:bS)(j v):(a.map nv).set j (nv v)=(a.set j v).map nv:=(List.map_set).symm
theorem Az{a:bS}(h:∀y∈a,y<n)(b:v<n):∀y∈a.set j v,y<n:=by
 intro y c
 rcases List.mem_or_eq_of_mem_set c with z|z
 .exact h y z
 .rw[z];exact b
theorem xV{a:bS}(h:∀y∈a,y<n)(b:j<a.length):a.getD j 0<n:=by
 rw[dO,b7 b];exact h _ (jv b)
theorem Op{K:R6}:PySem.W.kitOne K (.type "int") (.type "int")=some true:=zZ
theorem Mf{K:R6}:PySem.W.kitOne K (.type "int") (.type "bool")=some false:=zZ
theorem dz{K:R6}:PySem.W.kitOne K (.type "tuple") (.type "tuple")=some true:=zZ
theorem P8{P:Pg}{a:Ad}[DecidableEq c]{kd:HeapKind P w c}(d:(a==sysModules)=false):
  MeetsIn P w (Builtin.«dict.__len__» #[[.ref a],[]]) λ_ R s=>∃b,s.heap.DictOfH kd a b/\R (.ok (.ret (.int b.length s.toks))) {s with toks:=s.toks+1}:=
 .of_wp λA R s ⟨b,e,q⟩=>by
  obtain⟨k,f,l,g,g2,h,i,_⟩:=e;have j:=AI i;show wpAny _ _ (dictSize a >>= _) _ _ s;refine bU (bU (sj g h (b9 (bU (wpAny_pendingCount_other d (wpAny_ret_mkInt ?_))))));rw[xS,j];exact q
theorem PH{P:Pg}{A:Ar}{E:VP}{s:Sh}{a:Ad}[DecidableEq c]{e:HeapKind P w c}{b:List (c×Ad×Vl)}{Q:VP}(f:(a==sysModules)=false)(d:s.heap.DictOfH e a b) (few:(b.length:Int)<2 ^ 63) (q:Q (.int b.length (s.toks+1)) {s with toks:=s.toks+1+1}):wpAny (model P w) A (Builtin.«len» #[[.ref a],[]]) (λfin g=>∃r,fin=.done (.ret r)/\Q r g) E s:=by
 have h: ¬((b.length:Nat):Int)<0:=by lia
 have i: ¬((b.length:Nat):Int)>=2 ^ 63:=by lia
 refine bU (b9 (bU ?_));refine ux d.typeIs F.slot_dict_len (call_meetsIn F.slot_dict_len d.typeIs F.entry_dict_len (F.args_dict_len_1 _) (P8 f) #[b,d,?_]);refine bU (jo (b9 (bU (wpAny_letGo ?_))));rw[wA h,wA i];exact bU (wpAny_mkInt (b9 #[_,zZ,q]))
theorem IQ:CallR X (.builtin "len") (λd H Q=>∃a b,d=[V.ref a]/\H a=some (.dT b)/\Q (.int b.length) H):=by
 intro l s m H d n Q I r h;obtain⟨a,b,rfl,f,q⟩:=h;obtain⟨u,rfl,g⟩:=iz r;cases g;obtain⟨z,i,j,c,k⟩:=DQ I.hok f;have e:=pL c;refine EM kind_len plain_len entry_len (args_len1 _) (PH i k (by rw[<-e];rw[db]at z;lia) #[.int b.length,H,I.tok _,#[_,by rw[e]],q])
noncomputable def nk(a:bS):List cQ:=a.map λ(n:Nat)=>(Sum.inl (n:Int):cQ)
theorem g7(a):(nk a).map kV=a.map nv:=by
 unfold nk;rw[i0];rfl
theorem w6(h:nk c=nk d):c=d:=by
 exact vj (λa b e=>by injection e with e;exact zw e) h
inductive nO(K:R6)(x y:V)(H:Hp)(Q:VK):Prop|mk:∀l b a c,x=.ref l->y=.ref b->SqL K H l a->SqL K H b c->a.length+c.length<=sizeLine->(∀p,H p=none->Q (.ref p) (bT H p (.lst (a++c))))->nO K x y H Q
theorem zO:OpR X (binaryOp .Add) (nO X.K):=by
 intro E s G H x y v u Q I p t h;obtain⟨l,b,J,L,rfl,rfl,w,z,M,q⟩:=h;cases p;cases t;obtain⟨c,r,⟨⟨N,O,T,A⟩,n,e,i,j,k⟩,_⟩:=I.list w;obtain⟨a,m,⟨⟨c2,U,k2,B⟩,C,o,d,f,g⟩,_⟩:=I.list z;subst i j k d f g;have Y:=r.length;have l2:=m.length;have D:c.toArray++a.toArray=(c++a).toArray:=by simp
 refine concat_meets #[_,e,zZ] #[_,o,zZ] noFill_list_add seq_list_add F.slot_list_add F.entry_list_add (F.args_list_add_2 _ _) (list_addW l b c.toArray a.toArray n C none none A B (by simp only[List.size_toArray];lia)) #[e,o,?_];rw[D];exact#[.ref _,_,I.lnew (r.append m) (by rw[di];lia),zZ,q _ I.fresh]
inductive xk(K:R6)(a:List V)(H:Hp)(Q:VK):Prop|mk:∀(p:Ad) (bs:List Bool),a=[.ref p]->SqL K H p (bs.map V.bl)->Q (.bl (bs.all id)) H->xk K a H Q
theorem Ef(n:X.calm=true):CallR X (.builtin "all") (xk X.K):=by
 intro G s J H L M Q I r h;obtain⟨p,bs,rfl,t,q⟩:=h;obtain⟨u,rfl,w⟩:=iz r;cases w;obtain⟨a,g,j,_⟩:=I.list t;have k:=j.isList;have f:=j.lt;have c:a.length=bs.length:=by rw[<-g.length,bW]
 refine call_all_walk (BK k #[_,_,_,_,_,_,λi=>bs.getD i false,zZ,Walks.list (A:=X.A.in1) (I.ok.hd n) _ p (dq f) a.toArray,#[#[_,eQ _ zZ,zZ,zZ],k.push _],?_,λN O y=>?_])
 .intro i v T U Y B C;have d:a[i]?=some v:=by simpa using B
  have l:i<bs.length:=by rw[<-c];exact(cf.mp d).1
  obtain⟨u2,m,D⟩:=g.get (x:= .bl (bs.getD i false)) (by rw[cz,b7 l,dO,b7 l];rfl);rw[d]at m;cases m;cases(D);exact qj C
 .have e:(List.range a.toArray.size).all (λi=>bs.getD i false)=bs.all id:=by
   rw[eF,c];have:bs=(List.range bs.length).map λi=>bs.getD i false:=by
    refine BL (by simp) λi E h2=>?_;simp[List.getD_eq_getElem?_getD,E]
   conv=>rhs;rw[this,BA]
   rfl
  rw[e];exact#[.bl (bs.all id),H,I.kept λb o z=>y b o (by simp only[List.mem_singleton];exact Nat.ne_of_lt (Heap.lt_size z)) (Heap.get?_push_of_some _ z),zZ,q]
abbrev TJ:=Str->St->Hp->(Str->Hp->Prop)->Prop
def PJ(X:Cx)(e:List Expr)(t:TJ):Prop:=∀(c:AO) (s:Sh) (b:St) (H:Hp) (a:Str) (Q:Str->Hp->Prop),Inv X c b H s->t a b H Q->
 wpAny (model X.prog X.w) X.A (joinParts a (evalEach e X.env)) (λu f=>∃x d,Inv X c b d f/\RelV (.str x) u/\Q x d) X.xe s
def Ff:TJ:=λa _ H Q=>a.length<=sizeLine/\Q a H
def Dy(x:Str)(t:TJ):TJ:=λa b H Q=>(a++x).length<=sizeLine/\t (a++x) b H Q
def DI(c:TE)(t:TJ):TJ:=λa b H Q=>c b H λv d=>∃i:Int,v=.int i/\i.natAbs.log2<1920/\(a++Str.ofString (toString i)).length<=sizeLine/\t (a++Str.ofString (toString i)) b d Q
theorem MG:PJ X [] Ff:=λb s c H a Q I h=>joinParts_nil #[a,H,I.tok _,#[_,zZ],h.2] h.1
theorem Kl(d:PJ X b t):PJ X (.Constant (.str x) j a::b) (Dy x t):=by
 intro e s f H c Q I h;exact joinParts_cons (Calls.Constant_str #[h.1,d e _ f H _ Q (I.tok _) h.2])
theorem PF(j:PE X e d)(k:PJ X b t):PJ X (.FormattedValue e (-1) none a::b) (DI d t):=by
 intro f s g H c Q I h;refine joinParts_cons (FormattedValue_plain (cj (j f s g H _ I h) λv u ⟨y,l,m,n,i,o,p,r,q⟩=>?_));subst o;obtain⟨w,rfl⟩:=n;exact formatField_int_small p #[r,k f _ g l _ Q (m.tok _) q]
theorem ME(h:PJ X (c::d::e) t):PE X (.JoinedStr (c::d::e) a) (λb H Q=>t Str.empty b H λx f=>Q (.str x) f):=by
 intro g s b H Q I i;exact JoinedStr_many (cj (h g s b H Str.empty _ I i) λu l ⟨x,j,k,r,q⟩=>#[.str x,j,k,r,q])
structure PL(X:Cx)(es:List Expr)(t:TA):Prop where
 pa:PA X es t
structure QE(X:Cx)(e:Expr)(t:TE):Prop where
 pe:PE X e t
structure QS(X:Cx)(st:Stmt)(t:TS):Prop where
 ps:PS X st t
structure QSs(X:Cx)(b:List Stmt)(t:TS):Prop where
 pss:PSs X b t
theorem cA:PL X [] f8:=#[ce]
theorem bV(a:PE X e f)(b:PL X c t)(d:starEach (e::c) X.env=(false,eval e X.env)::starEach c X.env):PL X (e::c) (ik f t):=#[ci a b.pa d]
theorem cE(h:PL X c t):PA X c t:=h.pa
theorem BD(a:QE X e f)(b:PL X c t)(d:starEach (e::c) X.env=(false,eval e X.env)::starEach c X.env):PL X (e::c) (ik f t):=#[ci a.pe b.pa d]
theorem se(h:PE X e f):QE X e f:=#[h]
theorem Iq(e:OpR X (binaryOp c) r)(f:QE X a i)(h:QE X b g):QE X (.BinOp a c b d) (sv r i g):=#[dQ e f.pe h.pe]
theorem yY(c:IxR X r)(e:QE X a i)(f:QE X b g)(h:Iy b):QE X (.Subscript a b d) (sv r i g):=#[cU c e.pe f.pe h]
theorem OM(h:PL X c t):QE X (.List c d) (w9 t):=#[gB h.pa]
section
variable{st:Stmt}{rest:List Stmt}
theorem nJ(h:PS X st t):QS X st t:=#[h]
theorem Rc(d:X.N.Nodup)(f:X.N[i]?=some x)(g:wy X.env.scope x)(h:QE X e c)(j:swapsWith e (some (.Name x b)) a.line X.env=pure false)(k:X.fn x=true\/X.env.scope.names.lookup x=some .local):
  QS X (.Assign [.Name x b] e a) (nh c (ge i)):=#[cT d f g h.pe j k]
theorem Ma(a:QS X st t):QSs X [st] t:=#[cy a.ps]
theorem n9(a:QS X st t)(b:QSs X rest u):QSs X (st::rest) (nW t u):=#[cq a.ps b.pss]
theorem Qu(h:QSs X b t):PSs X b t:=h.pss
end
end L2
namespace PySem
def NC:Sem a->Prop
 |.load _ _ k=>∀x,NC (k x)
 |.update _ _ _ k=>∀x,NC (k x)
 |.alloc _ k=>∀x,NC (k x)
 |.stack k=>∀x,NC (k x)
 |.loadIfAlive _ k=>∀x,NC (k x)
 |.pure _|.raise _|.unsupported _|.register .. =>True
 |_=>False
theorem NC.bind{f:c->Sem d}(h:NC t)(e:∀a,NC (f a)):NC (t >>= f):=by
 induction t with
 |pure a=>exact e a
 |raise|unsupported|register=>trivial
 |load _ _ _ b|update _ _ _ _ b|alloc _ _ b|stack _ b|loadIfAlive _ _ b=>exact λx=>b x (h x)
 |_=>exact h.elim
theorem FN(v:Vl)(i):NC (field v i):=by
 unfold field fieldsOf
 repeat' first|exact trivial|refine NC.bind ?_ λ_=>?_|split|exact λ_=>trivial
theorem Gf(v:Vl)(i)(x:Vl):NC (setField v i x):=by
 unfold setField updateField
 repeat' first|exact trivial|refine NC.bind ?_ λ_=>?_|split|exact λ_=>trivial
theorem Dm(v:Vl)(a:Option Ad):NC (setFlight v a):=by
 refine NC.bind (FN ..) λ_=>?_;split
 .exact Gf ..
 .trivial
theorem GU:∀l,NC (readyFrames l)
 | []=>trivial
 |e::l=>by
  unfold readyFrames behindIsImport keptBack underTheClaimsCaller
  repeat' first|exact trivial|exact GU l|exact FN .. |refine NC.bind ?_ λ_=>?_|split|exact λ_=>trivial
theorem Qi(a):NC (frameOf a):=by
 unfold frameOf frameEnvs frameObject
 repeat' first|exact trivial|exact GU _|refine NC.bind ?_ λ_=>?_|split|exact λ_=>trivial
theorem P6(ty)(a:Vs):NC (newFields ty a):=by
 unfold newFields newObj newObjAsIs
 repeat' first|exact trivial|refine NC.bind ?_ λ_=>?_|split|exact λ_=>trivial
theorem Lz(f:Ad)(b):NC (entryPlaceOf f b):=by
 refine NC.bind (λ_=>trivial) λ_=>?_;split<;>trivial
theorem IC(v:Vl)(a):NC (noteFrame v a):=by
 unfold noteFrame EntryCells.newEntry
 repeat' first|exact trivial|exact Qi _|exact FN .. |exact Gf .. |exact Lz .. |exact P6 .. |refine NC.bind ?_ λ_=>?_|split|exact λ_=>trivial
theorem Hu(v:Vl)(a):NC (leaving a v):=NC.bind (IC ..) λ_=>Dm ..
theorem Sem.wp_and{Γ:Ctx}{Q j:i->Pos->Sh->Prop}{E l:Vl->Pos->Sh->Prop}(g:NC t):∀{p} {s:Sh},Sem.wp M Γ t Q E p s->Sem.wp M Γ t j l p s->Sem.wp M Γ t (λa p s=>Q a p s/\j a p s) (λe p s=>E e p s/\l e p s) p s:=by
 induction t with
 |pure x=>intro p s b c;exact#[b,c]
 |raise v=>intro p s b c;exact#[b,c]
 |unsupported|register=>intro p s b _;exact b
 |alloc _ k d|loadIfAlive _ k d|stack k d=>intro p s b c;exact d _ (g _) b c
 |load a _ k d=>
  intro p s ⟨o,h,b⟩ ⟨n,m,c⟩;rw[h]at m;cases m;exact#[o,h,d _ (g _) b c]
 |update a _ f k d=>intro p s ⟨h,b⟩ ⟨_,c⟩;exact#[h,d _ (g _) b c]
 |_=>exact g.elim
theorem xo{A:Ar}{Q Q2:b->Sh->Prop}{E E2:VP}{s:Sh}(c:NC t)(d:wpAny M A t Q E s)(f:wpAny M A t Q2 E2 s):wpAny M A t (λa s=>Q a s/\Q2 a s) (λe s=>E e s/\E2 e s) s:=
 λΓ p i=>Sem.wp_and c (d Γ p i) (f Γ p i)
end PySem
namespace L2
open PySem PySem.Spec PyProof.Rows
def je(e:Ad)(a:Option Ad)(h:Heap):Prop:=∃o,h.get? e=some o/\o.dict=a
section
variable{A:Ar}{E:VP}{s:Sh}
theorem Gc{L e:Ad}{q:AV}{k:Vl}{Q:Unit->Sh->Prop}(r:A.frames=some (d::c))(w:s.heap.FunFrames i (d::c))(H:d.frame=some L)(x:s.heap.get? e=some j) (l:j.data=.fields q) (m:1<q.size)(h:∀t o (y:AV) T z (B:AV),t.get? e=some o->o.dict=j.dict->o.data=.fields y->y[1]?=some (.ref T)->T≠e->t.get? T=some z->z.data=.fields B->3<B.size->Q ⟨⟩ {s with heap:=t}):
  wpAny M A (do let a <-frameOf d;let C <-entryPlaceOf L f;let b <-EntryCells.newEntry k a .none (rawInt L) .none C;setField (.ref e) 1 b) Q E s:=by
 have n:e∉(d::c).filterMap (·.frame):=λI=>by
  obtain⟨_,o,D,u⟩:=w.mem I;rw[x]at D;cases D;exact u q l
 refine bU (wpAny_frameOf_fun r w H λp J=>bU (wpAny_entryPlaceOf λC v=>?_));refine bU (nq ?_ (v.sizeOk5 _ _ _ _ _));have g:=(J.2.1 e n).trans x;have G:=mC (cK g);refine wpAny_setField (c7 _ g) l m (h _ _ _ p.objs.size _ _ (pM _ (c7 _ g) (Obj.isFreed_of_fields (Obj.data_mapFields l _))) ?_ (Obj.data_mapFields l _) (by simp[m]) G ((Heap.get?_update_other _ _ (Ne.symm G)).trans (Heap.get?_push_size p zZ)) zZ ?_)
 .obtain⟨U,Y,N,O⟩:=j;cases l;rfl
 .simp only[List.size_toArray,List.length_append,List.length_cons,List.length_nil];lia
theorem B0{e T:Ad}{c d:AV}{Q:Unit->Sh->Prop}(f:s.heap.get? e=some o)(i:o.data=.fields c)(j:c[1]?=some (.ref T))(k:T≠e)(hT:s.heap.get? T=some b)(a:b.data=.fields d)(l:3<d.size)(h:∀g,je e o.dict g->Q ⟨⟩ {s with heap:=g}):wpAny M A (setFlight (.ref e) none) Q E s:=by
 refine bU (oF f i j ?_);rw[wB (by simp)];exact wpAny_setField hT a l (h _ #[o,(ko _ _ k).trans f,zZ])
theorem Jb{L e:Ad}{p I:Vl}{Q:Unit->Sh->Prop}(r:A.frames=some (d::a))(z:d.frame=some L)(J:Heap.FlyingW k (d::a) e p I s.heap)(f:je e y s.heap)(h:∀l (o:Obj) (m:AV) T t (n:AV),l.get? e=some o->o.dict=y->o.data=.fields m->m[1]?=some (.ref T)->T≠e->l.get? T=some t->t.data=.fields n->3<n.size->Q ⟨⟩ {s with heap:=l}):wpAny M A (noteFrame (.ref e) d) Q E s:=by
 obtain⟨_,_,N,oe,B,T,t,n,u,_,C,D,_,v,hT,g,G⟩:=J;obtain⟨o',H,f⟩:=f;rw[u]at H;cases H;unfold noteFrame;simp only[z];refine bU (oF u C D ?_);rw[wB (by simp)];refine bU (oF hT g G ?_);rw[wA (by simp[rawInt])];refine bU (wpAny_setField hT g (oP.mp G).1 ?_);have c:∀b,b≠T->(s.heap.update T (Obj.mapFields (·.setIfInBounds 3 Value.none))).get? b=s.heap.get? b:=λb i=>ko _ _ (dG i);have O:∀b o,s.heap.get? b=some o->(∀B,o.data≠ .fields B)->b≠T:=λb o i j q=>by
  rw[q,hT]at i;cases i;exact j n g
 refine Gc r (N.of_keeps λb o i j=>#[o,(c b (O b o i j)).trans i,zZ]) z ((c e (dG v)).trans u) C (oP.mp D).1 λl o m U w x Y q2=>h l o m U w x Y (q2.trans f)
theorem Oi{L e:Ad}{j:AV}{a0:Vl}{Q:Unit->Sh->Prop}(g:A.frames=some (b::a))(t:s.heap.FunFrames base (b::a))(k:b.frame=some L)(l:s.heap.get? e=some f) (m:base.StaysIn s.heap) (n:base.get? e=none) (p:f.data=.fields j) (r:j[1]?=some .none) (u:j[0]?=some a0)(h:∀c,Heap.LeftW base (b::a) e f.cls a0 s.heap c->je e f.dict c->Q ⟨⟩ {s with heap:=c}):wpAny M A (leaving b (.ref e)) Q E s:=by
 refine eZ (xo (Hu ..) (wpAny_leaving_firstW (Q:=λ_ i=>∃c,i={s with heap:=c}/\Heap.LeftW base (b::a) e f.cls a0 s.heap c) g t k l m n p r u λc q=>#[c,rfl,q]) (Q2:=λ_ i=>je e f.dict i.heap) (E2:=λ_ _=>True) ?_) (λ_ i ⟨⟨c,v,q⟩,d⟩=>by subst v;exact h c q d) λ_ _ z=>z.1;unfold leaving noteFrame;simp only[k];refine bU (bU (oF l p r ?_));rw[wA (by decide)];exact Gc g t k l p (oP.mp r).1 λc o J T N O w x y B C D G H=>B0 w y B C D G H λI d=>x▸d
theorem Np{L e:Ad}{g k:Vl}{Q:Unit->Sh->Prop}(i:A.frames=some (f::a))(n:f.frame=some L)(p:Heap.FlyingW c (f::a) e g k s.heap)(m:je e l s.heap)(h:∀b,Heap.FlyingW c a e g k b->s.heap.UpToSlots b->je e l b->Q ⟨⟩ {s with heap:=b}):wpAny M A (leaving f (.ref e)) Q E s:=by
 refine eZ (xo (Hu ..) (wpAny_leaves_onW (Q:=λ_ j=>∃b,j={s with heap:=b}/\Heap.FlyingW c a e g k b/\s.heap.UpToSlots b) i n p λb q u=>#[b,rfl,q,u]) (Q2:=λ_ j=>je e l j.heap) (E2:=λ_ _=>True) ?_) (λ_ j ⟨⟨b,r,q,u⟩,d⟩=>by subst r;exact h b q u d) λ_ _ z=>z.1;exact bU (Jb i n p m λb o H T I J t v w x y B C D=>B0 t w x y B C D λG d=>v▸d)
theorem O0{L e:Ad}{g k:Vl}{Q:Unit->Sh->Prop}(i:A.frames=some (b::a))(n:b.frame=some L)(p:Heap.FlyingW f (b::a) e g k s.heap)(m:je e l s.heap)(h:∀c,Heap.HeldW f (b::a) e g k L c->s.heap.UpToSlots c->je e l c->Q ⟨⟩ {s with heap:=c}):wpAny M A (noteFrame (.ref e) b) Q E s:=
 eZ (xo (IC ..) (wpAny_looks_onW (Q:=λ_ j=>∃c,j={s with heap:=c}/\Heap.HeldW f (b::a) e g k L c/\s.heap.UpToSlots c) i n p λc q u=>#[c,rfl,q,u]) (Jb (Q:=λ_ j=>je e l j.heap) (E:=λ_ _=>True) i n p m λc o w T x y r t _ _ _ _ _ _=>#[o,r,t]))
  (λ_ j ⟨⟨c,v,q,u⟩,d⟩=>by subst v;exact h c q u d) λ_ _ z=>z.1
theorem KU{e L:Ad}{c i:Vl}{Q:Unit->Sh->Prop}(n:Heap.HeldW b l e c i L s.heap)(f:je e j s.heap)(h:∀a,Heap.FlyingW b l e c i a->s.heap.UpToSlots a->je e j a->Q ⟨⟩ {s with heap:=a}):wpAny M A (setFlight (.ref e) none) Q E s:=by
 obtain⟨_,_,_,x,y,T,B,C,o,_,r,t,_,k,hT,m,v⟩:=id n;obtain⟨D,p,f⟩:=f;rw[o]at p;cases p;exact eZ (xo (Dm ..) (wpAny_landsW (Q:=λ_ g=>∃a,g={s with heap:=a}/\Heap.FlyingW b l e c i a/\s.heap.UpToSlots a) n λa q u=>#[a,rfl,q,u]) (B0 (Q:=λ_ g=>je e j g.heap) (E:=λ_ _=>True) o r t k hT m (oP.mp v).1 λa d=>f▸d))
  (λ_ g ⟨⟨a,w,q,u⟩,d⟩=>by subst w;exact h a q u d) λ_ _ z=>z.1
theorem Ox{e:Ad}{c i:Vl}{Q:Unit->Sh->Prop}(n:Heap.FlyingW b l e c i s.heap)(f:je e j s.heap)(h:∀a,Heap.FlyingW b l e c i a->s.heap.UpToSlots a->je e j a->Q ⟨⟩ {s with heap:=a}):wpAny M A (setFlight (.ref e) none) Q E s:=by
 obtain⟨_,_,_,x,y,T,B,C,o,_,r,t,_,k,hT,m,v⟩:=id n;obtain⟨D,p,f⟩:=f;rw[o]at p;cases p;exact eZ (xo (Dm ..) (lands_againW (Q:=λ_ g=>∃a,g={s with heap:=a}/\Heap.FlyingW b l e c i a/\s.heap.UpToSlots a) n λa q u=>#[a,rfl,q,u]) (B0 (Q:=λ_ g=>je e j g.heap) (E:=λ_ _=>True) o r t k hT m (oP.mp v).1 λa d=>f▸d))
  (λ_ g ⟨⟨a,w,q,u⟩,d⟩=>by subst w;exact h a q u d) λ_ _ z=>z.1
end
section
variable{a:Ad}
theorem ObjOk.has(x:ObjOk P w H h a o):∃b,h.get? a=some b:=by
 induction o with
 |lst d=>obtain⟨_,_,_,_,e⟩:=x;exact#[_,e]
 |tup d=>obtain⟨_,_,_,b,e,_⟩:=x;exact#[b,e]
 |dK c=>obtain⟨_,_,_,_,b,_,_,e,_⟩:=x;exact#[b,e]
 |dT c=>obtain⟨_,_,_,_,b,_,_,e,_⟩:=x;exact#[b,e]
 |set S n=>obtain⟨b,_,_,_,e,_⟩:=x;exact#[b,e]
 |ins C g fs=>obtain⟨_,_,_,e,_⟩:=x;exact#[_,e]
 |own y=>exact x
 |xd fs=>obtain⟨_,⟨b,_,_,e,_⟩,_⟩:=x;exact#[b,e]
 |rng lo i=>obtain⟨_,_,_,e⟩:=x;exact#[_,e]
 |frz b u _=>obtain⟨e,_⟩:=x;exact#[_,e]
 |tbl j=>exact#[_,x]
 |met f y=>exact#[_,x]
 |ext k=>exact x.2.1
theorem HOk.gone(x:HOk P w H h)(e:h.get? a=none):H a=none:=by
 cases q:H a with
 |none=>rfl
 |some u=>
  obtain⟨b,z⟩:=(x a u q).has;rw[e]at z;cases z
end
structure Fl(h0:Heap)(H:Hp)(h:Heap)(e:Ad)(cls:Vl)(d:Option Ad):Prop where
 ne:h0.get? e=none
 fe:H e=none
 ex:∃oe vs T oT ts a0,h.get? e=some oe/\oe.cls=cls/\oe.dict=d/\oe.data=.fields vs/\vs[0]?=some a0/\vs[1]?=some (.ref T)/\h0.get? T=none/\H T=none/\T≠e/\h.get? T=some oT/\oT.data=.fields ts/\ts[3]?=some .none
def CX1(P:Pg)(w:World):oV:=λa H s E v b=>∃e C d c,v=.ref e/\b.os=s.os/\AllBare b.gens/\Un (cV a) [] H c s.heap b.heap/\HOk P w c b.heap/\Fl s.heap c b.heap e (.ref C) d/\E (.ref C) d c
section
variable{X:Cx}{h:St}
theorem Eb(ok:X.Ok):∀b∈cV X.outer,b∈cV X.stack:=λb a=>by
 rcases ok.stk with e|⟨e,c⟩
 .rw[e];exact a
 .rw[e];unfold cV;rw[List.filterMap_cons,c];exact eM _ a
theorem Rb{S:As}(I:Inv X f h H s)(y:X.ex=[])(u:Un (cV X.stack) [] H a s.heap g)(A:HOk X.prog X.w a g)(keep:∀b o,g.get? b=some o->b∉cV X.stack->b∉S->j.get? b=some o) (k:∀b o,g.get? b=some o->b∈cV X.stack->∃sl,j.get? b=some {o with slots:=sl})
  (J:∀b∈S,s.heap.get? b=none/\a b=none):Un (cV X.outer) [] X.H₀ a X.s₀.heap j/\HOk X.prog X.w a j:=by
 have m:∀b,b∉X.ex:=λb z=>by rw[y]at z;cases z
 have p:∀b,b∉([]:As):=λb z=>by cases z
 have B:∀b∈cV X.stack,a b=none:=λb d=>by
  obtain⟨_,M,N,_⟩:=I.stack.mem d;exact u.free b M N (I.stkFree b d) (p b)
 have C:∀b o,X.s₀.heap.get? b=some o->b≠X.env.locals:=λb o e=>dq (eB (cK e) I.ok.above);have r:∀b o,X.s₀.heap.get? b=some o->b∉cV X.outer->b∉cV X.stack:=λb o e n z=>by
  rcases cP.mp (I.stkSub b z)with q|q
  .exact C b o e q
  .exact n q
 have L:∀b o,s.heap.get? b=some o->b∉S:=λb o e z=>by
  have:=(J b z).1;rw[e]at this;cases this
 refine#[#[λb o e n d _=>?_,λb o e n d _=>?_,λb o e n _=>?_,λb o e _=>?_,λb t e=>u.tups b t (I.base.tups b t e),λb o t e=>u.frzs b o t (I.base.frzs b o t e),λb O e=>?_],λb o e=>?_]
 .have i:=I.base.keep b o e n d (m b);have l:=u.keep b o i (I.base.free b o e n (m b)) (r b o e d) (p b);exact keep b o l (r b o e d) (L b o i)
 .obtain⟨sl,i⟩:=I.base.slot b o e n d (m b);obtain⟨Q,l⟩:=u.slot b _ i (I.base.free b o e n (m b)) (Eb I.ok b d) (p b);obtain⟨D,E⟩:=k b _ l (Eb I.ok b d);exact#[D,E]
 .obtain⟨w,i⟩:=I.base.there b o e (m b);exact u.free b w i (I.base.free b o e n (m b)) (p b)
 .obtain⟨w,i⟩:=I.base.there b o e (m b);obtain⟨G,l⟩:=u.there b w i (p b);by_cases d:b∈cV X.stack
  .obtain⟨sl,E⟩:=k b G l d;exact#[_,E]
  .exact#[G,keep b G l d (L b w i)]
 .obtain⟨T,i⟩:=I.base.tbls b O e;obtain⟨U,l⟩:=u.tbls b _ i;exact#[T++U,by rw[l,Array.append_assoc]]
 .have x:∀c v,a c=some v->c∉cV X.stack/\c∉S:=λc v q=>#[λz=>(by rw[B c z]at q;cases q),λz=>(by rw[(J c z).2]at q;cases q)];refine(A b o e).stay (λc v Y q=>?_) (λ_ q=>q) λ_ _ q=>q
  rcases Y with z|z
  .rw[z]at q|-;exact keep b v q (x b o e).1 (x b o e).2
  .exact keep c v q (x c _ z).1 (x c _ z).2
theorem Hd:∀{l},∀a∈l,∀b,a.frame=some b->b∈cV l:=λ{l} a c b d=>C1.mpr #[a,c,d]
theorem Ht(I:Inv X f h H s)(M:CX1 X.prog X.w X.stack H s E v c):∃e C d a T m,v=.ref e/\c.os=s.os/\AllBare c.gens/\Un (cV X.stack) [] H a s.heap c.heap/\HOk X.prog X.w a c.heap/\E (.ref C) d a/\je e d c.heap/\
  s.heap.get? e=none/\a e=none/\s.heap.get? T=none/\a T=none/\Heap.FlyingW (PySem.W.hideAll c.heap (e::T::cV X.stack)) X.stack e (.ref C) m c.heap:=by
 obtain⟨e,C,d,a,rfl,os,g,u,n,⟨N,O,B,Q,T,U,Y,m,D,hc,p,t,h0,h1,nT,fT,w,x,y,h3⟩,hE⟩:=M;refine#[e,C,d,a,T,m,zZ,os,g,u,n,hE,#[B,D,p],N,O,nT,fT,λb o q=>Ej _ q,Bp _ (.head _),(PySem.W.funFrames_hide (base:=X.base) ?_ λi j b k=> .tail _ (.tail _ (Hd i j b k))),B,Q,T,U,Y,D,#[hc,h0],t,h1,Bp _ (.tail _ (.head _)),w,x,y,h3];have all:∀l,(∀b∈cV l,b∈cV X.stack)->s.heap.FunFrames X.base l->c.heap.FunFrames X.base l:=by
  intro l
  induction l with
  |nil=>intro _ _;trivial
  |cons i r ih=>
   intro G hl;obtain⟨hk,⟨L,o,A,hn,ho,t⟩,hr⟩:=hl;have J:=G L (by unfold cV;rw[List.filterMap_cons,A];exact List.mem_cons_self);obtain⟨sl,e1⟩:=u.slot L o ho (I.stkFree L J) J (by intro z;cases z);exact#[hk,#[L,_,A,hn,e1,t],ih (λb k=>G b (by unfold cV;rw[List.filterMap_cons,A];exact List.mem_cons_of_mem _ k)) hr]
 exact all X.stack (λ_ k=>k) I.stack
end
section
variable{f:St}
theorem MB{E1:VP}(I:Inv X c f H s)(m:X.ex=[])(l:X.stack=X.env::X.outer)(hf:X.env.frame=some X.env.locals)(hx:CX1 X.prog X.w X.stack H s E v k):
  wpAny M X.A (leaving X.env v) (λ_ O=>CX1 X.prog X.w X.outer X.H₀ X.s₀ E v O) E1 k:=by
 obtain⟨e,C,d,a,T,a0,rfl,os,n,u,t,hE,dc,ne,fe,nT,fT,fl⟩:=Ht I hx;have w:∀b∈cV X.stack,∃o,k.heap.get? b=some o/\∀Q,o.data≠ .fields Q:=λb x=>(fl.2.2.1.mem x).2;have A:=fl;rw[l]at A;refine Np (by rw[I.ok.frames,l]) hf A dc λU Y up aa=>?_;obtain⟨st,_,_,oe,Q,h,oT,ts,he,⟨hc,h0⟩,hd,h1,hT,B,D,G,h3⟩:=Y;obtain⟨ae,J,ab⟩:=aa;rw[he]at J;cases J;rw[<-l]at st hT;have j:∀b o,k.heap.get? b=some o->b∈cV X.stack->∃sl,U.get? b=some {o with slots:=sl}:=λb o q x=>by
  obtain⟨N,i,e2⟩:=w b x;rw[q]at i;cases i;exact up b o q e2
 obtain⟨u2,hk⟩:=Rb (S:=[e,T]) I m u t (λb o q x hS=>st b o (wm _ q λz=>by
   rcases cP.mp z with y|z
   .exact hS (by rw[y];exact .head _)
   .rcases cP.mp z with y|z
    .exact hS (by rw[y];exact .tail _ (.head _))
    .exact x z)) j λb z=>by
  rcases cP.mp z with y|z
  .rw[y];exact#[ne,fe]
  .rw[cJ.mp z];exact#[nT,fT]
 have n0:∀b,s.heap.get? b=none->X.s₀.heap.get? b=none:=λb q=>by
  cases z:X.s₀.heap.get? b with
  |none=>rfl
  |some o=>
   obtain⟨N,i⟩:=I.base.there b o z (by rw[m];intro y;cases y);rw[q]at i;cases i
 have L:s.heap.get? h=none/\a h=none:=by
  by_cases z:h=T
  .rw[z];exact#[nT,fT]
  .have g2:k.heap.get? h=none:=by
    cases q:k.heap.get? h with
    |none=>rfl
    | some o=>
     by_cases y:h∈cV X.stack
     .obtain⟨N,i,e2⟩:=w h y;obtain⟨sl,e3⟩:=j h N i y;rw[D]at e3;cases e3;exact wC G (e2 ts)
     .rw[wm _ q (λr=>by
       rcases cP.mp r with p|r
       .exact B p
       .rcases cP.mp r with p|r
        .exact z p
        .exact y r)]at hT
      cases hT
   refine#[?_,t.gone g2];cases q:s.heap.get? h with
   |none=>rfl
   |some o=>
    obtain⟨N,i⟩:=u.there h o q (by intro y;cases y);rw[g2]at i;cases i
 exact#[e,C,d,a,zZ,os.trans I.os,n,u2,hk,#[n0 e ne,fe,oe,Q,h,oT,ts,a0,he,hc,ab,hd,h0,h1,n0 h L.1,L.2,B,D,G,h3],hE]
end
section
variable{K:R6}
theorem xG:mN (CX1 P w) (kh (CX1 P w) P w K mg a N d b f e A c s H E) E:=
 λ_ _ _ _ _ _ I g=>MB I zZ zZ zZ g
theorem Fun.okX{st:Stmt}(F:Fun K x c st f m)(S:FnScope N h (cu st))(len:∀e H Q E,i e H Q E->e.length=h.length)(g:∀d A b s H e Q E,Room k (A.deeper (envOfC c (cu st) s.heap.objs.size f d))->i e H Q E->
   ∃t,PSs (kh (CX1 P w) P w K mg a N c (cu st) f d A b s H E) (fc st) t/\t {nx:=λ_ n=>Q .non n,rt:=Q} (start N e) H):FnOk P w K mg a (CX1 P w) (k+1) f m h i:=by
 obtain⟨r,u,kV,o,pm,v,d,y,p,rfl,lk,j⟩:=F.ex;exact AS lk j S len λA b s H e Q E q l=>g d A b s H e Q E q l
end
abbrev veMro:Vs:=[.type "ValueError",.type "Exception",.type "BaseException",.type "object"]
def ErrC(K:R6)(C:Ad):Prop:=PySem.W.excIn K C veMro "ValueError.__new__"=true
theorem ErrC.obj{K:R6}(X:K.In h)(q:ErrC K C):∃c N g i bs b j sub k a m d e k2 k3 f o,
  h.get? C=some (excClassObj g i C N bs c b j sub k a m d e k2 k3 f "ValueError.__new__")/\h.Ns N o/\o "__init__"=none/\OwnTail h veMro c/\K.lookup C=some (excClassObj g i C N bs c b j sub k a m d e k2 k3 f "ValueError.__new__"):=by
 unfold ErrC PySem.W.excIn at q;split at q
 .rename_i m u sl lk
  split at q
  .rename_i z c d e k2 k3 n f p r
   simp only[Bool.and_eq_true,beq_iff_eq,Bool.not_eq_true']at q;obtain⟨⟨⟨⟨⟨rfl,rfl⟩,nd⟩,tl⟩,ok⟩,s⟩:=q;obtain⟨g,bs,v,t,i,w,j,sub,k,a,x⟩:=u;dsimp only at p nd ok s;subst p nd;have y:sl= #v[d,e,k2,k3,some (.builtin "ValueError.__new__"),f]:=by
    obtain⟨l⟩:=sl;simp only at r;rw[r]
   subst y;exact#[c,t,g,i,bs,w,j,sub,k,a,m,d,e,k2,k3,f,h.nsMap t,X _ _ lk,.of_isNs (PySem.W.isNs_of_in X ok),PySem.W.nsMap_none_of_in X ok s,PySem.W.tail_of_in X tl,lk]
  .cases q
 .cases q
section
variable{a:St}
abbrev Cx.caught(X:Cx)(e:Ad):Cx:={X with A:=X.A.mark (some (.ref e)),calm:=false}
theorem Inv.caught(I:Inv X f a H s)(e):Inv (X.caught e) f a H s:=
 #[#[I.ok.mod,I.ok.kind,I.ok.glob,I.ok.blt,I.ok.above,I.ok.inj,I.ok.has,I.ok.cab,(λz=>by cases z),I.ok.frames,I.ok.stk,I.ok.exf,I.ok.bs,I.ok.bsz,I.ok.noex,I.ok.exfs,I.ok.funs,I.ok.frf],
  I.os,I.bare,I.base,I.loc,I.cell,I.free,I.freeC,I.pin,I.hok,I.len]
theorem Inv.uncaught(ok:X.Ok)(I:Inv (X.caught e) f a H s):Inv X f a H s:=#[ok,I.os,I.bare,I.base,I.loc,I.cell,I.free,I.freeC,I.pin,I.hok,I.len]
def Jt(X:Cx)(e:Expr)(t:XK->TE):Prop:=∀(f:AO) (s:Sh) (a:St) (H:Hp) (Q:VK) (E:XK) (b:VP),Inv X f a H s->t E a H Q->
 (∀c d v g,Inv X f a c d->CX1 X.prog X.w X.stack c d E v g->b v g)->wpAny (model X.prog X.w) X.A (eval e X.env) (EP X f a Q) b s
def Ii(X:Cx)(b:List Stmt)(t:XK->TS):Prop:=∀(f:AO) (s:Sh) (a:St) (H:Hp) (D:Ends) (E:XK) (c:VP),Inv X f a H s->t E D a H->
 (∀d e v g,Inv X f a d e->CX1 X.prog X.w X.stack d e E v g->c v g)->wpAny (model X.prog X.w) X.A (execs b X.env) (SP X f D) c s
theorem L9(d:Jt X e c)(g:swapsWith e none b.line X.env=pure false:=by rfl):Ii X [.Expr e b] (λE=>zH (c E)):=by
 intro f s a H D E i I h j;refine EK (wpAny_Expr_any (cj (d f s a H _ E i I h j) λv n ⟨x,k,l,o,m⟩=>vf #[a,k,l,m]) I.quiet g)
theorem ND{S:As}(I:Inv X f a H s)(u:Un (cV X.stack) [] H H' s.heap g)(m:HOk X.prog X.w H' g)(keep:∀b o,g.get? b=some o->b∉cV X.stack->b∉S->h.get? b=some o) (i:∀b o,g.get? b=some o->b∈cV X.stack->∃sl,h.get? b=some {o with slots:=sl})
  (w:∀b∈S,s.heap.get? b=none/\H' b=none):Un (cV X.stack) [] H H' s.heap h/\HOk X.prog X.w H' h:=by
 have j:∀b,b∉([]:As):=λb z=>by cases z
 have p:∀b∈cV X.stack,H' b=none:=λb d=>by
  obtain⟨_,y,A,_⟩:=I.stack.mem d;exact u.free b y A (I.stkFree b d) (j b)
 have x:∀b o,s.heap.get? b=some o->b∉S:=λb o e z=>by
  have:=(w b z).1;rw[e]at this;cases this
 refine#[#[λb o e n d _=>keep b o (u.keep b o e n d (j b)) d (x b o e),λb o e n d _=>?_,u.free,λb o e _=>?_,u.tups,u.frzs,u.tbls],λb o e=>?_]
 .obtain⟨sl,k⟩:=u.slot b o e n d (j b);obtain⟨r,B⟩:=i b _ k d;exact#[r,B]
 .obtain⟨t,k⟩:=u.there b o e (j b);by_cases d:b∈cV X.stack
  .obtain⟨sl,C⟩:=i b t k d;exact#[_,C]
  .exact#[t,keep b t k d (x b o e)]
 .have l:∀c v,H' c=some v->c∉cV X.stack/\c∉S:=λc v q=>#[λz=>(by rw[p c z]at q;cases q),λz=>(by rw[(w c z).2]at q;cases q)];refine(m b o e).stay (λc v D q=>?_) (λ_ q=>q) λ_ _ q=>q
  rcases D with z|z
  .rw[z]at q|-;exact keep b v q (l b o e).1 (l b o e).2
  .exact keep c v q (l c _ z).1 (l c _ z).2
def mD(e C:Ad)(d:Option Ad)(h:Heap):Prop:=∃o,h.get? e=some o/\o.cls=.ref C/\o.dict=d/\∃a,o.data=.fields a
theorem Li{e C:Ad}{f:Vl}(g:Heap.FlyingW B l e (.ref C) f h)(i:je e d h):mD e C d h:=by
 obtain⟨_,_,_,j,k,_,_,_,b,⟨m,_⟩,n,_⟩:=g;obtain⟨o,c,a⟩:=i;rw[b]at c;cases c;exact#[j,b,m,a,k,n]
theorem PB(x:mD e C d h):ObjOk P w H h e (.ext (mD e C d)):=by
 obtain⟨o,a,c⟩:=x;exact#[#[o,a,c],#[o,a],λi g2 ⟨b,f,g⟩ k=>#[b,k b f,g]]
theorem Inv.takeIn(I:Inv X f a H s)(k:mD e C d s.heap)(l:H e=none)(r:X.s₀.heap.get? e=none)(t:e≠X.env.locals)(v:∀x c,X.env.cells.lookup x=some c->c≠e)(w:∀p∈X.pn++f,p.1≠e)(E:e∉X.ex):
  Inv X f a (bT H e (.ext (mD e C d))) s:=by
 have nd:∀b u,H b=some u->b≠e:=λb u q z=>by rw[z,l]at q;cases q
 have y:∀b o,X.s₀.heap.get? b=some o->b≠e:=λb o q z=>by rw[z,r]at q;cases q
 refine#[I.ok,I.os,I.bare,#[I.base.keep,I.base.slot,λb o q n A=>?_,I.base.there,λb g q=>?_,λb o g q=>?_,λb B q=>?_],I.loc,I.cell,?_,λx c q=>?_,λp h=>?_,λb u q=>?_,I.len]
 .rw[bX (y b o q)];exact I.base.free b o q n A
 .rw[bX (nd b _ (I.base.tups b g q))];exact I.base.tups b g q
 .rw[bX (nd b _ (I.base.frzs b o g q))];exact I.base.frzs b o g q
 .obtain⟨m,i⟩:=I.base.tbls b B q;exact#[m,by rw[bX (nd b _ i)];exact i]
 .rw[bX (dG t)];exact I.free
 .rw[bX (v x c q)];exact I.freeC x c q
 .obtain⟨D,a2,a3⟩:=I.pin p h;exact#[D,by rw[bX (w p h)];exact a2,a3]
 .by_cases j:b=e
  .subst j;rw[bY]at q;cases q;exact PB k
  .rw[bX j]at q;exact(I.hok b u q).stay (λ_ _ _ z=>z) (λc z=>by rw[bX (nd c _ z)];exact z) λc g z=>by rw[bX (nd c _ z)];exact z
end
theorem A'{A:Ar}{E:VP}{D:St}{Q:Unit->Sh->Prop}(I:Inv X C D H s)(O:X.N[i]?=some n)(T:X.N.Nodup)(U:X.env.scope.names.lookup n=some .local)(h:∀G,Inv X C (D.set i none) H G->Q ⟨⟩ G):wpAny M A (do bindName X.env n .none;unbindBehindTheSuite X.env n t) Q E s:=by
 obtain⟨m,J,u⟩:=id I.loc;have l:(X.env.scope.kind== .class || (X.env.scope.kind== .module&&X.env.locals != X.env.globals))=false:=by rw[I.ok.kind];rfl
 obtain⟨oL,_,_,Y,_⟩:=id J;refine wpAny_nameGoes_keeps U J l λh' v w a=>h _ #[I.ok,I.os,I.bare,#[λb o e n x r=>?_,λb o e n x r=>?_,I.base.free,λb o e r=>?_,I.base.tups,I.base.frzs,I.base.tbls],#[_,w,λj y v' f g e3=>?_],λy c e=>?_,I.free,I.freeC,λp hp=>?_,λb ob e=>?_,by simpa using I.len]
 .exact(a.2 b (dq (eB (cK e) I.ok.above))).trans (I.base.keep b o e n x r)
 .obtain⟨sl,f⟩:=I.base.slot b o e n x r;exact#[sl,(a.2 b (dq (eB (cK e) I.ok.above))).trans f]
 .obtain⟨o',f⟩:=I.base.there b o e r;exact#[o',(a.2 b (dq (eB (cK e) I.ok.above))).trans f]
 .by_cases B:j=i
  .subst B;rw[List.getElem?_set]at g;split at g
   .split at g<;>cases g
   .rename_i z
    exact wC zZ z
  .rw[DO (dG B)]at g;obtain⟨u',r',q⟩:=u j y v' f g e3;refine#[u',r',?_]
   rcases q with⟨k,e⟩|⟨k,c,e,z⟩
   .refine .inl #[k,?_];have:y≠n:=λe=>B (CH T f (e▸O));simp[this,e]
   .exact .inr #[k,c,e,z.sameBut a (I.cne y c e)]
 .obtain⟨L,z⟩:=I.cell y c e;exact#[L,z.sameBut a (I.cne y c e)]
 .obtain⟨e,n,N,nf,d⟩:=I.pin p hp;exact#[(a.2 p.1 N).trans e,n,N,nf,d]
 .refine(I.hok b ob e).stay (λc L hc q=>(a.2 c ?_).trans q) (λ_ q=>q) λ_ _ q=>q;rintro rfl
  rcases hc with hc|hc
  .rw[<-hc,I.free]at e;cases e
  .rw[I.free]at hc;cases hc
noncomputable def gone(i:Nat)(D:Ends):Ends:={nx:=λa b=>D.nx (a.set i none) b,rt:=D.rt,bk:=λa b=>D.bk (a.set i none) b,ct:=λa b=>D.ct (a.set i none) b}
section
variable{A:Ar}{E:VP}{os:OsState}{K:R6}
theorem pJ{a:Vl}{r:Option Vl}{Q:Option Vl->Sh->Prop}(X:K.In h)(e:PySem.W.findIn K a b=some r)(c:Q r #[h,g,d,t,os]):wpAny M A (typeLookup a b) Q E #[h,g,d,t,os]:=
 PySem.W.looks_findIn X e _ _ _ _ (λ_ _ z=>z) c
end
def ki(K:R6)(C D:Ad):Prop:=ErrC K D/\∃N b c bs d sub e a f g h k2 k3 i,K.lookup C=some (excClassObj b c C N bs (.ref D::veMro) true d sub e a f g h k2 k3 i "ValueError.__new__")
structure MkE(K:R6)(C D f:Ad):Prop where
 cls:ki K C D
 init:PySem.W.findIn K (.ref C) "__init__"=some (some (.ref f))
 fn:PySem.W.isFn K (.ref f)=true
 kp:PySem.W.keepIn K (.ref C)=true
theorem pc{K:R6}(X:K.In h)(q:ki K C D):∃N b c bs d sub e a f g i k2 k3 j,
  h.get? C=some (excClassObj b c C N bs (.ref D::veMro) true d sub e a f g i k2 k3 j "ValueError.__new__")/\OwnTail h veMro (.ref D::veMro)/\K.lookup C=some (excClassObj b c C N bs (.ref D::veMro) true d sub e a f g i k2 k3 j "ValueError.__new__"):=by
 obtain⟨up,N,b,c,bs,d,sub,e,a,f,g,i,k2,k3,j,lk⟩:=q;obtain⟨_,_,_,_,_,_,_,_,_,_,_,_,_,_,_,_,_,l,m,k,_,_⟩:=up.obj X;exact#[N,b,c,bs,d,sub,e,a,f,g,i,k2,k3,j,X _ _ lk,.own l m k .base,lk]
section
variable{P:Pg}{A:Ar}{E:VP}{os:OsState}{K:R6}
theorem N9{c:Vs}{Q:Fin->Sh->Prop}(X:K.In h)(m:MkE K C D f)(u:c.length<=sizeLine)(v:∀p e,Heap.MadeExcOf h p e (.ref C) c->wpAny (model P w) A (call (.ref f) (.ref e::c)) (λr q=>r=.none/\Q (.done (.ret (.ref e))) q) E #[p,g,d,t,os]):
    wpAny (model P w) A (Builtin.«type.__call__» #[.ref C::c,[]]) Q E #[h,g,d,t,os]:=by
  obtain⟨N,H,I,bs,J,sub,L,y,M,O,U,k2,k3,Y,i,T,_⟩:=pc X m.cls;have s:veMro.contains (.type "ValueError")=true:=by rfl
  have j:=F.excBase_ValueError
  repeat (first|with_reducible refine iV i ?_|with_reducible refine wpAny_madeBy_exc i ?_|wp_step)
  refine codeAny_call_builtin_code (AR _ j.quiet) (wpAny_check_new_subU j s T i ?_);refine codeAny_exc_new_subU j s j T i ?_ u;have k:∀b o,h.get? b=some o->((h.push {cls:= .type "tuple",data:= .seq c.toArray}).push {cls:= .ref C,data:= .fields #v[.ref h.objs.size,.none,.none,.none,.bool false,.none]}).get? b=some o:=λb o z=>c7 _ (c7 _ z);have l:=k _ _ i;have a:((h.push {cls:= .type "tuple",data:= .seq c.toArray}).push {cls:= .ref C,data:= .fields #v[.ref h.objs.size,.none,.none,.none,.bool false,.none]}).get? (h.objs.size+1)=some
      {cls:= .ref C,data:= .fields #v[.ref h.objs.size,.none,.none,.none,.bool false,.none]}:=by heap_get
  have n:(Value.ref C:: .ref D::veMro).contains (.ref C)=true:=by simp
  unfold isInstance
  repeat (first|with_reducible refine iV a ?_|(with_reducible refine uj l ?_;rw[n])|wp_step)
  refine pJ (X.keeps k) m.init ?_;refine jo (bU ?_);unfold bindSpecial;have ty:=mj.mp m.fn;refine bU ((PySem.W.looks_typeIn (X.keeps k) ty).at ?_);rw[wB (by decide)];refine b9 (bU (eZ (v _ (h.objs.size+1) #[k,BH (re _),h.objs.size,a,BH (cg _),?_]) (λr q B=>?_) λ_ _ x=>x))
  · exact c7 _ (Heap.get?_push_at zZ zZ)
  · obtain⟨rfl,G⟩:=B
    wp_walk
    exact G
theorem KD{a:Vs}{Q:VP}(X:K.In h)(m:MkE K C D f)(i:a.length<=sizeLine)(j:∀b e,Heap.MadeExcOf h b e (.ref C) a->wpAny (model P w) (A.under (.builtin "type.__call__" #[.ref C::a,[]])) (call (.ref f) (.ref e::a)) (λr k=>r=.none/\Q (.ref e) k) E #[b,g,d,t,os]):
  wpAny (model P w) A (call (.ref C) a) Q E #[h,g,d,t,os]:=by
 obtain⟨N,o,p,bs,q,sub,s,l,u,v,x,k2,k3,y,c,T,_⟩:=pc X m.cls;have z:=tc_lookup;have B:=tc_bind (.ref C);have hT:(#[h,g,d,t,os]:Sh).TypeIs (.ref C) "type":=#[_,c,zZ];refine nR (FZ ?_)
 repeat (any_goals (first|assumption|with_reducible refine iV c ?_|wp_step))
 refine#[zZ,(codeAny_call_builtin_at (AR _ (by decide+kernel)) entry_typeCall (wpAny_check_type_call_sub c (N9 X m i λb e n=>?_)))];exact j b e n
end
def iY(e C:Ad)(d:Option Ad):Heap->Prop:=λh=>∃a,h.get? e=some {cls:= .ref C,dict:=d,data:= .fields #v[.ref a,.none,.none,.none,.bool false,.none]}
theorem CI(x:iY e C d h):ObjOk P w H h e (.ext (iY e C d)):=by
 obtain⟨b,a⟩:=x;exact#[#[b,a],#[_,a],λg g2 ⟨c,f⟩ k=>#[c,k _ f]]
structure SetE(K:R6)(C:Ad)(a:Str):Prop where
 sa:PySem.W.findIn K (.ref C) "__setattr__"=some (some (.builtin "object.__setattr__"))
 na:PySem.W.findIn K (.ref C) a=some none
section
variable{P:Pg}{A:Ar}{E:VP}{os:OsState}{e C D:Ad}{K:R6}{v:Vl}{f:Ad}
theorem NM{nv:Vl}{Q:Unit->Sh->Prop}(X:K.In h)(m:ki K C D)(c:h.get? e=some {cls:= .ref C,data:= .fields #v[.ref f,.none,.none,.none,.bool false,.none]})(i:Q ⟨⟩ #[h,g,d,t,os]):
  wpAny M A (checkBuiltinCall "object.__setattr__" #[[.ref e,nv,v],[]]) Q E #[h,g,d,t,os]:=by
 obtain⟨N,l,n,bs,o,sub,p,j,q,r,s,k2,k3,u,k,T,_⟩:=pc X m;have a:(Value.ref C:: .ref D::veMro).contains (.type "object")=true:=by rw[xc,T.hasType (b:=true) (by rfl),Ah]
 have w:=yh.args (.ref e) nv v;simp only[checkBuiltinCall,F.store_ValueError.kind,F.store_ValueError.split];refine bU ?_;unfold isInstance
 repeat (first|with_reducible refine iV c ?_|(with_reducible refine uj k ?_;rw[a])|wp_step)
 exact i
theorem Qo{Q:Fin->Sh->Prop}(X:K.In h)(m:ki K C D)(Y:SetE K C a)(l:h.get? e=some {cls:= .ref C,data:= .fields #v[.ref f,.none,.none,.none,.bool false,.none]})
  (hq:∀n s,n.get? e=some {cls:= .ref C,dict:=some h.objs.size,data:= .fields #v[.ref f,.none,.none,.none,.bool false,.none]}->n.Ns1 h.objs.size (λy=>if y=a then some v else none)->(∀b o,b≠e->h.get? b=some o->n.get? b=some o)->Q (.done (.ret .none)) #[n,g,d,s,os]):
  wpAny (model P w) A (Builtin.«object.__setattr__» #[[.ref e,.str a M,v],[]]) Q E #[h,g,d,t,os]:=by
 obtain⟨N,nm,qn,bs,sn,sub,ab,aa,dd,k0,k1,k2,k3,k5,hC,T,_⟩:=pc X m;have j:=yh.passes (.ref e);obtain⟨o,p⟩:∃o:Obj,o={cls:= .ref C,data:= .fields #v[.ref f,.none,.none,.none,.bool false,.none]}:=#[_,zZ];rw[<-p]at l;have hc:o.cls=.ref C:=by rw[p]
 have u:o.dict=none:=by rw[p]
 have x:∀c,o.data≠ .cls c:=λc z=>by rw[p]at z;cases z
 unfold Builtin.«object.__setattr__»
 repeat (first|rw[refuse_eq]|(rw[refuseLoop_ref,refuseLoop_ref,j])|(with_reducible refine iV l ?_;rw[hc])|with_reducible refine wpAny_mroOf_exc hC ?_|with_reducible refine pJ X Y.na ?_|wp_step)
 rw[u,wA (by simp[typeHasDict])];split
 .rename_i k
  cases k
 split
 .rename_i c k
  exact wC k (x c)
 .have i:(h.push {cls:= .type "dict",data:= .dict #v[]}).get? e=some o:=c7 _ l;have q:e≠h.objs.size:=dq (cK l);refine bU (wpAny_alloc' ?_);refine bU (wpAny_update' i ?_);refine b9 ?_;have B:((h.push {cls:= .type "dict",data:= .dict #v[]}).update e λo=>{cls:=o.cls,dict:=some h.objs.size,data:=o.data,slots:=o.slots}).get? h.objs.size=some {cls:= .type "dict",data:= .dict #v[]}:=
   (FL _ _ _ _ q.symm).trans (Heap.get?_push_at zZ zZ)
  have G:((h.push {cls:= .type "dict",data:= .dict #v[]}).update e λo=>{cls:=o.cls,dict:=some h.objs.size,data:=o.data,slots:=o.slots}).Ns h.objs.size (λ_=>none):=#[_,#v[],_,B,zZ,λe l=>wC l (by simp),λ_=>rfl];show wpAny _ _ (Builtin.ObjectAttr.storeInDict h.objs.size (.str a M) a v) _ _ _;unfold Builtin.ObjectAttr.storeInDict Builtin.ObjectAttr.newKeyGuard;refine bU (b9 (bU (wpAny_nsSet1 (Heap.Ns1.of_empty G) λn r O=>?_)));obtain⟨oD,ae,af,H,I,J⟩:=r.count (Within.cons a v Within.nil);refine bU (wpAny_lookBehind H (by rw[I];exact pastItsLine_dict (dh J (by rw[mF,FS,db];lia))) ?_)
  wp_walk
  refine hq n _ ?_ r λb ob L U=>(O.2 b (dq (cK U))).trans ((FL _ _ _ _ L).trans (c7 _ U));refine(O.2 e q).trans ((pM _ i ?_).trans ?_)
  .rw[p];rfl
  .rw[p]
theorem Nu{Q:Unit->Sh->Prop}(X:K.In h)(m:ki K C D)(k:SetE K C a)(j:h.get? e=some {cls:= .ref C,data:= .fields #v[.ref f,.none,.none,.none,.bool false,.none]})
  (l:∀c i,c.get? e=some {cls:= .ref C,dict:=some h.objs.size,data:= .fields #v[.ref f,.none,.none,.none,.bool false,.none]}->c.Ns1 h.objs.size (λy=>if y=a then some v else none)->(∀b o,b≠e->h.get? b=some o->c.get? b=some o)->Q ⟨⟩ #[c,g,d,i,os]):
  wpAny (model P w) A (setAttr (.ref e) a v) Q E #[h,g,d,t,os]:=by
 have r:=yh.slot.bind (.ref e)
 repeat (any_goals (first|assumption|with_reducible refine iV j ?_|with_reducible refine pJ X k.sa ?_|wp_step))
 refine wT yh.slot.plain yh.entry (NM X m j (Qo X m k j λc i n p q=>?_))
 repeat (any_goals (first|assumption|wp_step))
 exact l c _ n p q
end
section
variable{f:St}
theorem Inv.takeO(I:Inv X d f H s)(ok:ObjOk X.prog X.w (bT H a o) s.heap a o)(j:H a=none)(k:X.s₀.heap.get? a=none)(l:a≠X.env.locals)(r:∀x c,X.env.cells.lookup x=some c->c≠a)(t:∀p∈X.pn++d,p.1≠a):
  Inv X d f (bT H a o) s:=by
 have nd:∀b u,H b=some u->b≠a:=λb u q z=>by rw[z,j]at q;cases q
 have v:∀b o,X.s₀.heap.get? b=some o->b≠a:=λb o q z=>by rw[z,k]at q;cases q
 refine#[I.ok,I.os,I.bare,#[I.base.keep,I.base.slot,λb o q n w=>?_,I.base.there,λb e q=>?_,λb o e q=>?_,λb y q=>?_],I.loc,I.cell,?_,λx c q=>?_,λp g=>?_,λb u q=>?_,I.len]
 .rw[bX (v b _ q)];exact I.base.free b _ q n w
 .rw[bX (nd b _ (I.base.tups b e q))];exact I.base.tups b e q
 .rw[bX (nd b _ (I.base.frzs b o e q))];exact I.base.frzs b o e q
 .obtain⟨m,h⟩:=I.base.tbls b y q;exact#[m,by rw[bX (nd b _ h)];exact h]
 .rw[bX (dG l)];exact I.free
 .rw[bX (r x c q)];exact I.freeC x c q
 .obtain⟨A,a2,a3⟩:=I.pin p g;exact#[A,by rw[bX (t p g)];exact a2,a3]
 .by_cases i:b=a
  .subst i;rw[bY]at q;cases q;exact ok
  .rw[bX i]at q;exact(I.hok b u q).stay (λ_ _ _ z=>z) (λc z=>by rw[bX (nd c _ z)];exact z) λc e z=>by rw[bX (nd c _ z)];exact z
theorem Inv.newO{a:Ad}{o:HO}(g:Inv X d f k s1)(i:X.ex=[])(h:s1.heap.get? a=none):X.s₀.heap.get? a=none/\a≠X.env.locals/\(∀x c,X.env.cells.lookup x=some c->c≠a)/\∀p∈X.pn++d,p.1≠a:=by
 refine#[?_,λz=>?_,λy c q z=>?_,λp l z=>?_]
 .cases z:X.s₀.heap.get? a with
  |none=>rfl
  |some o=>
   obtain⟨n,j⟩:=g.base.there a o z (by rw[i];intro y;cases y);rw[h]at j;cases j
 .obtain⟨m,⟨r,_,_,b,_⟩,_⟩:=g.loc;rw[<-z,h]at b;cases b
 .obtain⟨s,t,e,_⟩:=g.cell y c q;rw[z,h]at e;cases e
 .have:=(g.pin p l).1;rw[z,h]at this;cases this
theorem Inv.forget(I:Inv X d f (bT H a (.ext i)) s)(j:H a=none):Inv X d f H s:=by
 have up:∀b,(bT H a (.ext i)) b=none->H b=none:=λb q=>by
  by_cases g:b=a
  .rw[g];exact j
  .rw[bX g]at q;exact q
 have of:∀b o,(∀k,o≠HO.ext k)->(bT H a (.ext i)) b=some o->H b=some o:=λb o l q=>by
  by_cases g:b=a
  .subst g;rw[bY]at q;cases q;exact wC zZ (l _)
  .rw[bX g]at q;exact q
 refine#[I.ok,I.os,I.bare,#[I.base.keep,I.base.slot,λb o q n r=>up _ (I.base.free b o q n r),I.base.there,λb h q=>of _ _ (λ_ e=>nomatch e) (I.base.tups b h q),λb o h q=>of _ _ (λ_ e=>nomatch e) (I.base.frzs b o h q),λb t q=>?_],
  I.loc,I.cell,up _ I.free,λx c q=>up _ (I.freeC x c q),λp v=>?_,λb u q=>?_,I.len]
 .obtain⟨m,w⟩:=I.base.tbls b t q;exact#[m,of _ _ (λ_ e=>nomatch e) w]
 .obtain⟨y,a2,a3⟩:=I.pin p v;exact#[y,up _ a2,a3]
 .have A:b≠a:=λz=>by rw[z,j]at q;cases q
  exact(I.hok b u (by rw[bX A];exact q)).stay (λ_ _ _ z=>z) (λc z=>of _ _ (λ_ e=>nomatch e) z) λc h z=>of _ _ (λ_ e=>nomatch e) z
theorem Kz(h:H a=some o):bT H a o=H:=by
 funext b
 by_cases c:b=a
 .rw[c,bY,h]
 .rw[bX c]
end
structure BaseI(K:R6)(D:Ad):Prop where
 ga:PySem.W.specialIn K (.ref D) "__getattribute__"=some (some (.builtin "type.__getattribute__"))
 rd:PySem.W.readsIn K D (.type "type")=true
 fi:PySem.W.findCls K (.ref D) (.type "type") "__init__"=some (.val (.builtin "ValueError.__init__"))
def Mw(C:Ad)(t:TA):TE:=λb H Q=>t b H λc a=>∃e y,c=[.ref e,y]/\a e=some (.ext (iY e C none))/\Q .non a
def yw(C:Ad)(a:Str)(f g:TE):TS:=λD c H=>g c H λy h=>f c h λx d=>∃e,x=.ref e/\d e=some (.ext (iY e C none))/\∀b,d b=none->b≠e->D.nx c (bT (bT d b (.xd [(a,y)])) e (.ext (iY e C (some b))))
section
variable{X:Cx}{p j c k:Pos}
theorem MY{L:Sem Bool}(m:MkE X.K C D f)(b:BaseI X.K D)(Y:Gl X x)(hm:X.mg x=some (.ref D))(ha:PA X [n,l] t)(k:(x==("__debug__":Str))=false:=by decide)
  (v:starEach [n,l] X.env=(false,eval n X.env)::starEach [l] X.env:=by rfl) (w:(backTo c (starEach [l] X.env)).any (·.1)=false:=by rfl)
  (ht:eval (.Call (.Attribute (.Name x p) "__init__" j) [n,l] [] c) X.env=(do
   let M <-eval (.Name x p) X.env
   standAt j.atName
   let(f,first) <-holding [M] (getMethod M "__init__" L)
   callWith c f first (backTo c (starEach [n,l] X.env)) (backToKw c (keywordEach [] X.env))):=by rfl):
  PE X (.Call (.Attribute (.Name x p) "__init__" j) [n,l] [] c) (Mw C t):=by
 intro za s σ H Q I h;refine De (pl:=L) (nK I Y hm ?_ k) ht;refine PySem.W.method_cls I.kIn b.ga (PySem.W.cls_value I.kIn b.rd b.fi zZ ?_);have I0:=I.tok (s.toks+1);refine IE (cj (ha c za _ σ H _ I0 h) λus s1 ⟨vs,H1,A,r,e,y,ev,B,q⟩=>?_) v w;subst ev;obtain⟨v1,E,rfl,r1,r2⟩:=FT r;cases r1;obtain⟨⟨t0,O⟩,_⟩:=A.hok e _ B;obtain⟨N,nm,qn,bs,sn,sub,ab,aa,dd,k0,k1,k2,k3,k5,hC,T,_⟩:=pc A.kIn m.cls;obtain⟨a,g,d,tk,os⟩:=s1;have G:=F.excBase_ValueError;refine nR (wT G.init.plain G.initEntry (wpAny_check_init_subU G T hC O zZ ?_))
 wp_walk
 have J:(a.push {cls:= .type "tuple",data:= .seq #v[E]}).get? e=some {cls:= .ref C,data:= .fields #v[.ref t0,.none,.none,.none,.bool false,.none]}:=c7 _ O;have i:((a.push {cls:= .type "tuple",data:= .seq #v[E]}).update e (Obj.mapFields λx=>x.setIfInBounds 0 (.ref a.objs.size))).get? e=some {cls:= .ref C,data:= .fields #v[.ref a.objs.size,.none,.none,.none,.bool false,.none]}:=pM _ J rfl;have U:=A.write (x:=e) (e:=e) (o:= .ext (iY e C none)) (t':=tk) (h':=(a.push {cls:= .type "tuple",data:= .seq #v[E]}).update e (Obj.mapFields λx=>x.setIfInBounds 0 (.ref a.objs.size))) (by rw[B];exact True.intro) (.inl rfl)
  (λb u hb z=>(FL _ _ _ _ hb).trans (c7 _ z)) #[_,i] (CI #[_,i])
 rw[Kz B]at U;exact#[.non,H1,U,zZ,q]
theorem Nc(J:X.ex=[])(m:MkE X.K C D f)(Q:SetE X.K C a)(T:PE X o w)(U:PE X i v)(Y:swapsWith i (some (.Attribute o a k)) c.line X.env=pure false:=by rfl):PS X (.Assign [.Attribute o a k] i c) (yw C a w v):=by
 intro L s A H E I h;refine Jp (cj (U L s A H _ I h) λu s1 ⟨y,H1,I1,ry,q⟩=>cj (T L s1 A H1 _ I1 q) λov s2 ⟨z,B,n,rx,e,ex,M,q2⟩=>?_) Y;subst ex;cases rx;obtain⟨⟨t0,N⟩,_⟩:=n.hok e _ M;obtain⟨j,g,d,tk,os⟩:=s2;refine Nu n.kIn m.cls Q N λh' p O g2 g3=>?_;have dn:j.get? j.objs.size=none:=BH (cg _);have r:=n.hok.fresh (cg _);have l:=mC (cK N);obtain⟨n1,n2,n3,n4⟩:=n.newO (o:= .xd []) J dn;have I3:=n.write (t':=p) (by rw[M];exact True.intro) (.inl rfl) (λb u hb q=>g3 b u hb q) #[_,O] (CI #[t0,O]);have I4:=I3.takeO (o:= .xd [(a,y)]) #[_,g2,λf=>?_] (by rw[bX l];exact r) n1 n2 n3 n4
 .refine#[A,_,I4,?_];have e3:bT (bT B e (.ext (iY e C (some j.objs.size)))) j.objs.size (.xd [(a,y)])=bT (bT B j.objs.size (.xd [(a,y)])) e (.ext (iY e C (some j.objs.size))):=by
   funext b
   unfold bT;by_cases t:b=e
   .rw[wB t,wB t,wA (by rw[t];exact dG l)]
   .rw[wA t,wA t]
  rw[e3];exact q2 _ r l
 .by_cases G:f=a
  .rw[wB G,iO,G,qm];exact ry
  .rw[wA G,iO,oq.mpr G];exact True.intro
end
section
variable{f:St}
theorem KO{S:As}(I:Inv X a f H s)(l:X.ex=[])(keep:∀b o,s.heap.get? b=some o->b∉cV X.stack->b∉S->g.get? b=some o)(h:∀b o,s.heap.get? b=some o->b∈cV X.stack->∃sl,g.get? b=some {o with slots:=sl})
  (x:∀b∈S,X.s₀.heap.get? b=none/\H b=none):Un (cV X.outer) [] X.H₀ H X.s₀.heap g/\HOk X.prog X.w H g:=by
 have i:∀b,b∉X.ex:=λb z=>by rw[l]at z;cases z
 have m:=λb d=>I.stkFree b d;have p:∀b o,X.s₀.heap.get? b=some o->b≠X.env.locals:=λb o e=>dq (eB (cK e) I.ok.above);have r:∀b o,X.s₀.heap.get? b=some o->b∉cV X.outer->b∉cV X.stack:=λb o e n z=>by
  rcases cP.mp (I.stkSub b z)with q|q
  .exact p b o e q
  .exact n q
 have y:∀b o,X.s₀.heap.get? b=some o->b∉S:=λb o e z=>by
  have:=(x b z).1;rw[e]at this;cases this
 refine#[#[λb o e n d _=>?_,λb o e n d _=>?_,λb o e n _=>I.base.free b o e n (i b),λb o e _=>?_,I.base.tups,I.base.frzs,I.base.tbls],λb o e=>?_]
 .exact keep b o (I.base.keep b o e n d (i b)) (r b o e d) (y b o e)
 .obtain⟨sl,j⟩:=I.base.slot b o e n d (i b);obtain⟨t,u⟩:=h b _ j (Eb I.ok b d);exact#[t,u]
 .obtain⟨w,j⟩:=I.base.there b o e (i b);by_cases d:b∈cV X.stack
  .obtain⟨sl,u⟩:=h b w j d;exact#[_,u]
  .exact#[w,keep b w j d (y b o e)]
 .have k:∀c v,H c=some v->c∉cV X.stack/\c∉S:=λc v q=>#[λz=>(by rw[m c z]at q;cases q),λz=>(by rw[(x c z).2]at q;cases q)];refine(I.hok b o e).stay (λc v A q=>?_) (λ_ q=>q) λ_ _ q=>q
  rcases A with z|z
  .rw[z]at q|-;exact keep b v q (k b o e).1 (k b o e).2
  .exact keep c v q (k c _ z).1 (k c _ z).2
theorem Rr{E1:VP}(I:Inv X a f (bT H e (.ext (iY e C d))) s)(A:H e=none)(Y:X.s₀.heap.get? e=none)(i:X.ex=[])(j:X.stack=X.env::X.outer)(hf:X.env.frame=some X.env.locals)(hE:E (.ref C) d H):wpAny M X.A (leaving X.env (.ref e)) (λ_ B=>CX1 X.prog X.w X.outer X.H₀ X.s₀ E (.ref e) B) E1 s:=by
 obtain⟨⟨t0,he⟩,_⟩:=I.hok e _ bY;have D:=I.forget A;have k:=D.stack;have aa:e∉cV X.stack:=λz=>by
  have:=I.stkFree e z;rw[bY]at this;cases this
 have l:∀b∈cV X.stack,∃o,s.heap.get? b=some o/\∀G,o.data≠ .fields G:=λb g=>(k.mem g).2;refine Oi (by rw[I.ok.frames,j]) (by rw[<-j];exact PySem.W.funFrames_hide k λJ m b g=> .tail _ (Hd J m b g)) hf he (λb o q=>Ej _ q) (Bp _ (.head _)) zZ zZ zZ λL hL dc=>?_;obtain⟨st,_,⟨oe,G,T,oT,ts,n,⟨hc,h0⟩,hd,h1,hT,t,v,w,h3⟩,up⟩:=hL;obtain⟨ab,x,N⟩:=dc;rw[n]at x;cases x;have c:∀b o,s.heap.get? b=some o->b∈cV X.stack->∃sl,L.get? b=some {o with slots:=sl}:=λb o q g=>by
  obtain⟨O,h,Q⟩:=l b g;rw[q]at h;cases h;exact up b o q Q
 obtain⟨u,hk⟩:=KO (S:=[e]) D i (λb o q g hS=>st b o (wm _ q λz=>by
   rcases cP.mp z with y|z
   .exact hS (by rw[y];exact .head _)
   .exact g z)) c λb z=>by rw[cJ.mp z];exact#[Y,A]
 have gT:s.heap.get? T=none:=by
  cases q:s.heap.get? T with
  |none=>rfl
  | some o=>
   by_cases y:T∈cV X.stack
   .obtain⟨O,h,Q⟩:=l T y;obtain⟨sl,e3⟩:=c T O h y;rw[v]at e3;cases e3;exact wC w (Q ts)
   .rw[wm _ q (λr=>by
     rcases cP.mp r with p|r
     .exact t p
     .exact y r)]at hT
    cases hT
 have U:X.s₀.heap.get? T=none:=by
  cases z:X.s₀.heap.get? T with
  |none=>rfl
  |some o=>
   obtain⟨O,h⟩:=I.base.there T o z (by rw[i];intro y;cases y);rw[gT]at h;cases h
 exact#[e,C,d,H,zZ,I.os,I.bare,u,hk,#[Y,A,oe,G,T,oT,ts,_,n,hc,N,hd,h0,h1,U,D.hok.gone gT,t,v,w,h3],hE]
end
def D7(X:Cx)(E:XK):Prop:=∀(a:AO) (b:St) (H:Hp) (s:Sh) (e C:Ad) (d:Option Ad),Inv X a b (bT H e (.ext (iY e C d))) s->H e=none->X.s₀.heap.get? e=none->E (.ref C) d H->X.xe (.ref e) s
theorem KG{K:R6}:D7 (kh (CX1 P w) P w K mg c N d a f e A b s H E) E:=
 λ_ _ _ _ _ _ _ I g h i=>Rr I g h zZ zZ zZ i
section
variable{A:Ar}{E:VP}{s:Sh}{K:R6}
theorem L5{x:Sem Vl}{Q:Flow->Sh->Prop}(m:ki K C D)(k:A.handled=none)(h:wpAny M A x (λv c=>∃e d,v=.ref e/\K.In c.heap/\iY e C d c.heap/\E (.ref e) c) E s):wpAny M A (raiseStmt a (some x) none) Q E s:=by
 refine bU (eZ h (λv c f=>?_) λ_ _ x=>x);obtain⟨e,d,rfl,X,⟨p,l⟩,n⟩:=f;obtain⟨N,q,r,bs,t,sub,u,o,w,y,z,k2,k3,B,j,T,_⟩:=pc X m;have i:(Value.ref C:: .ref D::veMro).contains (.type "BaseException")=true:=by rw[xc,T.hasType (b:=true) zZ,Ah]
 obtain⟨G,g,H,I,os⟩:=c
 repeat (first|with_reducible refine iV l ?_|with_reducible refine iV j ?_|(with_reducible refine uj j ?_;rw[i])|wp_step)
 exact AY k n
end
def Ix(C:Ad)(f:Sp)(E:XK)(t:TA):TS:=λ_ g H=>t g H λb c=>b.length<=sizeLine/\∀e,c e=none->f (.ref e::b) (bT c e (.ext (iY e C none))) (λv h=>v=.non/\∃d a,h=bT a e (.ext (iY e C d))/\a e=none/\E (.ref C) d a) E0
section
variable{X:Cx}{p n a:Pos}
theorem Q0(hc:X.calm=true)(L:X.ex=[])(th:D7 X E)(m:MkE X.K C D f)(F:FnOk X.prog X.w X.K X.mg X.base cG k f l i j)(hr:Room (k+1) X.A)(hb:Binds X.K l i [])(hg:Gl X x)(hm:X.mg x=some (.ref C))(ha:PA X (e::b) t)(M:(x==("__debug__":Str))=false:=by decide) (he:starEach (e::b) X.env=(false,eval e X.env)::starEach b X.env:=by rfl) (N:(backTo a (starEach b X.env)).any (·.1)=false:=by rfl):
  PS X (.Raise (some (.Call (.Name x p) (e::b) [] a)) none n) (Ix C j E t):=by
 intro O s Q H D' I h;rw[arm_exec_Raise];refine bU (uk (L5 m.cls (I.ok.hd hc) (bU (eZ (n7 (nK I hg hm ?_ M)) (λv s3 T=>bU (uk (b9 T))) λ_ _ x=>x))));refine pY I.ok.mod.kin m.kp (cj (ha a O s Q H _ I h) λy s1 ⟨vs,H1,A,r,z,q⟩=>#[A.kIn,?_]) he N;obtain⟨hp,g,d,U,os⟩:=s1;refine KD A.kIn m (by rw[EW,<-r.length];exact z) λh' c J=>?_;obtain⟨t0,B,_,_⟩:=J.there;have hn:=A.hok.gone J.new;obtain⟨n1,n2,n3,n4⟩:=A.newO (o:= .xd []) L J.new;have Y:=(A.kept (t':=U) J.keeps).takeO (CI #[t0,B]) hn n1 n2 n3 n4;have hq:=q c hn;have r2:Vals (V.ref c::vs) (Value.ref c::y):= .cons zZ r;have hl:(Value.ref c::y++([]:Vs)).length=i.length:=by
  have e:=r2.length;rw[F.len _ _ _ _ hq]at e;rw[hA];exact e.symm
 have G:=hb #[h',g,d,U,os] (Value.ref c::y) Y.kIn hl;rw[hA]at G;refine nR (lW (F.run _ X.stack _ _ #[Value.ref c::y,[]] (Value.ref c::y) _ _ E0 (hr.make C y []) (Y.env0.make C y []) G r2 hq) λr s' w=>?_);cases r with
 |error e=>exact w.elim
 | ok fl=>
  cases fl with
  |ret u=>
   obtain⟨v,H',I3,rv,ev,d',H3,eH,T,hE⟩:=Y.after w;subst ev eH;exact#[rv,c,d',zZ,I3.kIn,(I3.hok c _ bY).1,th O Q H3 s' c C d' I3 T n1 hE]
  |next=>exact wE w
  |brk=>exact wE w
  |cont=>exact wE w
def D0(P:Pg)(w:World)(K:R6)(mg:SV)(base:Heap)(x:Str)(k:Nat)(i:Ss)(j:Sp)(C:Ad):Prop:=∃D f l,MkE K C D f/\FnOk P w K mg base cG k f l i j/\Binds K l i []/\mg x=some (.ref C)
theorem OV(o:X.calm=true)(d:X.ex=[])(q:D7 X E)(c:D0 X.prog X.w X.K X.mg X.base x k i j C)(r:Room (k+1) X.A)(s:Gl X x)(u:PA X (e::b) t)(g:(x==("__debug__":Str))=false:=by decide) (v:starEach (e::b) X.env=(false,eval e X.env)::starEach b X.env:=by rfl) (h:(backTo a (starEach b X.env)).any (·.1)=false:=by rfl):
  PS X (.Raise (some (.Call (.Name x p) (e::b) [] a)) none n) (Ix C j E t):=by
 obtain⟨D,f,l,m,F,w,y⟩:=c;exact Q0 o d q m F r w s y u g v h
end
def xH(K:R6)(C:Ad)(c:Vs):Prop:=∃N d e bs a f sub g b h i j k2 k3 k l,K.lookup C=some (excClassObj d e C N bs c a f sub g b h i j k2 k3 k l)
def FE(K:R6)(C D:Ad):Prop:=∃b a,xH K C b/\xH K D a/\(Value.ref C::b).contains (.ref D)=true/\(Value.ref D::a).contains (.type "BaseException")=true
theorem Qa{K:R6}(q:ki K C D):FE K C C:=by
 obtain⟨_,N,b,c,bs,d,sub,e,a,f,g,h,k2,k3,i,lk⟩:=q;exact#[_,_,#[_,_,_,_,_,_,_,_,_,_,_,_,_,_,_,_,lk],#[_,_,_,_,_,_,_,_,_,_,_,_,_,_,_,_,lk],by simp,by rw[List.contains_cons,List.contains_cons];rfl]
theorem Mp{A:Ar}{E:VP}{K:R6}{e C D:Ad}{Q:Bool->Sh->Prop}(X:K.In s.heap)(c:FE K C D)(j:s.heap.get? e=some b)(k:b.cls=.ref C)(l:Q true s):
  wpAny M A (excMatches (.ref e) (.ref D)) Q E s:=by
 obtain⟨T,m,⟨N,U,Y,bs,f,sn,sb,ab,n,dd,k0,k1,k2,k3,k5,nw,o⟩,⟨N',p,q,r,a,t,u,v,h,w,x,y,z,B,G,H,I⟩,J,L⟩:=c;have O:=X _ _ o;have i:=X _ _ I;have nt:=tc_notTuple;obtain⟨hp,g,d,tk,os⟩:=s
 repeat (first|(with_reducible refine iV j ?_;rw[k])|with_reducible refine iV i ?_|(with_reducible refine uj i ?_;rw[L])|(with_reducible refine uj O ?_;rw[J])|wp_step)
 exact l
def yV(i:Nat)(K:R6)(c:Ad)(f:XK->TS)(g:TS):TS:=λD b H=>∃E:XK,f E D b H/\∀C d a,E (.ref C) d a->FE K C c/\∀e,a e=none->g (gone i D) (b.set i (some (.ref e))) (bT a e (.ext (mD e C d)))
theorem QB{X:Cx}{D':Ad}(U:X.ex=[])(Y:X.stack=X.env::X.outer)(hf:X.env.frame=some X.env.locals)(hN:X.N.Nodup) (hi:X.N[i]?=some n) (N:X.env.scope.names.lookup n=some .local) (hg:Gl X x) (hm:X.mg x=some (.ref D')) (j:Ii X k tb) (hs:∀e,PSs (X.caught e).nox (b0::a) ts) (ak:(x==("__debug__":Str))=false:=by decide):
  PS X (.Try k [.ExceptHandler (some (.Name x np)) (some n) (b0::a) Q] [] [] aj) (yV i X.K D' tb ts):=by
 intro za s σ H D I h;obtain⟨E,h1,hc⟩:=h;refine wpAny_Try_except (cj (j za s σ H D E _ I h1 λH1 s1 v s' l hx=>?_) λf s1 q=>?_)
 rotate_left
 .cases f with
  |next=>exact vf q
  |brk=>exact q
  |cont=>exact q
  |ret u=>exact q
 obtain⟨e,C,d,H',T,a0,rfl,os,aa,u,al,hE,dc,ne,fe,nT,fT,fl⟩:=Ht l hx;obtain⟨cB,go⟩:=hc C d H' hE;have ab:∀b o,s'.heap.get? b=some o->b∉cV X.stack->b∉[e,T]->(PySem.W.hideAll s'.heap (e::T::cV X.stack)).get? b=some o:=λb o q j O=>wm _ q λz=>by
  rcases cP.mp z with y|z
  .exact O (by rw[y];exact .head _)
  .rcases cP.mp z with y|z
   .exact O (by rw[y];exact .tail _ (.head _))
   .exact j z
 have am:∀b∈cV X.stack,∃o,s'.heap.get? b=some o/\∀ws,o.data≠ .fields ws:=λb j=>(fl.2.2.1.mem j).2;generalize PySem.W.hideAll s'.heap (e::T::cV X.stack)=B at fl ab;rw[Y]at fl;have O:∀b∈[e,T],s1.heap.get? b=none/\H' b=none:=λb z=>by
  rcases cP.mp z with y|z
  .rw[y];exact#[ne,fe]
  .rw[cJ.mp z];exact#[nT,fT]
 have mk:∀t,Heap.FlyingW B (X.env::X.outer) e (.ref C) a0 t->s'.heap.UpToSlots t->Inv X za σ H' {s' with heap:=t}:=λt f5 up=>by
  obtain⟨u5,an⟩:=ND l u al (λb o q j O=>f5.1 b o (ab b o q j O)) (λb o q j=>by
   obtain⟨o',e1,e2⟩:=am b j;rw[q]at e1;cases e1;exact up b o q e2) O
  exact l.call' os u5 an aa λb z=>by cases z
 refine O0 (by rw[l.ok.frames,Y]) hf fl dc λh4 w ae ao=>KU w ao λt A af ap=>?_;have I5:=mk t A (ae.trans af);refine wpAny_handleBy_cons (codeAny_handlers_test (nK (I5.caught e) hg hm ?_ ak)) (by intro q;cases q);obtain⟨oe,aq,ar⟩:=A.there;refine Mp I5.kIn cB aq ar (codeAny_handlers_suite_as (Ox A ap λh6 ag as au=>?_));have I6:=mk h6 ag ((ae.trans af).trans as);have n0:X.s₀.heap.get? e=none:=by
  cases z:X.s₀.heap.get? e with
  |none=>rfl
  |some o=>
   obtain⟨o',e1⟩:=l.base.there e o z (by rw[U];intro y;cases y);rw[ne]at e1;cases e1
 have av:=Li ag au;have aw:=I6.takeIn av fe n0 (λz=>by
   obtain⟨m,⟨oL,_,_,ah,_⟩,_⟩:=l.loc;rw[<-z,ne]at ah;cases ah) (λy c q z=>by
   obtain⟨w',oc,ai,_⟩:=l.cell y c q;rw[z,ne]at ai;cases ai) (λp hp z=>by
   have:=(l.pin p hp).1;rw[z,ne]at this;cases this) (by rw[U];intro y;cases y)
 refine Be (X:=X.caught e) (v:= .ref e) (aw.caught e) hN hi (.inl N) zZ (λs7 I7=>eZ (hs e za s7 _ _ _ (I7.wish _) (go e fe)) (λf s8 q=>?_) λ_ _ z=>wE z) (.inr N);cases f with
 |next=>
  obtain⟨G,J,L,q⟩:=q;exact A' (L.unwish.uncaught I.ok) hi hN N λs9 M=>#[_,J,M,q]
 |brk=>
  obtain⟨G,J,L,q⟩:=q;exact A' (L.unwish.uncaught I.ok) hi hN N λs9 M=>#[_,J,M,q]
 |cont=>
  obtain⟨G,J,L,q⟩:=q;exact A' (L.unwish.uncaught I.ok) hi hN N λs9 M=>#[_,J,M,q]
 |ret u=>
  obtain⟨v,G,J,L,r,q⟩:=q;exact A' (L.unwish.uncaught I.ok) hi hN N λs9 M=>#[v,_,J,M,r,q]
structure GetE(K:R6)(C:Ad)(a:Str):Prop where
 ga:PySem.W.findIn K (.ref C) "__getattribute__"=some (some (.builtin "BaseException.__getattribute__"))
 gt:PySem.W.findIn K (.ref C) "__getattr__"=some none
 na:PySem.W.findIn K (.ref C) a=some none
section
variable{P:Pg}{A:Ar}{E:VP}{os:OsState}{e C D f:Ad}{K:R6}{u:Vl}{i:SV}
theorem Hb{a:Vl}{Q:Unit->Sh->Prop}(X:K.In h)(m:ki K C D)(c:h.get? e=some o)(f:o.cls=.ref C)(i:Q ⟨⟩ #[h,g,d,t,os]):
  wpAny M A (checkBuiltinCall "BaseException.__getattribute__" #[[.ref e,a],[]]) Q E #[h,g,d,t,os]:=by
 have j:builtinKind "BaseException.__getattribute__"=some .slot:=by decide+kernel
 have k:splitId "BaseException.__getattribute__"=some ("BaseException","__getattribute__"):=by decide+kernel
 obtain⟨N,q,r,bs,s,sub,u,l,v,w,x,k2,k3,y,n,T,_⟩:=pc X m;have p:(Value.ref C:: .ref D::veMro).contains (.type "BaseException")=true:=by rw[xc,T.hasType (b:=true) (by rfl),Ah]
 have z:=F.args_bexc_ga (.ref e) a;simp only[checkBuiltinCall,j,k];refine bU ?_;unfold isInstance
 repeat (first|(with_reducible refine iV c ?_;rw[f])|(with_reducible refine uj n ?_;rw[p])|wp_step)
 exact i
theorem Kn{Q:Fin->Sh->Prop}(X:K.In h)(m:ki K C D)(gE:GetE K C a)(l:h.get? e=some o)(n:o.cls=.ref C)(b:∀c,o.data≠ .cls c)(j:o.dict=some f)(q:h.Ns f i)(r:i a=some u)(s:Q (.done (.ret u)) #[h,g,d,t,os]):
  wpAny (model P w) A (Builtin.«object.__getattribute__» #[[.ref e,.str a p],[]]) Q E #[h,g,d,t,os]:=by
 obtain⟨N,y,z,bs,B,sub,G,v,H,I,J,k2,k3,L,x,T,_⟩:=pc X m
 repeat (first|(with_reducible refine iV l ?_;rw[n])|with_reducible refine pJ X gE.na ?_|wp_step)
 split
 .rename_i c k
  exact wC k (b c)
 repeat (first|(with_reducible refine iV l ?_;rw[n])|with_reducible refine iV x ?_|wp_step)
 rw[j]
 repeat (first|(with_reducible refine wpAny_nsGet q ?_;rw[r])|wp_step)
 exact s
theorem Ow{Q:VP}(X:K.In h)(m:ki K C D)(gE:GetE K C a)(j:h.get? e=some o)(k:o.cls=.ref C)(l:∀c,o.data≠ .cls c)(n:o.dict=some f)(r:h.Ns f i)(s:i a=some u)(p:handedOut u=pure u)(x:Q u #[h,g,d,t,os]):
  wpAny (model P w) A (getAttrBy (.ref e) (.str a q) ut b) Q E #[h,g,d,t,os]:=by
 have y:=AZ.ga.bind (.ref e);have z:(b&&onTheHeap (Value.builtin "BaseException.__getattribute__"))=false:=by cases b<;>rfl
 have v:(Value.builtin "BaseException.__getattribute__"==Value.builtin "object.__getattribute__")=false:=by decide+kernel
 have B:(onTheHeap (Value.ref C)&&Value.builtin "BaseException.__getattribute__"==Value.builtin "object.__getattribute__")=false:=by rw[v];rfl
 repeat (any_goals (first|assumption|(with_reducible refine iV j ?_;rw[k])|with_reducible refine pJ X gE.ga ?_|with_reducible refine pJ X gE.gt ?_|wp_step))
 refine wT AZ.ga.plain F.entry_bexc_ga (Hb X m j k (Kn X m gE j k l n r s ?_))
 repeat (any_goals (first|assumption|(rw[p])|wp_step))
theorem LI{Q:VP}(X:K.In h)(m:ki K C D)(gE:GetE K C a)(n:h.get? e=some o)(p:o.cls=.ref C)(j:∀c,o.data≠ .cls c)(k:o.dict=some f)(q:h.Ns f i)(r:i a=some u)(l:handedOut u=pure u)(s:Q u #[h,g,d,t+1,os]):
  wpAny (model P w) A (getAttr (.ref e) a b) Q E #[h,g,d,t,os]:=by
 repeat (any_goals (first|assumption|with_reducible apply Ow X m gE n p j k q r l|wp_step))
end
def G4(K:R6)(a:Str)(d:TE):TE:=λf H Q=>d f H λx b=>∃e C D c n,x=.ref e/\b e=some (.ext (mD e C (some c)))/\b c=some (.xd [(a,.int n)])/\ki K C D/\GetE K C a/\Q (.int n) b
theorem Rq(p:PE X e k)(v:attributeBase e a X.env (eval e X.env)=eval e X.env:=by rfl):PE X (.Attribute e a i) (G4 X.K a k):=by
 intro w s y H Q I h;refine JU v (cj (p w s y H _ I h) λu A ⟨x,B,f,E,ad,C,D,G,n,J,L,M,m,gE,q⟩=>?_);subst J;cases E;obtain⟨⟨o,N,O,T,ws,hw⟩,_⟩:=f.hok ad _ L;obtain⟨U,Y,r⟩:=f.hok G _ M;have b:=r a;rw[show List.lookup a [(a,V.int n)]=some (V.int n) by rw[iO,qm]]at b;cases j:U a with
 |none=>rw[j]at b;exact b.elim
 |some u=>
  rw[j]at b;obtain⟨l,rfl⟩:=(b);obtain⟨hh,g,d,t,os⟩:=A;exact LI f.kIn m gE N O (λc z=>by rw[hw]at z;cases z) T Y.ns j rfl #[.int n,B,f.tok (t+1),#[_,rfl],q]
theorem OI{K:R6}(d:X.K=K)(f:PE X e c)(g:attributeBase e a X.env (eval e X.env)=eval e X.env:=by rfl):PE X (.Attribute e a b) (G4 K a c):=by
 subst d;exact Rq f g
structure RoomH(k:Nat)(A:Ar):Prop where
 dp:A.depth+3 * k+5<recursionLimit
 un:A.units+16 * k+200<cLine
theorem Room.held(r:Room k A):RoomH k A:=#[r.dp,r.un]
theorem RoomH.mono(r:RoomH k A)(h:j<=k):RoomH j A:=#[by have:=r.dp;lia,by have:=r.un;lia]
theorem RoomH.mark(r:RoomH k A)(h:Option Vl):RoomH k (A.mark h):=#[r.dp,r.un]
structure FnOkH(P:Pg)(w:World)(K:R6)(mg:SV)(base:Heap)(k:Nat)(f:Ad)(fd:Fd)(ps:Ss)(sp:Sp):Prop where
 len:∀vs H Q E,sp vs H Q E->vs.length=ps.length
 run:∀(A:Ar) (outer:List Env) (s:Sh) (H:Hp) (args:Args) (us:Vs) (vs:List V) (Q:VK) (E:XK),RoomH k A->Env0 P w K mg base A outer s H->BindsTo s fd args (ps.zip us)->Vals vs us->sp vs H Q E->
  codeAny (model P w) A (.call (.ref f) args) (CR cG outer P w H s Q E) s
abbrev Cx.loud(X:Cx):Cx:={X with calm:=false}
theorem OS{K:R6}{f:Ad}{dV kV L pm h ct oc:Vl}{an od:Option Ad}{T:Array (Option Vl)}   (lk:K.lookup f=some #[oc,od,.func (PySem.W.fnOf name d i l a dV kV L pm an h ct),T]) (Y:PySem.W.codeIn K h d=true) (S:FnScope N O a)(len:∀m H Q E,U m H Q E->m.length=O.length)(C:∀A c s H m Q E,RoomH k (A.deeper (envOfC d a s.heap.objs.size f h))->U m H Q E->
   ∃t,PSs (kh cG P w K mg g N d a f h A c s H E).loud.nox l t/\t {nx:=λ_ B=>Q .non B,rt:=Q} (start N m) H):
  FnOkH P w K mg g (k+1) f (PySem.W.fnOf name d i l a dV kV L pm an h ct) O U:=by
 refine#[len,λA c s H args us m Q E hr j hb r M=>?_];have hl:=len _ _ _ _ M;have KX:=j.mod.kin.keeps λb o e=>(j.bs b o e).1;have aa:=j.mod.nolimit.keeps λb o e=>(j.bs b o e).1;have D:∀y∈O.zip us,a.names.lookup y.1=some .local\/(a.names.lookup y.1=some .cell/\((cellsFrom (s.heap.objs.size+1) a.names []).lookup y.1).isSome=true):=λ⟨n,v⟩ hy=>by
  rcases S.par n (x4 hy).1 with q|q
  .exact .inl q
  .exact .inr #[q,FU _ _ _ (.inl q)]
 refine codeAny_call_function (by have:=hr.dp;lia) (KX _ _ lk) zZ S.co S.gen zZ (PySem.W.codeRec_of KX Y) (hb _ _ _ _ (G0 S.kind D λab he s1 x=>?_));subst he;refine#[aa.keeps x.toInCall.keep,codeAny_func ?_];obtain⟨t,ht,hq⟩:=C A c s H m Q E #[by have:=hr.dp;show A.depth+1+3 * k+5<_;lia,by have:=hr.un;show A.units+3+16 * k+200<_;lia] M;have J:Inv (kh cG P w K mg g N d a f h {A with handled:=none} c s H E) [] (start N m) H s1:=Kb S rfl #[j.frames,j.mod,j.bs,j.bsz,j.funs,j.frf,j.hok,j.bare] hl r x;have I:Inv (kh cG P w K mg g N d a f h A c s H E).loud [] (start N m) H s1:=
  #[#[J.ok.mod,J.ok.kind,J.ok.glob,J.ok.blt,J.ok.above,J.ok.inj,J.ok.has,J.ok.cab,(λz=>by cases z),J.ok.frames,J.ok.stk,J.ok.exf,J.ok.bs,J.ok.bsz,J.ok.noex,J.ok.exfs,J.ok.funs,J.ok.frf],J.os,J.bare,J.base,J.loc,J.cell,J.free,J.freeC,J.pin,J.hok,J.len]
 refine eZ (ht [] s1 (start N m) H _ (I.wish _) hq) (λfl s' G=>?_) λe s' G=>wE G;have fin:∀{p} {B} {v} {u},Inv (kh cG P w K mg g N d a f h A c s H E).loud [] p B s'->RelV v u->Q v B->CE c P w H s Q u s':=
  λ{p B v u} J rv q=>#[v,B,J.os,J.bare,J.base,J.hok,rv,q]
 cases fl with
 |ret u=>
  obtain⟨v,p,B,J,rv,q⟩:=G;exact fin J.unwish rv q
 |next=>
  obtain⟨p,B,J,q⟩:=G;exact fin (v:=V.non) J.unwish zZ q
 |brk=>
  obtain⟨_,_,_,q⟩:=G;exact wE q
 |cont=>
  obtain⟨_,_,_,q⟩:=G;exact wE q
theorem Fun.okH{K:R6}{st:Stmt}(F:Fun K x b st f m)(S:FnScope N h (cu st))(len:∀e H Q E,i e H Q E->e.length=h.length)(g:∀c A a s H e Q E,RoomH k (A.deeper (envOfC b (cu st) s.heap.objs.size f c))->i e H Q E->
   ∃t,PSs (kh cG P w K mg d N b (cu st) f c A a s H E).loud.nox (fc st) t/\t {nx:=λ_ n=>Q .non n,rt:=Q} (start N e) H):FnOkH P w K mg d (k+1) f m h i:=by
 obtain⟨r,u,kV,o,pm,v,c,y,p,rfl,lk,j⟩:=F.ex;exact OS lk j S len λA a s H e Q E q l=>g c A a s H e Q E q l
def C3(P:Pg)(w:World)(K:R6)(mg:SV)(a:Heap)(x:Str)(k:Nat)(b:Ss)(d:Sp):Prop:=
 ∃f c,FnOkH P w K mg a k f c b d/\mg x=some (.ref f)/\PySem.W.keepIn K (.ref f)=true/\Binds K c b []
theorem Me{p a:Pos}(c:C3 X.prog X.w X.K X.mg X.base x k y i)(A:RoomH k X.A)(B:Gl X x)(C:PA X (e::b) t)(m:(x==("__debug__":Str))=false:=by decide) (D:starEach (e::b) X.env=(false,eval e X.env)::starEach b X.env:=by rfl) (n:(backTo a (starEach b X.env)).any (·.1)=false:=by rfl):
  PE X (.Call (.Name x p) (e::b) [] a) (qd i [] E0 t):=by
 obtain⟨f,U,F,E,G,J⟩:=c;intro L s M H Q I h;refine n7 (nK I B E ?_ m);refine pY I.ok.mod.kin G (cj (C a L s M H _ I h) λj z ⟨o,w,l,r,q⟩=>#[l.kIn,?_]) D n;have q:i o w Q E0:=by
  have N:i (o++[]) w Q E0:=q;rwa[hA]at N
 have O:j.length=y.length:=by rw[<-r.length];exact F.len _ _ _ _ q
 have d:=J z j l.kIn (by rw[hA];exact O);rw[hA]at d;refine nR (lW (F.run X.A X.stack z w #[j,[]] j o Q E0 A l.env0 d r q) λr Y g=>?_);cases r with
 |error v=>exact g.elim
 |ok T=>
  cases T with
  |ret u=>exact l.after g
  |next=>exact wE g
  |brk=>exact wE g
  |cont=>exact wE g
structure ErrM(K:R6)(C D:Ad):Prop where
 cls:ki K C D
 ga:PySem.W.findIn K (.ref C) "__getattribute__"=some (some (.builtin "BaseException.__getattribute__"))
 gt:PySem.W.findIn K (.ref C) "__getattr__"=some none
 cl:PySem.W.findIn K (.ref C) "__class__"=some (some (.builtin "object.__class__"))
section
variable{P:Pg}{A:Ar}{E:VP}{os:OsState}{e C D:Ad}{K:R6}
theorem FM(X:K.In h)(q:ki K C D)(k:veMro.contains (.type B)=true):∃N b c bs d sub e a f g i k2 k3 j,
  h.get? C=some (excClassObj b c C N bs (.ref D::veMro) true d sub e a f g i k2 k3 j "ValueError.__new__")/\(Value.ref C:: .ref D::veMro).contains (.type B)=true:=by
 obtain⟨N,b,c,bs,d,sub,e,a,f,g,i,k2,k3,j,l,T,_⟩:=pc X q;exact#[N,b,c,bs,d,sub,e,a,f,g,i,k2,k3,j,l,by rw[xc,T.hasType k,Ah]]
theorem M8{R:Result->Sh->Prop}(X:K.In h)(q:ki K C D)(a:h.get? e=some o)(b:o.cls=.ref C)(k:R (.ok (.ret (.ref C))) #[h,g,d,t,os]):
  codeAny (model P w) A (.call (.builtin "getset_descriptor.__get__") #[[.builtin "object.__class__",.ref e,.ref C],[]]) R #[h,g,d,t,os]:=by
 have ty:=Eo;obtain⟨N,l,m,bs,n,sub,p,c,r,s,u,k2,k3,v,f,i⟩:=FM X q (B:="object") (by rfl);have j:(Value.ref C:: .ref D::veMro).contains (.type (".".intercalate ("object.__class__".cutAt '.').dropLast))=true:=by rw[F.owner_object_class];exact i
 refine wT F.slot_gs_get.plain F.entry_gs_get (F.slot_gs_get.check _ _ _ _ _ _ _ _ ty (F.args_gs_get _ _ _) ?_)
 repeat (any_goals (first|assumption|(with_reducible refine iV a ?_;rw[b])|(with_reducible refine uj f ?_;rw[j])|wp_step))
 refine#[AR _ (by decide+kernel),q0 F.entry_object_class ?_]
 repeat (any_goals (first|assumption|(with_reducible refine iV a ?_;rw[b])|wp_step))
theorem Re{Q:Fin->Sh->Prop}(X:K.In h)(q:ErrM K C D)(a:h.get? e=some o)(b:o.cls=.ref C)(f:Q (.done (.ret (.ref C))) #[h,g,d,t,os]):
  wpAny (model P w) A (Builtin.«object.__getattribute__» #[[.ref e,.str "__class__" c],[]]) Q E #[h,g,d,t,os]:=by
 have ty:=Eo;have i:=Eo;have j:=F.slot_gs_get.lookup;have k:=F.slot_gs_set.lookup
 repeat (any_goals (first|assumption|(with_reducible refine iV a ?_;rw[b])|with_reducible refine pJ X q.cl ?_|wp_step))
 refine M8 X q.cls a b ?_
 repeat (any_goals (first|assumption|wp_step))
theorem O7{Q:VP}(X:K.In h)(q:ErrM K C D)(a:h.get? e=some o)(b:o.cls=.ref C)(i:Q (.ref C) #[h,g,d,t,os]):
  wpAny (model P w) A (getAttrBy (.ref e) (.str "__class__" c) false) Q E #[h,g,d,t,os]:=by
 have j:=AZ.ga.bind (.ref e);have f:(Value.builtin "BaseException.__getattribute__"==Value.builtin "object.__getattribute__")=false:=by decide+kernel
 have k:(onTheHeap (Value.ref C)&&Value.builtin "BaseException.__getattribute__"==Value.builtin "object.__getattribute__")=false:=by rw[f];rfl
 repeat (any_goals (first|assumption|(with_reducible refine iV a ?_;rw[b])|with_reducible refine pJ X q.ga ?_|with_reducible refine pJ X q.gt ?_|wp_step))
 refine wT AZ.ga.plain F.entry_bexc_ga (Hb X q.cls a b (Re X q a b ?_))
 repeat (any_goals (first|assumption|wp_step))
theorem Qf{Q:Option Vl->Sh->Prop}(X:K.In h)(q:ErrM K C D)(a:h.get? e=some o)(b:o.cls=.ref C)(c:Q (some (.ref C)) #[h,g,d,t+1,os]):wpAny (model P w) A (getAttr? (.ref e) "__class__") Q E #[h,g,d,t,os]:=by
 repeat (any_goals (first|assumption|with_reducible apply O7 X q a b|wp_step))
theorem PN(q:ErrM K C D):PySem.W.KitX K (.ref e) (.ref C) (mD e C l) where
 ty:=λM h _ ⟨o,b,c,_⟩=>c▸(PySem.W.Looks.ld b).andThen .now
 it:=λM h X _=>by
  obtain⟨N,m,p,bs,r,sub,u,f,j,v,w,k2,k3,x,i,_⟩:=FM X q.cls (B:="object") zZ;intro G H I J k z;exact bU (wpAny_loadPart (k _ _ i) (b9 z))
 ne:=λh A j E n sl X a=>by
  obtain⟨N,m,p,bs,r,sub,u,f,j,v,w,k2,k3,x,i,_⟩:=FM X q.cls (B:="object") zZ;refine wn.mpr λz=>?_;have e:=Value.ref.inj (mj.mp z);subst e;rw[i]at a;have z:=de Obj.cls (fK a);exact wC z (by intro y;injection y with y;exact wC y (by decide))
 ca:=λ{_ _ _ _ _ s} X ⟨o,b,c,_⟩ k=>by
  obtain⟨h,g,d,t,os⟩:=s;exact Qf X q b c k
end
inductive qz(K:R6)(c:V->Vl->Prop)(a:List V)(H:Hp)(Q:VK):Prop|mk:∀e C D d f u b,a=[.ref e,f]->c f u->H e=some (.ext (mD e C d))->ErrM K C D->PySem.W.kitOne K (.ref C) u=some b->Q (.bl b) H->qz K c a H Q
theorem vt:CallR X (.builtin "isinstance") (qz X.K λv u=>RelV v u/\(∀a,RelV v a->a=u)):=by
 intro n s o H p t Q I r h;obtain⟨e,C,D,d,w,u,b,rfl,⟨_,c⟩,f,g,i,q⟩:=h;obtain⟨x,j,rfl,k,l⟩:=FT r;cases k;cases c j l;exact mW (PN g) I.kIn (I.hok e _ f).1 i (λz=>nomatch z) λm=>#[.bl b,H,I.tok m,zZ,q]
def zD(op:CmpOp)(A:Ar)(s:Sh)(x y:Vl)(r:Bool):Prop:=
 ∀(P:Pg) (w:World) (E:VP) (Q:VP),Q (.bool r) s->wpAny (model P w) A (richCompare op x y) Q E s
inductive Cmp (op:CmpOp) (A:Ar) (s:Sh):List (Vl×Vl)->Option Bool->Prop where
 |nil:Cmp op A s [] none
 |eq {x y zs o}:SeqAt.EqAt A s x y true->Cmp op A s zs o->Cmp op A s ((x,y)::zs) o
 |ne {x y zs r}:SeqAt.EqAt A s x y false->zD op A s x y r->Cmp op A s ((x,y)::zs) (some r)
def SeqObj(c:String)(h:Heap)(a:Ad)(b:Vs):Prop:=∃n d sl,h.get? a=some #[.type c,d,.seq b.toArray n,sl]
section
variable{P:Pg}{E:VP}
theorem Ru{Q:i->Sh->Prop}(h:Cmp a A s j o)(k:∀x y Q,SeqAt.EqAt A s x y true->Q (.yield d) s->wpAny (model P w) A (f (x,y) d) Q E s)(no:∀x y r,SeqAt.EqAt A s x y false->zD a A s x y r->o=some r->wpAny (model P w) A (f (x,y) d) (λt g=>match t with|.yield _=>False|.done b=>Q b g) E s)(fin:o=none->Q d s):wpAny (model P w) A (forIn j d f) Q E s:=by
 refine Es f (λrest b g=>b=d/\g=s/\Cmp a A s rest o) Q (λz rest b g q=>?_) (λb g q=>?_) j d #[zZ,zZ,h]
 .obtain⟨rfl,rfl,c⟩:=q;cases c with
  |eq e c=>exact k _ _ _ e #[zZ,zZ,c]
  |ne e c=>
   refine eZ (no _ _ _ e c zZ) (λt l z=>?_) λ_ _ z=>z;cases t with
   |yield _=>exact z.elim
   |done _=>exact z
 .obtain⟨rfl,rfl,c⟩:=q;cases c;exact fin rfl
end
section
open AutoSeq1
open MeetsSeq MeetsSeq2 MeetsSeq3 SeqRoads2 SeqAt
variable{l b:Ad}
theorem KZ:Meets (Builtin.«tuple.__lt__» #[[.ref l,.ref b],[]]) (λA R s=>SeqObj "tuple" s.heap l d/\SeqObj "tuple" s.heap b a/\∃o,Cmp .Lt A.in1 s (d.zip a) o/\R (.ok (.ret (.bool (o.getD (decide (d.length<a.length)))))) s):=by
 refine .of_wp λP w A R ⟨h,p,t,k,os⟩ ⟨⟨n,u,sl,f⟩,⟨m,v,tl,i⟩,o,c,q⟩=>?_;have sub:=AutoSeq1.sub_tuple_tuple
 wp_walk using zW f,zW i
 refine Ru c (λx y Q e z=>?_) (λx y r e j z=>?_) (λz=>?_)
 .refine bU (e P w _ _ ?_)
  wp_walk
  exact z
 .refine bU (e P w _ _ ?_);generalize g:richCompare .Lt x y=ask
  wp_walk
  subst g;refine j P w _ _ ?_
  wp_walk
  subst z;exact#[_,zZ,q]
 .subst z
  wp_walk
  exact#[_,zZ,by simpa[Builtin.Tuple.tupleCompareSizes]using q]
end
noncomputable def gi:bS->List Nat->Option Bool
 |a::c,b::d=>if a=b then gi c d else some (decide (a<b))
 |_,_=>none
noncomputable def dZ(a b:bS):Bool:=(gi a b).getD (decide (a.length<b.length))
theorem pP(b):dZ b b=false:=by
 have no:gi b b=none:=by
  induction b with
  |nil=>rfl
  |cons a b c=>rw[gi,wB zZ,c]
 unfold dZ;rw[no];simp
section
variable{A:Ar}{s:Sh}{l b:Ad}{a d:Vs}
theorem M0:zD .Lt A s (.int i t) (.int j u) (decide (i<j)):=λP w E Q q=>PyProof.Rows.lt_int q
theorem fE:SeqAt.EqAt A s (.int i t) (.int j u) (decide (i=j)):=by
 have z:=AQ (A:=A) (s:=s) (y:= .int i) (x:= .int j) #[t,zZ] #[u,zZ] zZ rfl;have e:nY (.int i) (.int j)=decide (i=j):=by
  show(i==j)=_;by_cases h:i=j<;>simp[h]
 rwa[e]at z
theorem HJ(f:∀(i j:Nat) t u,i≠j->zD op A s (.int (i:Int) t) (.int (j:Int) u) (F (decide (i<j)))):
  ∀{c b:bS} {a d:Vs},Vals (c.map nv) a->Vals (b.map nv) d->Cmp op A s (a.zip d) ((gi c b).map F)
 | [],b,_,_,.nil,_=>by rw[List.zip_nil_left,show gi [] b=none by cases b<;>rfl];exact .nil
 |n::c,[],_,_,.cons _ _,.nil=>by rw[List.zip_nil_right];exact .nil
 | n::c,m::b,_,_,.cons ⟨t,g⟩ h,.cons ⟨u,k⟩ l=>by
  subst g k;have z:=fE (A:=A) (s:=s) (i:=(n:Int)) (j:=(m:Int)) (t:=t) (u:=u);by_cases e:n=m
  .rw[dF ()]at z;rw[gi,wB e];exact .eq z (HJ f h l)
  .rw[e8 ()]at z;rw[gi,wA e];exact .ne z (f n m t u e)
theorem Ky{c f:bS}(g:Vals (c.map nv) a)(h:Vals (f.map nv) d):Cmp .Lt A s (a.zip d) (gi c f):=by
 have z:=HJ (A:=A) (s:=s) (F:=λb=>b) (λi j t u _=>by
  have e:decide ((i:Int)<(j:Int))=decide (i<j):=by simp
  exact e▸M0) g h
 rwa[Option.map_id']at z
theorem Ly(h:s.heap.IsTuple l a.toArray):SeqObj "tuple" s.heap l a:=by
 obtain⟨⟨c,b,g,sl⟩,e,d,n,f⟩:=h;cases d;cases f;exact#[n,b,sl,e]
theorem SeqObj.ty(h:SeqObj c s.heap l a):s.TypeIs (.ref l) c:=let⟨_,_,_,e⟩:=h;#[_,e,zZ]
theorem OB(e:SeqObj "tuple" s.heap l a)(f:SeqObj "tuple" s.heap b d)(g:A.units<cLine)(c:Cmp .Lt A.in1 s (a.zip d) o):zD .Lt A s (.ref l) (.ref b) (o.getD (decide (a.length<d.length))):=λP w E Q q=>
 richCompare_meets_room e.ty f.ty F.slot_tuple_lt F.entry_tuple_lt (F.args_tuple_lt_2 _ _) KZ #[e,f,o,c,(λz=>nomatch z),q] g
end
noncomputable def su(i:Int)(a:bS)(j:Int)(b:bS):Bool:=if i=j then dZ a b else decide (i<j)
noncomputable def cr(m:Nat):bS:=(List.range 5).filter λi=>m.testBit i
noncomputable def gf(led:Bool)(a:bS):SetTable:={mask:=if a.length=5 then 31 else 7,place:=a.toArray,dummies:= #v[],finger:=0,led,moves:=if a.length=5 then 1 else 0,plain:=true}
noncomputable def nH(a:bS)(k:Nat):Nat:=(a.filter (· <k)).length
noncomputable def mB(a:Bool)(m k:Nat):SetTable:={gf a (cr m)with place:=(cr (m |||2 ^ k)).toArray}
theorem yU:∀a (m:Fin 32),(gf a (cr m)).fits (cr m).length=true:=by decide+kernel
theorem KP:∀a (m:Fin 32) (k:Fin 5),(m:Nat).testBit k=false->(gf a (cr m)).freeSlot ((k:Nat):Int)=some ((k:Nat),false):=by decide+kernel
theorem Ng:∀a (m:Fin 32) (k:Fin 5),(m:Nat).testBit k=false->(gf a (cr m)).put k=(mB a m k,nH (cr m) k)/\(mB a m k).fits ((cr m).length+1)=true:=by decide+kernel
theorem N2:∀(m:Fin 32) (k:Fin 5),(m:Nat).testBit k=false->cr (m |||2 ^ (k:Nat))=(cr m).take (nH (cr m) k)++(k:Nat)::(cr m).drop (nH (cr m) k):=by decide+kernel
theorem NE:∀(m:Fin 32) (k:Fin 5),(k:Nat)∈cr m->(m |||2 ^ (k:Nat):Nat)=m:=by decide+kernel
theorem Nb:∀(m:Fin 32) (k:Fin 5),(k:Nat)∉cr m->(m:Nat).testBit k=false:=by decide+kernel
theorem Jy:∀(m:Fin 32) (k:Fin 5),(m |||2 ^ (k:Nat):Nat)<32:=by decide+kernel
theorem y8:∀m:Fin 32,(cr m).length<=5:=by decide+kernel
theorem NH:∀a (m:Fin 32) (k:Fin 5),(m:Nat).testBit k=false->(cr m).length≠4->mB a m k=gf a (cr (m |||2 ^ (k:Nat)))/\(mB a m k).tooFull=false:=by decide+kernel
theorem LW:∀a (m:Fin 32) (k:Fin 5),(m:Nat).testBit k=false->(cr m).length=4->(mB a m k).tooFull=true/\
  (mB a m k).relaid #v[0,1,2,3,4] (SetTable.grown 5)=some (gf a (cr (m |||2 ^ (k:Nat))),#v[0,1,2,3,4])/\cr (m |||2 ^ (k:Nat))=[0,1,2,3,4]/\(gf a (cr (m |||2 ^ (k:Nat)))).fits 5=true:=by decide+kernel
theorem FO:∀k:Fin 5,hashInt ((k:Nat):Int)=((k:Nat):Int):=by decide+kernel
def Ents:bS->List (Int×Vl)->Prop:=Paired λn e=>e.1=(n:Int)/\∃t,e.2=.int (n:Int) t
noncomputable def nA(a:List (Int×Vl))(b:Nat)(t:SetTable):Obj:={cls:= .type "set",data:= .set a.toArray b t}
def IsSet5(h:Heap)(a:Ad)(b:Bool)(m:Nat):Prop:=m<32/\∃c d,h.get? a=some (nA c d (gf b (cr m)))/\Ents (cr m) c
theorem Ents.take:∀{a} {b} p,Ents a b->Ents (a.take p) (b.take p)
 |_,_,0,_=> .nil
 |_,_,_+1,.nil=> .nil
 |_,_,p+1,.cons r t=> .cons r (Ents.take p t)
theorem Ents.drop:∀{a} {b} p,Ents a b->Ents (a.drop p) (b.drop p)
 |_,_,0,r=>r
 |_,_,_+1,.nil=> .nil
 |_,_,p+1,.cons _ t=>Ents.drop p t
theorem Ents.app:∀{a b} {c fs},Ents a c->Ents b fs->Ents (a++b) (c++fs)
 |_,_,_,_,.nil,r=>r
 |_,_,_,_,.cons q t,r=> .cons q (Ents.app t r)
theorem Ents.len(h:Ents a b):b.length=a.length:=(pL h).symm
theorem Ents.keys:∀{a} {b},Ents a b->b.map (·.1)=a.map λ(n:Nat)=>(n:Int)
 |_,_,.nil=>rfl
 |_,_,.cons q t=>by rw[hJ,hJ,q.1,Ents.keys t]
theorem Ents.mem:∀{a} {b} {e},Ents a b->e∈b->∃n∈a,e.1=(n:Int)/\∃t,e.2=.int (n:Int) t
 | _,_,_,.cons q t,h=>by
  rcases cP.mp h with z|z
  .subst z;exact#[_,dy,q]
  .obtain⟨n,c,d⟩:=Ents.mem t z;exact#[n,eM _ c,d]
theorem Ents.has:∀{a} {b} {n},Ents a b->n∈a->∃e∈b,∃t,e.2=.int (n:Int) t
 | _,_,_,.cons q t,h=>by
  rcases cP.mp h with z|z
  .subst z;exact#[_,dy,q.2]
  .obtain⟨e,c,d⟩:=Ents.has t z;exact#[e,eM _ c,d]
theorem Ents.elems{P:Pg}{m:Fin 32}(h:Ents (cr m) b):ElemsOf (intKind P w) b:=λe d=>by
 obtain⟨n,f,g,t,c⟩:=h.mem d;have a:=ft.mp (dm.mp f).1;exact#[#[(n:Int),by rw[c];exact xp _ _ _ _,by rw[g];exact(FO #[n,a]).symm],by rw[c];rfl]
theorem P9(a:List b)(p)(x):(SetTable.insertAt a.toArray p x)=(a.take p++x::a.drop p).toArray:=by
 unfold SetTable.insertAt;apply Array.ext';simp;exact BG (by simp)
section
variable{P:Pg}{A:Ar}{E:VP}{s:Sh}{a:Ad}{m k:Nat}
theorem J3{h:Heap}(e:h.get? a=some (nA c b t)):(h.update a (Obj.putSet fs.toArray u)).get? a=some (nA fs (b+1) u):=pM _ e rfl
theorem zd{b:Type}{fs:List b}(h:fs.length=n+1):∃a r,fs=a::r/\r.length=n:=by
 cases fs with
 |nil=>cases h
 |cons a r=>exact#[a,r,zZ,Nat.succ.inj h]
theorem zG{a:Type}{fs:List a}(h:fs.length=5):(#v[0,1,2,3,4]:Array Nat).filterMap (fs.toArray[·]?)=fs.toArray:=by
 obtain⟨_,_,rfl,b⟩:=zd h;obtain⟨_,_,rfl,c⟩:=zd b;obtain⟨_,_,rfl,d⟩:=zd c;obtain⟨_,_,rfl,e⟩:=zd d;obtain⟨_,_,rfl,f⟩:=zd e;cases qo.mp f;rfl
theorem Mo{Q:Sh->Prop}(l:k<5)(hS:IsSet5 s.heap a b m)(q:∀G,IsSet5 G a b (m |||2 ^ k)->Heap.SameBut a s.heap G->Q {s with heap:=G}):
  wpAny (model P w) A (setAddHashed a (.int (k:Int) t) (k:Int)) (λ_ s'=>Q s') E s:=by
 obtain⟨f,c,H,e,r⟩:=hS;have I:=r.len;have J:=yU b #[m,f];have el:ElemsOf (intKind P w) c.toArray.toList:=Ents.elems (m:=#[m,f]) r;have m5:=y8 #[m,f];have p:(gf b (cr m)).fits c.toArray.size=true:=by rw[eF,I];exact J
 have sc:byScan (.int (k:Int) t) c.toArray=true:=by
  unfold byScan;have e3:c.toArray.all (·.2.scannable)=true:=by
   rw[Array.all_eq_true_iff_forall_mem];exact λx L=>(el x (by simpa using L)).2
  rw[e3];have e4:decide (c.toArray.size<scanBound)=true:=dF (by rw[eF,I];unfold scanBound;lia);rw[e4];rfl
 have hh:(intKind P w).hash (k:Int)=(k:Int):=FO #[k,l];unfold setAddHashed setAddHashedIn;refine jo (bU (ud e zZ p ?_));dsimp only;rw[sc,wB zZ];unfold setAddByScan;refine bU (bU (pC (bU ?_)));have scan:∀{R:ScanMet->Sh->Prop},R (match c.toArray.toList.findIdx? (λe=>(intKind P w).is (k:Int) e.2)with|some j=> .found (0+j)|none=> .absent) s->wpAny (model P w) A (setScan a (.int (k:Int) t) (k:Int) true c.toArray) R E s:=λz=>by
  have y:=wpAny_setScan_of (prog:=P) (w:=w) (A:=A) (E:=E) (knd:=intKind P w) (k:=(k:Int)) (x:= .int (k:Int) t) (adding:=true) (xp _ _ _ _) e zZ p el z;rw[hh]at y;exact y
 refine scan ?_;rw[BI];by_cases o:k∈cr m
 .obtain⟨x,L,tx,ex⟩:=r.has o;cases M:c.findIdx? λe=>(intKind P w).is (k:Int) e.2 with
  |none=>
   have z:=List.findIdx?_eq_none_iff.mp M x L;rw[ex,xp]at z;cases z
  |some j=>
   refine b9 (b9 ?_);have z:=q s.heap (by rw[NE #[m,f] #[k,l] o];exact#[f,c,H,e,r]) (Heap.SameBut.refl a s.heap);cases s;exact z
 .have B:=Nb #[m,f] #[k,l] o;cases M:c.findIdx? λe=>(intKind P w).is (k:Int) e.2 with
  |some j=>
   obtain⟨hj,C,_⟩:=List.findIdx?_eq_some_iff_getElem.mp M;obtain⟨n,hn,_,tn,N⟩:=r.mem (jv hj);rw[N]at C;have z:(k:Int)=(n:Int):=(intKind P w).inj _ _ _ C (xp _ _ _ tn);have z':k=n:=by lia
   exact wC (z'▸hn) o
  | none=>
   obtain⟨pu,pf⟩:=Ng b #[m,f] #[k,l] B;have sa:=N2 #[m,f] #[k,l] B;have d:=Jy #[m,f] #[k,l];dsimp only at pu pf sa d;have g:Ents (cr (m |||2 ^ k)) (c.take (nH (cr m) k)++((k:Int),Value.int (k:Int) t)::c.drop (nH (cr m) k)):=by
    rw[sa];exact(r.take _).app (.cons #[zZ,t,zZ] (r.drop _))
   have pb:layNew (gf b (cr m)) c.toArray (k:Int) (.int (k:Int) t)=((c.take (nH (cr m) k)++((k:Int),Value.int (k:Int) t)::c.drop (nH (cr m) k)).toArray,mB b m k,false,false):=by
    unfold layNew;rw[KP b #[m,f] #[k,l] B];dsimp only;rw[pu];dsimp only;rw[P9];have sz:(c.take (nH (cr m) k)++((k:Int),Value.int (k:Int) t)::c.drop (nH (cr m) k)).toArray.size=(cr m).length+1:=by
     rw[eF,di,mF,gk,yQ,I];lia
    rw[sz];unfold SetTable.orStandIn;rw[pf];rfl
   generalize c.take (nH (cr m) k)++((k:Int),Value.int (k:Int) t)::c.drop (nH (cr m) k)=fs at g pb;have lf:=g.len;have f5:fs.length<=5:=by rw[lf];exact y8 #[_,d]
   dsimp only;rw[pb];dsimp only;refine bU (show wpAny _ _ (pure Unit.unit) _ _ _ from b9 ?_);refine bU (show wpAny _ _ (pure true) _ _ _ from b9 ?_);refine bU (wpAny_storeSet_of e zZ ?_ (by rw[eF,db];lia));have O:=J3 (h:=s.heap) (fs:=fs) (u:=mB b m k) e;have i:Heap.SameBut a s.heap (s.heap.update a (Obj.putSet fs.toArray (mB b m k))):=Heap.SameBut.update ..;by_cases h4:(cr m).length=4
   .obtain⟨D,rl,T,ff⟩:=LW b #[m,f] #[k,l] B h4;dsimp only at D rl T ff;have U:fs.length=5:=by rw[lf,T];rfl
    have ks:fs.toArray.map (·.1)= #v[0,1,2,3,4]:=by
     rw[List.map_toArray,g.keys,T];rfl
    have pick:(#v[0,1,2,3,4]:Array Nat).filterMap (fs.toArray[·]?)=fs.toArray:=zG U;have Y:relayAll (mB b m k) fs.toArray (SetTable.grown fs.toArray.size)=(fs.toArray,gf b (cr (m |||2 ^ k)),false):=by
     unfold relayAll;rw[ks,eF,U,rl];dsimp only;rw[pick,eF,U,ff,Bool.and_true,wB (by decide+kernel)]
    show wpAny _ _ (if(!false&&(mB b m k).tooFull)=true then _ else _) _ _ _;rw[D,wB (by decide)];simp only[if_true];rw[Y];dsimp only;refine bU (show wpAny _ _ (pure Unit.unit) _ _ _ from b9 ?_);refine bU (wpAny_storeSet_of O zZ ?_ (by rw[eF,db];lia));have N:=J3 (fs:=fs) (u:=gf b (cr (m |||2 ^ k))) O;have v:=Heap.SameBut.trans i (Heap.SameBut.update (s.heap.update a (Obj.putSet fs.toArray (mB b m k))) a (Obj.putSet fs.toArray (gf b (cr (m |||2 ^ k)))));exact b9 (b9 (q _ #[d,fs,H+1+1,N,g] v))
   .obtain⟨te,D⟩:=NH b #[m,f] #[k,l] B h4;dsimp only at te D;show wpAny _ _ (if(!false&&(mB b m k).tooFull)=true then _ else _) _ _ _
    rw[D,wA (by decide)];refine b9 (b9 (q _ #[d,fs,H+1,?_,g] i));rw[<-te];exact O
end
noncomputable def nP(m:Nat)(a:bS):Nat:=a.foldl (λm n=>m |||2 ^ n) m
section
variable{P:Pg}{w:World}{A:Ar}{E:VP}{S d l:Ad}{a:bS}{vs:Vs}
theorem JF{R:Result->Sh->Prop}(M:A.handled=none)(j:S≠d)(N:S≠l)(O:d≠l)(v:Vals (a.map nv) vs)(Q:∀n∈a,n<5):
  ∀(rest:bS) i m (s:Sh),a.drop i=rest->s.heap.IsListIter d l i->s.heap.IsList l vs.toArray->IsSet5 s.heap S led m->
   (∀c y,IsSet5 c S led (nP m rest)->(∀b o,b≠S->b≠d->s.heap.get? b=some o->c.get? b=some o)->R (.ok (.ret .none)) {s with heap:=c,toks:=y})->
   codeAny (model P w) A (.builtin "set.update.loop" #[[.ref S,.ref d],[]]) R s
 | [],i,m,s,p,z,r,B,q=>by
  have T:vs.length<=i:=by
   have U:vs.length=a.length:=by simpa using v.length.symm
   have C:=List.drop_eq_nil_iff.mp p;lia
  refine q0 F.entry_set_update_loop ?_;rw[vr Fx _];refine bU (wpAny_pyNext_list_end M z r (by simp;lia) λc keep=>b9 (q c s.toks ?_ λb o _ C e=>keep b o C e));obtain⟨D,E,G,e,H⟩:=B;exact#[D,E,G,keep _ _ j e,H]
 | n::rest,i,m,s,p,z,r,B,q=>by
  have h:a[i]?=some n:=by rw[<-List.head?_drop,p];rfl
  have next:a.drop (i+1)=rest:=by rw[<-List.tail_drop,p];rfl
  have Y:=Q n (cF h);obtain⟨u,hu,t,rfl⟩:=v.get (by rw[cz,h];rfl);refine q0 F.entry_set_update_loop ?_;rw[vr Fx _];refine bU (wpAny_pyNext_list_item z r (by simpa using hu) λU p0 f=>?_);refine bU (jo ?_);refine jo (bU ((intKind P w).pyHash (xp _ _ _ _) ?_));rw[show(intKind P w).hash (n:Int)=(n:Int)from FO #[n,Y]];have I:IsSet5 U S led m:=by
   obtain⟨D,E,G,e,H⟩:=B;exact#[D,E,G,f.extBut _ _ j e,H]
  refine Mo Y I λC J g=>b9 #[wg Fx _,JF M j N O v Q rest (i+1) (m |||2 ^ n) _ next (p0.extBut g.extBut j.symm) ((r.extBut f.extBut O.symm).extBut g.extBut N.symm) J λc y L keep=>?_];exact q c y L λb o b1 b2 e=>keep b o b1 b2 (g.extBut _ _ b1 (f.extBut _ _ b2 e))
theorem NF{s:Sh}{x:Vl}{Q:VP}(q:Q (.ref s.heap.objs.size) {s with heap:=s.heap.push (nA [] 0 (gf (!w.params.followText "set-order") []))}):
  codeAny (model P w) A (.call (.builtin "set.__new__") #[[.type "set",x],[]]) (wants Q E) s:=by
 refine FZ ?_;refine bU (Aq (F.newCall_set_1 x) (b9 #[wg F.plain_set_new _,q0 F.entry_set_new ?_]));rw[vr F.plain_set_new _];have sub:=sub_set_self
 wp_walk
 refine xW (b9 ?_);refine bU (A1 (b9 (b9 ?_)));exact q
abbrev xw(led:Bool):Obj:={cls:= .type "set",dict:=none,data:= .set #v[] 0 (.fresh 0 0 led)}
set_option maxHeartbeats 4000000 in
theorem PY{h:Heap}{os:OsState}{R:PySem.Fin->Sh->Prop}(u:A.handled=none)(m:h.IsList l vs.toArray)(v:Vals (a.map nv) vs)(x:∀n∈a,n<5)(q:∀c f,IsSet5 c h.objs.size led (nP 0 a)->(∀b o,h.get? b=some o->c.get? b=some o)->R (.done (.ret .none)) #[c,i,j,f,os]):
  wpAny (model P w) A (Builtin.«set.__init__» #[[.ref h.objs.size,.ref l],[]]) R E #[h.push (xw led),i,j,k,os]:=by
 obtain⟨⟨G,dl,y,sl⟩,p,c2,z,r⟩:=id m;simp only at c2 r;subst c2 r;have H:(h.push (xw led)).get? l=some #[.type "list",dl,.seq vs.toArray z,sl]:=c7 _ p;have B:(h.push (xw led)).get? h.objs.size=some {cls:= .type "set",dict:=none,data:= .set #v[] 0 (.fresh 0 0 led)}:=eQ _ rfl;have I:=F.sub_list_set;have J:=F.sub_list_frozenset;have L:(Value.type "list"==Value.type "dict")=false:=by decide
 unfold Builtin.«set.__init__» noKeywords Builtin.Frozenset.updateFrom;generalize g:pyIter=s
 wp_walk
 subst g;have d:(h.push (xw led)).IsList l vs.toArray:=m.push _;refine BK d (bU (wpAny_runValue ?_));have lt:l<h.objs.size:=cK p;have sz:(h.push (xw led)).objs.size=h.objs.size+1:=pW ..;refine JF (vs:=vs) (led:=led) (by simpa using u) (by rw[sz];exact Nat.ne_of_lt (Nat.lt_succ_self _)) (Nat.ne_of_gt lt) (by rw[sz];exact Nat.ne_of_gt (Nat.lt_succ_of_lt lt)) v x a 0 0 _ zZ #[_,Heap.get?_push_size _ zZ,zZ,zZ] (d.push _) #[by decide,[],0,Heap.get?_push_of_some _ B,.nil] λc f C D=>?_;refine b9 (b9 (q c f C λb o e=>?_));have t:=cK e;exact D b o (dq t) (by rw[sz];exact dq (x6 t)) (c7 _ (c7 _ e))
theorem Kq{s:Sh}{Q:VP}(B:A.handled=none)(u:s.heap.IsList l vs.toArray)(C:Vals (a.map nv) vs)(D:∀n∈a,n<5)(q:∀d g,IsSet5 d s.heap.objs.size (!w.params.followText "set-order") (nP 0 a)->(∀b o,s.heap.get? b=some o->d.get? b=some o)->Q (.ref s.heap.objs.size) {s with heap:=d,toks:=g}):
  wpAny (model P w) A (call (.type "set") [.ref l]) Q E s:=by
 have lt:=let⟨_,e,_⟩:=u;cK e
 obtain⟨c,tl,G⟩:=rm.mro;have made:=rm.made;have sub:=rm.sub;have h:=rm.notType;have H:=rm.canCreate;have args:=F.typeCall_set_1 (.ref l);have look:=rm.init.lookup;have I:=rm.init.bind (.ref s.heap.objs.size);generalize i:nA [] 0 (gf (!w.params.followText "set-order") [])=j;have J:(s.heap.push j).get? s.heap.objs.size=some j:=eQ _ (by rw[<-i];rfl);have ty:Shared.TypeIs {s with heap:=s.heap.push j} (.ref s.heap.objs.size) "set":=#[_,J,by rw[<-i];rfl];refine nR (FZ (show wpAny _ _ (callAny (.type "set") _) _ _ _ from b9 #[AR _ (by decide+kernel),q0 F.entry_type_call ?_]));rw[Around.under_plain (weight_type_call_type "set" [.ref l] []) zZ]
 repeat (any_goals (first|assumption|wp_step))
 refine lW (NF (w:=w) (E:=E) (Q:=λv x=>v=.ref s.heap.objs.size/\x={s with heap:=s.heap.push j}) (by rw[i];exact#[zZ,zZ])) λr x z=>?_;cases r with
 |error _=>exact z
 | ok f=>
  cases f<;>first|exact z.elim|skip
  obtain⟨k,m⟩:=z;subst k m
  repeat (any_goals (first|assumption|wp_step))
  refine lW (wT (R:=wants (λv y=>v=.none/\∃d g,y={s with heap:=d,toks:=g}/\IsSet5 d s.heap.objs.size (!w.params.followText "set-order") (nP 0 a)/\∀b o,s.heap.get? b=some o->d.get? b=some o) E)
   rm.init.plain F.entry_set_init (check_set_init_1 ty ?_)) λr y z=>?_
  .subst i;exact PY (A:=A.in1.in1) (by simpa using B) u C D λd g p t=>#[zZ,d,g,zZ,p,t]
  .cases r with
   |error _=>exact z
   |ok f=>
    cases f<;>first|exact z.elim|skip
    obtain⟨k,d,g,m,p,t⟩:=z;subst k m
    repeat (any_goals (first|assumption|wp_step))
    exact q d g p t
end
theorem eR:Slot "set_iterator" "__next__" "set_iterator.__next__":=Slot.of (by rw[typeLookup_type,builtinLookup_eq_fast];kernel_rfl) zZ zZ zZ (by first|exact .inl zZ|exact .inr zZ) (by rw[isSubtype_type];kernel_rfl)
theorem G3:Slot "set_iterator" "__iter__" "set_iterator.__iter__":=Slot.of (by rw[typeLookup_type,builtinLookup_eq_fast];kernel_rfl) zZ zZ zZ (by first|exact .inl zZ|exact .inr zZ) (by rw[isSubtype_type];kernel_rfl)
theorem IX:entryFor table "set_iterator.__next__"=some Builtin.«set_iterator.__next__»:=entryFor_of_tree (by kernel_rfl)
theorem QL:entryFor table "set_iterator.__iter__"=some Builtin.«dict_keyiterator.__iter__»:=entryFor_alias (by kernel_rfl) (by first|rfl|decide+kernel|(unfold String.splitOn;simp+decide [String.splitOnAux])) zZ (by kernel_rfl)
theorem Nv:entryFor table "set.__iter__"=some Builtin.«frozenset.__iter__»:=entryFor_alias (by kernel_rfl) (by first|rfl|decide+kernel|(unfold String.splitOn;simp+decide [String.splitOnAux])) zZ (by kernel_rfl)
theorem GS(a:Vl):argsOk "set_iterator.__next__" #[[a],[]]:=by kernel_rfl
theorem Q5(a:Vl):argsOk "set_iterator.__iter__" #[[a],[]]:=by kernel_rfl
theorem IH(f:Nat->Nat):∀fuel k left (b:Array c),left.length=fuel->(pickOrder.go f fuel k left b).toList.Perm (b.toList++left)
 |0,k,left,b,h=>by
  rw[List.eq_nil_of_length_eq_zero h];simp[pickOrder.go]
 | fuel+1,k,left,b,h=>by
  have lt:f k%left.length<left.length:=Nat.mod_lt _ ();unfold pickOrder.go;rw[b7 lt];refine(IH f fuel (k+1) (left.eraseIdx (f k%left.length)) (b.push left[f k%left.length]) (by rw[List.length_eraseIdx_of_lt lt];lia)).trans ?_;rw[vh,fu];refine yL _ ?_;rw[List.eraseIdx_eq_take_drop_succ];have e:left=left.take (f k%left.length)++left[f k%left.length]::left.drop (f k%left.length+1):=by
   rw[<-Bz lt,oz]
  have z:=(List.perm_middle (a:=left[f k%left.length]) (l₁:=left.take (f k%left.length)) (l₂:=left.drop (f k%left.length+1))).symm;rw[<-e]at z;exact z
noncomputable def mY(w:World)(a:Ad)(c:Nat)(b:List (Int×Vl)):List (Int×Vl):=if w.params.followText "set-order" then(pickOrder (w.params.setOrder a c) b.toArray).toList else b
theorem FD(w)(a)(c)(b:List (Int×Vl)):(mY w a c b).Perm b:=by
 unfold mY;cases w.params.followText "set-order" with
 |true=>
  have z:=IH (w.params.setOrder a c) b.toArray.size 0 b.toArray.toList #v[] (by simp);simpa[pickOrder]using z
 |false=>exact List.Perm.refl _
noncomputable def ni(a:Bool)(b:bS):Nat->Nat
 |0=>0
 |i+1=>if a then 0 else b.getD i 0+1
theorem OP:∀(m:Fin 32) (i:Fin 6),(i:Nat)<=(cr m).length->SetTable.below (cr m).toArray (ni false (cr m) i)=i:=by decide+kernel
noncomputable def uw(b i n c:Nat)(a:Ad):Obj:={cls:= .type "set_iterator",data:= .fields #v[rawInt b,rawInt i,.ref a,rawInt n,rawInt c]}
section
variable{P:Pg}{A:Ar}{E:VP}{a d:Ad}
theorem JC{Q:Option (Vl×Nat)->Sh->Prop}(g:m<32)(h:s.heap.get? a=some (nA b c (gf (!w.params.followText "set-order") (cr m))))(k:Ents (cr m) b)(l:i<=(cr m).length)(q:Q (((mY w a c b)[i]?).map λe=>(e.2,ni (w.params.followText "set-order") (cr m) (i+1))) s):wpAny (model P w) A (setNext a (ni (w.params.followText "set-order") (cr m) i) i c) Q E s:=by
 have n:=k.len;have d:(gf (!w.params.followText "set-order") (cr m)).fits b.toArray.size=true:=by rw[eF,n];exact yU _ #[m,g]
 have r:=y8 #[m,g];refine bU (ud h zZ d (bU (bU (xW (b9 ?_)))));show wpAny _ _ (if w.params.followText "set-order"=true then _ else _) _ _ _;unfold mY at q;generalize o:w.params.followText "set-order"=p at q h d|-;cases p with
 |true=>
  rw[wB zZ];rw[wB zZ]at q;rw[wA (by simp)];refine bU (bU (ud h zZ d (bU (bU (xW (b9 ?_))))));show wpAny _ _ (if w.params.followText "set-order"=true then _ else _) _ _ _;rw[o,wB zZ];refine bU (xW (b9 (b9 ?_)));rw[lY]at q;cases i<;>exact q
 | false=>
  rw[wA (by decide)];rw[wA (by decide)]at q;rw[wA (by show ¬((!true&&_)=true);simp)];refine bU ?_;show wpAny _ _ (if(!true&& !b.toArray.isEmpty)=true then _ else _) _ _ _;rw[wA (by simp)];refine b9 (b9 ?_);show Q (match b.toArray[SetTable.below (cr m).toArray (ni false (cr m) i)]?,(cr m).toArray[SetTable.below (cr m).toArray (ni false (cr m) i)]? with|some (_,x),some j=>some (x,j+1)|_,_=>none) s;rw[OP #[m,g] #[i,()] l]
  rcases Nat.lt_or_ge i (cr m).length with z|z
  .have f:i<b.length:=by lia
   rw[b7 f]at q;simp only[List.getElem?_toArray,List.getElem?_eq_getElem f,List.getElem?_eq_getElem z];have e:ni false (cr m) (i+1)=(cr m)[i]+1:=by
    show(if false=true then 0 else(cr m).getD i 0+1)=_;rw[wA (by decide),dO,b7 z];rfl
   rw[e]at q;exact q
  .have f:b.length<=i:=by lia
   rw[jg f]at q;simp only[List.getElem?_toArray,List.getElem?_eq_none f];exact q
end
section
variable{P:Pg}{A:Ar}{E:VP}{a d:Ad}
theorem LF{s:Sh}{Q:Option Vl->Sh->Prop}(r:a≠d)(l:m<32)(n:Ents (cr m) c)(b:s.heap.get? d=some (uw (ni (w.params.followText "set-order") (cr m) i) i (cr m).length f a))(o:s.heap.get? a=some (nA c f (gf (!w.params.followText "set-order") (cr m))))(t:i<(cr m).length) (u:(mY w a f c)[i]?=some e)(q:∀g,g.get? d=some (uw (ni (w.params.followText "set-order") (cr m) (i+1)) (i+1) (cr m).length f a)->Heap.SameBut d s.heap g->Q (some e.2) {s with heap:=g}):wpAny (model P w) A (pyNext (.ref d)) Q E s:=by
 have ty:s.TypeIs (.ref d) "set_iterator":=#[_,b,zZ];have p:=n.len;have h:(gf (!w.params.followText "set-order") (cr m)).fits c.toArray.size=true:=by rw[eF,p];exact yU _ #[m,l]
 unfold pyNext;refine bU (qb (ux (name:=Str.ofString "__next__") ty eR (lV eR ty IX ?_ (GS _))));unfold uw at b;unfold Builtin.«set_iterator.__next__»;refine bU (m:=slotArgs _ _ _) (b9 ?_);refine bU (wR b zZ ?_);unfold setEntries;refine bU (bU (ud o zZ h (b9 ?_)));have v:((((c.toArray.size:Nat):Int) != (((cr m).length:Nat):Int)))=false:=by rw[eF,p];simp
 rw[v,wA (by decide)];simp only[Int.toNat_natCast];refine bU (JC l o n (fL t) ?_);rw[u];refine bU (oy b (by simp) λB x j=>?_);refine bU (oy x (by simp) λy z k=>?_);exact b9 #[_,zZ,b9 (q y z (j.trans k))]
theorem QW{s:Sh}{Q:Option Vl->Sh->Prop}(r:A.handled=none)(t:a≠d)(j:m<32)(k:Ents (cr m) c)(g:s.heap.get? d=some (uw (ni (w.params.followText "set-order") (cr m) (cr m).length) (cr m).length (cr m).length f a))(l:s.heap.get? a=some (nA c f (gf (!w.params.followText "set-order") (cr m))))(q:∀n,Heap.ExtBut d s.heap n->Q none {s with heap:=n}):wpAny (model P w) A (pyNext (.ref d)) Q E s:=by
 have ty:s.TypeIs (.ref d) "set_iterator":=#[_,g,zZ];have p:=k.len;have h:(gf (!w.params.followText "set-order") (cr m)).fits c.toArray.size=true:=by rw[eF,p];exact yU _ #[m,j]
 have u:(mY w a f c)[(cr m).length]?=none:=jg (by rw[(FD w a f c).length_eq];lia);unfold pyNext;refine bU (qb (ux (name:=Str.ofString "__next__") ty eR (lV eR ty IX ?_ (GS _))));unfold uw at g;unfold Builtin.«set_iterator.__next__»;refine bU (m:=slotArgs _ _ _) (b9 ?_);refine bU (wR g zZ ?_);unfold setEntries;refine bU (bU (ud l zZ h (b9 ?_)));have v:((((c.toArray.size:Nat):Int) != (((cr m).length:Nat):Int)))=false:=by rw[eF,p];simp
 show wpAny _ _ (if((((c.toArray.size:Nat):Int) != (((cr m).length:Nat):Int)))=true then _ else _) _ _ _;rw[v,wA (by decide)];show wpAny _ _ (setNext a ((ni (w.params.followText "set-order") (cr m) (cr m).length:Nat):Int).toNat (((cr m).length:Nat):Int).toNat ((f:Nat):Int).toNat >>= _) _ _ _;simp only[Int.toNat_natCast];refine bU (JC j l k (cg _) ?_);rw[u];show wpAny _ _ (setField (.ref d) 2 .none >>= _) _ _ _;refine bU (oy g (by simp) λy z i=>?_);refine bU (m:=newExc _ _) ?_;simp only[newExc,newTuple];refine bU (nq ?_ (by size_fits));refine bU (m:=firstArgMember _ _) (Aq (a:=Value.none) (by first|rfl|(unfold firstArgMember;rfl)) (wpAny_newObj_type ?_ (by size_fits)));refine AY (by simpa using r) (wpAny_bind (wpAny_isInstance (T:="StopIteration") (b:=true) #[_,Heap.get?_push_size _ zZ,zZ] isSubtype_stop (wpAny_pure ?_)));exact q _ λb o x e=>c7 _ (c7 _ (i.extBut b o x e))
theorem OH(u:A.handled=none)(g:a≠d)(p:m<32)(l:Ents (cr m) c):Walks P w A d [d,a] [d] (cr m).length (λi v=>∃e,(mY w a f c)[i]?=some e/\v=e.2) (λi h=>h.get? d=some (uw (ni (w.params.followText "set-order") (cr m) i) i (cr m).length f a)/\h.get? a=some (nA c f (gf (!w.params.followText "set-order") (cr m)))) where
 sub:=λb y=>cP.mpr (.inl (cJ.mp y))
 frame:=λi h j st k=>#[k d (dy ..) _ st.1,k a (eM _ (cJ.mpr zZ)) _ st.2]
 item:=λi s Q E B st q=>by
  have D:(mY w a f c).length=(cr m).length:=by rw[(FD w a f c).length_eq,l.len]
  obtain⟨e,r⟩:∃e,(mY w a f c)[i]?=some e:=#[_,b7 ()];refine LF g p l st.1 st.2 B r λj C t=>q e.2 j s.toks #[e,r,zZ] #[C,t.extBut _ _ g st.2] λb o n e=>t.extBut _ _ (λz=>n (cJ.mpr z)) e
 done:=λs Q E st q=>QW u g p l st.1 st.2 λj x=>q j s.toks λb o n e=>x b o (λz=>n (cJ.mpr z)) e
 self:=λi s Q E st q=>by
  have ty:s.TypeIs (.ref d) "set_iterator":=#[_,st.1,zZ];refine xa ty G3 (lV G3 ty QL ?_ (Q5 _));exact b9 #[_,zZ,"set_iterator",_,ty,eR.lookup,q]
theorem yT{s:Sh}{Q:VP}(g:m<32)(h:Ents (cr m) c)(d:s.heap.get? a=some (nA c f (gf (!w.params.followText "set-order") (cr m))))(q:Q (.ref s.heap.objs.size) {s with heap:=s.heap.push (uw 0 0 (cr m).length f a)}):wpAny (model P w) A (pyIter (.ref a)) Q E s:=by
 have ty:s.TypeIs (.ref a) "set":=#[_,d,zZ];have e:=h.len;have b:(gf (!w.params.followText "set-order") (cr m)).fits c.toArray.size=true:=by rw[eF,e];exact yU _ #[m,g]
 refine xa ty F.slot_set_iter (lV F.slot_set_iter ty Nv ?_ (F.args_set_iter_1 _));refine bU (b9 ?_);refine bU (bU (bU (ud d zZ b (b9 (b9 ?_)))));refine bU (bU (ud d zZ b (bU (bU (xW (b9 (b9 ?_)))))));have nd:(!w.params.followText "set-order"&&(!true&&decide (c.toArray.size>1)))=false:=by simp
 show wpAny _ _ (if(!w.params.followText "set-order"&&(!true&&decide (c.toArray.size>1)))=true then _ else _) _ _ _;rw[nd,wA (by decide)];refine bU (b9 (bU (wpAny_setEpoch_of d zZ b ?_)));refine bU ?_;refine nq ?_ (by size_fits);rw[<-e]at q;exact b9 #[_,zZ,"set_iterator",_,#[_,eQ _ zZ,zZ],eR.lookup,q]
theorem zA{Q:Bool->Sh->Prop}(ty:s.TypeIs (.ref a) "set")(q:Q false s):wpAny (model P w) A (Builtin.List.listLengthHint (.ref a)) Q E s:=by
 refine bU (wpAny_specialOf ty F.slot_set_len.lookup ?_);generalize g:("set.__len__":String)=name
 wp_delta
 rw[show splitId name=some ("set","__len__") by subst g;decide+kernel];subst g;refine bU (wpAny_isInstance (b:=true) ty (by rw[isSubtype_type];kernel_rfl) (Cw (λz=>wC z (by decide)) λ_=>?_));exact Cw (λ_=>bU (wpAny_typeOf ty (b9 q))) λz=>wC zZ z
theorem FV(b:m<32)(d:Ents (cr m) c):PySem.W.KdlSrc P w "set" a a (cr m).length (λi v=>∃e,(mY w a f c)[i]?=some e/\v=e.2) (λh=>h.get? a=some (nA c f (gf (!w.params.followText "set-order") (cr m)))) where
 type:=λ_ e=>#[_,e,zZ]
 there:=λ_ e=>#[cK e,cK e]
 keep:=λ_ _ e k=>k a (.inl zZ) _ e
 notList:=zZ
 notTuple:=zZ
 hint:=λ_ _ _ _ e q=>zA #[_,e,zZ] q
 iter:=λ_ _ g e=>#[_,_,λ_ _ q=>yT b d e q,OH g (dq (cK e)) b d,eQ _ zZ,c7 _ e]
end
noncomputable def eX(a:bS):bS:=(List.range 5).filter λi=>a.contains i
theorem GP(i):∀ns m,(nP m ns).testBit i=(m.testBit i || ns.contains i)
 | [],m=>by simp[nP]
 |n::ns,m=>by
  show(nP (m |||2 ^ n) ns).testBit i=_;rw[GP i ns,Nat.testBit_or,Nat.testBit_two_pow,xc,Bool.or_assoc]
  congr 2
  by_cases h:n=i
  .simp[h]
  .simp[h,Ne.symm h]
theorem Ja(a):cr (nP 0 a)=eX a:=by
 unfold cr eX
 congr 1
 funext i
 rw[GP];simp
theorem Ks(m):(cr m).Pairwise (· <= ·):=by
 exact List.Pairwise.filter _ (by decide)
theorem Gq:∀{a:Vs} {is:Zs},IntsAre a is->Vals (is.map V.int) a
 |_,_,.nil=> .nil
 |_,_,.cons n t h=> .cons #[t,zZ] (Gq h)
theorem J0:∀{a:List (Int×Vl)},(∀e∈a,∃t,e.2=.int e.1 t)->IntsAre (a.map (·.2)) (a.map (·.1))
 | [],_=> .nil
 |e::a,h=>by
  obtain⟨t,b⟩:=h e (dy ..);rw[hJ,hJ,b];exact .cons _ _ (J0 λx c=>h x (eM _ c))
section
variable{P:Pg}{A:Ar}{E:VP}
theorem Pt{s:Sh}{Q:VP}(M:A.handled=none)(N:IsSet5 s.heap a (!w.params.followText "set-order") m)(q:∀(j r:Heap) u d n,Vals ((cr m).map nv) d->(∀b o,s.heap.get? b=some o->j.get? b=some o)->(∀b o,j.get? b=some o->r.get? b=some o)->r.get? j.objs.size=some {cls:= .type "list",data:= .seq d.toArray n}->Q (.ref j.objs.size) {s with heap:=r,toks:=u}):
  wpAny (model P w) A (call (.builtin "sorted") [.ref a]) Q E s:=by
 obtain⟨I,v,B,O,p⟩:=N;have m5:=y8 #[m,I];have J:=p.len;have c:=FD w a B v;refine EM kind_sorted plain_sorted entry_sorted (args_sorted1 _) ?_;refine bU (b9 ?_);refine bU (PySem.W.kdu_collect (FV I p) M O (by rw[sizeLine_eq];lia) λj u f keep l=>?_);have g:f.toList=(mY w a B v).map (·.2):=by
  refine yW (by rw[dR,l.1,bW,c.length_eq];exact J.symm) λi x y T L=>?_;obtain⟨e,C,D⟩:=l.2 i x (by rw[<-lY];exact T);rw[cz,C]at L;cases L;exact D
 have G:IntsAre f.toList ((mY w a B v).map (·.1)):=by
  rw[g];refine J0 λe U=>?_;obtain⟨n,_,C,t,D⟩:=p.mem (c.mem_iff.mp U);exact#[t,by rw[C,D]]
 have Y:f.toList.length=(cr m).length:=by rw[g,bW,c.length_eq,J]
 refine bU (yM ?_ (by rw[Y,db];lia));have H:(j.push (seqObj "list" f.toList.toArray 0)).get? j.objs.size=some (seqObj "list" f.toList.toArray 0):=eQ _ rfl;refine bU (jo (lV slot_list_sort #[_,H,zZ] Fy (list_sort_tree H G () λd js o1 o2 o3=>#[_,zZ,?_]) (args_list_sort _)));have k:js=(cr m).map λ(n:Nat)=>(n:Int):=by
  refine List.Perm.eq_of_pairwise (λx y _ _=>Int.le_antisymm) o3 ?_ (o2.trans ?_)
  .exact vb.mpr ((Ks m).imp λh=>by lia)
  .rw[<-p.keys];exact c.map _
 obtain⟨n,eN⟩:=sortedHeap_at H;refine b9 #[_,zZ,q j _ u d.toList n ?_ keep (λb o e=>?_) eN]
 .have z:=Gq o1;rw[k,i0]at z;exact z
 .have lt:=cK e;rw[sortedHeap_old (dq lt) (eB lt (by rw[pW];exact re _))];exact c7 _ e
end
noncomputable def tF(w:World)(a:Ad)(m:Nat):HO:= .ext λh=>IsSet5 h a (!w.params.followText "set-order") m
theorem IsSet5.ok(x:IsSet5 h a (!w.params.followText "set-order") m):ObjOk P d H h a (tF w a m):=by
 obtain⟨j,l,n,e,o⟩:=id x;exact#[x,#[_,e],λp q ⟨f,b,c,g,i⟩ k=>#[f,b,c,k _ g,i]]
theorem Inv.track{f:St}(I:Inv X d f H s)(g:H D=none)(ok:ObjOk X.prog X.w (bT H D o) s.heap D o)(h:X.s₀.heap.objs.size<=D) (i:D≠X.env.locals) (j:∀x c,X.env.cells.lookup x=some c->c≠D) (k:∀p∈X.pn++d,p.1≠D):Inv X d f (bT H D o) s:=by
 have nd:∀b u,H b=some u->b≠D:=λb u q z=>by rw[z,g]at q;cases q
 have q:=I.step (H':=bT H D o) (t':=s.toks) (d':=s.drawn) (ch:=[D]) (λb a=>by
   have z:b=D:=by simpa using a
   subst z;exact#[.inr h,i,j,k])
  (λb o _ _ _ e _=>e) (λb o _ _ _ e _=>#[o.slots,e]) (λb o a _ n=>by rw[bX (λz=>a (by simp[z]))];exact n) (λb o _ e=>#[o,e])
  (λb l q=>by rw[bX (nd b _ q)];exact q) (λb o u q=>by rw[bX (nd b _ q)];exact q) (λb t q=>#[#v[],by rw[bX (nd b _ q),q];simp]) (λm r=>r) (λb u q=>?_) I.bare
 .exact q
 .by_cases a:b=D
  .subst a;rw[bY]at q;cases q;exact ok
  .rw[bX a]at q;exact(I.hok b u q).stay (λ_ _ _ z=>z) (λc z=>by rw[bX (nd c _ z)];exact z) λc l z=>by rw[bX (nd c _ z)];exact z
theorem Inv.trackNew{c:St}(I:Inv X a c H s)(d:Inv X a c H s1)(ok:ObjOk X.prog X.w (bT H s.heap.objs.size o) s1.heap s.heap.objs.size o):Inv X a c (bT H s.heap.objs.size o) s1:=by
 obtain⟨e,f,i,j,g,h⟩:=I.fpOk (cg _) (I.hok.fresh (cg _));exact d.track e ok I.sz f g h
inductive pU(K:R6)(w:World)(c:List V)(H:Hp)(Q:VK):Prop|mk:∀p b,c=[.ref p]->SqL K H p (b.map nv)->(∀n∈b,n<5)->(∀a,H a=none->Q (.ref a) (bT H a (tF w a (nP 0 b))))->pU K w c H Q
theorem Kt(a:X.calm=true):CallR X (.type "set") (pU X.K X.w):=by
 intro b s c H n o Q I r h;obtain⟨p,t,rfl,d,e,q⟩:=h;obtain⟨u,rfl,f⟩:=iz r;cases f;obtain⟨g,i,j,_⟩:=I.list d;refine Kq (I.ok.hd a) j.isList i e λk l z keep=>?_;have m:Inv X b c H {s with heap:=k,toks:=l}:=I.kept keep;exact#[.ref s.heap.objs.size,_,Inv.trackNew I m z.ok,zZ,q _ I.fresh]
inductive nQ(w:World)(b:List V)(H:Hp)(Q:VK):Prop|mk:∀a m,b=[.ref a]->H a=some (tF w a m)->(∀l,H l=none->Q (.ref l) (bT H l (.lst ((cr m).map nv))))->nQ w b H Q
theorem LV(k:X.calm=true):CallR X (.builtin "sorted") (nQ X.w):=by
 intro f s g H w x Q I r h;obtain⟨a,m,rfl,l,q⟩:=h;obtain⟨u,rfl,o⟩:=iz r;cases o;obtain⟨z,_,_⟩:=I.hok a _ l;refine Pt (I.ok.hd k) z λb i j c n p t k2 e=>?_;have d:Inv X f g H {s with heap:=b,toks:=j}:=I.kept t;have v:Inv X f g H {s with heap:=i,toks:=j}:=d.kept k2;have y:=y8 #[m,z.1];have ok:ObjOk X.prog X.w (bT H b.objs.size (.lst ((cr m).map nv))) i b.objs.size (.lst ((cr m).map nv)):=#[by rw[bW,db];lia,c,n,p,e];exact#[.ref b.objs.size,_,Inv.trackNew d v ok,zZ,q _ d.fresh]
inductive ya(K:R6)(a:List V)(H:Hp)(Q:VK):Prop|mk:∀(p:Ad) (bs:List Bool),a=[.ref p]->SqL K H p (bs.map V.bl)->Q (.bl (bs.any id)) H->ya K a H Q
theorem JM(n:X.calm=true):CallR X (.builtin "any") (ya X.K):=by
 intro G s J H L M Q I r h;obtain⟨p,bs,rfl,t,q⟩:=h;obtain⟨u,rfl,w⟩:=iz r;cases w;obtain⟨a,g,j,_⟩:=I.list t;have k:=j.isList;have f:=j.lt;have c:a.length=bs.length:=by rw[<-g.length,bW]
 refine call_any_walk (BK k #[_,_,_,_,_,_,λi=>bs.getD i false,zZ,Walks.list (A:=X.A.in1) (I.ok.hd n) _ p (dq f) a.toArray,#[#[_,eQ _ zZ,zZ,zZ],k.push _],?_,λN O y=>?_])
 .intro i v T U Y B C;have d:a[i]?=some v:=by simpa using B
  have l:i<bs.length:=by rw[<-c];exact(cf.mp d).1
  obtain⟨u2,m,D⟩:=g.get (x:= .bl (bs.getD i false)) (by rw[cz,b7 l,dO,b7 l];rfl);rw[d]at m;cases m;cases(D);exact qj C
 .have e:(List.range a.toArray.size).any (λi=>bs.getD i false)=bs.any id:=by
   rw[eF,c];have:bs=(List.range bs.length).map λi=>bs.getD i false:=by
    refine BL (by simp) λi E h2=>?_;simp[List.getD_eq_getElem?_getD,E]
   conv=>rhs;rw[this,Bl]
   rfl
  rw[e];exact#[.bl (bs.any id),H,I.kept λb o z=>y b o (by simp only[List.mem_singleton];exact Nat.ne_of_lt (Heap.lt_size z)) (Heap.get?_push_of_some _ z),zZ,q]
noncomputable def drop(H:Hp)(c:Ad):Hp:=λb=>if b=c then none else H b
theorem vu:drop H c c=none:=by unfold drop;rw[wB zZ]
theorem dX(h:b≠c):drop H c b=H b:=by unfold drop;rw[wA h]
theorem pz(h:H b=none):drop H c b=none:=by
 by_cases e:b=c
 .rw[e];exact vu
 .rw[dX e];exact h
noncomputable def dU(c m:Ad)(o:Obj):HO:= .ext λh=>h.get? c=some o/\o.data=.cell (some (.ref m))
noncomputable def jy(c:Ad)(q:Str):HO:= .ext λh=>h.CodeRec (.ref c) q
noncomputable def gN(f:Ad)(a:Fd):HO:= .ext λh=>h.get? f=some {cls:= .type "function",data:= .func a}
theorem HOk.drop(x:HOk P w H h)(a:H c=some (.ext g)):HOk P w (drop H c) h:=λb o e=>by
 by_cases f:b=c
 .rw[f,vu]at e;cases e
 .rw[dX f]at e;refine(x b o e).stay (λ_ _ _ z=>z) (λd z=>?_) λd i z=>?_
  .rw[dX (λq=>by rw[q,a]at z;cases z)];exact z
  .rw[dX (λq=>by rw[q,a]at z;cases z)];exact z
theorem HOk.back(x:HOk P w H h)(a:H c=none)(ok:ObjOk P w (bT H c o) h c o):HOk P w (bT H c o) h:=λb u e=>by
 by_cases f:b=c
 .subst f;rw[bY]at e;cases e;exact ok
 .rw[bX f]at e;exact(x b u e).stay (λ_ _ _ z=>z) (λd z=>by rw[bX (dj z a)];exact z) λd g z=>by rw[bX (dj z a)];exact z
theorem Cv(x:h.get? c=some o)(d:o.data=.cell (some (.ref m))):ObjOk P w H h c (dU c m o):=#[#[x,d],#[o,x],λa b e k=>#[k _ e.1,e.2]]
theorem GV(x:h.get? f=some {cls:= .type "function",data:= .func a}):ObjOk P w H h f (gN f a):=#[x,#[_,x],λb c e k=>k _ e]
theorem PV(x:h.CodeRec (.ref c) q):ObjOk P w H h c (jy c q):=by
 obtain⟨b,o,m,t,d,e,n⟩:=id x;cases d;refine#[x,#[o,e],λp r ⟨b,f,a,g,i,j,l⟩ k=>?_];cases i;exact#[c,f,a,g,zZ,k _ j,l]
structure LamScope(ps:Ss)(y:Str)(sc:Scope):Prop where
 kind:sc.kind=.function
 co:sc.isCoroutine=false
 gen:sc.isGenerator=false
 nd:(ps++[y]).Nodup
 par:∀x∈ps,sc.names.lookup x=some .local
 fre:sc.names.lookup y=some .free
 only:∀z∈sc.names,z.2≠ .cell/\(z.2=.free->z.1=y)
abbrev fq(d:Str)(a:Arguments)(e:Expr)(b:Scope)(y:Str)(c:Ad)(pm f g:Vl):Fd:=PySem.W.kla_fn "<lambda>" d a e b [(y,c)] pm f g
noncomputable def oU(P:Pg)(w:World)(K:R6)(mg:SV)(base:Heap)(N:Ss)(b:Str)(a:Scope)(f:Ad)(c:Vl)(d:List (Str×Ad))(A:Ar)(outer:List Env)(s:Sh)(H:Hp):Cx where
 prog:=P
 w:=w
 K:=K
 mg:=mg
 base:=base
 A:=A.deeper (PySem.W.envX b a s.heap.objs.size f c d)
 N:=N
 s₀:=s
 H₀:=H
 env:=PySem.W.envX b a s.heap.objs.size f c d
 outer:=outer
 stack:=PySem.W.envX b a s.heap.objs.size f c d::outer
 ex:=[]
 calm:=true
 fn:=λ_=>false
 pn:=[]
 xe:=λ_ _=>False
theorem GG:∀{l:List (Str×Vl)},(l.map (·.1)).Nodup->(x,u)∈l->l.lookup x=some u
 | (a,b)::l,nd,h=>by
  rw[hJ,hX]at nd;rw[iO]
  rcases cP.mp h with e|e
  .cases e;rw[qm]
  .have c:=oq.mpr λq=>nd.1 (cH.mpr #[(x,u),e,q]);rw[c];exact GG nd.2 e
theorem PZ{c:Ss}{d:Vs}{i:Nat}{u:Vl}(nd:c.Nodup)(e:c[i]?=some x)(f:d[i]?=some u):(c.zip d).reverse.lookup x=some u:=by
 refine GG ?_ (oi.mpr (fF.mpr #[i,List.getElem?_zip_eq_some.mpr #[e,f]]));have sub:∀(c:Ss) (d:Vs),((c.zip d).map (·.1)).Sublist c:=λc=>by
  induction c with
  |nil=>intro d;simp
  |cons a c g=>
   intro d;cases d with
   |nil=>simp
   |cons b d=>rw[List.zip_cons_cons,hJ];exact(g d).cons₂ a
 rw[List.map_reverse];show List.Pairwise (· ≠ ·) _;rw[List.pairwise_reverse];exact(nd.sublist (sub c d)).imp dG
theorem Qq{K:R6}{f c m:Ad}{Q:Vs}(S:LamScope n y g) (Y:A.handled=none) (t:Env0 P w K mg l A k s H) (T:I.length=n.length) (r:Vals I Q) (hc:H c=none) (ic:s.heap.IsCell c (some (.ref m)))(L:E.Ns s.heap.objs.size (λx=>(n.zip Q).reverse.lookup x)) (sb:Heap.SameBut s.heap.objs.size (s.heap.push {cls:= .type "frame",data:= .dict #v[]}) E):
  Inv (oU P w K mg l (n++[y]) B g f O [(y,c)] A k s H) [] (I.map some++[some (.ref m)]) H {s with heap:=E,toks:=U}:=by
 have M:∀b o,s.heap.get? b=some o->E.get? b=some o:=λb o e=>sb.extBut _ _ (dq (cK e)) (c7 _ e);have J:E.IsCell c (some (.ref m)):=let⟨o,e,d⟩:=ic;#[o,M _ _ e,d]
 have one:∀{x} {d},([(y,c)]:List (Str×Ad)).lookup x=some d->x=y/\d=c:=λ{x d} h=>by
  rw[iO]at h;cases q:x==y with
  |true=>rw[q]at h;cases h;exact#[eq_of_beq q,zZ]
  |false=>rw[q]at h;cases h
 have C:([(y,c)]:List (Str×Ad)).lookup y=some c:=by rw[iO,qm]
 have G:∀b,b∉(oU P w K mg l (n++[y]) B g f O [(y,c)] A k s H).ex:=λb z=>wC (show b∈([]:As)from z) (by simp);refine#[#[t.mod,S.kind,zZ,zZ,cg _,λa b d E h2=>(one E).1.trans (one h2).1.symm,λa ha=>?_,λa d h _=>wC (h) f',λ_=>Y,Around.frames_deeper t.frames,.inr #[zZ,zZ],λb z=>wC z (G b),t.bs,t.bsz,λb _ _=>G b,λb z=>wC z (G b),t.funs,t.frf],
  rfl,t.bare,Un.kept M,#[_,L,λi x v q1 D q3=>?_],λa d h=>?_,t.hok.fresh (cg _),λa d h=>?_,λp hp=>wC (show p∈([]:AO)from hp) (by simp),t.hok.kept M,?_]
 .have N:=ha
  rcases N with z|z
  .exact wC zZ (S.only _ (om z)).1
  .have e:=(S.only _ (om z)).2 rfl;exact#[c,by rw[show a=y from e];exact C]
 .have j:(n++[y])[i]?=some x:=q1
  rcases Nat.lt_or_ge i n.length with z|z
  .rw[d7 z]at j;rw[d7 (by rw[bW];lia),cz]at D;cases e:I[i]? with
   |none=>rw[e]at D;cases D
   |some a=>
    rw[e]at D;cases D;obtain⟨u,hu,rv⟩:=r.get e;have kx:=S.par x (cF j);refine#[u,rv,.inl #[kx,(PZ (S.nd.sublist (List.sublist_append_left _ _)) j hu)]]
  .rw[eC z]at j;rw[eC (by rw[bW];lia),bW]at D;have e:i-n.length=0:=by
    rcases Nat.eq_zero_or_pos (i-n.length)with y0|y0
    .exact y0
    .rw[jg (by simp;lia)]at j;cases j
   rw[e]at j;rw[T,e]at D;cases j;cases D;exact#[.ref m,zZ,.inr #[.inr S.fre,c,C,J]]
 .obtain⟨rfl,rfl⟩:=one (h);exact#[_,J]
 .obtain⟨rfl,rfl⟩:=one (h);exact hc
 .show(I.map some++[some (V.ref m)]).length=(n++[y]).length;simp[T]
theorem Fz{K:R6}{f c m G:Ad}(S:LamScope D y a) (len:∀B H Q E,Y B H Q E->B.length=D.length) (here:∀B H Q E,Y B H Q E->H f=some (gN f (fq g l p a y c pm (.ref G) ct))/\H c=some (dU c m oc)/\H G=some (jy G g))(L:∀A d s H B Q E,Room k (A.deeper (PySem.W.envX g a s.heap.objs.size f (.ref G) [(y,c)]))->Y B H Q E->
   ∃t,PE (oU P w K mg j (D++[y]) g a f (.ref G) [(y,c)] A d s (drop H c)) p t/\t (B.map some++[some (.ref m)]) (drop H c) λv U=>U c=none->Q v (bT U c (dU c m oc))):
  FnOk P w K mg j cG (k+1) f (fq g l p a y c pm (.ref G) ct) D Y:=by
 refine#[len,λA d s H args us B Q E hr h M r N=>?_];obtain⟨hf,O,aa⟩:=here _ _ _ _ N;have hl:=len _ _ _ _ N;obtain⟨ef,_,_⟩:=h.hok f _ hf;obtain⟨i,_,_⟩:=h.hok c _ O;obtain⟨T,_,_⟩:=h.hok G _ aa;have e1:Env0 P w K mg j A d s (drop H c):=#[h.frames,h.mod,λb o e=>#[(h.bs b o e).1,pz (h.bs b o e).2],h.bsz,h.funs,λb M=>pz (h.frf b M),h.hok.drop O,h.bare];have ab:=h.mod.nolimit.keeps λb o e=>(h.bs b o e).1;refine PySem.W.kla_callFunE hr.depth ef zZ S.co S.gen zZ T (M _ _ _ _ ?_);refine wpAny_newFunctionEnv (λx hx=>(S.only x hx).1) (λx hx=>S.par _ (x4 hx).1) (λh1 ae sb=>?_) S.kind;have hk:∀b o,s.heap.get? b=some o->h1.get? b=some o:=λb o e=>sb.extBut _ _ (dq (cK e)) (c7 _ e);refine#[ab.keeps hk,PySem.W.kla_codeExpr ?_];obtain⟨t,ht,hq⟩:=L A d s H B Q E (hr.deeper _) N;have I:Inv (oU P w K mg j (D++[y]) g a f (.ref G) [(y,c)] A d s (drop H c)) [] (B.map some++[some (.ref m)]) (drop H c) {s with heap:=h1,toks:=s.toks+(D.zip us).length}:=Qq S hr.hd e1 hl r vu #[oc,i] ae sb;refine eZ (ht [] _ _ _ _ I hq) (λv s' ⟨x,U,J,rx,q⟩=>?_) λe s' z=>wE z;have Hc:=J.freeC y c (by show([(y,c)]:List (Str×Ad)).lookup y=some c;rw[iO,qm]);have af:s'.heap.get? c=some oc:=J.base.keep c oc i.1 vu (λz=>?_) (by simp[oU])
 .refine#[x,bT U c (dU c m oc),J.os,J.bare,#[λb o e n M _=>?_,λb o e n M _=>?_,λb o e n _=>?_,λb o e _=>J.base.there b o e (by simp[oU]),λb xs e=>?_,λb o u e=>?_,λb D e=>?_],J.hok.back Hc (Cv af i.2),rx,q Hc]
  .exact J.base.keep b o e (pz n) M (by simp[oU])
  .exact J.base.slot b o e (pz n) M (by simp[oU])
  .have C:b≠c:=λz=>by rw[z,O]at n;cases n
   rw[bX C];exact J.base.free b o e (pz n) (by simp[oU])
  .have C:b≠c:=λz=>by rw[z,O]at e;cases e
   rw[bX C];exact J.base.tups b xs (by show drop H c b=_;rw[dX C];exact e)
  .have C:b≠c:=λz=>by rw[z,O]at e;cases e
   rw[bX C];exact J.base.frzs b o u (by show drop H c b=_;rw[dX C];exact e)
  .have C:b≠c:=λz=>by rw[z,O]at e;cases e
   rw[bX C];exact J.base.tbls b D (by show drop H c b=_;rw[dX C];exact e)
 .have:=h.frf c z;rw[O]at this;cases this
def Jn(X:Cx)(i:Nat)(t:TA):TE:=λb H Q=>cX i b H λv c=>∃st a,v=.ref st/\c st=some (gN st a)/\t b c λg d=>d st=some (gN st a)/\∃k e f,FnOk X.prog X.w X.K X.mg X.base cG k st a e f/\Room k X.A/\Binds X.K a e []/\f g d Q E0
theorem ID{b:St}{st:Ad}(I:Inv X a b H s)(h:H st=some (gN st c)):PySem.W.FnAt st s.heap:=by
 obtain⟨e,_,_⟩:=I.hok st _ h;exact#[_,_,_,_,e]
theorem Ji(i){p a:Pos}(l:PE X (.Name x p) (cX i))(m:PA X (e::b) t)(n:starEach (e::b) X.env=(false,eval e X.env)::starEach b X.env:=by rfl)(c:(backTo a (starEach b X.env)).any (·.1)=false:=by rfl):
  PE X (.Call (.Name x p) (e::b) [] a) (Jn X i t):=by
 intro d s f H Q I h;refine n7 (cj (l d s f H _ I h) λu o ⟨v,w,g,y,st,L,A,B,q⟩=>?_);subst A;cases y;refine PySem.W.callWith_F (ID g B) (cj (m a d o f w _ g q) λM N C=>?_) n c;obtain⟨O,T,j,r,D,k,U,Y,F,E,G,J⟩:=C;refine#[ID j D,?_];have z:=zQ F E G .nil yE j r (by rw[hA];exact J);exact z
def IS(g:Sp)(a:List V)(j:Nat)(c:Ad)(t:TA):TE:=λb H Q=>t b H λh d=>∃m,b[j]?=some (some (.ref m))/\∀e,d c=none->g (h++a) (bT d c (dU c m e)) (λr f=>f c=some (dU c m e)/\Q r (drop f c)) E0
theorem Inv.afterC{t:St}(I:Inv X p t H s)(k:H c=none)(x:s.heap.get? c=some i)(h:CE X.stack X.prog X.w (bT H c (dU c m i)) s (λr j=>j c=some (dU c m i)/\Q r (drop j c)) u s'):EP X p t Q u s':=by
 obtain⟨v,j,os,a,un,d,A,y,q⟩:=h;obtain⟨⟨f,_⟩,_,_⟩:=d c _ y;refine I.after #[v,drop j c,os,a,#[λb o e n l g=>?_,λb o e n l g=>?_,λb o e n g=>?_,un.there,λb B e=>?_,λb o w e=>?_,λb C e=>?_],d.drop y,A,q]
 .by_cases z:b=c
  .subst z;rw[x]at e;cases e;exact f
  .exact un.keep b o e (by rw[bX z];exact n) l g
 .by_cases z:b=c
  .subst z;rw[x]at e;cases e;exact#[i.slots,f]
  .exact un.slot b o e (by rw[bX z];exact n) l g
 .by_cases z:b=c
  .rw[z];exact vu
  .exact pz (un.free b o e (by rw[bX z];exact n) g)
 .have z:b≠c:=λz=>by rw[z,k]at e;cases e
  rw[dX z];exact un.tups b B (by rw[bX z];exact e)
 .have z:b≠c:=λz=>by rw[z,k]at e;cases e
  rw[dX z];exact un.frzs b o w (by rw[bX z];exact e)
 .have z:b≠c:=λz=>by rw[z,k]at e;cases e
  rw[dX z];exact un.tbls b C (by rw[bX z];exact e)
theorem MA{f c:Ad}{p l:Pos}(F:FnOk X.prog X.w X.K X.mg X.base cG k f Y M U)(hr:Room k X.A)(hg:Gl X x)(hm:X.mg x=some (.ref f))(hk:PySem.W.keepIn X.K (.ref f)=true) (v:Binds X.K Y M A) (hd:Vals g A) (hN:X.N[j]?=some y) (J:X.env.cells.lookup y=some c) (C:X.env.scope.names.lookup y=some .cell) (N:X.fn y=true) (ha:PA X (e::B) t)(O:(x==("__debug__":Str))=false:=by decide) (he:starEach (e::B) X.env=(false,eval e X.env)::starEach B X.env:=by rfl) (T:(backTo l (starEach B X.env)).any (·.1)=false:=by rfl):
  PE X (.Call (.Name x p) (e::B) [] l) (IS U g j c t):=by
 intro za s σ H Q I h;refine n7 (nK I hg hm ?_ O);refine pY I.ok.mod.kin hk (cj (ha l za s σ H _ I h) λD L ⟨vs,H1,a,r,m,hj,q⟩=>#[a.kIn,?_]) he T;have n:=a.freeC y c J;obtain⟨mm,hn,look⟩:=a.loc;obtain⟨u,ru,lk⟩:=look j y (.ref m) hN hj (.inr (.inl C));cases ru;obtain⟨oc,ec,dc⟩:L.heap.IsCell c (some (.ref m)):=by
  rcases lk with⟨z,_⟩|⟨_,c',E,ic⟩
  .have z':X.env.scope.names.lookup y=some .local:=z;rw[C]at z';cases z'
  .rw[J]at E;cases E;exact ic
 have q1:=q oc n;have r2:=r.append hd;have hl:(D++A).length=M.length:=by rw[<-r2.length];exact F.len _ _ _ _ q1
 have e1:Env0 X.prog X.w X.K X.mg X.base X.A X.stack L (bT H1 c (dU c m oc)):=by
  have i:=a.env0;have d:=a.ok.cab y c N J;have nb:∀b o,X.base.get? b=some o->b≠c:=λb o e z=>by
   subst z;exact wC (eB (cK e) (dh a.ok.bsz d)) (iG _)
  have nf:∀b∈cV X.stack,b≠c:=λb v z=>by
   subst z
   rcases cP.mp (a.stkSub b v)with w|w
   .exact a.cne y b J w
   .obtain⟨_,o,ho,_⟩:=a.ok.funs.mem w;exact wC (eB (cK ho) d) (iG _)
  exact#[i.frames,i.mod,λb o e=>#[(i.bs b o e).1,by rw[bX (nb b o e)];exact(i.bs b o e).2],i.bsz,i.funs,λb v=>by rw[bX (nf b v)];exact i.frf b v,i.hok.back n (Cv ec dc),i.bare]
 refine nR (lW (F.run X.A X.stack L _ #[D,[]] (D++A) (vs++g) _ E0 hr e1 (v L D a.kIn hl) r2 q1) λr s' G=>?_);cases r with
 |error e=>exact G.elim
 |ok fl=>
  cases fl with
  |ret u=>exact a.afterC n ec G
  |next=>exact wE G
  |brk=>exact wE G
  |cont=>exact wE G
def oA(mg:SV)(h:Heap):Prop:=∃a o,mg "__builtins__"=some (.ref a)/\a≠builtinsNs/\h.get? a=some o/\o.cls=.type "module"/\o.dict=some builtinsNs/\o.data=.plain
abbrev jE(a:Pos)(b:Ad):AV:= #v[rawInt a.line,rawInt a.col,.ref b]
def yg(P:Ad)(a:Str)(b:Arguments)(g:Expr)(d:Scope)(y:Str)(c:Ad)(pm:Vl)(h:Pos):TE:=λ_ H Q=>
 (H P=some (.tbl #v[])/\∀f e i,H f=none->H e=none->f≠e->Q (.ref f) (bT (bT (bT H P (.tbl (jE h e))) e (jy e a)) f (gN f (fq a b g d y c pm (.ref e) i))))\/
 ∃e,H P=some (.tbl (jE h e))/\H e=some (jy e a)/\∀f i,H f=none->Q (.ref f) (bT H f (gN f (fq a b g d y c pm (.ref e) i)))
theorem D1{P cd c:Ad}(G:X.env.code=.ref cd)(C:PySem.W.CodeHd X.base cd P)(bm:oA X.mg X.base)(J:∀D E H s,Inv X D E H s->closureFor f X.env=pure [(y,c)])(aa:defaultsOf a X.env=([],[])) (hq:X.env.qual++"<lambda>"=qual):PE X (.Lambda a g f i) (yg P qual a g f y c ((X.mg "__name__").getD .none) i):=by
 intro D s E H Q I h;rw[arm_eval_Lambda,aa,hq];have C':=C.keeps I.bk;have hg:=I.mod.glob.keeps I.bk;refine bU (b9 (bU (jo (b9 ?_))));have track:∀L,H P=some (.tbl L)->s.heap.get? P=some (PySem.W.tabObj L)/\mainGlobals≠P/\s.heap.BuiltinsAt X.mg P:=λL e=>by
  have M:=I.hok P _ e;have ng:mainGlobals≠P:=λz=>by
   obtain⟨o,es,ep,e1,_⟩:=I.mod.glob;have:=(I.bs _ _ e1).2
   rw[z,e]at this;cases this
  obtain⟨b,o,b1,b2,b3,b4,b5,b6⟩:=bm;refine#[M,ng,b,o,b1,b2,λz=>?_,λz=>?_,I.bk _ _ b3,b4,b5,b6]
  .obtain⟨o',es,ep,e1,d1,_⟩:=I.mod.glob;rw[z,e1]at b3;cases b3;rw[d1]at b6;cases b6
  .have:=(I.bs _ _ b3).2;rw[z,e]at this;cases this
 rcases h with⟨e,q⟩|⟨j,e,ag,q⟩
 .obtain⟨M,ng,hb⟩:=track _ e;refine PySem.W.kla_makeFunction (J D E H s I) I.ok.glob hg G C' M (by trivial) zZ ng hb λj p k tk hx r t N ab=>?_;have x:=I.hok.fresh r;have A:=I.hok.fresh (dh r (fL t));have ae:=dj e x;have af:=dj e A;have O:=mC t;generalize eo:PySem.W.kla_obj "<lambda>" qual a g f [(y,c)] ((X.mg "__name__").getD .none) j p=ob;have old:∀b u,H b=some u->b≠j/\b≠k.objs.size:=λb u z=>#[dj z x,dj z A];have T:∀b o,s.heap.get? b=some o->b≠j/\b≠k.objs.size:=λb o z=>#[dq (eB (cK z) r),dq (eB (cK z) (dh r (fL t)))];have U:∀b o,b≠P->s.heap.get? b=some o->(k.push ob).get? b=some o:=λb o n z=>c7 _ (hx b o n z);have l:∀b,b≠P->b≠j->b≠k.objs.size->bT (bT (bT H P (.tbl (jE i j))) j (jy j qual)) k.objs.size (gN k.objs.size (fq qual a g f y c ((X.mg "__name__").getD .none) (.ref j) p)) b=H b:=λb n1 n2 n3=>by rw[bX n3,bX n2,bX n1]
  have Y:bT (bT (bT H P (.tbl (jE i j))) j (jy j qual)) k.objs.size (gN k.objs.size (fq qual a g f y c ((X.mg "__name__").getD .none) (.ref j) p)) P=some (.tbl (jE i j)):=by rw[bX af,bX ae,bY]
  have tP:(k.push ob).get? P=some (PySem.W.tabObj (jE i j)):=by
   refine c7 _ ?_;rw[ab];rfl
  refine#[.ref k.objs.size,_,?_,zZ,q k.objs.size j p A x O];refine I.step (ch:=[]) (λ_ z=>nomatch z) (λb o _ _ _ z n=>U b o (λw=>by rw[w,e]at n;cases n) z) (λb o _ _ _ z n=>#[o.slots,U b o (λw=>by rw[w,e]at n;cases n) z])
   (λb o _ z n=>?_) (λb o _ z=>?_) (λb xs z=>?_) (λb o u z=>?_) (λb L z=>?_) (λm hm=>?_) (λb u z=>?_) I.bare
  .rw[l b (λw=>by rw[w,e]at n;cases n) (T b o z).1 (T b o z).2];exact n
  .by_cases w:b=P
   .rw[w];exact#[_,tP]
   .exact#[o,U b o w z]
  .rw[l b (λw=>by rw[w,e]at z;cases z) (old b _ z).1 (old b _ z).2];exact z
  .rw[l b (λw=>by rw[w,e]at z;cases z) (old b _ z).1 (old b _ z).2];exact z
  .by_cases w:b=P
   .subst w;rw[e]at z;cases z;exact#[jE i j,by rw[Y];rfl]
   .exact#[#v[],by rw[l b w (old b _ z).1 (old b _ z).2,z];simp]
  .exact hm.at' λo z=>U _ o (λw=>by have:=I.free;rw[w,e]at this;cases this) z
  .by_cases w3:b=k.objs.size
   .rw[w3,bY]at z;cases z;rw[w3];exact GV (by rw[<-eo];exact eQ _ zZ)
   .by_cases w2:b=j
    .rw[w2,bX O.symm,bY]at z;cases z;rw[w2];exact PV (N.push _)
    .by_cases w1:b=P
     .rw[w1,Y]at z;cases z;rw[w1];exact tP
     .rw[l b w1 w2 w3]at z;refine(I.hok b u z).stay (λd o hd y=>U d o (λw=>?_) y) (λd y=>?_) λd xs y=>?_
      .rcases hd with v|v
       .exact w1 (v.symm.trans w)
       .rw[w,e]at v;cases v
      .rw[l d (λw=>by rw[w,e]at y;cases y) (old d _ y).1 (old d _ y).2];exact y
      .rw[l d (λw=>by rw[w,e]at y;cases y) (old d _ y).1 (old d _ y).2];exact y
 .obtain⟨M,ng,hb⟩:=track _ e;have B:codeAmong i (jE i j).toList=some (.ref j):=by
   show(if((i.line:Int)==(i.line:Int)&&(i.col:Int)==(i.col:Int))=true then _ else _)=_;rw[wB (by simp)]
  refine PySem.W.kla_makeFunctionHit (J D E H s I) I.ok.glob hg G C' M (by trivial) B hb λp k tk keep sz=>?_;have I1:Inv X D E H {s with heap:=k,toks:=tk}:=I.kept keep;have I2:Inv X D E H {s with heap:=k.push {cls:= .type "function",data:= .func (fq qual a g f y c ((X.mg "__name__").getD .none) (.ref j) p)},toks:=tk}:=I1.kept λb o z=>c7 _ z;have ok:ObjOk X.prog X.w (bT H k.objs.size (gN k.objs.size (fq qual a g f y c ((X.mg "__name__").getD .none) (.ref j) p))) (k.push {cls:= .type "function",data:= .func (fq qual a g f y c ((X.mg "__name__").getD .none) (.ref j) p)}) k.objs.size (gN k.objs.size (fq qual a g f y c ((X.mg "__name__").getD .none) (.ref j) p)):=GV (eQ _ zZ);exact#[.ref k.objs.size,_,Inv.trackNew I1 I2 ok,zZ,q _ p I1.fresh]
noncomputable def NZ(K:R6)(c:As)(a:Ad)(o:Obj)(d:Zs):Hp:=λb=>if b∈c then some (.tbl #v[])else if b=a/\K.lookup a=none then some (.frz o (.lst (d.map V.int)))else none
theorem MU{K:R6}{mg mb:SV}{fa a:Ad}{f:Sh}{A:Vs}{D:Zs}{tabs:As}(KX:K.In f.heap) (I:f.heap.Ns mainGlobals mg) (g:f.heap.Ns builtinsNs mb) (aa:∀x:Str,x≠"__name__"->mb x=bootBuiltins x) (J:f.heap.NoLimit) (hg:f.gens= #v[]) (ab:oA mg f.heap)(E:f.heap.get? a=some {cls:= .type "list",data:= .seq A.toArray}) (hi:IntsAre A D) (hl:D.length<=sizeLine) (hr:Room k callerA) (hT:∀q∈tabs,K.lookup q=none/\∃c,f.heap.TableAt c q #v[])
  (F:∀l,K.In l->l.Ns mainGlobals mg->oA mg l->FnOk P w K mg l cG k fa fd [x] sp) (G:∀(s:Sh) (u:Vl),BindsTo s fd #[[u],[]] [(x,u)])
  (ae:∀H,(∀q∈tabs,H q=some (.tbl #v[]))->SqL K H a (D.map V.int)->sp [.ref a] H (λv _=>v=.bl true) λ_ _ _=>False):
  codeAny (model P w) callerA (.call (.ref fa) #[[.ref a],[]]) (λr L=>r=.ok (.ret (.bool true))/\OldK f.heap L.heap/\L.os=f.os/\AllBare L.gens) f:=by
 have rv:=Gp hi;have M:=hi.length;have i:=λq N=>let⟨_,c,t⟩:=hT q N;t.2
 have na:a∉tabs:=λN=>by
  have:=i a N;rw[E]at this;cases this
 generalize eH:NZ K tabs a {cls:= .type "list",data:= .seq A.toArray} D=H;have O:∀q∈tabs,H q=some (.tbl #v[]):=λq N=>by rw[<-eH];exact wB N
 have B:∀b,b∉tabs->H b=if b=a/\K.lookup a=none then some (.frz {cls:= .type "list",data:= .seq A.toArray} (.lst (D.map V.int)))else none:=λb g=>by rw[<-eH];exact wA g
 have j:∀b u,H b=some u->(b∈tabs/\u=.tbl #v[])\/(b=a/\K.lookup a=none/\u=.frz {cls:= .type "list",data:= .seq A.toArray} (.lst (D.map V.int))):=λb u e=>by
  by_cases g:b∈tabs
  .rw[O b g]at e;cases e;exact .inl #[g,zZ]
  .rw[B b g]at e;by_cases h:b=a/\K.lookup a=none
   .rw[wB h]at e;cases e;exact .inr #[h.1,h.2,zZ]
   .rw[wA h]at e;cases e
 have af:HOk P w H f.heap:=λb u e=>by
  rcases j b u e with⟨g,rfl⟩|⟨rfl,_,rfl⟩
  .exact i b g
  .exact#[E,by rw[bW];exact hl,A,_,rv,E]
 have hS:SqL K H a (D.map V.int):=by
  cases Q:K.lookup a with
  |some o=>
   have e:=KX a o Q;rw[E]at e;cases e;exact .inr #[_,A.toArray,_,Q,zZ,zZ,zZ,by rw[eF,M];exact hl,by simpa using rv]
  |none=>exact .inl (.inr #[{cls:= .type "list",data:= .seq A.toArray},by rw[B a na,wB #[zZ,Q]]])
 have free:∀{b} {o},f.heap.get? b=some o->o.cls≠ .none->(∀T n,o.data≠ .seq T n)->H b=none:=λ{b o} e hc hd=>by
  cases q:H b with
  |none=>rfl
  | some u=>
   rcases j b u q with⟨g,_⟩|⟨rfl,_,_⟩
   .rw[i b g]at e;cases e;exact wC zZ hc
   .rw[E]at e;cases e;exact wC zZ (hd _ _)
 have p:∀{b} {m},f.heap.Ns b m->(pD f.heap H).Ns b m:=λ{b m} ⟨o,es,ep,e,d,r⟩=>by
  refine#[o,es,ep,E8 e ?_,d,r];cases q:H b with
  |none=>rfl
  | some u=>
   rcases j b u q with⟨g,_⟩|⟨rfl,_,_⟩
   .rw[i b g]at e;cases e;cases d
   .rw[E]at e;cases e;cases d
 have U:K.In (pD f.heap H):=λb o e=>E8 (KX b o e) (by
  cases q:H b with
  |none=>rfl
  | some u=>
   rcases j b u q with⟨g,_⟩|⟨rfl,Q,_⟩
   .rw[(hT b g).1]at e;cases e
   .rw[Q]at e;cases e)
 have ag:oA mg (pD f.heap H):=by
  obtain⟨bm,o,b1,b2,b3,b4,b5,b6⟩:=ab;exact#[bm,o,b1,b2,E8 b3 (free b3 (by rw[b4];nofun) (λT n z=>by rw[b6]at z;cases z)),b4,b5,b6]
 have hM:Mod K mg (pD f.heap H):=#[U,p I,#[mb,p g,aa],let⟨mc,h1,h2⟩:=J;#[mc,p h1,h2]];have e0:Env0 P w K mg (pD f.heap H) callerA [] f H:=#[zZ,hM,λb o e=>Oc e,ql (LG _ _),trivial,λb g=>wC (show b∈([]:As)from g) (by simp),af,.of_eq hg];refine lW ((F _ U (p I) ag).run callerA [] f H #[[.ref a],[]] [.ref a] [.ref a] _ _ hr e0 (G f (.ref a)) (.cons zZ .nil) (ae H O hS)) λr L h=>?_;cases r with
 |error e=>exact h.elim
 | ok fl=>
  cases fl with
  |next=>exact wE h
  |brk=>exact wE h
  |cont=>exact wE h
  | ret u=>
   obtain⟨v,H',os,Y,un,C,r',q⟩:=h;have q':=q;subst q'
   obtain rfl:u=Value.bool true:=r';refine#[zZ,#[λb o e=>?_,λb o e=>un.there b o e (by simp)],os,Y];cases z:H b with
   |none=>exact .inl (un.keep b o e z (by intro y;exact wC (show b∈([]:As)from y) (by simp)) (by simp))
   | some u=>
    rcases j b u z with⟨g,rfl⟩|⟨rfl,_,rfl⟩
    .obtain⟨more,z2⟩:=un.tbls b _ z;have e2:=C b _ z2;rw[i b g]at e;cases e;obtain⟨_,c,t⟩:=hT b g;exact .inr (.inl #[t.isCodeTable,zZ,#v[],more,zZ,e2])
    .obtain⟨e2,_⟩:=C b _ (un.frzs b _ _ z);rw[E]at e;cases e;exact .inl e2
def sl(u v:bS):Prop:=u.length<v.length\/(u.length=v.length/\dZ u v=true)
theorem ku{c d:bS}(h:a≠b):dZ (a::c) (b::d)=decide (a<b):=by
 unfold dZ;rw[gi,wA h];rfl
theorem rk{c d:bS}:dZ (a::c) (a::d)=dZ c d:=by
 unfold dZ;rw[gi,wB zZ];cases gi c d with
 |none=>simp
 |some b=>rfl
theorem HF:∀{i e j},i.length=e.length->e.length=j.length->dZ i e=true->dZ e j=true->dZ i j=true
 | [],[],_,_,_,h,_=>by rw[pP]at h;cases h
 | [],_::_,_,h,_,_,_=>by simp at h
 |_::_,[],_,h,_,_,_=>by simp at h
 |_::_,_::_,[],_,h,_,_=>by simp at h
 | a::i,b::e,c::j,l,m,f,d=>by
  by_cases k:a=b
  .subst k;rw[rk]at f;by_cases g:a=c
   .subst g;rw[rk]at d|-;exact HF (by simpa using l) (by simpa using m) f d
   .rw[ku g]at d|-;exact d
  .rw[ku k]at f;have n:=f7 f;by_cases g:b=c
   .subst g;rw[ku k];exact f
   .rw[ku g]at d;have o:=f7 d;rw[ku ()];exact dF ()
theorem G5:∀{c d g i},c.length=d.length->dZ c d=true->dZ (c++g) (d++i)=true
 | [],[],_,_,_,h=>by rw[pP]at h;cases h
 | [],_::_,_,_,h,_=>by simp at h
 |_::_,[],_,_,h,_=>by simp at h
 | a::c,b::d,g,i,j,e=>by
  by_cases f:a=b
  .subst f;rw[wU,wU,rk];rw[rk]at e;exact G5 (by simpa using j) e
  .rw[wU,wU,ku f];rw[ku f]at e;exact e
theorem Qx(c:bS)(h:a<b):dZ (c++[a]) (c++[b])=true:=by
 induction c with
 |nil=>exact(ku ()).trans (dF h)
 |cons x c d=>rw[wU,wU,rk];exact d
theorem qw(a:sl u v)(b:sl v x):sl u x:=by
 rcases a with a|⟨c,d⟩<;>rcases b with b|⟨e,l2⟩
 .exact .inl ()
 .exact .inl ()
 .exact .inl ()
 .exact .inr #[(),HF c e d l2]
theorem Ca(h:sl u u):False:=by
 rcases h with h|⟨_,h⟩
 .lia
 .rw[pP]at h;cases h
theorem Fb(h:sl u v):sl (u++[a]) (v++[b]):=by
 rcases h with h|⟨e,l⟩
 .exact .inl (by simp;lia)
 .exact .inr #[by simp[e],G5 e l]
theorem xi(u:bS)(h:a<b):sl (u++[a]) (u++[b]):= .inr #[by simp,Qx u h]
def oR(u v:bS):Prop:=u=v\/sl u v
theorem Pm(h1:oR u v)(h2:oR v x):oR u x:=by
 rcases h1 with rfl|h1
 .exact h2
 .rcases h2 with rfl|h2
  .exact .inr h1
  .exact .inr (qw h1 h2)
theorem Ml(h:oR u v):oR (u++[a]) (v++[a]):=by
 rcases h with rfl|h
 .exact .inl rfl
 .exact .inr (Fb h)
section
variable(f:bS->Nat->List Nat)(L:Nat)(x0:bS)
abbrev TW:=List (bS×bS)
noncomputable def cN(word:bS):bS:=word.foldl f x0
def Goes(a:TW)(p:bS×bS)(l:Nat):Prop:=∃u,(f p.1 l,u)∈a/\oR u (p.2++[l])
structure Told(ws:TW):Prop where
 head:ws[0]?=some (x0,[])
 keys:(ws.map (·.1)).Nodup
 run:∀p∈ws,(∀l∈p.2,l<L)/\cN f x0 p.2=p.1
 up:ws.Pairwise λp q=>sl p.2 q.2
 all:∀p∈ws,∀l,l<L->Goes f ws p l
 short:∀p∈ws,p.2.length<ws.length
structure Bfs(d:Nat)(ws wv fo:TW)(i j:Nat):Prop where
 head:ws[0]?=some (x0,[])
 keys:(ws.map (·.1)).Nodup
 run:∀p∈ws,(∀l∈p.2,l<L)/\cN f x0 p.2=p.1
 up:ws.Pairwise λp q=>sl p.2 q.2
 len:∀p∈ws,p.2.length<=d+1
 wave:∀p∈wv,p∈ws/\p.2.length=d
 wup:wv.Pairwise λp q=>sl p.2 q.2
 foll:∀p∈fo,p∈ws/\p.2.length=d+1
 fup:fo.Pairwise λp q=>sl p.2 q.2
 front:∀p∈ws,∀t,wv[i]?=some t->sl p.2 (t.2++[j])
 done:∀p∈ws,p∈fo\/(∃a,i<=a/\wv[a]?=some p)\/∀l,l<L->Goes f ws p l
 part:∀t,wv[i]?=some t->∀l,l<j->Goes f ws t l
 short:∀p∈ws,p.2.length<ws.length
variable{f L x0}
theorem Goes.more(h:Goes f ws p l):Goes f (ws++[q]) p l:=by
 obtain⟨u,a,b⟩:=h;exact#[u,mM _ a,b]
theorem Bfs.start:Bfs f L x0 0 [(x0,[])] [(x0,[])] [] 0 0 where
 head:=rfl
 keys:=by simp
 run:=λp a=>by
  rw[cJ.mp a];exact#[λ_ h=>(nomatch h),zZ]
 up:=pS _ _
 len:=λp a=>by rw[cJ.mp a];simp
 wave:=λp a=>#[a,by rw[cJ.mp a];rfl]
 wup:=pS _ _
 foll:=λ_ h=>nomatch h
 fup:= .nil
 front:=λp a t _=>by
  rw[cJ.mp a];exact .inl (by simp)
 done:=λp a=> .inr (.inl #[0,cg _,by rw[cJ.mp a];rfl])
 part:=λ_ _ _ h=>wC h (m7 _)
 short:=λp a=>by rw[cJ.mp a];simp
theorem Bfs.old(b:Bfs f L x0 d ws wv fo i j)(ht:wv[i]?=some t)(h:f t.1 j∈ws.map (·.1)):Bfs f L x0 d ws wv fo i (j+1):=by
 obtain⟨p,g,e⟩:=cH.mp h;refine {b with front:=λq k t' a=>?_,part:=λt' a l c=>?_}
 .exact qw (b.front q k t' a) (xi _ (nj _))
 .rcases Nat.lt_succ_iff_lt_or_eq.mp c with c|rfl
  .exact b.part t' a l c
  .rw[ht]at a;cases a;exact#[p.2,by rw[<-e];exact g,.inr (b.front p g t ht)]
theorem Bfs.new(b:Bfs f L x0 d ws wv fo i j)(ht:wv[i]?=some t)(o:j<L)(r:f t.1 j∉ws.map (·.1)):
  Bfs f L x0 d (ws++[(f t.1 j,t.2++[j])]) wv (fo++[(f t.1 j,t.2++[j])]) i (j+1):=by
 obtain⟨c,tl⟩:=b.wave t (cF ht);obtain⟨s,k⟩:=b.run t c;have m:(t.2++[j]).length=d+1:=by simp[tl]
 have e:=B8 c;refine#[?_,?_,λp hp=>?_,?_,λp hp=>?_,λp hp=>#[mM _ (b.wave p hp).1,(b.wave p hp).2],b.wup,λp hp=>?_,?_,λp hp u a=>?_,λp hp=>?_,λu a l hl=>?_,λp hp=>?_]
 .rw[d7 e];exact b.head
 .rw[dH,Ct];refine#[b.keys,by simp,λx v y n z=>?_];simp at n;subst n;exact r (z▸v)
 .rcases cW.mp hp with hp|hp
  .exact b.run p hp
  .rw[cJ.mp hp];refine#[λl hl=>?_,?_]
   .rcases cW.mp hl with hl|hl
    .exact s l hl
    .rw[cJ.mp hl];exact o
   .unfold cN at k|-;rw[pq,k];rfl
 .rw[iS];refine#[b.up,pS _ _,λp hp q g=>?_];rw[cJ.mp g];exact b.front p hp t ht
 .rcases cW.mp hp with hp|hp
  .exact b.len p hp
  .rw[cJ.mp hp];exact ql m
 .rcases cW.mp hp with hp|hp
  .exact#[mM _ (b.foll p hp).1,(b.foll p hp).2]
  .exact#[dY _ hp,by rw[cJ.mp hp];exact m]
 .rw[iS];refine#[b.fup,pS _ _,λp hp q g=>?_];rw[cJ.mp g];exact b.front p (b.foll p hp).1 t ht
 .rw[ht]at a;cases a
  rcases cW.mp hp with hp|hp
  .exact qw (b.front p hp t ht) (xi _ (nj _))
  .rw[cJ.mp hp];exact xi _ (nj _)
 .rcases cW.mp hp with hp|hp
  .rcases b.done p hp with h|h|h
   .exact .inl (mM _ h)
   .exact .inr (.inl h)
   .exact .inr (.inr λl hl=>(h l hl).more)
  .exact .inl (dY _ hp)
 .rw[ht]at a;cases a
  rcases Nat.lt_succ_iff_lt_or_eq.mp hl with hl|rfl
  .exact(b.part t ht l hl).more
  .exact#[t.2++[l],dY _ (cJ.mpr zZ),.inl zZ]
 .rw[di,zr]
  rcases cW.mp hp with hp|hp
  .exact x6 (b.short p hp)
  .rw[cJ.mp hp];have z:=b.short t c
   rw[di,zr];lia
theorem Bfs.next(b:Bfs f L x0 d ws wv fo i L)(ht:wv[i]?=some t):Bfs f L x0 d ws wv fo (i+1) 0:=by
 refine {b with front:=λp g n j=>?_,done:=λp g=>?_,part:=λ_ _ l k=>wC k (m7 _)}
 .have m:=b.front p g t ht;have c:sl t.2 n.2:=by
   obtain⟨o,q⟩:=cf.mp ht;obtain⟨l2,r⟩:=cf.mp j;rw[<-q,<-r];exact oM.mp b.wup i (i+1) o l2 (nj _)
  exact qw m (Fb c)
 .rcases b.done p g with h|⟨a,m,c⟩|h
  .exact .inl h
  .rcases Nat.eq_or_lt_of_le m with e|e
   .subst e;rw[ht]at c;cases c;exact .inr (.inr λl k=>b.part t ht l k)
   .exact .inr (.inl #[a,e,c])
  .exact .inr (.inr h)
theorem Bfs.wave'(b:Bfs f L x0 d ws wv fo wv.length 0):Bfs f L x0 (d+1) ws fo [] 0 0:=by
 refine#[b.head,b.keys,b.run,b.up,λp c=>yd (b.len p c),b.foll,b.fup,λ_ h=>(nomatch h),.nil,λp c t ht=>?_,λp c=>?_,λ_ _ l j=>wC j (m7 _),b.short]
 .have i:=b.len p c;have g:=(b.foll t (cF ht)).2;exact .inl (by simp;lia)
 .rcases b.done p c with h|⟨a,i,g⟩|h
  .obtain⟨a,e⟩:=fF.mp h;exact .inr (.inl #[a,iE _,e])
  .rw[jg i]at g;cases g
  .exact .inr (.inr h)
theorem Bfs.told(b:Bfs f L x0 d ws [] [] 0 0):Told f L x0 ws:=#[b.head,b.keys,b.run,b.up,λp c=>by
 rcases b.done p c with h|⟨a,_,h⟩|h
 .nomatch h
 .simp at h
 .exact h,b.short]
theorem Told.least(T:Told f L x0 ws):∀n v,v.length=n->(∀l∈v,l<L)->∃u,(cN f x0 v,u)∈ws/\oR u v
 |0,v,a,_=>by
  have e:=qo.mp a;subst e;exact#[[],cF T.head,.inl zZ]
 | n+1,v,a,c=>by
  obtain⟨b,l,rfl⟩:∃b l,v=b++[l]:=#[v.dropLast,v.getLast (by intro z;rw[z]at a;cases a),(E3 _).symm];obtain⟨u,d,g⟩:=T.least n b (by simp at a;lia) λx h=>c x (List.mem_append_left _ h);obtain⟨i,j,k⟩:=T.all _ d l (c l (dY _ (cJ.mpr zZ)));refine#[i,?_,Pm k (Ml g)];have e:cN f x0 (b++[l])=f (cN f x0 b) l:=by
   unfold cN;rw[pq];rfl
  rw[e];exact j
theorem pR{U:LN}(b:x0∈U)(c:∀x∈U,∀l,l<L->f x l∈U):∀word,(∀l∈word,l<L)->cN f x0 word∈U:=by
 have go:∀(word:bS) x,x∈U->(∀l∈word,l<L)->word.foldl f x∈U:=by
  intro word
  induction word with
  |nil=>intro x a _;exact a
  |cons l word d=>intro x a h;exact d _ (c x a l (h l (dy ..))) λy e=>h y (eM _ e)
 exact λword h=>go word x0 b h
theorem qv{U:LN}{l:LN}(nd:l.Nodup)(h:∀x∈l,x∈U):l.length<=U.length:=u0 nd h
end
theorem II(a:sl u v)(b:sl v u):False:=Ca (qw a b)
theorem ML(h1:oR u v)(h2:oR v u):u=v:=by
 rcases h1 with h1|h1
 .exact h1
 .rcases h2 with h2|h2
  .exact h2.symm
  .exact(II h1 h2).elim
theorem HS:∀{a b:TW},(a.Pairwise λp q=>sl p.2 q.2)->(b.Pairwise λp q=>sl p.2 q.2)->(∀p,p∈a↔p∈b)->a=b
 | [],[],_,_,_=>rfl
 | [],q::b,_,_,h=>wC ((h q).mpr (dy ..)) (by simp)
 |p::a,[],_,_,h=>wC ((h p).mp (dy ..)) (by simp)
 | p::a,q::b,g,i,h=>by
  obtain⟨d,j⟩:=we.mp g;obtain⟨f,k⟩:=we.mp i;have l:p=q:=by
   rcases cP.mp ((h p).mp (dy ..))with e|e
   .exact e
   .rcases cP.mp ((h q).mpr (dy ..))with e'|e'
    .exact e'.symm
    .exact(II (f p e) (d q e')).elim
  subst l;have rest:=HS j k λr=>by
   constructor
   .intro c
    rcases cP.mp ((h r).mp (eM _ c))with e|e
    .subst e;exact(Ca (d r c)).elim
    .exact e
   .intro c
    rcases cP.mp ((h r).mpr (eM _ c))with e|e
    .subst e;exact(Ca (f r c)).elim
    .exact e
  rw[rest]
theorem Told.sub(T:Told f L b g)(k:Told f L b h)(l:p∈g):p∈h:=by
 obtain⟨o,q⟩:=T.run p l;obtain⟨u,a,r⟩:=k.least _ p.2 zZ o;rw[q]at a;obtain⟨s,t⟩:=k.run _ a;obtain⟨v,m,n⟩:=T.least _ u zZ s;have e:=t;rw[e]at m;have same:v=p.2:=by
  obtain⟨i,c⟩:=fF.mp m;obtain⟨j,d⟩:=fF.mp l;have w:i=j:=(jj (by rw[bW];exact(cf.mp c).1) T.keys).mp (by rw[cz,cz,c,d];rfl);subst w;rw[c]at d;have z:=fK d;rw[<-z]
 rw[same]at n;have x:=ML r n;rw[x]at a;exact a
theorem Told.uniq(T:Told f L b c)(a:Told f L b d):c=d:=HS T.up a.up λp=>#[λh=>T.sub a h,λh=>a.sub T h]
section
variable{P:Pg}{A:Ar}{E:VP}{s:Sh}{f d:Ad}
abbrev lJ(k v:Vl):Obj:={cls:= .type "tuple",data:= .seq #v[k,v]}
abbrev rg(a:Vl)(b:Bool)(d:Ad)(i n j:Nat)(k v:Vl):Obj:={cls:= .type "dict_itemiterator",data:= .fields #v[a,.bool b,.ref d,.int i 0,.int n 0,.int j 0,k,v]}
def Lies(h:Heap)(d:Ad)(p:Array DictEntry)(j:Nat):Prop:=∃o,h.get? d=some o/\o.ExactDict/\o.data=.dict p j
def Goer(h:Heap)(f d:Ad)(i n j:Nat):Prop:=∃b c k v,h.get? f=some (rg b c d i n j k v)/\(b=.none\/∃a:Nat,b=rawInt a/\a≠f/\∃o,h.get? a=some o)
theorem Goer.keep(g:Goer h f d i n j)(k:∀o,h.get? f=some o->m.get? f=some o)(l:∀b o,h.get? b=some o->∃r,m.get? b=some r):Goer m f d i n j:=by
 obtain⟨p,q,x,v,e,c⟩:=g;refine#[p,q,x,v,k _ e,c.imp id ?_];rintro⟨a,s,t,o,u⟩;exact#[a,s,t,l a o u]
theorem Ld{Q:VP}(e:s.heap.get? f=some (rg l g d i n j C D))(c:l=.none\/∃a:Nat,l=rawInt a/\a≠f/\∃o,s.heap.get? a=some o)(q:∀y,Goer y f d i n j->y.get? s.heap.objs.size=some (lJ k v)->(∀b o,b≠f->s.heap.get? b=some o->y.get? b=some o)->Q (.ref s.heap.objs.size) {s with heap:=y}):
  wpAny (model P w) A (Builtin.Dict_items.pairFromOwner (.ref f) 6 k v) Q E s:=by
 have lt:=cK e;refine bU (wpAny_newTuple ?_);have h:=c7 (lJ k v) e;have p:(s.heap.push (lJ k v)).get? s.heap.objs.size=some (lJ k v):=eQ _ rfl;have B:∀b o,s.heap.get? b=some o->(s.heap.push (lJ k v)).get? b=some o:=λb o z=>c7 _ z;have G:=mC lt
 rcases c with rfl|⟨a,rfl,H,o,T⟩
 .have free:∀{R} {I},I.heap.get? f=some (rg .none g d i n j C D)->R true I->wpAny (model P w) A (Builtin.Dict_items.ownedTupleIsFree (.ref f)) R E I:=λe r=>by
   exact bU (oF e zZ zZ (b9 r))
  refine bU (free h ?_);rw[wB zZ];refine bU (oF h zZ zZ (bU (oF h zZ zZ (bU (oy h (by simp) λN J t=>wpAny_bind (wpAny_setField_rec J (by simp) λh3 U Y=>?_))))));refine bU (oy U (by simp) λh4 e4 s4=>wpAny_bind (wpAny_setField_rec e4 (by simp) λh5 e5 s5=>wpAny_bind (wpAny_letGo (wpAny_pure ?_))));have O:=((t.trans Y).trans s4).trans s5;have u:=O.extBut _ _ G p;exact q h5 #[_,_,_,_,e5,.inr #[_,zZ,G,_,u]] u λb o L z=>O.extBut _ _ L (B b o z)
 .have M:=B a o T;refine bU ?_;refine bU (oF h zZ zZ ?_);have alive:∀{R},R (some o) {s with heap:=s.heap.push (lJ k v)}->wpAny (model P w) A (loadIfAlive ((a:Int).toNat)) R E {s with heap:=s.heap.push (lJ k v)}:=λ{R} r=>by
   rw[iW];exact λ_ _ _=>show R ((s.heap.push (lJ k v)).get? a) _ by rw[M];exact r
  refine bU (alive ?_)
  refine bU (oF h zZ zZ ?_);cases g with
  |true=>exact b9 (b9 (q _ #[_,_,_,_,h,.inr #[a,zZ,H,o,M]] p λb o _ z=>B b o z))
  |false=>
   refine bU (oy h (by simp) λN J t=>wpAny_pure (wpAny_pure (q N #[_,_,_,_,J,.inr #[a,zZ,H,o,t.extBut _ _ H M]] (t.extBut _ _ G p) λb o L z=>t.extBut _ _ L (B b o z))))
end
section
variable{P:Pg}{A:Ar}{E:VP}{s:Sh}
theorem Rl{Q:Option Vl->Sh->Prop}(G:Goer s.heap f d i g.size h)(L:Lies s.heap d g h)(y:g[i]?=some j)(q:∀p,Goer p f d (i+1) g.size h->p.get? s.heap.objs.size=some (lJ j.key j.val)->(∀b o,b≠f->s.heap.get? b=some o->p.get? b=some o)->Q (some (.ref s.heap.objs.size)) {s with heap:=p}):
  wpAny (model P w) A (pyNext (.ref f)) Q E s:=by
 obtain⟨r,t,J,M,e,c⟩:=G;obtain⟨o,B,_,C⟩:=L;have ty:s.TypeIs (.ref f) "dict_itemiterator":=#[_,e,zZ];have lt:=(oP.mp y).1;unfold pyNext;refine bU (qb (ux (name:=Str.ofString "__next__") ty yc (lV yc ty F7 ?_ (GL _))));refine bU (b9 (bU (bU ?_)));refine bU (AW ty (b9 (bU (wR e zZ ?_))));have l:Builtin.Dict_items.ownsTuple "dict_itemiterator"=true:=by decide
 simp only[l,if_true];refine show wpAny _ _ (if(Value.ref d==Value.none)=true then _ else _) _ _ s from(wA (f'))▸bU (b9 (bU (sj B C ?_)))
 rw[wA (by simp)];refine bU (b9 (bU (u8 B C ?_)));rw[wA (by simp)];refine b9 ?_;have u:(if((i:Nat):Int)<0 then none else g[((i:Nat):Int).toNat]?)=some j:=by
  rw[wA (),iW];exact y
 show wpAny _ _ (match (if((i:Nat):Int)<0 then none else g[((i:Nat):Int).toNat]?)with|some e=>_|none=>_) _ _ s;rw[u];refine bU (bU (AW ty (b9 (bU (FP ty ?_)))));refine show wpAny _ _ (setField (.ref f) 3 (rawInt ((i:Int)+1)) >>= _) _ _ s from bU (oy e (by simp) λk N v=>wpAny_bind (wpAny_holding ?_))
 have m:k.get? f=some (rg r t d (i+1) g.size h J M):=by
  have z:((i+1:Nat):Int)=(i:Int)+1:=by lia
  unfold rg;rw[z];simpa[rawInt]using N
 have n:Shared.TypeIs {s with heap:=k} (.ref f) "dict_itemiterator":=#[_,m,rfl];refine bU (FP n (bU (FP n ?_)));have sz:=v.1;refine show wpAny _ _ (Builtin.Dict_items.pairFromOwner (.ref f) 6 j.key j.val) _ _ {s with heap:=k}from Ld (s:={s with heap:=k}) m (c.imp id ?_) λD O T k2=>?_
 .rintro⟨a,U,H,Y,z⟩;exact#[a,U,H,Y,v.extBut _ _ H z]
 .have x:D.get? s.heap.objs.size=some (lJ j.key j.val):=by rw[<-sz];exact T
  show wpAny _ _ (ret (.ref k.objs.size)) _ _ _;rw[sz];exact b9 #[_,zZ,b9 (q D O x λb o I z=>k2 b o I (v.extBut _ _ I z))]
theorem Nn{Q:Option Vl->Sh->Prop}(r:A.handled=none)(G:Goer s.heap f d i g.size h)(L:Lies s.heap d g h)(t:g[i]?=none)(q:∀l,Heap.ExtBut f s.heap l->Q none {s with heap:=l}):wpAny (model P w) A (pyNext (.ref f)) Q E s:=by
 obtain⟨u,v,B,C,e,c⟩:=G;obtain⟨o,n,_,p⟩:=L;have ty:s.TypeIs (.ref f) "dict_itemiterator":=#[_,e,zZ];refine bU (qb (ux ty yc (lV yc ty F7 (bU (b9 (bU (bU ?_)))) (GL _))));refine bU (AW ty (b9 (bU (wR e zZ ?_))));have j:Builtin.Dict_items.ownsTuple "dict_itemiterator"=true:=zZ
 refine show wpAny _ _ (if(Value.ref d==Value.none)=true then _ else _) _ _ s from(wA (f'))▸bU (b9 (bU (sj n p ?_)))
 rw[wA (by simp)];refine bU (b9 (bU (u8 n p ?_)));rw[wA (by simp)];refine b9 ?_;have k:(if((i:Nat):Int)<0 then none else g[((i:Nat):Int).toNat]?)=none:=by
  rw[wA (),iW];exact t
 show wpAny _ _ (match (if((i:Nat):Int)<0 then none else g[((i:Nat):Int).toNat]?)with|some e=>_|none=>_) _ _ s;rw[k];refine bU (bU (AW ty (b9 (show wpAny _ _ (setField (.ref f) 2 .none >>= _) _ _ s from bU (oy e (by simp) λD H x=>?_)))))
 refine bU ?_;refine bU (nq ?_ (by size_fits));refine bU (Aq (by first|rfl|(unfold firstArgMember;rfl)) (wpAny_newObj_type ?_ (by size_fits)));refine AY r (wpAny_bind (wpAny_isInstance #[_,Heap.get?_push_size _ zZ,zZ] isSubtype_stop (wpAny_pure ?_)));exact q _ λb o y z=>c7 _ (c7 _ (x.extBut b o y z))
end
structure PMade(es:Array DictEntry)(lo:Ad)(h:Heap)(as:As):Prop where
 far:∀a∈as,lo<a
 up:as.Pairwise (· < ·)
 is:∀(j:Nat) (a:Ad),as[j]?=some a->∃en:DictEntry,es[j]?=some en/\h.get? a=some (lJ en.key en.val)
theorem PMade.nil{lo:Ad}:PMade a lo h []:=#[λ_ z=>(nomatch z),.nil,λ_ _ z=>by simp at z]
theorem PMade.here{lo:Ad}(m:PMade c lo h b):∀a∈b,a<h.objs.size:=λa d=>by
 obtain⟨j,e⟩:=fF.mp d;obtain⟨_,_,g⟩:=m.is j a e;exact cK g
theorem PMade.keep{lo:Ad}(m:PMade c lo h f)(k:∀b o,lo<b->h.get? b=some o->d.get? b=some o):PMade c lo d f:=
 #[m.far,m.up,λj a e=>by
  obtain⟨i,x,g⟩:=m.is j a e;exact#[i,x,k a _ (m.far a (cF e)) g]]
theorem PMade.more{lo a:Ad}(m:PMade i lo h d)(o:lo<a)(new:∀b∈d,b<a)(x:i[d.length]?=some f)(g:h.get? a=some (lJ f.key f.val)):PMade i lo h (d++[a]):=
  #[λb k=>by
    rcases cW.mp k with z|z
    · exact m.far b z
    · rw[cJ.mp z];exact o,
   iS.mpr #[m.up,pS _ _,λb k c p=>by rw[cJ.mp p];exact new b k],
   λj b e=>by
    by_cases l:j<d.length
    · rw[d7 l]at e
      exact m.is j b e
    · rw[eC (Ak l)]at e
      obtain⟨z,n⟩:=cf.mp e;have r:j-d.length=0:=by simp at z;lia
      have q:j=d.length:=by lia
      subst q;simp at n;subst n;exact#[f,x,g]]
section
variable{P:Pg}{w:World}{A:Ar}{R:Result->Sh->Prop}{S I d:Ad}{g:Nat}{f:Vl}
abbrev zh(h:Heap)(S:Ad)(a:AV)(c:Nat):Prop:=h.get? S=some {cls:= .type "list",data:= .seq a c}
theorem ut(U:A.handled=none)(H:S<I)(Y:d≠S)(dI:d≠I)(aa:a.size<=sizeLine):∀r i (s:Sh) h c,i+r=a.size->h.length=i->Goer s.heap I d i a.size g->Lies s.heap d a g->
      zh s.heap S (h.map Value.ref).toArray c->PMade a I s.heap h->
      (∀j bs v,bs.length=a.size->PMade a I j bs->zh j S (bs.map Value.ref).toArray v->(∀b o,b≠S->b≠I->s.heap.get? b=some o->j.get? b=some o)->R (.ok (.ret f)) {s with heap:=j})->
      codeAny (model P w) A (.builtin "list.extend.loop" #[[.ref S,.ref I,f],[]]) R s:=by
  have k:=dq H;intro r
  induction r with
  | zero=>
    intro i s h c hi y G L t M q;refine q0 F.entry_extend_loop ?_;rw[vr ye _];refine bU (Nn U G L (Array.getElem?_eq_none ()) λj x=>wpAny_pure ?_)
    exact q j h c () (M.keep λb o l e=>x b o (mC l) e) (x S _ k t) λb o _ z e=>x b o z e
  | succ r ih=>
    intro i s h c hi y G L t M q;obtain⟨J,N⟩:∃J,a[i]?=some J:=#[a[i]'(),md ()];have B:I<s.heap.objs.size:=by
      obtain⟨_,_,_,_,e,_⟩:=G;exact cK e
    have C:=cK t;refine q0 F.entry_extend_loop ?_;rw[vr ye _];refine bU (Rl G L N λm G1 p1 u=>?_)
    have n:=u S _ k t;refine show wpAny _ A.in1 (updateSeq S (·.push (Value.ref s.heap.objs.size)) >>= _) _ _ {s with heap:=m}from bU (Bs n rfl (b9 #[wg ye _,?_]) ?_ ?_)
    · have off:∀b o,b≠S->m.get? b=some o->(m.update S (Obj.mapSeq (·.push (Value.ref s.heap.objs.size)))).get? b=some o:=λb o z e=>(ko _ _ (dG z)).trans e
      have p:=pM (Obj.mapSeq (·.push (Value.ref s.heap.objs.size))) n rfl;obtain⟨D,h0,x0,y0⟩:=L;have M1:=M.keep λb o l e=>u b o (mC l) e
      refine ih (i+1) {s with heap:=m.update S (Obj.mapSeq (·.push (Value.ref s.heap.objs.size)))} (h++[s.heap.objs.size]) _ () (by simp[y]) (G1.keep (λo e=>off I o (Ne.symm k) e) λb o e=>?_)
        #[D,off d D Y (u d D dI h0),x0,y0] (by simpa[Obj.mapSeq,List.map_append]using p) ?_ λj bs v l' M' E k'=>q j bs v l' M' E λb o O Q e=>k' b o O Q (off b o O (u b o Q e))
      · by_cases T:b=S
        · subst T
          exact#[_,p]
        · exact#[o,off b o T e]
      · exact(M1.keep λb o l e=>off b o (mC (A6 H l)) e).more B M.here (y▸N) (off _ _ (mC C) p1)
    · simp;lia
    · simp;lia
end
section
variable{P:Pg}{A:Ar}{E:VP}{s:Sh}{v d:Ad}
abbrev uc(d:Ad):Obj:={cls:= .type "dict_items",data:= .fields #v[.ref d]}
theorem Lies.typeIs(L:Lies s.heap d f g):s.TypeIs (.ref d) "dict":=let⟨o,h,x,_⟩:=L;#[o,h,x.1]
theorem Qd{Q:VP}(nd:(d==sysModules)=false)(L:Lies s.heap d f g)(q:Q (.ref s.heap.objs.size) {s with heap:=s.heap.push (uc d)}):wpAny (model P w) A (call (.builtin "dict.items") [.ref d]) Q E s:=by
 refine call_meetsIn (S:=λ_ R s=>Lies s.heap d f g/\R (.ok (.ret (.ref s.heap.objs.size))) {s with heap:=s.heap.push (uc d)}) F.slot_dict_items L.typeIs F.entry_dict_items (F.args_dict_items_1 _) (.of_wp λA R s ⟨L,r⟩=>?_) #[L,q];refine bU (bU (wpAny_notOrdered_dict L.typeIs ?_));refine b9 (?_)
 have all:Builtin.Dict.showsAll d=pure Unit.unit:=by
  unfold Builtin.Dict.showsAll;rw[nd];rfl
 rw[all];exact bU (b9 (bU (nq (b9 #[_,zZ,r]))))
theorem LJ{Q:VP}(a:s.heap.get? v=some (uc d))(L:Lies s.heap d f g)(q:Q (.ref s.heap.objs.size) {s with heap:=s.heap.push (rg .none false d 0 f.size g .none .none)}):wpAny (model P w) A (pyIter (.ref v)) Q E s:=by
 have ty:s.TypeIs (.ref v) "dict_items":=#[_,a,zZ];obtain⟨o,b,_,c⟩:=L;refine xa ty F.slot_dict_items_iter (lV F.slot_dict_items_iter ty F.entry_dict_items_iter ?_ (F.args_dict_items_iter_1 _));refine bU (b9 (bU (bU (oF a zZ zZ (b9 (bU (bU (sj b c (bU (u8 b c ?_))))))))));refine show wpAny _ _ (newFields "dict_itemiterator" [.none,.bool false,.ref d,rawInt 0,rawInt (f.size:Nat),rawInt (g:Nat),.none,.none]) _ _ s from nq (b9 #[_,zZ,"dict_itemiterator",_,#[_,eQ _ zZ,zZ],yc.lookup,q]) (by size_fits)
theorem Q3{Q:Bool->Sh->Prop}(ty:s.TypeIs (.ref v) "dict_items")(q:Q false s):wpAny (model P w) A (Builtin.List.listLengthHint (.ref v)) Q E s:=PySem.W.kdx_hint ty q
theorem PD{Q:VP}(hh:A.handled=none)(U:s.heap.get? v=some (uc d))(L:Lies s.heap d f g)(G:f.size<=sizeLine)(q:∀j n c k,n.length=f.size->PMade f s.heap.objs.size j n->zh j s.heap.objs.size (n.map Value.ref).toArray c->(∀b o,s.heap.get? b=some o->j.get? b=some o)->Q (.ref s.heap.objs.size) {s with heap:=j,toks:=k}):
  wpAny (model P w) A (call (.type "list") [.ref v]) Q E s:=by
 let S:=s.heap.objs.size
 obtain⟨o,H,x,Y⟩:=id L;have ld:=cK H;have lv:v<S:=cK U;refine callType_codes (Q₁:=λobj p=>obj=.ref S/\p={s with heap:=s.heap.push {cls:= .type "list",data:= .seq #v[]}}) F.called_list (F.typeCall_list_1 _) F.entry_list_init (code_list_new _ #[rfl,rfl]) λobj s1 z=>?_;obtain⟨rfl,rfl⟩:=z;have D:zh (s.heap.push {cls:= .type "list",data:= .seq #v[]}) S #v[] 0:=eQ _ rfl;refine#[#[_,D,zZ],F.args_list_init_2 _ _,?_];unfold Builtin.«list.__init__» Builtin.List.listItems;refine bU (bU (wpAny_seqItems D zZ (b9 ?_)));refine bU (m:=updateSeq S _) (Bs D zZ (bU (wpAny_letGo ?_)));have I:=pM (Obj.mapSeq (λ_=>(#v[]:AV))) D rfl
 let t:=(s.heap.push {cls:= .type "list",data:= .seq #v[]}).update S (Obj.mapSeq (λ_=>(#v[]:AV)))
 have J:∀b o,s.heap.get? b=some o->t.get? b=some o:=λb o e=>(ko _ _ (mC (cK e))).trans (c7 _ e);have M:t.objs.size=S+1:=by
  show(Heap.update _ _ _).objs.size=_;simp[Heap.update,Heap.push,S]
 have go:∀(l:Heap) (c k:Nat),zh l S #v[] c->(∀b o,b≠S->(t.push (rg .none false d 0 f.size g .none .none)).get? b=some o->l.get? b=some o)->
   codeAny (model P w) A.in1 (.builtin "list.extend.loop" #[[.ref S,.ref t.objs.size,.none],[]]) (wants (λr u=>r=Value.none/\Q (Value.ref S) u) E) {s with heap:=l,toks:=k}:=λl c k l2 k2=>by
  have y:S<t.objs.size:=by rw[M];exact nj _
  have B:∀b o,s.heap.get? b=some o->l.get? b=some o:=λb o e=>k2 b o (dq (cK e)) (c7 _ (J b o e));refine ut (by simpa using hh) y (Nat.ne_of_lt ld) (Nat.ne_of_lt (Nat.lt_trans ld y)) G f.size 0 {s with heap:=l,toks:=k} [] c () rfl #[_,_,_,_,k2 _ _ (Nat.ne_of_gt y) (Heap.get?_push_size _ rfl),.inl rfl] #[o,B d o H,x,Y] l2 .nil λj n c' l' N O k'=>?_;refine#[zZ,q j n c' k l' #[λa ha=>A6 y (N.far a ha),N.up,N.is] O λb o e=>?_];have lb:b<S:=cK e;exact k' b o (dq lb) (dq (A6 lb y)) (B b o e)
 refine show wpAny _ _ (Builtin.List.listExtendWith (.ref S) (.ref v) .none) _ _ _ from ?_
 unfold Builtin.List.listExtendWith;have h:=J v _ U;refine bU (wpAny_typeOf (T:="dict_items") #[_,h,zZ] ?_);have no:(Builtin.List.listSameRef (.ref S) (.ref v) || Value.type "dict_items"==Value.type "list" || Value.type "dict_items"==Value.type "tuple")=false:=by
  have z:Builtin.List.listSameRef (.ref S) (.ref v)=false:=by simp[Builtin.List.listSameRef,Nat.ne_of_gt lv]
  rw[z];decide
 rw[no,wA (by decide)];refine bU (LJ h #[o,J d o H,x,Y] (bU (jo (Q3 #[_,c7 _ h,zZ] ?_))));have i:=c7 (rg .none false d 0 f.size g .none .none) I;refine Cw (λ_=>?_) λ_=>b9 #[wg ye _,go _ _ _ i λ_ _ _ e=>e];unfold Builtin.List.listTouch Builtin.List.listUpdate;refine bU (pC (bU (bU (m:=updateSeq S _) (Bs i zZ ?_))));have C:=pM (Obj.mapSeq (·.push Value.none)) i rfl;refine show wpAny _ _ (updateSeq S (·.pop)) _ _ _ from Bs (hz:=by seq_fits) C zZ (b9 #[wg ye _,go _ _ _ (pM (Obj.mapSeq (·.pop)) C zZ) λb o nb e=>?_])
 rw[ko _ _ (dG nb),ko _ _ (dG nb)];exact e
end
noncomputable def pb(H:Hp):List (Ad×HO)->Hp
 | []=>H
 |p::l=>pb (bT H p.1 p.2) l
theorem C9:∀{l} {H} {b},(∀p∈l,b≠p.1)->pb H l b=H b
 | [],_,_,_=>rfl
 |p::l,H,b,n=>by
  show pb (bT H p.1 p.2) l b=_;rw[C9 λq a=>n q (eM _ a),bX (n p (dy ..))]
theorem CJ:∀{l} {H} {p},(l.map (·.1)).Nodup->p∈l->pb H l p.1=some p.2
 | q::l,H,p,nd,hp=>by
  obtain⟨a,b⟩:=hX.mp nd
  rcases cP.mp hp with rfl|hp
  .show pb (bT H p.1 p.2) l p.1=_;rw[C9 λr c z=>a (cH.mpr #[r,c,z.symm]),bY]
  .exact CJ (l:=l) b hp
theorem BY{m:List d}{j:Nat}{a:c}(r:Paired F l m)(e:l[j]?=some a):∃b,m[j]?=some b/\F a b:=by
 induction r generalizing j with
 |nil=>simp at e
 | cons h _ f=>
  cases j with
  |zero=>
   have z:=fK e;subst z;exact#[_,zZ,h]
  |succ j=>exact f e
theorem Inv.tracks{c:St}{s s1:Sh}(I:Inv X a c h s):∀l H,Inv X a c H s1->(∀p∈l,s.heap.objs.size<=p.1/\H p.1=none/\∀i,ObjOk X.prog X.w i s1.heap p.1 p.2)->(l.map (·.1)).Nodup->
  Inv X a c (pb H l) s1
 | [],_,d,_,_=>d
 |p::l,H,d,ok,nd=>by
  obtain⟨j,k⟩:=hX.mp nd;obtain⟨f,n,o⟩:=ok p (dy ..);obtain⟨u,m,v,w,r,t⟩:=I.fpOk f n;refine Inv.tracks I l _ (d.track n (o _) (dh I.sz f) m r t) (λq g=>?_) k;obtain⟨x,y,z⟩:=ok q (eM _ g);exact#[x,by rw[bX λe=>j (cH.mpr #[q,g,e])];exact y,z]
structure Listed(H H':Hp)(kvs:List (List cQ×V))(l:Ad)(as:As):Prop where
 new:H l=none
 news:∀a∈as,H a=none
 out:l∉as
 nd:as.Nodup
 len:as.length=kvs.length
 lst:H' l=some (.lst (as.map .ref))
 is:∀(j:Nat) (a:Ad),as[j]?=some a->∃k v b,kvs[j]?=some (k,v)/\H b=some (.tup (k.map kV))/\H' a=some (.tup [.ref b,v])
 rest:∀b,b≠l->b∉as->H' b=H b
noncomputable def xZ(v d:Ad):HO:= .ext λh=>h.get? v=some (uc d)
def LD:V->List V->Hp->VK->Prop:=λx c H Q=>c=[]/\∃a b,x=.ref a/\H a=some (.dT b)/\∀v,H v=none->Q (.ref v) (bT H v (xZ v a))
theorem O9:uo X "dict.items" LD:=by
 intro n s p H x r u t Q I b c h;obtain⟨rfl,a,d,rfl,f,q⟩:=h;cases b;cases c;obtain⟨z,g,v,i,o,w,A,j,l,m,_⟩:=I.hok a _ f;refine Qd g #[o,j,l,m] #[.ref s.heap.objs.size,_,I.laid (λ_ _ q=>c7 _ q) (cg _) ?_,zZ,q _ I.fresh];have e:(s.heap.push (uc a)).get? s.heap.objs.size=some (uc a):=eQ _ rfl;exact#[e,#[_,e],λB C y k=>k _ y]
inductive gO(c:List V)(H:Hp)(Q:VK):Prop|mk:∀v a b,c=[.ref v]->H v=some (xZ v a)->H a=some (.dT b)->(∀l e d,Listed H d b l e->Q (.ref l) d)->gO c H Q
theorem Qb(hc:X.calm=true):CallR X (.type "list") gO:=by
 intro za s σ H xs us Q I r h;obtain⟨v,a,t,rfl,hv,ha,q⟩:=h;obtain⟨u,rfl,ru⟩:=iz r;cases ru;obtain⟨ev,_,_⟩:=I.hok v _ hv;obtain⟨z,na,ys,E,o,es,ep,e1,e2,e3,e4,_⟩:=I.hok a _ ha;have el:es.size=t.length:=by rw[AI e4,<-pL E]
 refine PD (I.ok.hd hc) ev #[o,e1,e2,e3] () λD f c tk ln M lS k=>?_;have I1:Inv X za σ H {s with heap:=D,toks:=tk}:=I.kept k;have big:∀b,s.heap.objs.size<=b->H b=none:=λb n=>I.hok.fresh n;have nd:=M.up.imp λz=>dq z;have A:=λm=>iG _ (M.far _ m);have G:∀(j:Nat) (b:Ad),f[j]?=some b->∃k x y,t[j]?=some (k,x)/\H y=some (.tup (k.map kV))/\∃u,RelV x u/\D.get? b=some (lJ (.ref y) u):=λj b d=>by
  obtain⟨en,ee,g⟩:=M.is j b d;obtain⟨jl,_⟩:=cf.mp d;obtain⟨⟨k,x⟩,ek⟩:∃p,t[j]?=some p:=#[_,b7 ()];obtain⟨⟨k',y,u⟩,ey,p1,p2,p3⟩:=BY E ek;rw[entry_at e4,ey]at ee;cases ee;exact#[k,x,y,ek,p2,u,p3,g]
 have w:∀b,∃o:HO,∀j:Nat,f[j]?=some b->∃k x y,t[j]?=some (k,x)/\H y=some (.tup (k.map kV))/\o=.tup [.ref y,x]/\∃u,RelV x u/\D.get? b=some (lJ (.ref y) u):=λb=>by
  by_cases n:b∈f
  .obtain⟨j,d⟩:=fF.mp n;obtain⟨k,x,y,L,N,u,O,T⟩:=G j b d;refine#[.tup [.ref y,x],λi ei=>?_];have ij:=jj (cf.mp d).1 nd |>.mp (d.trans ei.symm)
   subst ij;exact#[k,x,y,L,N,zZ,u,O,T]
  .exact#[.tup [],λj d=>wC (cF d) n]
 let J:Ad->HO:=λb=>Classical.choose (w b)
 have B:∀(j:Nat) (b:Ad),f[j]?=some b->∃k x y,t[j]?=some (k,x)/\H y=some (.tup (k.map kV))/\J b=.tup [.ref y,x]/\∃u,RelV x u/\D.get? b=some (lJ (.ref y) u):=λj b d=>r9 (w b) j d;have C:(f.map λb=>(b,J b)).map (·.1)=f:=by simp[List.map_map,Function.comp_def]
 have U:∀b∈f,∀Y,ObjOk X.prog X.w Y D b (J b):=λb n Y=>by
  obtain⟨j,d⟩:=fF.mp n;obtain⟨k,x,y,L,N,O,u,T,h5⟩:=B j b d;rw[O];exact#[by show 2<=sizeLine;decide,[.ref y,u],.cons zZ (.cons T .nil),_,h5,zZ,0,zZ,zZ]
 have vs:∀l:As,Vals (l.map V.ref) (l.map Value.ref):=λl=>by
  induction l with
  |nil=>exact .nil
  |cons x l ih=>exact .cons zZ ih
 have I2:=Inv.tracks I ((s.heap.objs.size,.lst (f.map .ref))::f.map λb=>(b,J b)) H I1 (λp hp=>by
   rcases cP.mp hp with rfl|hp
   .exact#[cg _,big _ (cg _),λY=>#[by rw[bW];lia,_,c,vs f,lS]]
   .obtain⟨b,n,rfl⟩:=cH.mp hp;exact#[fL (M.far b n),big _ (fL (M.far b n)),U b n]) (by
   rw[hJ,C];exact hX.mpr #[A,nd])
 refine#[.ref s.heap.objs.size,_,I2,zZ,q _ f _ #[big _ (cg _),λb n=>big _ (fL (M.far b n)),A,nd,(),?_,λj b d=>?_,λb L N=>?_]]
 .exact CJ (by rw[hJ,C];exact hX.mpr #[A,nd]) (dy ..)
 .obtain⟨k,x,y,g1,g2,g3,_⟩:=B j b d;refine#[k,x,y,g1,g2,?_];rw[<-g3];exact CJ (by rw[hJ,C];exact hX.mpr #[A,nd]) (eM _ (cH.mpr #[b,cF d,zZ]))
 .refine C9 λp hp=>?_
  rcases cP.mp hp with rfl|hp
  .exact L
  .obtain⟨y,hy,rfl⟩:=cH.mp hp;exact λe=>N (e▸hy)
noncomputable def a3g(b:TW)(c:As):List (List cQ×V):=List.zipWith (λp a=>(nk p.1,V.ref a)) b c
theorem Dd{a:Ad}(h:as.length=ws.length):a3g (ws++[p]) (as++[a])=a3g ws as++[(nk p.1,.ref a)]:=by
 unfold a3g;rw[List.zipWith_append h.symm];rfl
theorem AK(h:b.length=a.length):(a3g a b).length=a.length:=by
 unfold a3g;rw[List.length_zipWith];lia
theorem Mn{c:As}{j:Nat}{a:Ad}(d:b[j]?=some p)(e:c[j]?=some a):(a3g b c)[j]?=some (nk p.1,.ref a):=by
 unfold a3g;rw[List.getElem?_zipWith,d,e]
theorem t7:∀{b} {c} {x},x∉b.map (·.1)->gn (a3g b c) (nk x)=none
 | [],_,_,_=>rfl
 |_::_,[],_,_=>rfl
 |p::b,a::c,x,h=>by
  have d:=λz=>h (cH.mpr #[p,dy ..,w6 z]);exact(v5 d).trans (t7 λz=>h (eM _ z))
theorem Cu:∀{c} {d:As} {j:Nat} {p} {a:Ad},(c.map (·.1)).Nodup->c[j]?=some p->d[j]?=some a->gn (a3g c d) (nk p.1)=some (.ref a)
 |q::c,b::d,0,p,a,_,e,f=>by
  cases e;cases f;exact yS rfl
 |q::c,b::d,j+1,p,a,nd,e,f=>by
  obtain⟨h,i⟩:=hX.mp nd;have g:c[j]?=some p:=by simpa using e
  have n:=λz=>h (cH.mpr #[p,cF g,(w6 z).symm]);exact(v5 n).trans (Cu i g f)
 | [],_,_,_,_,_,e,_=>by simp at e
 |_::_,[],_,_,_,_,_,f=>by simp at f
structure WordsAt(H:Hp)(D:Ad)(ws:TW)(as:As):Prop where
 len:as.length=ws.length
 dict:H D=some (.dT (a3g ws as))
 list:∀(j:Nat) (a:Ad) (p:bS×bS),as[j]?=some a->ws[j]?=some p->H a=some (.lst (p.2.map nv))
theorem WordsAt.same(W:WordsAt H D b c)(g:Same H H'):WordsAt H' D b c:=#[W.len,g _ _ W.dict,λj a p d e=>g _ _ (W.list j a p d e)]
theorem WordsAt.word(W:WordsAt H D b c)(nd:(b.map (·.1)).Nodup)(f:p∈b):∃a,gn (a3g b c) (nk p.1)=some (.ref a)/\H a=some (.lst (p.2.map nv)):=by
 obtain⟨j,e⟩:=fF.mp f;obtain⟨g,_⟩:=cf.mp e;obtain⟨a,d⟩:∃a,c[j]?=some a:=#[_,b7 (by rw[W.len];exact g)];exact#[a,Cu nd e d,W.list j a p d e]
theorem WordsAt.put(W:WordsAt H D c e)(f:H l=some (.lst (p.2.map nv))):WordsAt (bT H D (.dT (a3g c e++[(nk p.1,.ref l)]))) D (c++[p]) (e++[l]):=by
 have g:∀{a} {k},H a=some (.lst k)->a≠D:=λh=>nE h W.dict;refine#[by simp[W.len],by rw[bY,Dd W.len],λj a q d b=>?_];by_cases i:j<c.length
 .rw[d7 (by rw[W.len];exact i)]at d;rw[d7 i]at b;have z:=W.list j a q d b;rw[bX (g z)];exact z
 .rw[eC (by rw[W.len];lia)]at d;rw[eC ()]at b;have z:j-c.length=0:=by
   have:=(cf.mp b).1;simp at this;lia
  rw[W.len,z]at d;rw[z]at b;cases d;cases b;rw[bX (g f)];exact f
noncomputable def noT(H:Hp):Hp:=λa=>match H a with
 |some (.tbl _)=>none
 |o=>o
theorem qa(h:H a=some o)(n:∀b,o≠ .tbl b):noT H a=some o:=by
 unfold noT;rw[h];cases o<;>first|rfl|exact wC zZ (n _)
noncomputable def M6:HO->Bool
 |.tbl _=>true
 |_=>false
theorem nU(h:H a=some o)(d:M6 o=false:=by rfl):noT H a=some o:=qa h λb e=>by subst e;cases d
theorem uz(h:noT H a=some o):H a=some o/\∀b,o≠ .tbl b:=by
 unfold noT at h;split at h
 .cases h
 .rename_i n
  exact#[h,λb z=>n b (by rw[h,z])]
theorem IA(h:H a=none):noT H a=none:=by
 unfold noT;rw[h]
def Keeps(H a:Hp):Prop:=Same (noT H) a
theorem Same.keeps(g:Same H H'):Keeps H H':=λa o h=>g a o (uz h).1
theorem Keeps.refl(H):Keeps H H:=(Same.refl H).keeps
theorem Keeps.trans(a:Keeps H d)(b:Keeps d e):Keeps H e:=λc o h=>b c o (qa (a c o h) (uz h).2)
def TabOk(a:Str)(b:Pos)(H:Hp)(T:Ad):Prop:=H T=some (.tbl #v[])\/∃c,H T=some (.tbl (jE b c))/\H c=some (jy c a)
theorem TabOk.same(t:TabOk a b H T)(g:Same H H'):TabOk a b H' T:=by
 rcases t with t|⟨c,d,e⟩
 .exact .inl (g _ _ t)
 .exact .inr #[c,g _ _ d,g _ _ e]
def DefAt(K:R6)(x:Str)(st:Stmt)(f:Ad)(b:Fd)(g e:Vl):Prop:=
 PySem.W.codeIn K e x=true/\(∃kV a pm h i,b=PySem.W.fnOf x x (iy st) (fc st) (cu st) g kV a pm h e i)/\∃c d sl,K.lookup f=some #[c,d,.func b,sl]
section
variable{K:R6}{st:Stmt}
def OK(P:Pg)(w:World)(K:R6)(mg:SV)(a:Heap)(x:Str)(st:Stmt)(f:Ad)(m:Vl)(N:Ss)(k:Nat)(g:Sp):Prop:=
 ∀A b s H c Q E,g c H Q E->Room k (A.deeper (envOfC x (cu st) s.heap.objs.size f m))->∃t:TS,t #[λ_ d=>Q .non d,Q,λ_ _=>False,λ_ _=>False] (start N c) H/\PSs (kh cG P w K mg a N x (cu st) f m A b s H E).nox (fc st) t
theorem DefAt.fnOk(d:DefAt K x st f l n m)(p:FnScope N i (cu st))(len:∀j H Q E,g j H Q E->j.length=i.length)(b:OK P w K mg a x st f m N k g):FnOk P w K mg a cG (k+1) f l i g:=by
 obtain⟨c,⟨kV,r,pm,v,y,rfl⟩,_,_,_,lk⟩:=d;refine AS lk c p len λA e s H j Q E u o=>?_;obtain⟨t,q,h⟩:=b A e s H j Q E o u;exact#[t,h.nox,q]
def Co(P:Pg)(w:World)(K:R6)(mg:SV)(a:Heap)(x:Str)(k:Nat)(i:Ss)(g:Sp)(b:List V):Prop:=
 ∃f l c,FnOk P w K mg a cG k f l i g/\mg x=some (.ref f)/\PySem.W.keepIn K (.ref f)=true/\Binds K l i c/\Vals b c
theorem GJ{c:Ad}{p d:Pos}(q:Co X.prog X.w X.K X.mg X.base x k i g a)(r:Room k X.A)(s:Gl X x)(u:X.N[j]?=some y)(v:X.env.cells.lookup y=some c)(h:X.env.scope.names.lookup y=some .cell) (m:X.fn y=true) (w:PA X (e::b) t) (n:(x==("__debug__":Str))=false:=by decide) (z:starEach (e::b) X.env=(false,eval e X.env)::starEach b X.env:=by rfl)
  (o:(backTo d (starEach b X.env)).any (·.1)=false:=by rfl):PE X (.Call (.Name x p) (e::b) [] d) (IS g a j c t):=by
 obtain⟨f,l,E,F,A,B,C,D⟩:=q;exact MA F r s A B C D u v h m w n z o
end
theorem z7:mN (CX1 P w) X E0:=λ_ _ _ _ _ _ _ ⟨_,_,_,_,_,_,_,_,_,_,h⟩=>h.elim
def B4(P:Pg)(w:World)(K:R6)(mg:SV)(base:Heap)(x:Str)(k:Nat)(a:Ss)(c:Sp):Prop:=
 ∃f b,FnOk P w K mg base (CX1 P w) k f b a c/\mg x=some (.ref f)/\PySem.W.keepIn K (.ref f)=true/\Binds K b a []
theorem A5{p d:Pos}(c:B4 X.prog X.w X.K X.mg X.base x k h g)(i:Room k X.A)(j:mN (CX1 X.prog X.w) X E)(l:Gl X x)(n:PA X (e::a) t)(o:(x==("__debug__":Str))=false:=by decide) (q:starEach (e::a) X.env=(false,eval e X.env)::starEach a X.env:=by rfl) (r:(backTo d (starEach a X.env)).any (·.1)=false:=by rfl):
  PE X (.Call (.Name x p) (e::a) [] d) (qd g [] E t):=by
 obtain⟨f,u,F,m,s,b⟩:=c;exact C0 F i l m s b .nil j n o q r
def CalleeDX(P:Pg)(w:World)(K:R6)(mg:SV)(base:Heap)(x:Str)(k:Nat)(b:Ss)(e:Sp)(a:List V):Prop:=
 ∃f c d,FnOk P w K mg base (CX1 P w) k f c b e/\mg x=some (.ref f)/\PySem.W.keepIn K (.ref f)=true/\Binds K c b d/\Vals a d
theorem At{p g:Pos}(c:CalleeDX X.prog X.w X.K X.mg X.base x k i h a)(j:Room k X.A)(l:mN (CX1 X.prog X.w) X E)(n:Gl X x)(o:PA X (e::d) t)(q:(x==("__debug__":Str))=false:=by decide) (r:starEach (e::d) X.env=(false,eval e X.env)::starEach d X.env:=by rfl) (s:(backTo g (starEach d X.env)).any (·.1)=false:=by rfl):
  PE X (.Call (.Name x p) (e::d) [] g) (qd h a E t):=by
 obtain⟨f,w,y,F,m,u,b,v⟩:=c;exact C0 F j n m u b v l o q r s
section
variable{X:Cx}
theorem O4{p d:Pos}(c:CalleeDX X.prog X.w X.K X.mg X.base x k A B b)(J:Room k X.A)(L:Gl X x)(M:PA X.nox (e::j) t) (n:(x==("__debug__":Str))=false:=by decide) (N:starEach (e::j) X.env=(false,eval e X.env)::starEach j X.env:=by rfl)
  (o:(backTo d (starEach j X.env)).any (·.1)=false:=by rfl):Jt X (.Call (.Name x p) (e::j) [] d) (λE=>qd B b E t):=by
 obtain⟨f,fd,w,F,O,T,U,Y⟩:=c;intro g s a H Q E Ex I h hx;refine n7 (nK I L O ?_ n);refine pY I.ok.mod.kin T (eZ (M d g s a H _ (I.wish _) h) (λl y ⟨C,D,i,r,q⟩=>?_) λ_ _ z=>wE z) N o;have i:=i.unwish;refine#[i.kIn,?_];have G:=r.append Y;have hl:(l++w).length=A.length:=by rw[<-G.length];exact F.len _ _ _ _ q
 refine nR (lW (F.run X.A X.stack y D #[l,[]] (l++w) (C++b) Q E J i.env0 (U y l i.kIn hl) G q) λr s' m=>?_);cases r with
 |error v=>exact hx D y v s' i m
 |ok fl=>
  cases fl with
  |ret u=>exact i.after m
  |next=>exact wE m
  |brk=>exact wE m
  |cont=>exact wE m
def LZ(h:Sp)(e:List V)(E:XK)(j:Nat)(c:Ad)(t:TA):TE:=λa H Q=>t a H λi g=>∃m,a[j]?=some (some (.ref m))/\∀f,g c=none->h (i++e) (bT g c (dU c m f)) (λr b=>b c=some (dU c m f)/\Q r (drop b c)) (λv d b=>b c=some (dU c m f)/\E v d (drop b c))
theorem CX1.afterC(l:H c=none)(y:s.heap.get? c=some j)(h:CX1 X.prog X.w X.stack (bT H c (dU c m j)) s (λv d k=>k c=some (dU c m j)/\E v d (drop k c)) v x):CX1 X.prog X.w X.stack H s E v x:=by
 obtain⟨e,C,d,k,rfl,os,f,un,g,⟨B,D,G,I,T,J,L,M,a,p,t,N,O,Q,U,Y,r⟩,A,q⟩:=h;obtain⟨⟨i,_⟩,_,_⟩:=g c _ A;refine#[e,C,d,drop k c,zZ,os,f,#[λb o e n u a=>?_,λb o e n u a=>?_,λb o e n a=>?_,un.there,λb xs e=>?_,λb o w e=>?_,λb ps e=>?_],g.drop A,#[B,pz D,G,I,T,J,L,M,a,p,t,N,O,Q,U,pz Y,r],q]
 .by_cases z:b=c
  .subst z;rw[y]at e;cases e;exact i
  .exact un.keep b o e (by rw[bX z];exact n) u a
 .by_cases z:b=c
  .subst z;rw[y]at e;cases e;exact#[j.slots,i]
  .exact un.slot b o e (by rw[bX z];exact n) u a
 .by_cases z:b=c
  .rw[z];exact vu
  .exact pz (un.free b o e (by rw[bX z];exact n) a)
 .have z:b≠c:=λz=>by rw[z,l]at e;cases e
  rw[dX z];exact un.tups b xs (by rw[bX z];exact e)
 .have z:b≠c:=λz=>by rw[z,l]at e;cases e
  rw[dX z];exact un.frzs b o w (by rw[bX z];exact e)
 .have z:b≠c:=λz=>by rw[z,l]at e;cases e
  rw[dX z];exact un.tbls b ps (by rw[bX z];exact e)
theorem Pq{c:Ad}{p A:Pos}(cl:CalleeDX X.prog X.w X.K X.mg X.base x k ps sp l)(hr:Room k X.A)(hx:mN (CX1 X.prog X.w) X E)(hg:Gl X x)(hN:X.N[j]?=some y) (N:X.env.cells.lookup y=some c) (D:X.env.scope.names.lookup y=some .cell) (O:X.fn y=true) (ha:PA X (e::C) t)(T:(x==("__debug__":Str))=false:=by decide) (he:starEach (e::C) X.env=(false,eval e X.env)::starEach C X.env:=by rfl) (U:(backTo A (starEach C X.env)).any (·.1)=false:=by rfl):
  PE X (.Call (.Name x p) (e::C) [] A) (LZ sp l E j c t):=by
 obtain⟨f,fd,Y,F,hm,hk,B,hd⟩:=cl;intro g s a H Q I h;refine n7 (nK I hg hm ?_ T);refine pY I.ok.mod.kin hk (cj (ha A g s a H _ I h) λG J ⟨vs,H1,d,r,m,hj,q⟩=>#[d.kIn,?_]) he U;have n:=d.freeC y c N;obtain⟨mm,hn,look⟩:=d.loc;obtain⟨u,ru,lk⟩:=look j y (.ref m) hN hj (.inr (.inl D));cases ru;obtain⟨oc,ec,dc⟩:J.heap.IsCell c (some (.ref m)):=by
  rcases lk with⟨z,_⟩|⟨_,c',L,ic⟩
  .have z':X.env.scope.names.lookup y=some .local:=z;rw[D]at z';cases z'
  .rw[N]at L;cases L;exact ic
 have q1:=q oc n;have r2:=r.append hd;have hl:(G++Y).length=ps.length:=by rw[<-r2.length];exact F.len _ _ _ _ q1
 have e1:Env0 X.prog X.w X.K X.mg X.base X.A X.stack J (bT H1 c (dU c m oc)):=by
  have v:=d.env0;have i:=d.ok.cab y c O N;have nb:∀b o,X.base.get? b=some o->b≠c:=λb o e z=>by
   subst z;exact wC (eB (cK e) (dh d.ok.bsz i)) (iG _)
  have nf:∀b∈cV X.stack,b≠c:=λb B z=>by
   subst z
   rcases cP.mp (d.stkSub b B)with w|w
   .exact d.cne y b N w
   .obtain⟨_,o,ho,_⟩:=d.ok.funs.mem w;exact wC (eB (cK ho) i) (iG _)
  exact#[v.frames,v.mod,λb o e=>#[(v.bs b o e).1,by rw[bX (nb b o e)];exact(v.bs b o e).2],v.bsz,v.funs,λb B=>by rw[bX (nf b B)];exact v.frf b B,v.hok.back n (Cv ec dc),v.bare]
 refine nR (lW (F.run X.A X.stack J _ #[G,[]] (G++Y) (vs++l) _ _ hr e1 (B J G d.kIn hl) r2 q1) λr s' M=>?_);cases r with
 |error e=>exact hx g a H1 J e s' d (CX1.afterC n ec M)
 |ok fl=>
  cases fl with
  |ret u=>exact d.afterC n ec M
  |next=>exact wE M
  |brk=>exact wE M
  |cont=>exact wE M
end
section
variable{K:R6}{st:Stmt}
theorem DefAt.fnOkX(d:DefAt K x st f i j c)(p:FnScope N e (cu st))(len:∀m H Q E,g m H Q E->m.length=e.length)(b:∀A l s H m Q E,g m H Q E->Room k (A.deeper (envOfC x (cu st) s.heap.objs.size f c))->∃t,t #[λ_ r=>Q .non r,Q,λ_ _=>False,λ_ _=>False] (start N m) H/\PSs (kh (CX1 P w) P w K mg a N x (cu st) f c A l s H E) (fc st) t):FnOk P w K mg a (CX1 P w) (k+1) f i e g:=by
 obtain⟨n,⟨kV,u,pm,y,z,rfl⟩,_,_,_,lk⟩:=d;refine AS lk n p len λA l s H m Q E v o=>?_;obtain⟨t,q,h⟩:=b A l s H m Q E o v;exact#[t,h,q]
end
theorem FnOk.calm{K:R6}(F:FnOk P w K mg a (CX1 P w) k f g i j)(h:∀c H Q E,d c H Q E->j c H Q E0):FnOk P w K mg a cG k f g i d:=
 #[λc H Q E q=>F.len c H Q E0 (h _ _ _ _ q),λA b s H args m c Q E n o p t u=>lW (F.run A b s H args m c Q E0 n o p t (h _ _ _ _ u)) λr x l=>by
  cases r with
  |error e=>
   obtain⟨_,_,_,_,_,_,_,_,_,_,z⟩:=l;exact z.elim
  |ok v=>cases v<;>exact l]
theorem CalleeDX.calm{K:R6}(c:CalleeDX P w K mg base x k j l i)(h:∀m H Q E,g m H Q E->l m H Q E0):Co P w K mg base x k j g i:=
 let⟨f,n,o,F,a,b,d,e⟩:=c;#[f,n,o,F.calm h,a,b,d,e]
theorem d0b{l:PySem.W.OpenLaw}{q:Pg}{i:Ss}{Q:SV->Heap->Prop}{K:Params->R6}{sp:World->Sp}{tabs:As}(T:l.most=some n) (A:n<=sizeLine) (B:d.params.defaults=[]) (U:Room k callerA) (hY:∀w h,z w h->(K w.params).In h)(hT:∀w,∀t∈tabs,(K w.params).lookup t=none/\((∃y c,PySem.W.tabIn (K w.params) y=some (c,t)/\∃e,(recsOf q).find? (λr=>r.name==y)=some e)\/((∃c,PySem.W.codeHdIn (K w.params) c t=true)/\∀h,z w h->h.get? t=some (PySem.W.tabObj #v[]))))(F:∀w (mg:SV) (fa:Ad) h,(K w.params).In h->h.Ns mainGlobals mg->mg d.name=some (.ref fa)->
   ∃D:Fd,(∀(s:Sh) (u:Vl),BindsTo s D #[[u],[]] [(x,u)])/\∀b,(K w.params).In b->b.Ns mainGlobals mg->oA mg b->FnOk l.prog w (K w.params) mg b cG k fa D [x] (sp w))(E:∀w H a (p:Zs),p.length<=n->(∀t∈tabs,H t=some (.tbl #v[]))->SqL (K w.params) H a (p.map V.int)->sp w [.ref a] H (λv _=>v=.bl true) λ_ _ _=>False):
  PySem.W.WalkO q i Q z l.row.toRowW d [] (λf L=>PySem.call f L):=by
 refine Att.attach_call T B λw M N mg mb fa o pm cd aa a L p G Y ho hd ab hmg m j g hg=>?_;have KX:=hY w _ Y;obtain⟨D,hb,hF⟩:=F w mg fa _ KX G.T.g hmg;refine MU KX G.T.g G.T.b G.T.builtins G.T.nolimit hg G.T.bmain m j (dh g A) U (λt ht=>?_) hF hb (λH hH hS=>E w H a p g hH hS);obtain⟨O,⟨y,c,I,e,J⟩|⟨⟨c,I⟩,J⟩⟩:=hT w t ht
 .obtain⟨C,eP⟩:=PySem.W.tab_of G.T KX J I;exact#[O,c,C.tab eP]
 .exact#[O,c,(PySem.W.codeHd_of_K KX I).tab (J _ Y)]
def Hy(d e:TE):TE:=λc H Q=>∀p,H p=none->d c (bT H p (.dT [])) λx f=>e c f λy a=>a p=some (.dT [])/\∃b k,x=.ref b/\a b=some (.tup (k.map kV))/\Q (.ref p) (bT a p (.dT [(k,y)]))
theorem EH(hu:X.A.units+1<cLine)(D:PE X k A)(E:PE X v B):PE X (.Dict [some k] [v] pos) (Hy A B):=by
 intro J s L H Q I q;have M:=I.hok.fresh (cg s.heap.objs.size);have N:=I.laid (a:=s.heap.objs.size) (o:= .dT []) (h':=s.heap.push {cls:= .type "dict",data:= .dict #v[]}) (t':=s.toks) (λ_ _ q=>c7 _ q) (cg _) (GI s.heap I.big);have pairs:=NI (X:=X) (pos:=pos) D E KE;have O:=q s.heap.objs.size M;rw[arm_eval_Dict];refine bU (uk ?_);have d:(evalEachOpt [some k] X.env).zip ((evalEach [v] X.env).map λv=>do let x <-v;standAt pos;pure x)=(pairTrees [some k] [v] X.env pos).map λp=>(some p.1,p.2):=rfl;rw[d,dictDisplay_pairs _ (by intro z;cases z) (by show 1<17;decide)];refine bU ?_;unfold subDict;refine bU (A1 (bU (jo ?_)));rw[wB (by show 1<=15;decide)]
 let G:List (V×V)->Hp->Prop:=λf i=>match f with| [(x,y)]=>i s.heap.objs.size=some (.dT [])/\∃b k,x=.ref b/\i b=some (.tup (k.map kV))/\Q (.ref s.heap.objs.size) (bT i s.heap.objs.size (.dT [(k,y)]))|_=>False
 refine bU (cj (pairs J _ L _ G N O) λT s2 ⟨f,i,l,m,g⟩=>?_);obtain⟨x,y,rfl⟩:∃x y,f=[(x,y)]:=by
  cases f with
  |nil=>exact wE g
  |cons p f=>
   cases f with
   |nil=>exact#[p.1,p.2,zZ]
   |cons _ _=>exact wE g
 obtain⟨e,b,c,rfl,n,U⟩:=g;obtain⟨u,r,rfl,Y,rr⟩:∃u r,T=[(u,r)]/\RelV (.ref b) u/\RelV y r:=by
  cases m with
  | @cons _ q _ qs h t=>
   cases t;exact#[q.1,q.2,zZ,h.1,h.2]
 cases Y;obtain⟨z,hd,xs,kt,dd⟩:=DQ l.hok e;cases kt;refine jo ?_;simp only[List.forIn_cons,List.forIn_nil];refine bU (bU (bU (wpAny_dictSet_heap (show X.A.units<cLine by lia) (u4 l.hok n) dd (λh' w hs=>?_) (by exact iE _))));refine b9 (b9 (b9 (b9 ?_)));obtain⟨o,es,ep,C,h2,h3,h4,_,h5⟩:=w;have j:bT i s.heap.objs.size (.dT [(c,y)]) b=some (.tup (c.map kV)):=by
  rw[bX (nE n e)];exact n
 have ok:ObjOk X.prog X.w (bT i s.heap.objs.size (.dT [(c,y)])) h' s.heap.objs.size (.dT [(c,y)]):=#[by show 1<=sizeLine;decide,hd,_,.cons #[zZ,j,rr] .nil,o,es,ep,C,h2,h3,h4,h5];exact b9 #[.ref s.heap.objs.size,_,FG l (by rw[e];exact True.intro) hs #[o,C] ok,rfl,U]
inductive dE(G:Hp->Prop)(U:LN)(L:Nat)(g:bS->Nat->List Nat)(b:List V)(H:Hp)(Q:VK)(a:XK):Prop|mk:∀(t:Ad) (x:bS) (l:Nat),b=[.ref t,nv l]->G H->H t=some (.tup (x.map nv))->x∈U->l<L->yi H ((g x l).map nv) Q->dE G U L g b H Q a
def ThAt(H:Hp)(l:Ad)(b:TW):Prop:=∃a:As,H l=some (.lst (a.map .ref))/\a.length=b.length/\∀(j:Nat) (t:Ad) (p:bS×bS),a[j]?=some t->b[j]?=some p->H t=some (.tup (p.1.map nv))
theorem ThAt.same(h:ThAt H l a)(g:Same H H'):ThAt H' l a:=by
 obtain⟨b,c,d,e⟩:=h;exact#[b,g _ _ c,d,λj t p f i=>g _ _ (e j t p f i)]
theorem ThAt.more{d:As}{p:bS×bS}(i:H l=some (.lst (d.map .ref)))(f:d.length=c.length)(k:∀(j:Nat) (t:Ad) p,d[j]?=some t->c[j]?=some p->H t=some (.tup (p.1.map nv)))(ht:H t=some (.tup (p.1.map nv))):
  ThAt (bT H l (.lst (d.map .ref++[.ref t]))) l (c++[p]):=by
 have g:∀{a} {m},H a=some (.tup m)->a≠l:=λh=>nE h i;refine#[d++[t],by rw[bY,dH];rfl,by simp[f],λj a q e b=>?_];by_cases n:j<c.length
 .rw[d7 ()]at e;rw[d7 n]at b;have z:=k j a q e b;rw[bX (g z)];exact z
 .rw[eC ()]at e;rw[eC ()]at b;have z:j-c.length=0:=by
   have:=(cf.mp b).1;simp at this;lia
  rw[f,z]at e;rw[z]at b;cases e;cases b;rw[bX (g ht)];exact ht
structure Srch(H0 H:Hp)(D wa fa:Ad)(ts:As)(ws wv fo:TW)(as:As):Prop where
 g:Same H0 H
 nD:H0 D=none
 nF:H0 fa=none
 W:WordsAt H D ws as
 wl:H wa=some (.lst (ts.map .ref))
 wt:∀(j:Nat) (t:Ad) (p:bS×bS),ts[j]?=some t->wv[j]?=some p->H t=some (.tup (p.1.map nv))
 foll:ThAt H fa fo
 wf:wa≠fa
 fas:fa∉as
 new:∀b∈as,H0 b=none
theorem Srch.same{g:As}(S:Srch a H D b fa c d e f g)(k:Same H H'):Srch a H' D b fa c d e f g:=
 #[S.g.trans k,S.nD,S.nF,S.W.same k,k _ _ S.wl,λj t p h i=>k _ _ (S.wt j t p h i),S.foll.same k,S.wf,S.fas,S.new]
theorem Srch.more{f w g:TW}{i d:As}(S:Srch k H D n fa v f w g i)(A:H l=some (.lst (p.2.map nv)))(x:l≠fa)(B:k l=none)(ht:H t=some (.tup (p.1.map nv)))(o:H fa=some (.lst (d.map .ref))) (C:d.length=g.length) (E:∀(j:Nat) (t:Ad) p,d[j]?=some t->g[j]?=some p->H t=some (.tup (p.1.map nv))):
  Srch k (bT (bT H D (.dT (a3g f i++[(nk p.1,.ref l)]))) fa (.lst (d.map .ref++[.ref t]))) D n fa v (f++[p]) w (g++[p]) (i++[l]):=by
 have y:=nE o S.W.dict;have r:∀{a} {s},H a=some (.tup s)->a≠D:=λh=>nE h S.W.dict;have G:=nE S.wl S.W.dict;have I:∀{a} {s},H a=some (.tup s)->a≠fa:=λh=>nE h o;have u:=S.W.put A;have J:(bT H D (.dT (a3g f i++[(nk p.1,.ref l)]))) fa=some (.lst (d.map .ref)):=by rw[bX y];exact o
 refine#[iA (iA S.g S.nD) S.nF,S.nD,S.nF,#[u.len,?_,λj a q c e=>?_],?_,λj a q c e=>?_,?_,S.wf,?_,λb L=>(cW.mp L).elim (S.new b) λm=>by rw[cJ.mp m];exact B]
 .rw[bX (dG y)];exact u.dict
 .have M:a≠fa:=λz=>by
   subst z
   rcases cW.mp (cF c)with m|m
   .exact S.fas m
   .exact x (cJ.mp m).symm
  rw[bX M];exact u.list j a q c e
 .rw[bX S.wf,bX G];exact S.wl
 .have z:=S.wt j a q c e;rw[bX (I z),bX (r z)];exact z
 .refine ThAt.more J C (λj a q c e=>?_) ?_
  .have z:=E j a q c e;rw[bX (r z)];exact z
  .rw[bX (r ht)];exact ht
 .intro m
  rcases cW.mp m with m|m
  .exact S.fas m
  .exact x (cJ.mp m).symm
abbrev sw(G:TW->Prop)(b:Sp)(c:V)(d:XK)(g:bS->Nat->List Nat)(L:Nat)(e:bS)(f:Hp):Prop:=∀(H:Hp) (D:Ad) (a:TW) (h:As) (Q:VK),Same f H->WordsAt H D a h->(a.map (·.1)).Nodup->(∀p∈a,(∀l∈p.2,l<L)/\cN g e p.2=p.1)->(G a->Q .non H)->b [.ref D,c] H Q d
section
variable{a st D r fa:Ad}{U:LN}
abbrev Gv(X:Cx)(sR:Sp)(EE:XK):TS:=nW (nh (Jn X 2 (ik (cX 7) (ik (cX 8) f8))) (ge 9)) (yo (tB (Gs (cX 9) (cX 4)))
 (nW (Gj (cX 4) (cX 9) (sv (nO X.K) (Ic (cX 4) (cX 7)) (w9 (ik (cX 8) f8)))) (nW (zH (qd sR [] EE (ik (cX 4) (ik (cX 3) f8)))) (zH (A2 X.K "list" iU (cX 6) (ik (cX 9) f8))))) Ij)
theorem MO(hR:sw G sR mo EE g L o n)(hr:Room w X.A)(aa:n st=some (gN st s))(h0:o∈U)(hU:∀x∈U,∀l,l<L->g x l∈U)(few:∀b:TW,(b.map (·.1)).Nodup->(∀p∈b,p.1∈U)->G b->b.length<=4000)(hF:FnOk X.prog X.w X.K X.mg X.base cG w st s u (dE (Same n) U L g)) (hB:Binds X.K s u []) (gw:G b) (B:Bfs g L o d b T N i j) (ht:T[i]?=some t) (hj:j<L) (hd:d+1<=b.length) (S:Srch n H D r fa ts b T N Y) (ab:H E=some (.tup (t.1.map nv)))(next:∀C J af H' v,G C->Bfs g L o d C T J i (j+1)->Srch n H' D r fa ts C T J af->C.length+N.length=b.length+J.length->H' E=some (.tup (t.1.map nv))->En.nx [some (.ref a),some (nv L),some (.ref st),some mo,some (.ref D),some (.ref r),some (.ref fa),some (.ref E),some (nv j),some v] H'):
  Gv X sR EE En [some (.ref a),some (nv L),some (.ref st),some mo,some (.ref D),some (.ref r),some (.ref fa),some (.ref E),some (nv j),o9] H:=by
 have tw:=(B.wave t (cF ht)).1;have tU:t.1∈U:=by
  obtain⟨r1,r2⟩:=B.run t tw;rw[<-r2];exact pR h0 hU t.2 r1
 have aj:=few b B.keys (λp y=>by
  obtain⟨r1,r2⟩:=B.run p y;rw[<-r2];exact pR h0 hU p.2 r1) gw
 refine#[_,zZ,st,s,zZ,S.g _ _ aa,_,zZ,_,zZ,S.g _ _ aa,w,u,_,hF,hr,hB,E,t.1,j,zZ,S.g,ab,tU,hj,λfn H1 g1 O=>?_];have I:=S.same g1;have m:=g1 _ _ ab;refine#[_,zZ,_,zZ,D,_,zZ,DGet.t I.W.dict (by rw[g7];exact O),_,zZ,?_];by_cases Q:g t.1 j∈b.map (·.1)
 .obtain⟨p,y,e⟩:=cH.mp Q;obtain⟨c,v1,_⟩:=I.W.word B.keys y;rw[<-e,v1];rw[wA (by simp)];exact next b N Y H1 _ gw (B.old ht Q) I zZ m
 .rw[t7 Q];refine fy ?_;obtain⟨tw,tl⟩:=B.wave t (cF ht);obtain⟨c,v1,v2⟩:=I.W.word B.keys tw;have dg:=v1▸DGet.t I.W.dict (by rw[g7];exact m);refine#[_,zZ,_,zZ,D,_,zZ,dg,_,zZ,by show 1<=sizeLine;decide,λp y=>?_];have k2:=cn y (.lst [nv j]);refine#[c,p,_,_,zZ,zZ,R3 (k2 _ _ v2),R3 bY,by rw[bW,tl,db];show d+1<=_;lia,λl hl=>?_];have k3:=k2.trans (cn hl (.lst (t.2.map nv++[nv j])));have A:=I.same k3;have e3:=k3 _ _ O;have M:bT (bT H1 p (.lst [nv j])) l (.lst (t.2.map nv++[nv j])) l=some (.lst ((t.2++[j]).map nv)):=by rw[bY,dH];rfl
  have k:=k3 _ _ m;obtain⟨tf,f1,f2,f3⟩:=A.foll;have lf:l≠fa:=λz=>by
   obtain⟨_,q1,_⟩:=I.foll;have q2:=k2 _ _ q1;rw[<-z,hl]at q2;cases q2
  generalize bT (bT H1 p (.lst [nv j])) l (.lst (t.2.map nv++[nv j]))=H3 at A e3 M k f1 f3|-;refine#[_,zZ,_,zZ,D,_,zZ,DPut.t A.W.dict (by rw[g7];exact e3) (by rw[AK A.W.len,db];lia),?_];rw[yy _ (t7 Q)];have fD:fa≠D:=nE f1 A.W.dict;have ag:E≠D:=nE k A.W.dict;have ah:E≠fa:=nE k f1;have ae:(bT H3 D (.dT (a3g b Y++[(nk (g t.1 j),.ref l)]))) fa=some (.lst (tf.map .ref)):=by rw[bX fD];exact f1
  have fl:tf.length<=4000:=by
   have z:(N.map (·.1)).length<=b.length:=by
    rw[<-bW (f:=(·.1)) (as:=b)];refine qv ?_ λx hx=>?_
    .refine(vb.mpr (B.fup.imp_of_mem λ{p q} y hq h z=>?_));have r1:=(B.run p (B.foll p y).1).2;have r2:=(B.run q (B.foll q hq).1).2;obtain⟨i1,O⟩:=fF.mp (B.foll p y).1;obtain⟨i2,e2⟩:=fF.mp (B.foll q hq).1;have ii:i1=i2:=(jj (by rw[bW];exact(cf.mp O).1) B.keys).mp (by rw[cz,cz,O,e2];exact de some z);subst ii;rw[O]at e2;cases e2;exact Ca h
    .obtain⟨p,y,rfl⟩:=cH.mp hx;exact cH.mpr #[p,(B.foll p y).1,zZ]
   rw[bW]at z;lia
  have Bn:=B.new ht hj Q;refine#[_,zZ,_,zZ,hR _ D (b++[(g t.1 j,t.2++[j])]) (Y++[l]) _ (iA A.g A.nD) (A.W.put (l:=l) (p:=(g t.1 j,t.2++[j])) M) Bn.keys Bn.run λai=>?_];refine#[_,zZ,.inl #[zZ,_,R3 ae],_,zZ,fa,_,_,zZ,zZ,ae,by rw[bW,db];lia,?_];exact next (b++[(g t.1 j,t.2++[j])]) (N++[(g t.1 j,t.2++[j])]) (Y++[l]) _ _ ai (B.new ht hj Q) (A.more (p:=(g t.1 j,t.2++[j])) M lf ((I.g.trans k2).free hl) e3 f1 f2 f3) (by simp;lia) (by rw[bX ah,bX ag];exact k)
abbrev Ig(X:Cx)(sR:Sp)(EE:XK):TS:=ub (FC X.K (cX 5)) (ge 7) (ub (HD (ik (cX 1) f8)) (ge 8) (Gv X sR EE))
theorem Kp(hR:sw G sR mo EE g L o n)(hr:Room w X.A)(Y:n st=some (gN st s))(h0:o∈U)(hU:∀x∈U,∀l,l<L->g x l∈U)(few:∀b:TW,(b.map (·.1)).Nodup->(∀p∈b,p.1∈U)->G b->b.length<=4000)(aa:L<=4000)(hF:FnOk X.prog X.w X.K X.mg X.base cG w st s u (dE (Same n) U L g)) (hB:Binds X.K s u []) (gw:G c) (B:Bfs g L o d c f [] 0 0) (hd:d+1<=c.length) (S:Srch n H D r fa A c f [] E) (lt:A.length=f.length)(next:∀b e h q C k m,G b->Bfs g L o d b f e f.length 0->Srch n q D r fa A b f e h->b.length=c.length+e.length->En.nx [some (.ref a),some (nv L),some (.ref st),some mo,some (.ref D),some (.ref r),some (.ref fa),C,k,m] q):
  Ig X sR EE En [some (.ref a),some (nv L),some (.ref st),some mo,some (.ref D),some (.ref r),some (.ref fa),C,k,m] H:=by
 let Pv:Nat->L2.St->Hp->Prop:=λi y q=>∃b e h C k m,G b/\Bfs g L o d b f e i 0/\Srch n q D r fa A b f e h/\b.length=c.length+e.length/\
  y=[some (.ref a),some (nv L),some (.ref st),some mo,some (.ref D),some (.ref r),some (.ref fa),C,k,m]
 refine#[_,zZ,r,zZ,#[_,R3 S.wl],qr (xs:=A.map .ref) Pv #[c,[],E,C,k,m,gw,B,S,by simp,zZ] (λi y q _ p=>?_) (λi x y q hx p=>?_) (λy q p=>?_)]
 .obtain⟨_,_,_,_,_,_,_,_,I,_⟩:=p;exact R3 I.wl
 .obtain⟨b,e,h,p7,p8,p9,g1,Q,I,l1,rfl⟩:=p;rw[cz]at hx;obtain⟨th,J,rfl⟩:=dW.mp hx;obtain⟨hi,_⟩:=cf.mp J;obtain⟨t,ht⟩:∃t,f[i]?=some t:=#[_,b7 ()]
  let Pj:Nat->L2.St->Hp->Prop:=λj y H2=>∃b e h k m,G b/\Bfs g L o d b f e i j/\Srch n H2 D r fa A b f e h/\b.length=c.length+e.length/\
   y=[some (.ref a),some (nv L),some (.ref st),some mo,some (.ref D),some (.ref r),some (.ref fa),some (.ref th),k,m]
  refine#[_,zZ,(L:Int),zZ,(),(),ug Pj #[b,e,h,p8,p9,g1,Q,I,l1,zZ] (λj y H2 hj p=>?_) (λy H2 p=>?_)]
  .obtain⟨M,N,O,q8,q9,g2,B2,T,l2,rfl⟩:=p;have z:(0:Int)+((j:Nat):Int)=((j:Nat):Int):=by lia
   rw[z];refine MO hR hr Y h0 hU few hF hB g2 B2 ht hj () T (T.wt i th t J ht) λw3 f3 a3 H3 v g3 B3 S3 l3 _=>#[w3,f3,a3,_,_,g3,B3,S3,(),zZ]
  .obtain⟨M,N,O,q8,q9,g2,B2,T,l2,rfl⟩:=p;exact#[M,N,O,_,_,_,g2,Bfs.next B2 ht,T,l2,zZ]
 .obtain⟨b,e,h,p7,p8,p9,g1,Q,I,l1,rfl⟩:=p;rw[bW,lt]at Q;exact next b e h q p7 p8 p9 g1 Q I l1
abbrev Rv(X:Cx)(sR:Sp)(EE:XK):TS:=nW (nh (Hy (cX 0) (w9 f8)) (ge 4)) (nW (zH (qd sR [] EE (ik (cX 4) (ik (cX 3) f8)))) (nW (nh (w9 (ik (cX 0) f8)) (ge 5))
 (nW (Jr (λc a Q=>cX 5 c a λx b=>∃k,t8 X.K x b k/\Q k b) (nW (nh (w9 f8) (ge 6)) (nW (Ig X sR EE) (nh (cX 6) (ge 5))))) (sE (cX 4)))))
theorem IM(hR:sw G sR mo EE g L o n)(hr:Room w X.A)(ha:n a=some (.tup (o.map nv)))(aa:n st=some (gN st s))(h0:o∈U)(hU:∀x∈U,∀l,l<L->g x l∈U)(few:∀c:TW,(c.map (·.1)).Nodup->(∀p∈c,p.1∈U)->G c->c.length<=4000)(M:L<=4000)(hF:FnOk X.prog X.w X.K X.mg X.base cG w st s u (dE (Same n) U L g)) (hB:Binds X.K s u []) (q:∀D c k E,Same n E->WordsAt E D c k->(∀b∈D::k,n b=none)->Told g L o c->G c->En.rt (.ref D) E):
  Rv X sR EE En [some (.ref a),some (nv L),some (.ref st),some mo,none,none,none,none,none,none] n:=by
 intro D T;have kD:=cn T (.dT []);refine#[_,zZ,by decide,λl J=>?_];have kl:=cn J (.lst []);refine#[kl _ _ bY,a,nk o,zZ,by rw[g7];exact(kD.trans kl) _ _ ha,?_];have lD:l≠D:=λz=>by
  subst z;rw[bY]at J;cases J
 have W0:WordsAt (bT (bT (bT n D (.dT [])) l (.lst [])) D (.dT [(nk o,.ref l)])) D [(o,[])] [l]:=#[zZ,bY,λj b p v N=>by
  cases j with
  |zero=>
   cases v;cases N;rw[bX lD,bY];rfl
  |succ j=>simp at v]
 have g0:Same n (bT (bT (bT n D (.dT [])) l (.lst [])) D (.dT [(nk o,.ref l)])):=iA (kD.trans kl) T;refine#[_,zZ,_,zZ,hR _ D [(o,[])] [l] _ g0 W0 (by simp) (λp hp=>by rw[List.mem_singleton.mp hp];exact#[λl J=>(nomatch J),zZ]) λY=>?_];refine#[_,zZ,by show 1<=sizeLine;decide,λr hw=>?_];have kw:=cn hw (.lst [.ref a])
 let Wv:Nat->L2.St->Hp->Prop:=λm σ H=>∃(d:Nat) (c A:TW) (k:As) (r:Ad) (i:As) (o6 o7 o8 o9:Option V),G c/\Bfs g L o d c A [] 0 0/\WordsAt H D c k/\H r=some (.lst (i.map .ref))/\(∀(j:Nat) t p,i[j]?=some t->A[j]?=some p->H t=some (.tup (p.1.map nv)))/\i.length=A.length/\Same n H/\(∀b∈k,n b=none)/\
   (A≠[]->d+1<=c.length)/\m=2 * (4000-c.length)+(if A=[]then 0 else 1)/\σ=[some (.ref a),some (nv L),some (.ref st),some mo,some (.ref D),some (.ref r),o6,o7,o8,o9]
 refine#[Wv,#[_,0,[(o,[])],[(o,[])],[l],r,[a],none,none,none,none,Y,Bfs.start,W0.same kw,bY,?_,zZ,g0.trans kw,λb hb=>(by rw[cJ.mp hb];exact kD.free J),λ_=>cg _,zZ,zZ],λm σ H P=>?_]
 .intro j t p v N;cases j with
  |zero=>
   cases v;cases N;exact(g0.trans kw) _ _ ha
  |succ j=>simp at v
 .obtain⟨d,c,A,k,r,i,o6,o7,o8,o9,Y,B,W,wl,wt,lt,gg,nw,C,hm,rfl⟩:=P;refine#[_,zZ,!(i.map V.ref).isEmpty,.inl #[_,R3 wl,zZ],?_];by_cases f:A=[]
  .subst f;have e:=qo.mp lt;subst e;rw[wA (by simp)];exact#[_,zZ,q D c k H gg W (λb hb=>(cP.mp hb).elim (λe=>e▸T) (nw b)) B.told Y]
  .have ne:i≠[]:=λz=>f (qo.mp (by rw[<-lt,z];rfl));have c1:(!(i.map V.ref).isEmpty)=true:=by
    cases i with
    |nil=>exact wC zZ ne
    |cons=>rfl
   rw[c1];refine fy ?_;refine#[λO E=>∃m',m'<m/\Wv m' O E,λO E h=>h,by decide,λfa y=>?_];have kf:=cn y (.lst []);have ab:fa∉k:=λm=>by
    obtain⟨j,e⟩:=fF.mp m;obtain⟨hj,_⟩:=cf.mp e;have z:=W.list j fa _ e (b7 (by rw[<-W.len];exact hj));rw[y]at z;cases z
   have S:Srch n (bT H fa (.lst [])) D r fa i c A [] k:=#[gg.trans kf,T,gg.free y,W.same kf,kf _ _ wl,λj t p v N=>kf _ _ (wt j t p v N),#[[],bY,zZ,λj t p v _=>by simp at v],dj wl y,ab,nw];refine Kp hR hr aa h0 hU few M hF hB Y B (C f) S lt λI fo ae E p7 p8 p9 Q B' S' l'=>?_;obtain⟨tf,f1,f2,f3⟩:=S'.foll;have z1:=few I B'.keys (λp hp=>by
    obtain⟨r1,r2⟩:=B'.run p hp;rw[<-r2];exact pR h0 hU p.2 r1) Q
   have z2:=C f;refine#[_,zZ,2 * (4000-I.length)+(if fo=[]then 0 else 1),?_,d+1,I,fo,ae,fa,tf,_,_,_,_,Q,B'.wave',S'.W,f1,f3,f2,S'.g,S'.new,λnf=>?_,zZ,zZ]
   .rw[hm,wA f];by_cases hf:fo=[]
    .subst hf;rw[wB zZ];simp at l';lia
    .have:=List.length_pos_iff.mpr hf;rw[wA hf];lia
   .have:=List.length_pos_iff.mpr nf;lia
end
structure Que(f:bS->Nat->List Nat)(L:Nat)(x0:bS)(ws:TW)(i j:Nat):Prop where
 head:ws[0]?=some (x0,[])
 keys:(ws.map (·.1)).Nodup
 run:∀p∈ws,(∀l∈p.2,l<L)/\cN f x0 p.2=p.1
 up:ws.Pairwise λp q=>sl p.2 q.2
 done:∀(a:Nat) p,a<i->ws[a]?=some p->∀l,l<L->Goes f ws p l
 part:∀p,ws[i]?=some p->∀l,l<j->Goes f ws p l
 front:∀t,ws[i]?=some t->∀p∈ws,sl p.2 (t.2++[j])
 short:∀(a:Nat) p,ws[a]?=some p->p.2.length<=a
theorem Que.start:Que f L c [(c,[])] 0 0 where
 head:=rfl
 keys:=by simp
 run:=λp b=>by
  rw[cJ.mp b];exact#[λl d=>(nomatch d),zZ]
 up:=pS _ _
 done:=λa p h=>wC h (m7 _)
 part:=λp _ l h=>wC h (m7 _)
 front:=λt _ p b=>by
  rw[cJ.mp b];exact .inl (by simp)
 short:=λa p h=>by
  have z:=cF h;rw[cJ.mp z];exact iE _
theorem Que.old(q:Que f L c b i j)(ht:b[i]?=some t)(h:f t.1 j∈b.map (·.1)):Que f L c b i (j+1):=by
 refine#[q.head,q.keys,q.run,q.up,q.done,λp a l n=>?_,λt' d p a=>?_,q.short]
 .by_cases e:l<j
  .exact q.part p a l e
  .have k:l=j:=by lia
   subst k;rw[ht]at a;cases a;obtain⟨r,g,m⟩:=cH.mp h;exact#[r.2,by rw[<-m];exact g,.inr (q.front t ht r g)]
 .rw[ht]at d;cases d;exact qw (q.front t ht p a) (xi _ (nj _))
theorem Que.new(q:Que f L c b i j)(ht:b[i]?=some t)(u:j<L)(h:f t.1 j∉b.map (·.1)):Que f L c (b++[(f t.1 j,t.2++[j])]) i (j+1):=by
 obtain⟨G,_⟩:=cf.mp ht;have g:∀{a} {p},a<=i->(b++[(f t.1 j,t.2++[j])])[a]?=some p->b[a]?=some p:=λ{a p} o e=>by
  rwa[d7 ()]at e
 refine#[?_,?_,λp d=>?_,?_,λa p o d l m=>?_,λp d l m=>?_,λH n p d=>?_,λa p d=>?_]
 .rw[d7 ()];exact q.head
 .rw[dH,Ct];refine#[q.keys,by simp,λx v y w=>?_];have e:y=f t.1 j:=by simpa using w
  subst e;exact λz=>h (z▸v)
 .rcases cW.mp d with z|z
  .exact q.run p z
  .rw[cJ.mp z];obtain⟨A,B⟩:=q.run t (cF ht);refine#[λl m=>?_,?_]
   .rcases cW.mp m with y|y
    .exact A l y
    .rw[cJ.mp y];exact u
   .show(t.2++[j]).foldl f c=f t.1 j;rw[pq,<-B];rfl
 .refine iS.mpr #[q.up,pS _ _,λp d r C=>?_];rw[cJ.mp C];exact q.front t ht p d
 .exact(q.done a p o (g () d) l m).more
 .have k:=g (cg _) d;by_cases e:l<j
  .exact(q.part p k l e).more
  .have D:l=j:=by lia
   subst D;rw[ht]at k;cases k;exact#[_,dY _ (cJ.mpr zZ),.inl zZ]
 .have e:=g (cg _) n;rw[ht]at e;cases e
  rcases cW.mp d with z|z
  .exact qw (q.front t ht p z) (xi _ (nj _))
  .rw[cJ.mp z];exact xi _ (nj _)
 .by_cases e:a<b.length
  .rw[d7 e]at d;exact q.short a p d
  .have s:=(cf.mp d).1;rw[di]at s;have E:a=b.length:=by
    have:a<b.length+1:=s;lia
   rw[E,eC (cg _),m9]at d;cases d;have:=q.short i t ht
   simp;lia
theorem Que.next(q:Que f L c b i L)(ht:b[i]?=some t):Que f L c b (i+1) 0:=by
 refine#[q.head,q.keys,q.run,q.up,λa p o d=>?_,λp _ l h=>wC h (m7 _),λr g p d=>?_,q.short]
 .by_cases e:a<i
  .exact q.done a p e d
  .have j:a=i:=by lia
   subst j;exact q.part p d
 .obtain⟨k,m⟩:=cf.mp ht;obtain⟨l2,n⟩:=cf.mp g;have up:=oM.mp q.up i (i+1) k l2 (nj _);rw[m,n]at up;exact qw (q.front t ht p d) (Fb up)
theorem Que.told(q:Que f L c b i j)(h:b.length<=i):Told f L c b:=by
 refine#[q.head,q.keys,q.run,q.up,λp d=>?_,λp d=>?_]
 .obtain⟨a,e⟩:=fF.mp d;exact q.done a p (by have:=(cf.mp e).1;lia) e
 .obtain⟨a,e⟩:=fF.mp d;have:=(cf.mp e).1;have:=q.short a p e;lia
theorem KY(h:gn (a3g g d) k=some (.ref a)):a∈d:=by
 obtain⟨m,j,l⟩:=dW.mp h;obtain⟨i,c⟩:=fF.mp (List.mem_of_find?_eq_some j);unfold a3g at c;rw[List.getElem?_zipWith]at c;cases e:g[i]? with
 |none=>rw[e]at c;cases c
 | some p=>
  cases f:d[i]? with
  |none=>rw[e,f]at c;cases c
  |some b=>
   rw[e,f]at c;cases c;cases l;exact cF f
inductive zE(K:R6)(a:Bool)(x y:V)(H:Hp)(Q:VK):Prop|mk:∀(l:Ad) (n:Nat) (d:Dt) (c:List Dt) (e:List V),y=.ref l->SqL K H l e->e.length=c.length->Rep K H n d x->((∀(i:Nat) f v,c[i]?=some f->e[i]?=some v->Rep K H n f v))->n<=30->(∀b,(b=true↔d∈c)->Q (.bl (if a then !b else b)) H)->zE K a x y H Q
theorem Hj{K:R6}(g:Rep K H n d y)(j:Rep K H n f z)(k:RelV y u)(l:RelV z u):y=z:=by
 have c:∀{y} {d},Rep K H n d y->RelV y u->(y=.non/\u=.none)\/(∃i t,y=.int i/\u=.int i t)\/(∃x t,y=.str x/\u=.str x t)\/∃a,y=.ref a/\u=.ref a:=λh r=>by
  cases h with
  |non=>exact .inl #[zZ,r]
  |int _ i=>
   obtain⟨t,e⟩:=r;exact .inr (.inl #[i,t,zZ,e])
  |str _ x=>
   obtain⟨t,e⟩:=r;exact .inr (.inr (.inl #[x,t,zZ,e]))
  |lst=>exact .inr (.inr (.inr #[_,zZ,r]))
  |tup=>exact .inr (.inr (.inr #[_,zZ,r]))
 rcases c g k with⟨rfl,e⟩|⟨i,t,rfl,e⟩|⟨x,t,rfl,e⟩|⟨a,rfl,e⟩<;>rcases c j l with⟨rfl,b⟩|⟨o,m,rfl,b⟩|⟨p,m,rfl,b⟩|⟨q,rfl,b⟩<;>rw[e]at b<;>cases b<;>rfl
theorem OD{M:St}{k:List Dt}{c:Vs}(hu:X.A.units+64<cLine)(I:Inv X L M H s)(N:RelV x v)(r:Vals l c)(hl:l.length=k.length)(O:Rep X.K H n d x)(q:∀(i:Nat) a v,k[i]?=some a->l[i]?=some v->Rep X.K H n a v) (hn:n<=30):∃e:Vl->Bool,(∀u∈c,SeqAt.EqAt X.A.in1 s u v (e u))/\(c.any e=true↔d∈k):=by
 have one:∀i u,c[i]?=some u->∃b a,k[i]?=some a/\SeqAt.EqAt X.A.in1 s u v b/\(b=true↔a=d):=λi u g=>by
  obtain⟨C,_⟩:=cf.mp g;have t:=r.length;obtain⟨y,m⟩:∃y,l[i]?=some y:=#[_,b7 ()];obtain⟨a,o⟩:∃a,k[i]?=some a:=#[_,b7 ()];obtain⟨u',p,Q⟩:=Vals.get r m;rw[g]at p;cases p;obtain⟨b,w,E⟩:=xX I n (A:=X.A.in1) (by lia) (q i a y o m) O Q N;exact#[b,a,o,w,E]
 have f:∀u,∃b,(∃i,c[i]?=some u)->SeqAt.EqAt X.A.in1 s u v b/\∃(i:Nat) (a:Dt),c[i]?=some u/\k[i]?=some a/\(b=true↔a=d):=λu=>by
  by_cases h:∃i:Nat,c[i]?=some u
  .obtain⟨i,B⟩:=h;obtain⟨b,a,C,t,w⟩:=one i u B;exact#[b,λ_=>#[t,i,a,B,C,w]]
  .exact#[true,λz=>wC z h]
 refine#[λu=>Classical.choose (f u),λu g=>(r9 (f u) (fF.mp g)).1,?_];rw[zg];constructor
 .rintro⟨u,g,T⟩;obtain⟨_,i,a,C,t,w⟩:=r9 (f u) (fF.mp g);rw[<-w.mp T];exact cF t
 .intro U;obtain⟨i,o⟩:=fF.mp U;obtain⟨C,_⟩:=cf.mp o;have t:=r.length;obtain⟨u,p⟩:∃u,c[i]?=some u:=#[_,b7 ()];refine#[u,cF p,?_];obtain⟨_,j,a,Y,g2,g3⟩:=r9 (f u) #[i,p];refine g3.mpr ?_;obtain⟨y,m⟩:∃y,l[i]?=some y:=#[_,b7 ()];obtain⟨E,_⟩:=cf.mp g2;obtain⟨z,D⟩:∃z,l[j]?=some z:=#[_,b7 ()];obtain⟨u1,G,r1⟩:=Vals.get r m;obtain⟨u2,J,r2⟩:=Vals.get r D;rw[p]at G;rw[Y]at J;cases G;cases J;have yz:=Hj (q i d y o m) (q j a z g2 D) r1 r2;subst yz;exact Eh I n (q j a y g2 D) (q i d y o m)
theorem Kr(b:X.A.units+64<cLine):OpR X (compareOp .NotIn) (zE X.K true):=by
 intro z s A H x y v u Q I c f h;obtain⟨l,n,d,B,C,rfl,g,i,j,k,m,q⟩:=h;cases f;obtain⟨a,r,o,D⟩:=I.list g;obtain⟨e,p,t⟩:=OD b I c r i j k m;refine SeqAt.notIn_listAt e o.isList (λw hw=>p w (by simpa using hw)) #[.bl _,H,I,zZ,?_];rw[show a.toArray.any e=a.any e by simp];exact q _ t
theorem MC(S:CompScope X [x,y] a)(f:X.calm=true)(b:a.names.lookup x=some .local)(c:a.names.lookup y=some .local):
  ∀C s H d,PG (gy X [x,y] a C s H d) (.Tuple [.Name x p,.Name y q] k e) (tq X.K 2 (l7 (ge 0) (l7 (ge 1) xz))):=λC s H d=>
 zU f (qu (fB S.nd zZ (.inl (vi b)) (.inr (vi b))) (qu (fB S.nd zZ (.inl (vi c)) (.inr (vi c))) AD))
inductive iL(K:R6)(x:V)(c:List V)(H:Hp)(Q:VK):Prop|mk:∀(l:Ad) (y:V) (n:Nat) (d:Dt) (a:List Dt) (b:List V) (j:Nat),x=.ref l->c=[y]->SqL K H l b->b.length=a.length->Rep K H n d y->((∀(i:Nat) e v,a[i]?=some e->b[i]?=some v->Rep K H n e v))->n<=30->a[j]?=some d->((∀i:Nat,i<j->a[i]? ≠some d))->Q (.int (j:Nat)) H->iL K x c H Q
theorem PX{M:St}{k:List Dt}{c:Vs}(hu:X.A.units+64<cLine)(I:Inv X L M H s)(N:RelV x v)(r:Vals l c)(hl:l.length=k.length)(O:Rep X.K H n d x)(p:∀(i:Nat) a v,k[i]?=some a->l[i]?=some v->Rep X.K H n a v) (hn:n<=30):∃e:Vl->Bool,(∀u∈c,SeqAt.EqAt X.A.in1 s u v (e u))/\∀(i:Nat) u a,c[i]?=some u->k[i]?=some a->(e u=true↔a=d):=by
 have D:=r.length;have one:∀i u,c[i]?=some u->∃b a,k[i]?=some a/\SeqAt.EqAt X.A.in1 s u v b/\(b=true↔a=d):=λi u g=>by
  obtain⟨w,_⟩:=cf.mp g;obtain⟨y,m⟩:∃y,l[i]?=some y:=#[_,b7 ()];obtain⟨a,o⟩:∃a,k[i]?=some a:=#[_,b7 ()];obtain⟨u',q,Q⟩:=Vals.get r m;rw[g]at q;cases q;obtain⟨b,B,E⟩:=xX I n (A:=X.A.in1) (by lia) (p i a y o m) O Q N;exact#[b,a,o,B,E]
 have f:∀u,∃b,(∃i,c[i]?=some u)->SeqAt.EqAt X.A.in1 s u v b/\∃(i:Nat) (a:Dt),c[i]?=some u/\k[i]?=some a/\(b=true↔a=d):=λu=>by
  by_cases h:∃i:Nat,c[i]?=some u
  .obtain⟨i,t⟩:=h;obtain⟨b,a,w,D,B⟩:=one i u t;exact#[b,λ_=>#[D,i,a,t,w,B]]
  .exact#[true,λz=>wC z h]
 refine#[λu=>Classical.choose (f u),λu g=>(r9 (f u) (fF.mp g)).1,λi u d0 q o=>?_];obtain⟨_,j,a,T,g2,U⟩:=r9 (f u) #[i,q];rw[U];obtain⟨w,_⟩:=cf.mp o;obtain⟨y,m⟩:∃y,l[i]?=some y:=#[_,b7 ()];obtain⟨E,_⟩:=cf.mp g2;obtain⟨z,C⟩:∃z,l[j]?=some z:=#[_,b7 ()];obtain⟨u1,G,Y⟩:=Vals.get r m;obtain⟨u2,J,r2⟩:=Vals.get r C;rw[q]at G;rw[T]at J;cases G;cases J;have yz:=Hj (p i d0 y o m) (p j a z g2 C) Y r2;subst yz;have dd:=Eh I n (p j a y g2 C) (p i d0 y o m);rw[dd]
theorem DG(w:X.A.units+64<cLine):uo X "list.index" (iL X.K):=by
 intro za s σ H x vs v us Q I A B h;obtain⟨l,y,m,d,C,xs,j,rfl,rfl,D,E,G,J,L,f,no,q⟩:=h;cases A;obtain⟨u,rfl,M⟩:=B.one;obtain⟨a,r,⟨⟨c1,d1,k1,N⟩,n,e,g,i,o⟩,O⟩:=I.list D;subst g i o;obtain⟨b,T,p⟩:=PX w I M r E G J L;have lr:=r.length;have lj:=(cf.mp f).1;rw[db]at O;refine yK F.slot_list_index #[_,e,zZ] F.entry_list_index (F.args_list_index_2 _ _) (SeqAt.list_indexAt l a.toArray n none N u b j (by simp only[List.size_toArray];lia) () ?_ ?_)
  #[e,λy U=>T y (by simpa using U),#[.int (j:Nat),H,I.tok _,#[_,zZ],q]]
 .exact(p j _ d (b7 ()) f).mpr rfl
 .intro k Y c;show b a[k]=false;have t:k<C.length:=by lia
  cases z:b a[k]with
  |false=>rfl
  |true=>
   have z2:=(p k _ _ (b7 ()) (b7 t)).mp z;exact wC (by rw[b7 t,z2]) (no k c)
theorem Qh{K:R6}(r:R6->V->List V->Hp->VK->Prop)(a:X.K=K)(h:PE X e (A2 X.K T (r X.K) to t)):PE X e (A2 K T (r K) to t):=a▸h
section
variable{P:Pg}{A:Ar}{E:VP}{s:Sh}{f d:Ad}
abbrev qk(d:Ad)(i n g:Nat):Obj:={cls:= .type "dict_keyiterator",data:= .fields #v[.ref d,.int i 0,.int n 0,.int g 0]}
theorem JX{Q:Option Vl->Sh->Prop}(G:s.heap.get? f=some (qk d i c.size g))(L:Lies s.heap d c g)(r:c[i]?=some h)(q:∀k,k.get? f=some (qk d (i+1) c.size g)->Heap.SameBut f s.heap k->Q (some h.key) {s with heap:=k}):wpAny (model P w) A (pyNext (.ref f)) Q E s:=by
 obtain⟨o,n,_,p⟩:=L;have ty:s.TypeIs (.ref f) "dict_keyiterator":=#[_,G,zZ];refine bU (qb (ux ty ti (lV ti ty Js ?_ (J9 _))));refine bU (b9 (bU (bU ?_)));refine bU (Ac ty (b9 (bU (wR G zZ ?_))));have a:Builtin.Dict_items.ownsTuple "dict_keyiterator"=false:=zZ
 simp only[a,Bool.false_eq_true,if_false];refine show wpAny _ _ (if(Value.ref d==Value.none)=true then _ else _) _ _ s from(wA (f'))▸bU (b9 (bU (sj n p ?_)))
 rw[wA (by simp)];refine bU (b9 (bU (u8 n p ?_)));rw[wA (by simp)];refine b9 ?_;have l:(if((i:Nat):Int)<0 then none else c[((i:Nat):Int).toNat]?)=some h:=by
  rw[wA (),iW];exact r
 show wpAny _ _ (match (if((i:Nat):Int)<0 then none else c[((i:Nat):Int).toNat]?)with|some e=>_|none=>_) _ _ s;rw[l];refine bU (bU (Ac ty (b9 (bU (wpAny_isOneOf_keyiter ty ?_)))));refine show wpAny _ _ (setField (.ref f) 1 (rawInt ((i:Int)+1)) >>= _) _ _ s from bU (oy G (by simp) λj t u=>wpAny_bind (wpAny_holding ?_))
 have b:j.get? f=some (qk d (i+1) c.size g):=by
  have z:((i+1:Nat):Int)=(i:Int)+1:=by lia
  unfold qk;rw[z];simpa[rawInt]using t
 have m:Shared.TypeIs {s with heap:=j} (.ref f) "dict_keyiterator":=#[_,b,rfl];refine bU (wpAny_isOneOf_keyiter m ?_);exact show wpAny _ _ (pure h.key) _ _ {s with heap:=j}from b9 (b9 #[_,rfl,b9 (q j b u)])
theorem J8{Q:Option Vl->Sh->Prop}(p:A.handled=none)(G:s.heap.get? f=some (qk d i c.size g))(L:Lies s.heap d c g)(r:c[i]?=none)(q:∀k,Heap.ExtBut f s.heap k->Q none {s with heap:=k}):wpAny (model P w) A (pyNext (.ref f)) Q E s:=by
 obtain⟨o,l,_,n⟩:=L;have ty:s.TypeIs (.ref f) "dict_keyiterator":=#[_,G,zZ];refine bU (qb (ux ty ti (lV ti ty Js (bU (b9 (bU (bU ?_)))) (J9 _))));refine bU (Ac ty (b9 (bU (wR G zZ ?_))));have h:Builtin.Dict_items.ownsTuple "dict_keyiterator"=false:=zZ
 refine show wpAny _ _ (if(Value.ref d==Value.none)=true then _ else _) _ _ s from(wA (f'))▸bU (b9 (bU (sj l n ?_)))
 rw[wA (by simp)];refine bU (b9 (bU (u8 l n ?_)));rw[wA (by simp)];refine b9 ?_;have j:(if((i:Nat):Int)<0 then none else c[((i:Nat):Int).toNat]?)=none:=by
  rw[wA (),iW];exact r
 show wpAny _ _ (match (if((i:Nat):Int)<0 then none else c[((i:Nat):Int).toNat]?)with|some e=>_|none=>_) _ _ s;rw[j];refine bU (bU (Ac ty (b9 (show wpAny _ _ (setField (.ref f) 0 .none >>= _) _ _ s from bU (oy G (by simp) λv x t=>?_)))))
 refine bU ?_;refine bU (nq ?_ (by size_fits));refine bU (Aq (by first|rfl|(unfold firstArgMember;rfl)) (wpAny_newObj_type ?_ (by size_fits)));refine AY p (wpAny_bind (wpAny_isInstance #[_,Heap.get?_push_size _ zZ,zZ] isSubtype_stop (wpAny_pure ?_)));exact q _ λb o u z=>c7 _ (c7 _ (t.extBut b o u z))
theorem Ka{Q:VP}(nd:(d==sysModules)=false)(L:Lies s.heap d c g)(q:Q (.ref s.heap.objs.size) {s with heap:=s.heap.push (qk d 0 c.size g)}):wpAny (model P w) A (pyIter (.ref d)) Q E s:=by
 obtain⟨o,a,x,b⟩:=L;have ty:s.TypeIs (.ref d) "dict":=#[o,a,x.1];refine xa ty F.slot_dict_iter (lV F.slot_dict_iter ty F.entry_dict_iter ?_ (F.args_dict_iter_1 _));refine bU (bU (wpAny_notOrdered_dict ty ?_));refine b9 (show wpAny _ _ (Builtin.Dict.showsAll d >>= _) _ _ s from ?_)
 have all:Builtin.Dict.showsAll d=pure Unit.unit:=by
  unfold Builtin.Dict.showsAll;rw[nd];rfl
 rw[all];refine bU (b9 (bU (sj a b (bU (u8 a b ?_)))));exact bU (nq (b9 #[_,zZ,"dict_keyiterator",_,#[_,eQ _ zZ,zZ],ti.lookup,q]))
theorem Kx(r:A.handled=none)(l:d≠f):Walks P w A f [f,d] [f] c.size (λi v=>∃a,c[i]?=some a/\v=a.key) (λi h=>h.get? f=some (qk d i c.size g)/\Lies h d c g) where
 sub:=λb t=>cP.mpr (.inl (cJ.mp t))
 frame:=λi h j st k=>#[k f (dy ..) _ st.1,let⟨o,e,x⟩:=st.2;#[o,k d (eM _ (cJ.mpr zZ)) _ e,x]]
 item:=λi s Q E u st q=>by
  obtain⟨a,n⟩:∃a,c[i]?=some a:=#[_,md u];refine JX st.1 st.2 n λj y p=>q a.key j s.toks #[a,n,zZ] #[y,let⟨o,e,x⟩:=st.2;#[o,p.extBut _ _ l e,x]] λb o m e=>p.extBut _ _ (λz=>m (cJ.mpr z)) e
 done:=λs Q E st q=>J8 r st.1 st.2 (ES (cg _)) λj x=>q j s.toks λb o m e=>x b o (λz=>m (cJ.mpr z)) e
 self:=λi s Q E st q=>by
  have ty:s.TypeIs (.ref f) "dict_keyiterator":=#[_,st.1,zZ];refine xa ty Cm (lV Cm ty Hz ?_ (JS _));exact b9 #[_,zZ,"dict_keyiterator",_,ty,ti.lookup,q]
theorem t6(nd:(d==sysModules)=false):PySem.W.KdlSrc P w "dict" d d c.size (λi v=>∃a,c[i]?=some a/\v=a.key) (λh=>Lies h d c g) where
 type:=λ_ e=>e.typeIs
 there:=λ_ ⟨_,e,_⟩=>#[cK e,cK e]
 keep:=λ_ _ ⟨o,e,x⟩ k=>#[o,k d (.inl zZ) _ e,x]
 notList:=zZ
 notTuple:=zZ
 hint:=λ_ _ _ _ e q=>PySem.W.kdl_hint_dict e.typeIs q
 iter:=λ_ _ b e=>#[_,_,λ_ _ q=>Ka nd e q,Kx b (dq (let⟨_,z,_⟩:=e;cK z)),eQ _ zZ,let⟨o,z,x⟩:=e;#[o,c7 _ z,x]]
end
open PySem PySem.W PyProof.Rows
section
variable(n:Nat)(k:Nat->Int)
def KOk:KasT b->(b->Prop)->Prop
 |.ret a,R=>R a
 |.ask i j f,R=>i<n/\j<n/\KOk (f (decide (k i<k j))) R
def Arr(p:Array Nat):Prop:=p.Perm (List.range n).toArray
def qh(p:Array Nat)(m:Nat):Prop:=∀a b,a<b->b<m->k (p.getD a 0)<k (p.getD b 0)
def Rz(p:Array Nat)(m:Nat):Prop:=∀a b,a<b->b<m->k (p.getD b 0)<k (p.getD a 0)
variable{n k}
theorem KOk.bind{R:b->Prop}{d:c->Prop}(h:∀a,R a->KOk n k (f a) d):∀t,KOk n k t R->KOk n k (t.bind f) d
 |.ret a,q=>h a q
 |.ask i j g,q=>#[q.1,q.2.1,KOk.bind h (g _) q.2.2]
theorem KOk.wp{b:Nat->Nat->(Bool->Sh->Prop)->Sh->Prop}{Q:c->Sh->Prop}(d:∀i j C,i<n->j<n->C (decide (k i<k j)) s->b i j C s)(e:∀a,R a->Q a s):
  ∀t,KOk n k t R->t.kasWp b Q s
 |.ret a,q=>e a q
 |.ask i j g,q=>d i j _ q.1 q.2.1 (KOk.wp d e (g _) q.2.2)
theorem Arr.size(h:Arr n p):p.size=n:=by
 have z:=(ot.mp h).length_eq;simpa using z
theorem Arr.at(h:Arr n p)(b:i<n):p.getD i 0<n/\p[i]?=some (p.getD i 0):=by
 have c:=h.size;have e:p[i]?=some (p.getD i 0):=by
  rw[qq,md ()];rfl
 refine#[?_,e];have m:=FQ e;have a:=(DC h).mp m;simpa using a
theorem Arr.inj(h:Arr n p)(b:i<n)(d:j<n)(e:p.getD i 0=p.getD j 0):i=j:=by
 have nd:=(ot.mp h).nodup_iff.mpr List.nodup_range;have c:=(h.at b).2;have a:=(h.at d).2;rw[<-e]at a;rw[<-lY]at c a;exact(jj (by rw[dR,h.size];exact b) nd).mp (c.trans a.symm)
variable(inj:∀i j,i<n->j<n->k i=k j->i=j)
include inj
end
end L2
namespace L2
open PySem PySem.Spec PySem.W PyProof.Rows
section
variable{c d:Vs}
def Fo(P:Pg)(w:World)(A:Ar)(d:Vs)(lt:Nat->Nat->Bool)(s:Sh):Prop:=
 wpAny (model P w) A (keyKind' d.toArray) (λa b=>b=s/\∀i j (C:Bool->Sh->Prop),i<d.length->j<d.length->C (lt i j) s->kas_ask P w A a d i j C s) (λ_ _=>False) s
abbrev hI(c:Vs)(p:Array Nat):Vs:=p.toList.map λi=>c.getD i Value.none
theorem Jz(c):hI c (List.range c.length).toArray=c:=by
 unfold hI;refine nr λi=>?_;rw[BI,cz];by_cases h:i<c.length
 .rw[mS h,b7 h];show some (c.getD i Value.none)=_;rw[dO,b7 h];rfl
 .rw[jg (by simp;lia),List.getElem?_eq_none ()];rfl
theorem JV(a:d.length=c.length):(d.toArray.zip c.toArray).map (·.2)=c.toArray:=by
 apply Array.toList_inj.mp;rw[AH,ksk_zip];exact List.map_snd_zip (by simp[a])
theorem Bm{a:Heap}{b:Ad}(e:a.get? b=some x)(c d):((a.push c).push d).get? b=some x:=c7 _ (c7 _ e)
end
theorem E9{a:Type}{p q:a->Bool}:∀{xs:List a},(∀z∈xs,p z=true->q z=true)->(∃z∈xs,p z=false/\q z=true)->xs.countP p<xs.countP q
 | [],_,h=>by obtain⟨z,hz,_⟩:=h;cases hz
 | x::xs,mono,h=>by
  have g:=List.countP_mono_left λz hz=>mono z (eM _ hz);rw[BX,BX];obtain⟨z,hz,b,c⟩:=h
  rcases cP.mp hz with e|hz
  .subst e;rw[b,c];simp;lia
  .have i:=E9 (λy d=>mono y (eM _ d)) #[z,hz,b,c];have m:=mono x (dy ..);cases f:p x with
   |false=>cases q x<;>simp<;>lia
   |true=>rw[m f];simp;lia
structure Total{α:Type}(lt:α->α->Bool)(xs:List α):Prop where
 irr:∀x,lt x x=false
 trans:∀x y z,lt x y=true->lt y z=true->lt x z=true
 tot:∀x∈xs,∀y∈xs,x≠y->lt x y=true\/lt y x=true
noncomputable def ky{a:Type}(lt:a->a->Bool)(xs:List a)(x:a):Int:=((xs.countP λy=>lt y x):Nat)
section
variable{lt:a->a->Bool}{xs:List a}(T:Total lt xs)
include T
theorem Total.up(b:x∈xs)(h:lt x y=true):ky lt xs x<ky lt xs y:=by
 unfold ky;have z:=E9 (q:=λz=>lt z y) (λz _ c=>T.trans _ _ _ c h) #[x,b,T.irr x,h];lia
theorem Total.asks(b:x∈xs)(c:y∈xs):decide (ky lt xs x<ky lt xs y)=lt x y:=by
 by_cases e:x=y
 .subst e;rw[T.irr];exact e8 (Int.lt_irrefl _)
 .rcases T.tot x b y c e with h|h
  .rw[h];exact dF (T.up b h)
  .have:=T.up c h;rw[e8 ()];cases z:lt x y with
   |false=>rfl
   |true=>
    have:=T.up b z;lia
theorem Total.same(b:x∈xs)(c:y∈xs)(h:ky lt xs x=ky lt xs y):x=y:=by
 refine Cq λe=>?_
 rcases T.tot x b y c e with z|z
 .have:=T.up b z;lia
 .have:=T.up c z;lia
end
theorem FW:∀a b,a≠b->dZ a b=true\/dZ b a=true
 | [],[],h=>wC zZ h
 | [],y::b,_=> .inl (by unfold dZ;rw[show gi [] (y::b)=none from rfl];simp)
 |x::a,[],_=> .inr (by unfold dZ;rw[show gi [] (x::a)=none from rfl];simp)
 | x::a,y::b,h=>by
  by_cases e:x=y
  .subst e
   rcases FW a b (λz=>h (by rw[z]))with q|q
   .exact .inl (by rw[rk];exact q)
   .exact .inr (by rw[rk];exact q)
  .rw[ku e,ku (dG e)]
   rcases Nat.lt_or_gt_of_ne e with q|q
   .exact .inl (dF q)
   .exact .inr (dF q)
theorem By:∀xs a d,dZ xs a=true->dZ a d=true->dZ xs d=true
 | xs,a,[],_,b=>by
  have:dZ a []=false:=by
   unfold dZ;rw[show gi a []=none by cases a<;>rfl];simp
  rw[this]at b;cases b
 | [],a,z::d,_,_=>by unfold dZ;rw[show gi [] (z::d)=none from rfl];simp
 | x::xs,[],z::d,c,_=>by
  have:dZ (x::xs) []=false:=by
   unfold dZ;rw[show gi (x::xs) []=none from rfl];simp
  rw[this]at c;cases c
 | x::xs,y::a,z::d,c,b=>by
  by_cases f:x=y
  .subst f;by_cases e:x=z
   .subst e;rw[rk]at c b|-;exact By xs a d c b
   .rw[ku e]at b|-;exact b
  .rw[ku f]at c;have g:=f7 c;by_cases e:y=z
   .subst e;rw[ku f];exact c
   .rw[ku e]at b;have l2:=f7 b;rw[ku ()];exact dF ()
theorem OX(a:LN):Total dZ a:=#[pP,By,λx _ y _ e=>FW x y e]
section
variable{P:Pg}{A:Ar}{E:VP}
theorem JG(f){Q:Bool->Sh->Prop}(h:Q (decide (i<j)) s):wpAny (model P w) A (oneLt' f (.int i t) (.int j u)) Q E s:=by
 cases f with
 |true=>exact oneLt_int h
 |false=>exact kat_one _ _ (PyProof.Rows.lt_int h)
theorem Jl{Q:Bool->Sh->Prop}:∀{b a:bS} {c d:Vs} i,Vals (b.map nv) c->Vals (a.map nv) d->Q ((gi b a).getD fin) s->KatLex P w A true fin Q (c.zip d) i s
 | [],a,_,_,i,.nil,_,q=>by
  rw[show gi [] a=none by cases a<;>rfl]at q;rw[List.zip_nil_left];exact kat_nil q
 |n::b,[],_,_,i,.cons _ _,.nil,q=>by
  rw[List.zip_nil_right];exact kat_nil q
 | n::b,m::a,_,_,i,.cons ⟨t,f⟩ g,.cons ⟨u,h⟩ k,q=>by
  subst f h;refine kat_cons ?_;have z:=fE (A:=A) (s:=s) (i:=(n:Int)) (j:=(m:Int)) (t:=t) (u:=u);by_cases e:n=m
  .rw[dF ()]at z;rw[gi,wB e]at q;exact z P w _ _ (kat_yes (Jl (i+1) g k q))
  .rw[e8 ()]at z;rw[gi,wA e]at q;refine z P w _ _ (kat_no (JG _ ?_));have l:decide ((n:Int)<(m:Int))=decide (n<m):=by simp
   rw[l];exact q
def pd(h:Heap)(v:Vl)(d:bS):Prop:=∃a o b c,v=.ref a/\h.get? a=some o/\o.cls=.type "tuple"/\o.data=.seq b c/\Vals (d.map nv) b.toList
theorem Jw:∀{vs:Vs} {ts:LN},vs.length=ts.length->(∀(i:Nat) v t,vs[i]?=some v->ts[i]?=some t->pd h v t/\t≠[])->∃fs:Vs,KatTups h vs fs/\fs.length=vs.length/\∀f∈fs,∃i t,f=.int i t
 | [],[],_,_=>#[[],.nil,zZ,λ_ z=>nomatch z]
 | [],_::_,l,_=>by simp at l
 |_::_,[],l,_=>by simp at l
 | v::vs,t::ts,l,g=>by
  obtain⟨fs,k,k2,k3⟩:=Jw (by simpa using l) λi v t m p=>g (i+1) v t m p;obtain⟨⟨a,o,d,c,rfl,q,s,u,w⟩,x⟩:=g 0 v t zZ rfl;obtain⟨n,b,rfl⟩:∃n b,t=n::b:=by
   cases t with
   |nil=>exact wC zZ x
   |cons n b=>exact#[n,b,zZ]
  obtain⟨j⟩:=d;cases w with
  | cons r _=>
   obtain⟨y,rfl⟩:=r;exact#[_::fs,.cons q s u zZ k,by simp[k2],λf hf=>by
    rcases cP.mp hf with e|hf
    .exact#[_,_,e]
    .exact k3 f hf]
theorem N4{a:Vs}{b:LN}(l:a.length=b.length)(J:1<=a.length)(e:∀(i:Nat) v t,a[i]?=some v->b[i]?=some t->pd s.heap v t/\t≠[]):Fo P w A a (λi j=>dZ (b.getD i []) (b.getD j [])) s:=by
 obtain⟨fs,k,k2,k3⟩:=Jw l e;refine kat_kind (T:= .type "int") k () (λf m=>?_) zZ #[zZ,λi j C d n o=>?_]
 .obtain⟨i,t,rfl⟩:=k3 f m;exact .now
 .have c:=λ{i} d=>by
   have p:a[i]?=some (a.getD i Value.none):=by rw[dO,b7 d];rfl
   have q:b[i]?=some (b.getD i []):=by rw[dO,b7 ()];rfl
   exact(e i _ _ p q).1
  obtain⟨x,L,r,M,u,z,N,B,g⟩:=c d;obtain⟨y,O,D,Q,E,G,U,H,h⟩:=c n;show wpAny (model P w) A (keyLt' _ (a.getD i Value.none) (a.getD j Value.none)) C _ s;rw[u,E];refine kat_lt z B G H (Jl 0 g h ?_);have I:(b.getD i []).length=r.size:=by have:=g.length;simpa using this
  have l2:(b.getD j []).length=D.size:=by have:=h.length;simpa using this
  rw[<-I,<-l2];exact o
end
theorem HY{b:Type}{a:List b}{d:b}(c:Arr a.length p):(p.toList.map λi=>a.getD i d).Perm a:=by
 have z:=(ot.mp c).map λi=>a.getD i d;refine z.trans (.of_eq (nr λi=>?_));rw[BI,cz];by_cases h:i<a.length
 .rw[mS h,b7 h];show some (a.getD i d)=_;rw[dO,b7 h];rfl
 .rw[jg (by simp;lia),List.getElem?_eq_none ()];rfl
theorem F5(a:Arr n p)(b:i<n):p.toList[i]?=some (p.getD i 0):=by
 rw[lY];exact(a.at b).2
theorem HQ{d:c}(T:Total lt a)(b:Arr a.length p)(up:qh (λi=>ky lt a (a.getD i d)) p a.length):(p.toList.map λi=>a.getD i d).Pairwise λx y=>lt x y=true:=by
 rw[oM];intro i j e f o;have k:i<a.length:=by rw[bW,dR,b.size]at e;exact e
 have g:j<a.length:=by rw[bW,dR,b.size]at f;exact f
 have l:(p.toList.map λi=>a.getD i d)[i]?=some (a.getD (p.getD i 0) d):=by rw[cz,F5 b k];rfl
 have n:(p.toList.map λi=>a.getD i d)[j]?=some (a.getD (p.getD j 0) d):=by rw[cz,F5 b g];rfl
 rw[b7 e]at l;rw[b7 f]at n;rw[fK l,fK n];have u:=up i j o g;have m:∀{i},i<a.length->a.getD (p.getD i 0) d∈a:=λ{i} h=>by
  have:=(b.at h).1;rw[dO,b7 this];exact jv _
 rw[<-T.asks (m k) (m g)];exact dF u
structure TupsAt(H:Hp)(bs:As)(us:LN):Prop where
 len:bs.length=us.length
 is:∀(i:Nat) (b:Ad) (u:bS),bs[i]?=some b->us[i]?=some u->H b=some (.tup (u.map nv))
theorem TupsAt.same(h:TupsAt H bs a)(g:Same H H'):TupsAt H' bs a:=#[h.len,λi b u c d=>g _ _ (h.is i b u c d)]
theorem TupsAt.pick(h:TupsAt H bs a)(f:Arr a.length p):TupsAt H (p.toList.map λi=>bs.getD i 0) (p.toList.map λi=>a.getD i []):=by
 refine#[by simp,λi b u d c=>?_];rw[cz]at d c;obtain⟨j,e,rfl⟩:=dW.mp d;rw[e]at c;cases c;have g:j<a.length:=by
  have m:=(ot.mp f).mem_iff.mp (cF e);simpa using m
 have k:=h.len;refine h.is j _ _ ?_ ?_
 .rw[dO,b7 ()];rfl
 .show a[j]?=some (a.getD j []);rw[dO,b7 g];rfl
theorem yf(ok:HOk P w H h)(e:H a=some (.tup (t.map nv))):pd h (.ref a) t:=by
 obtain⟨_,b,r,o,d,f,c,g,_⟩:=(ok a _ e);exact#[a,o,b.toArray,c,zZ,d,f,g,by simpa using r]
theorem pN{b:Type}{a:List b}{d:b}(h:i<a.length):a[i]?=some (a.getD i d)/\a.getD i d∈a:=by
 have e:a[i]?=some (a.getD i d):=by
  rw[dO,b7 h];rfl
 exact#[e,cF e]
theorem J2{d:b}(T:Total lt a)(nd:a.Nodup):∀i j,i<a.length->j<a.length->ky lt a (a.getD i d)=ky lt a (a.getD j d)->i=j:=λi j c f e=>by
 have z:=T.same (pN c).2 (pN f).2 e;refine(jj c nd).mp ?_;rw[(pN c).1,(pN f).1,z]
abbrev d0:Keyed:=(Value.none,Value.none)
structure Asks(M:Model)(A:Ar)(s:Sh)(κ:SortKind)(r:Keyed->Int)(a₀:Array Keyed):Prop where
 lt:∀(x y:Keyed) (C:Bool->Sh->Prop),x∈a₀->y∈a₀->C (decide (r x<r y)) s->wpAny M A (keyLt' κ x.1 y.1) C (λ_ _=>False) s
 ne:∀i j,i<a₀.size->j<a₀.size->i≠j->r (a₀.getD i d0)≠r (a₀.getD j d0)
structure StOk(κ:SortKind)(a₀:Array Keyed)(st:SortSt):Prop where
 kind:kindOf st=κ
 perm:(arrOf st).Perm a₀
 ok:failedOf st=none
section
variable{A:Ar}{E:VP}{s:Sh}{f xs g:Array Keyed}
abbrev kx(r:Keyed->Int)(xs:Array Keyed)(i:Nat):Int:=r (xs.getD i d0)
theorem qc(h:i<xs.size):xs[i]?=some (xs.getD i d0):=by
 rw[qq,md h];rfl
theorem cR(h:xs[i]?=some x):xs.getD i d0=x:=by
 rw[qq,h];rfl
theorem px(h:xs[i]?=g[j]?):xs.getD i d0=g.getD j d0:=by
 rw[qq,qq,h]
theorem pV(p:xs.Perm f):xs.size=f.size:=by
 have z:=(ot.mp p).length_eq;simpa using z
theorem Bd(p:xs.Perm f)(h:i<f.size):xs.getD i d0∈f:=(DC p).mp (FQ (qc (by rw[pV p];exact h)))
theorem Asks.pairs(K:Asks M A s o r f):(f.toList.map r).Nodup:=by
 refine oM.mpr λi j a b c=>?_;rw[vg,vg];rw[bW,dR]at a b;have z:=K.ne i j a b ();rw[qq,qq,md a,md b]at z;exact z
theorem Asks.apart(K:Asks M A s o r f)(p:xs.Perm f)(a:i<f.size)(b:j<f.size)(c:i≠j):kx r xs i≠kx r xs j:=by
 have nd:=((ot.mp p).map r).nodup_iff.mpr K.pairs;have sz:=pV p;intro z;have e:∀k,k<f.size->(xs.toList.map r)[k]?=some (kx r xs k):=λk d=>by
  rw[cz,lY,qc ()];rfl
 exact c ((jj (by rw[bW,dR];lia) nd).mp (by rw[e i a,e j b,z]))
theorem yA{st:SortSt}(K:Asks M A s o r f)(c:kindOf st=o)(d:x∈f)(e:y∈f)(h:Q (some (decide (r x<r y))) st):wpS M A E s (lt' x y) Q st:=by
 rw[lt'_eq];refine cC (mX ?_);rw[c];refine cC (td (qb (eZ (K.lt x y (λb a=>a=s/\b=decide (r x<r y)) d e #[zZ,zZ]) (λb a g=>?_) λ_ _ z=>z.elim)));obtain⟨rfl,rfl⟩:=g;exact#[zZ,cL h]
theorem gS(b:i<xs.size)(h:Q (xs.getD i d0) a):wpS M A E s (elem' xs i) Q a:=by
 rw[elem'_eq,qc b];exact cL h
theorem y6{st:SortSt}(K:Asks M A s o r f)(B:StOk o f st)(a:i<f.size)(b:j<f.size)(h:Q (some (decide (kx r (arrOf st) i<kx r (arrOf st) j))) st):wpS M A E s (ltAt' i j) Q st:=by
 have sz:=pV B.perm;rw[ltAt'_eq];refine cC (mX (cC (gS () (cC (gS () (yA K B.kind (Bd B.perm a) (Bd B.perm b) h))))))
def Ris(r:Keyed->Int)(xs:Array Keyed)(lo c:Nat):Prop:=∀a b,lo<=a->a<b->b<c->kx r xs a<kx r xs b
def Fal(r:Keyed->Int)(xs:Array Keyed)(lo c:Nat):Prop:=∀a b,lo<=a->a<b->b<c->kx r xs b<kx r xs a
def Out(xs g:Array Keyed)(lo a:Nat):Prop:=∀k,k<lo\/a<=k->g[k]?=xs[k]?
theorem Out.refl(xs)(lo a):Out xs xs lo a:=λ_ _=>rfl
theorem Out.trans{lo a:Nat}(h:Out xs g lo a)(c:Out g b lo a):Out xs b lo a:=λk z=>(c k z).trans (h k z)
theorem Out.wide{lo c a b:Nat}(h:Out xs g lo c)(d:a<=lo)(e:c<=b):Out xs g a b:=λk z=>h k ()
theorem Out.ris{lo c a b:Nat}(h:Out xs g lo c)(e:Ris r xs a b)(d:b<=lo\/c<=a):Ris r g a b:=λi j f k l=>by
 show r (g.getD i d0)<r (g.getD j d0);rw[px (h i ()),px (h j ())];exact e i j f k l
theorem Ris.one{lo:Nat}:Ris r xs lo (lo+1):=λa b c d e=>by lia
theorem Ris.snoc{lo c:Nat}(h:Ris r xs lo c)(i:lo<c)(l:kx r xs (c-1)<kx r xs c):Ris r xs lo (c+1):=λa b d f j=>by
 by_cases e:b=c
 .subst e;by_cases g:a=b-1
  .subst g;exact l
  .have:=h a (b-1) d () ();lia
 .exact h a b d f ()
theorem Fal.snoc{lo c:Nat}(h:Fal r xs lo c)(i:lo<c)(l:kx r xs c<kx r xs (c-1)):Fal r xs lo (c+1):=λa b d f j=>by
 by_cases e:b=c
 .subst e;by_cases g:a=b-1
  .subst g;exact l
  .have:=h a (b-1) d () ();lia
 .exact h a b d f ()
theorem StOk.set{st:SortSt}(B:StOk o f st)(p:g.Perm (arrOf st)):StOk o f (setArr st g):=#[B.kind,p.trans B.perm,B.ok]
theorem JZ(b:j<=xs.size)(k):kx r (mirror xs i j ((j-i) /2)) k=if i<=k/\k<j then kx r xs (i+j-1-k)else kx r xs k:=by
 have e:=getElem?_mirror_all (i:=i) b k;by_cases a:i<=k/\k<j
 .rw[wB a]at e|-;exact de r (px e)
 .rw[wA a]at e|-;exact de r (px e)
theorem Qm{st:SortSt}{lo g:Nat}(K:Asks M A s o r f)(B:StOk o f st)(hn:lo+g<=f.size)(G:1<=g)(h:∀n l,StOk o f l->pendingOf l=pendingOf st->gallopOf l=gallopOf st->Out (arrOf st) (arrOf l) lo (lo+g)->1<=n->n<=g->Ris r (arrOf l) lo (lo+n)->Q (some n) l):wpS M A E s (countRun' lo g) Q st:=by
 rw[countRun'_eq];have x:∀(m:Nat) (l:SortSt) (H:Option (Option Nat)×Nat->SortSt->Prop),StOk o f l->1<=m->m<=g->Ris r (arrOf l) lo (lo+m)->(∀n,m<=n->n<=g->Ris r (arrOf l) lo (lo+n)->(n<g->kx r (arrOf l) (lo+n)<kx r (arrOf l) (lo+n-1))->H (none,n) l)->
   wpS M A E s (forIn [m:g] ((none,m):Option (Option Nat)×Nat) λ_ p=>do
    let J <-ltAt' (lo+p.snd) (lo+p.snd-1)
    match J with
    |some t=>if t=true then pure (ForInStep.done (none,p.snd))else pure (ForInStep.yield (none,p.snd+1))
    |_=>pure (ForInStep.done (some none,p.snd))) H l:=λm l H U m1 L up q=>by
  refine jm (I:=λi c d=>d=l/\c=(none,i)/\Ris r (arrOf l) lo (lo+i)) (λi c d p0 xO v=>?_) (λc d v=>?_) #[zZ,zZ,up]
  .obtain⟨rfl,rfl,u⟩:=v;refine cC (y6 K U (by show lo+i<_;lia) (by show lo+i-1<_;lia) ?_);by_cases c:kx r (arrOf d) (lo+i)<kx r (arrOf d) (lo+i-1)
   .rw[dF c];exact cL (q i p0 () u λ_=>c)
   .rw[e8 c];have ne:=K.apart U.perm (i:=lo+i) (j:=lo+i-1) () () ();exact cL #[zZ,zZ,u.snoc () ()]
  .obtain⟨rfl,rfl,u⟩:=v;rw[show max m g=g by lia]at u|-;exact q g L (cg _) u λz=>wC z (iG _)
 refine cC (x 1 st _ B (cg _) G Ris.one λn N D up stop=>?_);dsimp only;by_cases e:n=g
 .rw[wB (by simpa using e)];exact cL (h n st B zZ zZ (Out.refl _ _ _) N D up)
 rw[wA (by simpa using e)];have O:=stop ();by_cases Y:n>1
 .rw[wB Y];refine cC (y6 K B () () ?_);rw[dF (up lo (lo+n-1) (cg _) () ())];exact cL (h n st B zZ zZ (Out.refl _ _ _) N D up)
 rw[wA Y];have en:n=1:=by lia
 subst en;refine cC (td (pC #[zZ,?_]));have y:Fal r (arrOf st) lo (lo+2):=λa b G h2 h3=>by
  have ea:a=lo:=by lia
  have eb:b=lo+1:=by lia
  subst ea eb;exact O
 refine cC (j3 (jm (I:=λi c d=>d=st/\c=(none,i,0)/\Fal r (arrOf st) lo (lo+i)) (Q:=λc d=>d=st/\∃m,c=(none,m,0)/\2<=m/\m<=g/\Fal r (arrOf st) lo (lo+m)) (λi c d p0 xO v=>?_) (λc d v=>?_) #[zZ,zZ,y]) ?_)
 .obtain⟨rfl,rfl,fa⟩:=v;refine cC (y6 K B (by show lo+i<_;lia) (by show lo+i-1<_;lia) ?_);by_cases c:kx r (arrOf d) (lo+i)<kx r (arrOf d) (lo+i-1)
  .rw[dF c];exact cL #[zZ,zZ,fa.snoc () c]
  .rw[e8 c];have ne:=K.apart B.perm (i:=lo+i) (j:=lo+i-1) () () ();refine cC (y6 K B (by show lo+i-1<_;lia) (by show lo+i<_;lia) ?_);rw[dF (by show kx r (arrOf d) (lo+i-1)<kx r (arrOf d) (lo+i);lia)];exact cL #[zZ,i,zZ,(),(),fa]
 .obtain⟨rfl,rfl,fa⟩:=v;refine#[zZ,_,zZ,(),(),fa]
 .rintro c d ⟨rfl,m,rfl,m2,L,fa⟩;dsimp only;obtain⟨m,rfl⟩:∃k,m=k+1:=qi λz=>by rw[z]at m2;exact wC m2 (by decide)
  rw[wA (iG 0)];rw[reverseSlice'_eq];have sz:=pV B.perm;have w:lo+(m+1)<=(arrOf d).size:=by lia
  have B2:StOk o f (setArr d (mirror (arrOf d) lo (lo+(m+1)) ((lo+(m+1)-lo) /2))):=B.set (mirror_perm _ _ _ _);have T:Ris r (mirror (arrOf d) lo (lo+(m+1)) ((lo+(m+1)-lo) /2)) lo (lo+(m+1)):=λa b G h2 h3=>by
   rw[JZ w,JZ w,wB (),wB ()];exact fa _ _ (show lo<=lo+(lo+m)-b from Fj ()) (show lo+(lo+m)-b<lo+(lo+m)-a from Nat.sub_lt_sub_left () h2) (show lo+(lo+m)-a<lo+(m+1)from xI () ())
  have C:Out (arrOf d) (mirror (arrOf d) lo (lo+(m+1)) ((lo+(m+1)-lo) /2)) lo (lo+g):=λk hk=>by
   rw[getElem?_mirror_all w,wA ()]
  refine cC (ou (cC (x (m+1) _ _ B2 () L T λn N D up stop=>?_)));exact cL (h n _ B2 zZ zZ C () D up)
end
section
variable{E:VP}
theorem IG(g:a<f.size)(h:d<=a)(k):kx r (bubble f a d) k=if k=a-d then kx r f a else if a-d<k/\k<=a then kx r f (k-1)else kx r f k:=by
 have e:=getElem?_bubble g d h k;by_cases b:k=a-d
 .rw[wB b]at e|-;exact de r (px e)
 .rw[wA b]at e|-;by_cases c:a-d<k/\k<=a
  .rw[wB c]at e|-;exact de r (px e)
  .rw[wA c]at e|-;exact de r (px e)
theorem NN{st:SortSt}{lo n ok:Nat}(K:Asks M A s b r a)(B:StOk b a st)(hn:lo+n<=a.size)(aa:ok<=n)(hs:Ris r (arrOf st) lo (lo+ok))(h:∀e,StOk b a e->pendingOf e=pendingOf st->gallopOf e=gallopOf st->Out (arrOf st) (arrOf e) lo (lo+n)->Ris r (arrOf e) lo (lo+n)->Q true e):wpS M A E s (binarySort' lo n ok) Q st:=by
 rw[binarySort'_eq];refine cC (j3 (jm (I:=λk c e=>c=(none,Unit.unit)/\StOk b a e/\pendingOf e=pendingOf st/\gallopOf e=gallopOf st/\Out (arrOf st) (arrOf e) lo (lo+n)/\Ris r (arrOf e) lo (lo+min k n))
  (Q:=λc e=>c=(none,Unit.unit)/\StOk b a e/\pendingOf e=pendingOf st/\gallopOf e=gallopOf st/\Out (arrOf st) (arrOf e) lo (lo+n)/\Ris r (arrOf e) lo (lo+n)) ?step ?fin ?init) ?post)
 case post=>
  rintro c e ⟨rfl,y,H,J,o,u⟩;exact cL (h e y H J o u)
 case init=>
  refine#[zZ,B,zZ,zZ,Out.refl _ _ _,λi j v C h3=>?_];exact hs i j v C ()
 case fin=>
  rintro c e ⟨hc,y,H,J,o,u⟩;refine#[hc,y,H,J,o,?_];rwa[show min (max (max ok 1) n) n=n by lia]at u
 case step=>
  rintro k c e ab ae ⟨rfl,y,H,J,o,w⟩;rw[show min k n=k by lia]at w;have sz:=pV y.perm;refine cC (j3 (jm (I:=λx c f=>f=e/\∃l q,c=(none,l,q)/\l<=q/\q<=k/\q+x<=k+l/\
    (∀i,i<l->kx r (arrOf e) (lo+i)<kx r (arrOf e) (lo+k))/\(∀i,q<=i->i<k->kx r (arrOf e) (lo+k)<kx r (arrOf e) (lo+i)))
   (Q:=λc f=>f=e/\∃l q,c=(none,l,q)/\l<=k/\
    (∀i,i<l->kx r (arrOf e) (lo+i)<kx r (arrOf e) (lo+k))/\(∀i,l<=i->i<k->kx r (arrOf e) (lo+k)<kx r (arrOf e) (lo+i))) ?istep ?ifin ?iinit) ?ipost)
  case iinit=>exact#[zZ,0,k,zZ,(),(),(),λi hi=>by lia,λi v C=>by lia]
  case ifin=>
   rintro c f ⟨rfl,l,q,rfl,N,t,hm,m,p⟩;have:l=q:=by lia
   subst this;exact#[zZ,l,l,zZ,t,m,p]
  case istep=>
   rintro x c f _ af ⟨rfl,l,q,rfl,N,t,hm,m,p⟩;dsimp only;by_cases D:l>=q
   .rw[wB D];have:l=q:=by lia
    subst this;exact cL #[zZ,l,l,zZ,t,m,p]
   .rw[wA D];have Y:l<=(l+q) /2:=by lia
    have O:(l+q) /2<q:=by lia
    clear D;generalize(l+q) /2=d at Y O|-;have dk:=eB O t;refine cC (y6 K y () () ?_);by_cases g:kx r (arrOf f) (lo+k)<kx r (arrOf f) (lo+d)
    .simp only[g,decide_true,if_true];refine cL #[zZ,l,d,zZ,Y,fL dk,(),m,λi v C=>?_];by_cases z:i=d
     .subst z;exact g
     .exact xr g (w (lo+d) (lo+i) (n' ..) (BJ (zL v (dG z)) _) (BJ C _))
    .simp only[g,decide_false,Bool.false_eq_true,if_false];have ne:=K.apart y.perm (i:=lo+k) (j:=lo+d) () () ();refine cL #[zZ,d+1,q,zZ,O,t,(),λi v=>?_,p];by_cases z:i=d
     .subst z;exact Int.lt_iff_le_and_ne.mpr #[Int.not_lt.mp g,ne.symm]
     .exact Int.lt_of_lt_of_le (w (lo+i) (lo+d) (n' ..) (BJ (zL (Cf v) z) _) (BJ dk _)) (Int.not_lt.mp g)
  case ipost=>
   rintro c f ⟨rfl,l,q,rfl,L,m,p⟩;show wpS _ _ _ _ (do moveDown' (lo+k) (lo+l);pure (ForInStep.yield (none,Unit.unit))) _ _
   rw[moveDown'_eq];have G:lo+k<(arrOf f).size:=by lia
   refine cC (ou (cL #[zZ,y.set (bubble_perm _ _ _),H,J,o.trans λj hj=>?_,?_]))
   .show(bubble (arrOf f) (lo+k) (lo+k-(lo+l)))[j]?=_;rw[getElem?_bubble G _ (),Nat.sub_sub_self (y9 L lo),wA (),wA ()]
   .rw[show min (k+1) n=k+1 by lia];intro i j v C h3;show kx r (bubble (arrOf f) (lo+k) (lo+k-(lo+l))) i<kx r (bubble (arrOf f) (lo+k) (lo+k-(lo+l))) j
    rw[IG G (),IG G (),Nat.sub_sub_self (y9 L lo)];have T:∀i,lo<=i->i<lo+l->kx r (arrOf f) i<kx r (arrOf f) (lo+k):=λi v C=>by
     have:=m (i-lo) ();rwa[show lo+(i-lo)=i by lia]at this
    have U:∀i,lo+l<=i->i<lo+k->kx r (arrOf f) (lo+k)<kx r (arrOf f) i:=λi v C=>by
     have:=p (i-lo) () ();rwa[show lo+(i-lo)=i by lia]at this
    repeat' split
    all_goals first
     |(exfalso;lia)
     |exact T _ () ()
     |exact U _ () ()
     |exact w _ _ () () ()
noncomputable def qg:Bool->Keyed->Array Keyed->Nat->Nat->Nat->StateT SortSt Sem (Option Nat):=sortPriv%PySem.Builtin.gallop
theorem Rk(left)(e)(g)(d n a):qg left e g d n a=(do
 let c (i:Nat):StateT SortSt Sem (Option Bool):=do
  let x <-elem' g (d+i)
  if left then lt' x e else return (<-lt' e x).map (!·)
 let mut lastofs:=0
 let mut ofs:=1
 let mut lo:=0
 let mut hi:=0
 let some right <-c a|return none
 if right then
  let b:=n-a
  for _ in[0:n] do
   if ofs>=b then break
   let some more <-c (a+ofs)|return none
   if !more then break
   lastofs:=ofs
   ofs:=2 * ofs+1
  lo:=a+lastofs+1
  hi:=a+min ofs b
 else
  let b:=a+1
  for _ in[0:n] do
   if ofs>=b then break
   let some f <-c (a-ofs)|return none
   if f then break
   lastofs:=ofs
   ofs:=2 * ofs+1
  lo:=a+1-min ofs b
  hi:=a-lastofs
 for _ in[0:n] do
  if lo>=hi then break
  let m:=lo+(hi-lo) /2
  let some more <-c m|return none
  if more then lo:=m+1 else hi:=m
 return some hi):=rfl
end
section
variable{E:VP}
theorem vv{st:SortSt}(K:Asks M A s b r a)(hk:kindOf st=b)(hz:d+n<=p.size)(mem:∀i,i<n->p.getD (d+i) d0∈a)(mk:t∈a)(ne:∀i,i<n->kx r p (d+i)≠r t)(up:Ris r p d (d+n)) (T:m<n) (q:∀k,k<=n->(∀i,i<k->kx r p (d+i)<r t)->(∀i,k<=i->i<n->r t<kx r p (d+i))->Q (some k) st):wpS M A E s (qg left t p d n m) Q st:=by
 rw[Rk];have G:∀(i:Nat) (Q:Option Bool->SortSt->Prop),i<n->Q (some (decide (kx r p (d+i)<r t))) st->wpS M A E s (do
   let x <-elem' p (d+i)
   if left then lt' x t else return (<-lt' t x).map (!·)) Q st:=λi Q w hQ=>by
  refine cC (gS () ?_);cases left with
  |true=>exact yA K hk (mem i w) mk hQ
  | false=>
   refine cC (yA K hk mk (mem i w) (cL ?_));have e:(!decide (r t<r (p.getD (d+i) d0)))=decide (kx r p (d+i)<r t):=by
    have:=ne i w;by_cases z:kx r p (d+i)<r t
    .rw[dF z,e8 (show ¬r t<r (p.getD (d+i) d0)from λy=>by have:=y;lia)];rfl
    .rw[e8 z,dF (show r t<r (p.getD (d+i) d0)from by show r t<kx r p (d+i);lia)];rfl
   show Q (some (!decide (r t<r (p.getD (d+i) d0)))) st;rw[e];exact hQ
 have Y:∀i j,i<=j->j<n->kx r p (d+j)<r t->kx r p (d+i)<r t:=λi j ij jn l=>by
  by_cases z:i=j
  .subst z;exact l
  .have:=up (d+i) (d+j) () () ();lia
 have L:∀i j,i<=j->j<n-> ¬kx r p (d+i)<r t->r t<kx r p (d+j):=λi j ij jn l=>by
  have n1:=ne i ();by_cases z:i=j
  .subst z;lia
  .have:=up (d+i) (d+j) () () ();lia
 have fin:∀(lo w:Nat) (u:SortSt) (f:Nat->Option (Option Nat)×Nat×Nat->StateT SortSt Sem (ForInStep (Option (Option Nat)×Nat×Nat))) (g:Option (Option Nat)×Nat×Nat->StateT SortSt Sem (Option Nat)),u=st->lo<=w->w<=n->(∀i,i<lo->kx r p (d+i)<r t)->(∀i,w<=i->i<n->r t<kx r p (d+i))->
   (∀x l h (R:ForInStep (Option (Option Nat)×Nat×Nat)->SortSt->Prop),l>=h->R (.done (none,l,h)) st->wpS M A E s (f x (none,l,h)) R st)->
   (∀x l h (R:ForInStep (Option (Option Nat)×Nat×Nat)->SortSt->Prop),l<h->h<=n->R (.yield (if kx r p (d+(l+(h-l) /2))<r t then(none,l+(h-l) /2+1,h)else(none,l,l+(h-l) /2))) st->wpS M A E s (f x (none,l,h)) R st)->
   (∀h,Q (some h) st->wpS M A E s (g (none,h,h)) Q st)->wpS M A E s (forIn [0:n] (none,lo,w) f >>= g) Q u:=λlo w u f g e lh hn dl du f1 f2 f3=>by
  subst e;refine cC (j3 (jm (I:=λx c v=>v=u/\∃l h,c=(none,l,h)/\l<=h/\h<=n/\h+x<=n+l/\(∀i,i<l->kx r p (d+i)<r t)/\∀i,h<=i->i<n->r t<kx r p (d+i))
   (Q:=λc v=>v=u/\∃h,c=(none,h,h)/\h<=n/\(∀i,i<h->kx r p (d+i)<r t)/\∀i,h<=i->i<n->r t<kx r p (d+i)) ?step ?stop #[zZ,lo,w,zZ,lh,hn,(),dl,du]) ?post)
  case step=>
   rintro x c v _ hx ⟨rfl,l,h,rfl,B,l2,l3,N,O⟩;by_cases z:l>=h
   .have:l=h:=by lia
    subst this;exact f1 x l l _ z #[zZ,l,zZ,l2,N,O]
   .refine f2 x l h _ () l2 ?_;by_cases c:kx r p (d+(l+(h-l) /2))<r t
    .rw[wB c];exact#[zZ,_,_,zZ,(),(),(),λi w=>Y i _ () () c,O]
    .rw[wA c];exact#[zZ,_,_,zZ,(),(),(),N,λi H J=>L _ i H J c]
  case stop=>
   rintro c v ⟨rfl,l,h,rfl,B,l2,l3,N,O⟩;have:l=h:=by lia
   subst this;exact#[zZ,l,zZ,l2,N,O]
  case post=>
   rintro c v ⟨rfl,h,rfl,J,N,O⟩;exact f3 h (q h J N O)
 refine cC (G m _ T ?_);by_cases U:kx r p (d+m)<r t
 .rw[dF U];dsimp only;rw[wB zZ];refine cC (j3 (jm (I:=λx c u=>u=st/\∃l o,c=(none,l,o)/\l<o/\x+1<=o/\l<n-m/\kx r p (d+(m+l))<r t)
   (Q:=λc u=>u=st/\∃l o,c=(none,l,o)/\l<o/\l<n-m/\kx r p (d+(m+l))<r t/\(o<n-m-> ¬kx r p (d+(m+o))<r t)) ?step ?stop #[zZ,0,1,zZ,(),(),(),U]) ?post)
  case step=>
   rintro x c u _ hx ⟨rfl,l,o,rfl,B,l2,l3,C⟩;dsimp only;by_cases z:o>=n-m
   .rw[wB z];exact cL #[zZ,l,o,zZ,B,l3,C,λy=>by lia]
   .rw[wA z];refine cC (G _ _ () ?_);by_cases c:kx r p (d+(m+o))<r t
    .rw[dF c];exact cL #[zZ,o,_,zZ,(),(),(),c]
    .rw[e8 c];exact cL #[zZ,l,o,zZ,B,l3,C,λ_=>c]
  case stop=>
   rintro c u ⟨rfl,l,o,rfl,B,l2,l3,C⟩;exact#[zZ,l,o,zZ,B,l3,C,λy=>by lia]
  case post=>
   rintro c u ⟨rfl,l,o,rfl,B,l3,C,l5⟩;dsimp only;refine fin (m+l+1) (m+min o (n-m)) _ _ _ zZ (y9 (Nat.le_min.mpr #[B,l3]) m) (dh (y9 (Nat.min_le_right ..) m) (ql (pi (fL T)))) (λi w=>Y i (m+l) (Cf w) (Nat.add_lt_of_lt_sub' l3) C) (λi H J=>by
    by_cases z:o<n-m
    .exact L (m+o) i (by rw[vy (fL z)]at H;exact H) J (l5 z)
    .rw[Nat.min_eq_right (Ak z),pi (fL T)]at H;exact wC J (Nat.not_lt.mpr H)) (λx l h R z D=>?_) (λx l h R z hn D=>?_) (λh hq=>cL hq)
   .dsimp only;rw[wB z];exact cL D
   .dsimp only;rw[wA ()];refine cC (G _ _ () ?_);by_cases c:kx r p (d+(l+(h-l) /2))<r t
    .rw[wB c]at D;rw[dF c];exact cL D
    .rw[wA c]at D;rw[e8 c];exact cL D
 .rw[e8 U];dsimp only;rw[wA (by decide)];refine cC (j3 (jm (I:=λx c u=>u=st/\∃l o,c=(none,l,o)/\l<o/\x+1<=o/\l<m+1/\ ¬kx r p (d+(m-l))<r t)
   (Q:=λc u=>u=st/\∃l o,c=(none,l,o)/\l<o/\l<m+1/\ ¬kx r p (d+(m-l))<r t/\(o<m+1->kx r p (d+(m-o))<r t)) ?step ?stop #[zZ,0,1,zZ,(),(),(),U]) ?post)
  case step=>
   rintro x c u _ hx ⟨rfl,l,o,rfl,B,l2,l3,C⟩;dsimp only;by_cases z:o>=m+1
   .rw[wB z];exact cL #[zZ,l,o,zZ,B,l3,C,λy=>by lia]
   .rw[wA z];refine cC (G _ _ () ?_);by_cases c:kx r p (d+(m-o))<r t
    .rw[dF c];exact cL #[zZ,l,o,zZ,B,l3,C,λ_=>c]
    .rw[e8 c];exact cL #[zZ,o,_,zZ,(),(),(),c]
  case stop=>
   rintro c u ⟨rfl,l,o,rfl,B,l2,l3,C⟩;exact#[zZ,l,o,zZ,B,l3,C,λy=>by lia]
  case post=>
   rintro c u ⟨rfl,l,o,rfl,B,l3,C,l5⟩;dsimp only;refine fin (m+1-min o (m+1)) (m-l) _ _ _ zZ (dh (Nat.sub_le_sub_left (Nat.le_min.mpr #[B,l3]) _) (ql (Nat.add_sub_add_right ..))) (dh (Nat.sub_le ..) (fL T)) (λi w=>by
    by_cases z:o<m+1
    .rw[vy (fL z),Nat.succ_sub (Cf z)]at w;exact Y i (m-o) (Cf w) (zi (Nat.sub_le ..) T) (l5 z)
    .rw[Nat.min_eq_right (Ak z),m9]at w;exact wC w (m7 _)) (λi H J=>L (m-l) i H J C) (λx l h R z D=>?_) (λx l h R z hn D=>?_) (λh hq=>cL hq)
   .dsimp only;rw[wB z];exact cL D
   .dsimp only;rw[wA ()];refine cC (G _ _ () ?_);by_cases c:kx r p (d+(l+(h-l) /2))<r t
    .rw[wB c]at D;rw[dF c];exact cL D
    .rw[wA c]at D;rw[e8 c];exact cL D
end
abbrev T5:Type:=Option (Array Keyed)×Array Keyed×Nat×Nat×Nat
abbrev T6:Type:=Option (Array Keyed)×Array Keyed×Nat×Nat×Nat×Nat
abbrev T7:Type:=Option (Array Keyed)×Array Keyed×Nat×Nat×Nat×Nat×Nat
noncomputable def El:Array Keyed->Array Keyed->StateT SortSt Sem (Array Keyed):=sortPriv%PySem.Builtin.mergeLo
noncomputable def ET:Array Keyed->Array Keyed->StateT SortSt Sem (Array Keyed):=sortPriv%PySem.Builtin.mergeHi
noncomputable def vd:Nat->StateT SortSt Sem Unit:=sortPriv%PySem.Builtin.setMinGallop
theorem Qn(g):vd g=modify λst=>SortSt.mk' (kindOf st) (arrOf st) (pendingOf st) g (failedOf st):=rfl
section
variable(a b:Array Keyed)
abbrev lO(c:Array Keyed)(d e:Nat):Array Keyed:=c++a.extract d a.size++b.extract e b.size
abbrev pB(c:Array Keyed)(d e:Nat):Array Keyed:=c++b.extract e b.size++a.extract d a.size
noncomputable def Eg(mg:Nat)(c:T6):StateT SortSt Sem (ForInStep T6):=do
 let some d <-lt' (<-elem' b c.2.2.2.1) (<-elem' a c.2.2.1)|pure (.done (some (lO a b c.2.1 c.2.2.1 c.2.2.2.1),c.2.1,c.2.2.1,c.2.2.2.1,c.2.2.2.2.1,c.2.2.2.2.2))
 if d then
  let x <-elem' b c.2.2.2.1
  if c.2.2.2.1+1==b.size then pure (.done (some (lO a b (c.2.1.push x) c.2.2.1 (c.2.2.2.1+1)),c.2.1.push x,c.2.2.1,c.2.2.2.1+1,0,c.2.2.2.2.2+1))
  else if c.2.2.2.2.2+1>=mg then pure (.done (none,c.2.1.push x,c.2.2.1,c.2.2.2.1+1,0,c.2.2.2.2.2+1))
  else pure (.yield (none,c.2.1.push x,c.2.2.1,c.2.2.2.1+1,0,c.2.2.2.2.2+1))
 else
  let x <-elem' a c.2.2.1
  if c.2.2.1+1+1==a.size then pure (.done (some (pB a b (c.2.1.push x) (c.2.2.1+1) c.2.2.2.1),c.2.1.push x,c.2.2.1+1,c.2.2.2.1,c.2.2.2.2.1+1,0))
  else if c.2.2.2.2.1+1>=mg then pure (.done (none,c.2.1.push x,c.2.2.1+1,c.2.2.2.1,c.2.2.2.2.1+1,0))
  else pure (.yield (none,c.2.1.push x,c.2.2.1+1,c.2.2.2.1,c.2.2.2.2.1+1,0))
noncomputable def pT(c:Array Keyed)(d e mg k f:Nat):StateT SortSt Sem (ForInStep T7):=do
 let x <-elem' a d
 if d+1+1==a.size then pure (.done (some (pB a b (c.push x) (d+1) e),c.push x,d+1,e,mg,k,f))
 else if k<7&&f<7 then pure (.done (none,c.push x,d+1,e,mg,k,f))
 else pure (.yield (none,c.push x,d+1,e,mg,k,f))
noncomputable def pH(d:Array Keyed)(f c mg k g:Nat):StateT SortSt Sem (ForInStep T7):=do
 let y <-elem' b c
 if c+1==b.size then pure (.done (some (lO a b (d.push y) f (c+1)),d.push y,f,c+1,mg,k,g))
 else do
  let some e <-qg true (<-elem' a f) b (c+1) (b.size-(c+1)) 0|pure (.done (some (lO a b (d.push y) f (c+1)),d.push y,f,c+1,mg,k,g))
  if e>0 then
   if c+1+e==b.size then pure (.done (some (lO a b (d.push y++b.extract (c+1) (c+1+e)) f (c+1+e)),d.push y++b.extract (c+1) (c+1+e),f,c+1+e,mg,k,e))
   else pT a b (d.push y++b.extract (c+1) (c+1+e)) f (c+1+e) mg k e
  else pT a b (d.push y) f (c+1) mg k e
noncomputable def pA(c:T7)(mg:Nat):StateT SortSt Sem (ForInStep T7):=do
 vd mg
 let some k <-qg false (<-elem' b c.2.2.2.1) a c.2.2.1 (a.size-c.2.2.1) 0|pure (.done (some (lO a b c.2.1 c.2.2.1 c.2.2.2.1),c.2.1,c.2.2.1,c.2.2.2.1,mg,c.2.2.2.2.2.1,c.2.2.2.2.2.2))
 if k>0 then
  if c.2.2.1+k+1==a.size then pure (.done (some (pB a b (c.2.1++a.extract c.2.2.1 (c.2.2.1+k)) (c.2.2.1+k) c.2.2.2.1),c.2.1++a.extract c.2.2.1 (c.2.2.1+k),c.2.2.1+k,c.2.2.2.1,mg,k,c.2.2.2.2.2.2))
  else if c.2.2.1+k==a.size then pure (.done (some (lO a b (c.2.1++a.extract c.2.2.1 (c.2.2.1+k)) (c.2.2.1+k) c.2.2.2.1),c.2.1++a.extract c.2.2.1 (c.2.2.1+k),c.2.2.1+k,c.2.2.2.1,mg,k,c.2.2.2.2.2.2))
  else pH a b (c.2.1++a.extract c.2.2.1 (c.2.2.1+k)) (c.2.2.1+k) c.2.2.2.1 mg k c.2.2.2.2.2.2
 else pH a b c.2.1 c.2.2.1 c.2.2.2.1 mg k c.2.2.2.2.2.2
noncomputable def CV(c:T7):StateT SortSt Sem (ForInStep T7):=if c.2.2.2.2.1>1 then pA a b c (c.2.2.2.2.1-1)else pA a b c c.2.2.2.2.1
noncomputable def Df(c:T5):StateT SortSt Sem (ForInStep T5):=do
 let d <-forIn [0:a.size+b.size] ((none,c.2.1,c.2.2.1,c.2.2.2.1,0,0):T6) λ_ d=>Eg a b c.2.2.2.2 d
 match d.1 with
 |some r=>pure (.done (some r,d.2.1,d.2.2.1,d.2.2.2.1,c.2.2.2.2))
 | none=>do
  rule "list.sort.gallop"
  let c2 <-forIn [0:a.size+b.size] ((none,d.2.1,d.2.2.1,d.2.2.2.1,c.2.2.2.2+1,d.2.2.2.2.1,d.2.2.2.2.2):T7) λ_ c2=>CV a b c2
  match c2.1 with
  |some r=>pure (.done (some r,c2.2.1,c2.2.2.1,c2.2.2.2.1,c2.2.2.2.2.1))
  |none=>do
   vd (c2.2.2.2.2.1+1)
   pure (.yield (none,c2.2.1,c2.2.2.1,c2.2.2.2.1,c2.2.2.2.2.1+1))
noncomputable def J1:StateT SortSt Sem (Array Keyed):=do
 rule "list.sort.merge-lo"
 let x <-elem' b 0
 if 1==b.size then pure (lO a b #v[x] 0 1)
 else if 0+1==a.size then pure (pB a b #v[x] 0 1)
 else do
  let st <-get
  let c <-forIn [0:a.size+b.size] ((none,#v[x],0,1,gallopOf st):T5) λ_ c=>Df a b c
  match c.1 with
  |some r=>pure r
  |none=>unsupported "internal:list.sort.merge-bound"
theorem O2:El a b=J1 a b:=by
 refine de (bind _) (funext λ_=>de (bind (elem' b 0)) (funext λx=>?_));refine vz zZ (λ_=>rfl) (λ_=>vz zZ (λ_=>rfl) (λ_=>?_));refine de (bind get) (funext λst=>congr (de bind (de (forIn [0:a.size+b.size] _) (funext λu=>funext λc=>?_))) (funext λc=>?_))
 .refine congr (de bind (de (forIn [0:a.size+b.size] _) (funext λu=>funext λd=>rfl))) (funext λd=>?_);obtain⟨e,f,g,h,i,j⟩:=d;cases e with
  |some e=>rfl
  | none=>
   refine de (bind _) (funext λ_=>congr (de bind (de (forIn [0:a.size+b.size] _) (funext λu=>funext λc2=>?_))) (funext λc2=>?_))
   .refine vz zZ (λ_=>?_) (λ_=>?_)
    .rfl
    .rfl
   .obtain⟨k,_⟩:=c2;cases k<;>rfl
 .obtain⟨r,_⟩:=c;cases r<;>rfl
end
abbrev Up(r:Keyed->Int)(l:List Keyed):Prop:=l.Pairwise λx y=>r x<r y
structure Mg(r:Keyed->Int)(la lb out:List Keyed)(ia ib:Nat):Prop where
 perm:(out++la.drop ia++lb.drop ib).Perm (la++lb)
 so:Up r out
 oa:∀x∈out,∀y∈la.drop ia,r x<r y
 ob:∀x∈out,∀y∈lb.drop ib,r x<r y
theorem BU(h:Up r l)(i):Up r (l.drop i):=pK (List.drop_sublist i l) h
theorem Hq(h:Up r l)(i k):Up r ((l.drop i).take k)/\∀x∈(l.drop i).take k,∀y∈l.drop (i+k),r x<r y:=by
 have z:=BU h i;rw[<-oz k (l.drop i)]at z;obtain⟨b,_,a⟩:=iS.mp z;rw[List.drop_drop]at a;exact#[b,a]
theorem Mg.len(m:Mg r a b out c d)(e:c<=a.length)(f:d<=b.length):out.length+(a.length-c)+(b.length-d)=a.length+b.length:=by
 have z:=m.perm.length_eq;rw[di,di,di,yQ,yQ]at z;exact z
theorem Mg.moveA(m:Mg r a b out c d)(i:Up r a)(k)(h:∀x∈(a.drop c).take k,∀y∈b.drop d,r x<r y):Mg r a b (out++(a.drop c).take k) (c+k) d:=by
 obtain⟨j,l⟩:=Hq i c k;have e:(a.drop c).take k++a.drop (c+k)=a.drop c:=by rw[<-List.drop_drop];exact oz k _
 have sub:∀y∈a.drop (c+k),y∈a.drop c:=λy f=>by rw[<-e];exact cW.mpr (.inr f)
 refine#[?_,iS.mpr #[m.so,j,λx g y f=>m.oa x g y (wZ f)],λx g y f=>?_,λx g y f=>?_]
 .have z:=m.perm;rw[<-e,<-fu]at z;exact z
 .rcases cW.mp g with z|z
  .exact m.oa x z y (sub y f)
  .exact l x z y f
 .rcases cW.mp g with z|z
  .exact m.ob x z y f
  .exact h x z y f
theorem Mg.moveB(m:Mg r a b out c d)(i:Up r b)(k)(h:∀x∈(b.drop d).take k,∀y∈a.drop c,r x<r y):Mg r a b (out++(b.drop d).take k) c (d+k):=by
 obtain⟨j,l⟩:=Hq i d k;have e:(b.drop d).take k++b.drop (d+k)=b.drop d:=by rw[<-List.drop_drop];exact oz k _
 have sub:∀y∈b.drop (d+k),y∈b.drop d:=λy f=>by rw[<-e];exact cW.mpr (.inr f)
 refine#[?_,iS.mpr #[m.so,j,λx g y f=>m.ob x g y (wZ f)],λx g y f=>?_,λx g y f=>?_]
 .have z:=m.perm;rw[<-e]at z;refine List.Perm.trans ?_ z;rw[fu,fu,fu];refine yL _ ?_;rw[<-fu,<-fu];exact Ag _ AJ
 .rcases cW.mp g with z|z
  .exact m.oa x z y f
  .exact h x z y f
 .rcases cW.mp g with z|z
  .exact m.ob x z y (sub y f)
  .exact l x z y f
def gm(r:Keyed->Int)(a b out:List Keyed):Prop:=out.Perm (a++b)/\Up r out
theorem Mg.endB(m:Mg r a b out c d)(e:Up r a)(h:b.length<=d):gm r a b (out++a.drop c++b.drop d):=by
 refine#[m.perm,?_];rw[List.drop_of_length_le h,hA];exact iS.mpr #[m.so,BU e c,m.oa]
theorem Mg.endA(m:Mg r a b out c d)(e:Up r b)(h:a.length<=c):gm r a b (out++a.drop c++b.drop d):=by
 refine#[m.perm,?_];rw[List.drop_of_length_le h,hA];exact iS.mpr #[m.so,BU e d,m.ob]
theorem Mg.last(m:Mg r a b out c d)(f:Up r b)(h:c+1=a.length)(top:∀y∈b,∀x∈a.drop c,r y<r x):gm r a b (out++b.drop d++a.drop c):=by
 refine#[List.Perm.trans ?_ m.perm,?_]
 .rw[fu,fu];exact yL _ AJ
 .obtain⟨x,g⟩:∃x,a.drop c=[x]:=List.length_eq_one_iff.mp (by rw[yQ];lia);refine iS.mpr #[iS.mpr #[m.so,BU f d,m.ob],by rw[g];exact pS _ _,λy i x e=>?_]
  rcases cW.mp i with z|z
  .exact m.oa y z x e
  .exact top y (Fh z) x e
structure Eqv(st st':SortSt):Prop where
 kind:kindOf st'=kindOf st
 arr:arrOf st'=arrOf st
 pend:pendingOf st'=pendingOf st
 ok:failedOf st'=failedOf st
theorem Eqv.refl(st):Eqv st st:=#[zZ,zZ,zZ,zZ]
theorem Eqv.trans(h:Eqv a b)(d:Eqv b c):Eqv a c:=#[d.kind.trans h.kind,d.arr.trans h.arr,d.pend.trans h.pend,d.ok.trans h.ok]
section
variable{A:Ar}{E:VP}{s:Sh}{r:Keyed->Int}{a₀ a b out:Array Keyed}
theorem A0{st:SortSt}(h:∀a,Eqv st a->Q ⟨⟩ a):wpS M A E s (vd g) Q st:=by
 rw[Qn];exact ou (h _ #[zZ,zZ,zZ,zZ])
theorem A7(a:Array Keyed)(i):(a.extract i a.size).toList=a.toList.drop i:=by
 rw[Bw,Cb,BG (by rw[yQ,dR];exact cg _)]
theorem Gz(a:Array Keyed)(i k):(a.extract i (i+k)).toList=(a.toList.drop i).take k:=by
 rw[Bw,Cb,zz]
theorem xL:(lO a b out ia ib).toList=out.toList++a.toList.drop ia++b.toList.drop ib:=by
 rw[mL,mL,A7,A7]
theorem Cr:(pB a b out ia ib).toList=out.toList++b.toList.drop ib++a.toList.drop ia:=by
 rw[mL,mL,A7,A7]
theorem Ei(h:i<a.size):a.toList.drop i=a.getD i d0::a.toList.drop (i+1):=by
 have z:=qc h;rw[<-lY]at z;obtain⟨b,c⟩:=cf.mp z;rw[Bz b,c]
theorem Bc(h:x∈a.toList.drop i):∃j,i<=j/\j<a.size/\a.getD j d0=x:=by
 obtain⟨j,b⟩:=rc h;rw[zy,lY]at b;exact#[i+j,(),(oP.mp b).1,cR b]
theorem E4(h:x∈(a.toList.drop i).take k):∃j,j<k/\i+j<a.size/\a.getD (i+j) d0=x:=by
 obtain⟨j,b⟩:=rc h;rw[Cs]at b;split at b
 .next l=>
  rw[zy,lY]at b;exact#[j,l,(oP.mp b).1,cR b]
 .cases b
theorem wj{lo b:Nat}(h:Up r a.toList)(m:b<=a.size):Ris r a lo b:=λi j _ c n=>by
 have e:∀k,k<a.size->a.toList[k]?=some (a.getD k d0):=λk d=>by rw[lY];exact qc d
 obtain⟨f,g⟩:=cf.mp (e i ());obtain⟨l2,l⟩:=cf.mp (e j ());have z:=oM.mp h i j f l2 c;rw[g,l]at z;exact z
theorem iB(h:i<a.size):a.getD i d0∈a.toList:=by
 rw[DZ];exact FQ (qc h)
structure Two(κ:SortKind)(r:Keyed->Int)(a₀ a b:Array Keyed):Prop where
 ma:∀x∈a.toList,x∈a₀
 mb:∀x∈b.toList,x∈a₀
 sa:Up r a.toList
 sb:Up r b.toList
 ap:∀x∈a.toList,∀y∈b.toList,r x≠r y
 a1:0<a.size
 b1:0<b.size
 lo:∀x∈a.toList,r (b.getD 0 d0)<r x
 top:∀y∈b.toList,r y<r (a.getD (a.size-1) d0)
abbrev Gd(r:Keyed->Int)(a b m:Array Keyed):Prop:=gm r a.toList b.toList m.toList
theorem Two.tops(t:Two κ r a₀ a b)(h:i+1=a.size):∀y∈b.toList,∀x∈a.toList.drop i,r y<r x:=λy c x d=>by
 obtain⟨j,f,g,rfl⟩:=Bc d;have e:j=a.size-1:=by lia
 subst e;exact t.top y c
theorem BQ:(out.push x).toList=out.toList++[x]:=vh
theorem HK(t:Two κ r a₀ a b)(m:Mg r a.toList b.toList out.toList ia ib)(c:ia<a.size)(h:∀y∈b.toList.drop ib,r (a.getD ia d0)<r y):Mg r a.toList b.toList (out.push (a.getD ia d0)).toList (ia+1) ib:=by
 have e:(a.toList.drop ia).take 1=[a.getD ia d0]:=by rw[Ei c];rfl
 have z:=m.moveA t.sa 1 (by rw[e];intro x d;rw[cJ.mp d];exact h);rw[e]at z;rw[BQ];exact z
theorem FK(t:Two κ r a₀ a b)(m:Mg r a.toList b.toList out.toList ia ib)(c:ib<b.size)(h:∀y∈a.toList.drop ia,r (b.getD ib d0)<r y):Mg r a.toList b.toList (out.push (b.getD ib d0)).toList ia (ib+1):=by
 have e:(b.toList.drop ib).take 1=[b.getD ib d0]:=by rw[Ei c];rfl
 have z:=m.moveB t.sb 1 (by rw[e];intro x d;rw[cJ.mp d];exact h);rw[e]at z;rw[BQ];exact z
theorem below(b:Up r a.toList)(f:i<a.size)(h:x<r (a.getD i d0)):∀y∈a.toList.drop i,x<r y:=λy c=>by
 obtain⟨j,g,d,rfl⟩:=Bc c;by_cases e:j=i
 .subst e;exact h
 .have:=wj b (cg _) i j (iE _) () d;have:=h;lia
theorem Q4{c:T6}{st:SortSt}(K:Asks M A s κ r a₀)(T:Two κ r a₀ a b)(n:Eqv e st)(o:kindOf e=κ)(p:c=(none,out,ia,ib,c.2.2.2.2.1,c.2.2.2.2.2))(m:Mg r a.toList b.toList out.toList ia ib)(q:ia+1<a.size)(d:ib<b.size)(B:old+t<=out.size)(k:∀w rest,Gd r a b w->Q (.done (some w,rest)) st) (l:∀out ia ib x y,Mg r a.toList b.toList out.toList ia ib->ia+1<a.size->ib<b.size->old+t+1<=out.size->Q (.done (none,out,ia,ib,x,y)) st/\Q (.yield (none,out,ia,ib,x,y)) st):wpS M A E s (Eg a b mg c) Q st:=by
 have h:=n.kind.trans o;rw[p];have u:=T.ma _ (iB (show ia<a.size by lia));have v:=T.mb _ (iB d);refine cC (gS d (cC (gS () (cC (yA K h v u ?_)))));by_cases w:r (b.getD ib d0)<r (a.getD ia d0)
 .rw[dF w];refine cC (gS d ?_);have f:=FK T m d (below T.sa () w);by_cases z:ib+1=b.size
  .rw[wB (by simpa using z)];refine cL (k _ _ ?_);show gm r _ _ (lO a b _ _ _).toList
   rw[xL];exact f.endB T.sa (by rw[dR];lia)
  .rw[wA (by simpa using z)];obtain⟨i,j⟩:=l _ _ _ 0 (c.2.2.2.2.2+1) f q () (by rw[pE];lia);by_cases g:c.2.2.2.2.2+1>=mg
   .rw[wB g];exact cL i
   .rw[wA g];exact cL j
 .rw[e8 w];refine cC (gS () ?_);have C:=T.ap _ (iB (show ia<a.size by lia)) _ (iB d);have f:=HK T m () (below T.sb d ());by_cases z:ia+1+1=a.size
  .rw[wB (by simpa using z)];refine cL (k _ _ ?_);show gm r _ _ (pB a b _ _ _).toList
   rw[Cr];exact f.last T.sb (by rw[dR];lia) (T.tops ())
  .rw[wA (by simpa using z)];obtain⟨i,j⟩:=l _ _ _ (c.2.2.2.2.1+1) 0 f () d (by rw[pE];lia);by_cases g:c.2.2.2.2.1+1>=mg
   .rw[wB g];exact cL i
   .rw[wA g];exact cL j
end
section
variable{A:Ar}{E:VP}{s:Sh}
structure Rnd(r:Keyed->Int)(a b:Array Keyed)(st0:SortSt)(old:Nat)(Q:ForInStep T7->SortSt->Prop):Prop where
 q1:∀st w rest,Eqv st0 st->Gd r a b w->Q (.done (some w,rest)) st
 q2:∀st (out:Array Keyed) ia ib x y z,Eqv st0 st->Mg r a.toList b.toList out.toList ia ib->ia+1<a.size->ib<b.size->old<=out.size->Q (.done (none,out,ia,ib,x,y,z)) st/\Q (.yield (none,out,ia,ib,x,y,z)) st
theorem GQ{c st:SortSt}(T:Two κ r a₀ a b)(e:Eqv c st)(m:Mg r a.toList b.toList out.toList ia ib)(l:ia+1<a.size)(h:ib<b.size)(n:old<=out.size)(lt:∀y∈b.toList.drop ib,r (a.getD ia d0)<r y)(q:Rnd r a b c old Q):wpS M A E s (pT a b out ia ib mg k d) Q st:=by
 refine cC (gS () ?_);have f:=HK T m () lt;by_cases z:ia+1+1=a.size
 .rw[wB (by simpa using z)];refine cL (q.q1 _ _ _ e ?_);show gm r _ _ (pB a b _ _ _).toList;rw[Cr];exact f.last T.sb (by rw[dR];lia) (T.tops ())
 .rw[wA (by simpa using z)];obtain⟨i,j⟩:=q.q2 st _ _ _ mg k d e f () h (by rw[pE];lia);by_cases g:(decide (k<7)&&decide (d<7))=true
  .rw[wB g];exact cL i
  .rw[wA g];exact cL j
theorem Je{c st:SortSt}(K:Asks M A s κ r a₀)(J:kindOf c=κ)(T:Two κ r a₀ a b)(f:Eqv c st)(m:Mg r a.toList b.toList out.toList ia ib)(w:ia+1<a.size)(B:ib<b.size)(O:old<=out.size)(lt:∀y∈a.toList.drop ia,r (b.getD ib d0)<r y)(q:Rnd r a b c old Q):wpS M A E s (pH a b out ia ib mg k I) Q st:=by
 have p:=f.kind.trans J;refine cC (gS B ?_);have o:=FK T m B lt;have h:old<=(out.push (b.getD ib d0)).size:=by rw[pE];lia
 generalize out.push (b.getD ib d0)=l at o h;by_cases z:ib+1=b.size
 .rw[wB (by simpa using z)];refine cL (q.q1 _ _ _ f ?_);show gm r _ _ (lO a b _ _ _).toList;rw[xL];exact o.endB T.sa (by rw[dR];lia)
 rw[wA (by simpa using z)];have C:=iB (show ia<a.size by lia);refine cC (gS () (cC (vv K p () (λi L=>T.mb _ (iB ())) (T.ma _ C) (λi L=>(T.ap _ C _ (iB (show ib+1+i<b.size by lia))).symm) (wj T.sb ()) () λd U k2 k3=>?_)));dsimp only;have D:∀y∈b.toList.drop (ib+1+d),r (a.getD ia d0)<r y:=λy t=>by
  obtain⟨j,n,G,rfl⟩:=Bc t;have:=k3 (j-(ib+1)) (Fj (Nat.add_comm .. ▸n)) (Nat.sub_lt_sub_right (dh (n' ..) n) G);rw[pi (dh (n' ..) n)]at this;exact this
 by_cases g:d>0
 .rw[wB g];have u:=o.moveB T.sb d (λx N y t=>by
   obtain⟨j,n,G,rfl⟩:=E4 N;exact below T.sa () (k2 j n) y t)
  rw[<-Gz,<-mL]at u;have v:old<=(l++b.extract (ib+1) (ib+1+d)).size:=by rw[Ab];lia
  by_cases H:ib+1+d=b.size
  .rw[wB (by simpa using H)];refine cL (q.q1 _ _ _ f ?_);show gm r _ _ (lO a b _ _ _).toList
   rw[xL];exact u.endB T.sa (by rw[dR];lia)
  .rw[wA (by simpa using H)];exact GQ T f u w () v D q
 .rw[wA g];have e:=Nat.eq_zero_of_not_pos g;subst e;exact GQ T f o w () h D q
theorem Jj{d st:SortSt}(K:Asks M A s κ r a₀)(o:kindOf d=κ)(T:Two κ r a₀ a b)(D:Eqv d st)(G:c.2.1=out/\c.2.2.1=ia/\c.2.2.2.1=ib)(m:Mg r a.toList b.toList out.toList ia ib)(H:ia+1<a.size)(f:ib<b.size)(I:old<=out.size)(q:Rnd r a b d old Q):wpS M A E s (pA a b c mg) Q st:=by
 obtain⟨J,L,N⟩:=G;unfold pA;rw[J,L,N];refine cC (A0 λO U=>?_);have h:=D.trans U;have p:=h.kind.trans o;have v:=iB f;refine cC (gS f (cC (vv K p () (λi Y=>T.ma _ (iB ())) (T.mb _ v) (λi Y=>T.ap _ (iB (show ia+i<a.size by lia)) _ v) (wj T.sa ()) () λk kn k2 k3=>?_)));dsimp only;have w:∀y∈a.toList.drop (ia+k),r (b.getD ib d0)<r y:=λy t=>by
  obtain⟨j,l,z,rfl⟩:=Bc t;have:=k3 (j-ia) (Fj (Nat.add_comm .. ▸l)) (Nat.sub_lt_sub_right (dh (n' ..) l) z);rw[pi (dh (n' ..) l)]at this;exact this
 by_cases g:k>0
 .rw[wB g];have n:=m.moveA T.sa k (λx hx y t=>by
   obtain⟨j,l,z,rfl⟩:=E4 hx;exact below T.sb f (k2 j l) y t)
  rw[<-Gz,<-mL]at n;have u:old<=(out++a.extract ia (ia+k)).size:=by rw[Ab];lia
  by_cases B:ia+k+1=a.size
  .rw[wB (by simpa using B)];refine cL (q.q1 _ _ _ h ?_);show gm r _ _ (pB a b _ _ _).toList
   rw[Cr];exact n.last T.sb (by rw[dR];lia) (T.tops ())
  rw[wA (by simpa using B)];by_cases C:ia+k=a.size
  .rw[wB (by simpa using C)];refine cL (q.q1 _ _ _ h ?_);show gm r _ _ (lO a b _ _ _).toList
   rw[xL];exact n.endA T.sb (by rw[dR];lia)
  rw[wA (by simpa using C)];exact Je K o T h n () f u w q
 .rw[wA g];have e:=Nat.eq_zero_of_not_pos g;subst e;exact Je K o T h m H f I w q
theorem Pf{d st:SortSt}(K:Asks M A s κ r a₀)(e:kindOf d=κ)(T:Two κ r a₀ a b)(f:Eqv d st)(g:c.2.1=out/\c.2.2.1=ia/\c.2.2.2.1=ib)(m:Mg r a.toList b.toList out.toList ia ib)(h:ia+1<a.size)(i:ib<b.size)(j:old<=out.size)(q:Rnd r a b d old Q):wpS M A E s (CV a b c) Q st:=by
 unfold CV;split
 .exact Jj K e T f g m h i j q
 .exact Jj K e T f g m h i j q
theorem N3{f st:SortSt}{c:T5}(K:Asks M A s κ r a₀)(hk:kindOf f=κ)(T:Two κ r a₀ a b)(e0:Eqv f st)(ec:c=(none,out,ia,ib,mg))(m:Mg r a.toList b.toList out.toList ia ib)(ha:ia+1<a.size)(hb:ib<b.size)(q1:∀st w rest,Eqv f st->Gd r a b w->Q (.done (some w,rest)) st) (q2:∀st k ia ib g,Eqv f st->Mg r a.toList b.toList k.toList ia ib->ia+1<a.size->ib<b.size->out.size+1<=k.size->Q (.yield (none,k,ia,ib,g)) st):wpS M A E s (Df a b c) Q st:=by
 subst ec;unfold Df;have aa:0<a.size+b.size:=by lia
 refine cC (j3 (jm (I:=λx q d=>Eqv f d/\∃(o:Array Keyed) (i j u v:Nat),q=(none,o,i,j,u,v)/\Mg r a.toList b.toList o.toList i j/\i+1<a.size/\j<b.size/\out.size+x<=o.size)
  (Q:=λq d=>Eqv f d/\((∃w rest,q=(some w,rest)/\Gd r a b w)\/∃(o:Array Keyed) (i j u v:Nat),q=(none,o,i,j,u,v)/\Mg r a.toList b.toList o.toList i j/\i+1<a.size/\j<b.size/\out.size+1<=o.size)) ?step ?stop #[e0,out,ia,ib,0,0,zZ,m,ha,hb,cg _]) ?post)
 case step=>
  rintro x q d _ hx ⟨p,o,i,j,u,v,rfl,B,C,D,h3⟩;refine Q4 K T p hk zZ B C D h3 (λw rest g=>#[p,.inl #[w,rest,zZ,g]]) λG H J u' v' L l n y=>#[#[p,.inr #[G,H,J,u',v',zZ,L,l,n,()]],#[p,G,H,J,u',v',zZ,L,l,n,()]]
 case stop=>
  rintro q d ⟨p,o,i,j,u,v,rfl,B,C,D,h3⟩;exact#[p,.inr #[o,i,j,u,v,zZ,B,C,D,()]]
 case post=>
  rintro q d ⟨p,h⟩
  rcases h with⟨w,rest,rfl,g⟩|⟨o,i,j,u,v,rfl,B,C,D,h3⟩
  .exact cL (q1 _ _ _ p g)
  refine cC (td (pC #[zZ,?_]));refine cC (j3 (jm (I:=λx c2 d=>Eqv f d/\∃o i j u v w,c2=(none,o,i,j,u,v,w)/\Mg r a.toList b.toList o.toList i j/\i+1<a.size/\j<b.size/\out.size+1<=o.size)
   (Q:=λc2 d=>Eqv f d/\((∃w rest,c2=(some w,rest)/\Gd r a b w)\/∃o i j u v w,c2=(none,o,i,j,u,v,w)/\Mg r a.toList b.toList o.toList i j/\i+1<a.size/\j<b.size/\out.size+1<=o.size)) ?step2 ?stop2 #[p,o,i,j,mg+1,u,v,zZ,B,C,D,h3]) ?post2)
  case step2=>
   rintro x c2 N _ hx ⟨z,o,i,j,u,v,w,rfl,O,U,g2,Y⟩;exact Pf K hk T z #[zZ,zZ,zZ] O U g2 Y #[λst w rest e g=>#[e,.inl #[w,rest,zZ,g]],λst G H J x' y' z' e L l n y=>#[#[e,.inr #[G,H,J,x',y',z',zZ,L,l,n,y]],#[e,G,H,J,x',y',z',zZ,L,l,n,y]]]
  case stop2=>
   rintro c2 N ⟨z,o,i,j,u,v,w,rfl,O,U,g2,Y⟩;exact#[z,.inr #[o,i,j,u,v,w,zZ,O,U,g2,Y]]
  case post2=>
   rintro c2 N ⟨z,h⟩
   rcases h with⟨w,rest,rfl,g⟩|⟨o,i,j,u,v,w,rfl,O,U,g2,Y⟩
   .exact cL (q1 _ _ _ z g)
   .exact cC (A0 λab x3=>cL (q2 _ _ _ _ _ (z.trans x3) O U g2 Y))
theorem Nh{st:SortSt}(K:Asks M A s κ r a₀)(C:kindOf st=κ)(T:Two κ r a₀ a b)(q:∀m d,Eqv st d->Gd r a b m->Q m d):wpS M A E s (El a b) Q st:=by
 rw[O2];refine cC (td (pC #[zZ,cC (gS T.b1 ?_)]));have D:Mg r a.toList b.toList (#v[]:Array Keyed).toList 0 0:=#[by simp,List.Pairwise.nil,λx f=>(nomatch f),λx f=>(nomatch f)];have k:=FK T D T.b1 (λy G=>T.lo y G);have a1:=T.a1;have b1:=T.b1;by_cases t:1=b.size
 .rw[wB (by simpa using t)];refine cL (q _ _ (Eqv.refl _) ?_);show gm r _ _ (lO a b _ _ _).toList;rw[xL];exact k.endB T.sa (by rw[dR];lia)
 rw[wA (by simpa using t)];by_cases u:0+1=a.size
 .rw[wB (by simpa using u)];refine cL (q _ _ (Eqv.refl _) ?_);show gm r _ _ (pB a b _ _ _).toList;rw[Cr];exact k.last T.sb (by rw[dR];lia) (T.tops ())
 rw[wA (by simpa using u)];refine cC (mX (cC (j3 (jm (I:=λx c d=>Eqv st d/\∃o i j g,c=(none,o,i,j,g)/\Mg r a.toList b.toList o.toList i j/\i+1<a.size/\j<b.size/\x+1<=o.size)
  (Q:=λc d=>Eqv st d/\∃w rest,c=(some w,rest)/\Gd r a b w) ?step ?stop #[Eqv.refl _,_,0,1,_,zZ,k,(),(),cg _]) ?post)))
 case step=>
  rintro x c d _ f ⟨h,o,i,j,g,rfl,l,v,B,H⟩;exact N3 K C T h zZ l v B (λst w rest e g=>#[e,w,rest,zZ,g]) λd J L N O e U n p Y=>#[e,J,L,N,O,zZ,U,n,p,()]
 case stop=>
  rintro c d ⟨h,o,i,j,g,rfl,l,v,B,H⟩;have z:=l.len (by rw[dR];lia) (by rw[dR];lia);rw[dR,dR,dR]at z
  exfalso
  lia
 case post=>
  rintro c d ⟨h,w,rest,rfl,g⟩;exact cL (q _ _ h g)
end
abbrev U5:Type:=Option (Array Keyed)×Nat×Nat×Array Keyed×Nat
abbrev U6:Type:=Option (Array Keyed)×Nat×Nat×Array Keyed×Nat×Nat
abbrev U7:Type:=Option (Array Keyed)×Nat×Nat×Array Keyed×Nat×Nat×Nat
section
variable(a b:Array Keyed)
abbrev lN(c:Array Keyed)(d e:Nat):Array Keyed:=a.extract 0 d++b.extract 0 e++c.reverse
abbrev o0(c:Array Keyed)(d e:Nat):Array Keyed:=b.extract 0 e++a.extract 0 d++c.reverse
noncomputable def p0(mg:Nat)(c:U6):StateT SortSt Sem (ForInStep U6):=do
 let some d <-lt' (<-elem' b (c.2.2.1-1)) (<-elem' a (c.2.1-1))|pure (.done (some (lN a b c.2.2.2.1 c.2.1 c.2.2.1),c.2.1,c.2.2.1,c.2.2.2.1,c.2.2.2.2.1,c.2.2.2.2.2))
 if d then
  let x <-elem' a (c.2.1-1)
  if c.2.1-1==0 then pure (.done (some (lN a b (c.2.2.2.1.push x) (c.2.1-1) c.2.2.1),c.2.1-1,c.2.2.1,c.2.2.2.1.push x,c.2.2.2.2.1+1,0))
  else if c.2.2.2.2.1+1>=mg then pure (.done (none,c.2.1-1,c.2.2.1,c.2.2.2.1.push x,c.2.2.2.2.1+1,0))
  else pure (.yield (none,c.2.1-1,c.2.2.1,c.2.2.2.1.push x,c.2.2.2.2.1+1,0))
 else
  let x <-elem' b (c.2.2.1-1)
  if c.2.2.1-1==1 then pure (.done (some (o0 a b (c.2.2.2.1.push x) c.2.1 (c.2.2.1-1)),c.2.1,c.2.2.1-1,c.2.2.2.1.push x,0,c.2.2.2.2.2+1))
  else if c.2.2.2.2.2+1>=mg then pure (.done (none,c.2.1,c.2.2.1-1,c.2.2.2.1.push x,0,c.2.2.2.2.2+1))
  else pure (.yield (none,c.2.1,c.2.2.1-1,c.2.2.2.1.push x,0,c.2.2.2.2.2+1))
noncomputable def pF(d e:Nat)(c:Array Keyed)(mg k f:Nat):StateT SortSt Sem (ForInStep U7):=do
 let x <-elem' a (d-1)
 if d-1==0 then pure (.done (some (lN a b (c.push x) (d-1) e),d-1,e,c.push x,mg,k,f))
 else if k<7&&f<7 then pure (.done (none,d-1,e,c.push x,mg,k,f))
 else pure (.yield (none,d-1,e,c.push x,mg,k,f))
noncomputable def oZ(e d:Nat)(c:Array Keyed)(mg k f:Nat):StateT SortSt Sem (ForInStep U7):=do
 let y <-elem' b (d-1)
 if d-1==1 then pure (.done (some (o0 a b (c.push y) e (d-1)),e,d-1,c.push y,mg,k,f))
 else do
  let some t <-qg true (<-elem' a (e-1)) b 0 (d-1) (d-1-1)|pure (.done (some (lN a b (c.push y) e (d-1)),e,d-1,c.push y,mg,k,f))
  if d-1-t>0 then
   if t==1 then pure (.done (some (o0 a b (c.push y++(b.extract t (d-1)).reverse) e t),e,t,c.push y++(b.extract t (d-1)).reverse,mg,k,d-1-t))
   else if t==0 then pure (.done (some (lN a b (c.push y++(b.extract t (d-1)).reverse) e t),e,t,c.push y++(b.extract t (d-1)).reverse,mg,k,d-1-t))
   else pF a b e t (c.push y++(b.extract t (d-1)).reverse) mg k (d-1-t)
  else pF a b e (d-1) (c.push y) mg k (d-1-t)
noncomputable def pQ(c:U7)(mg:Nat):StateT SortSt Sem (ForInStep U7):=do
 vd mg
 let some t <-qg false (<-elem' b (c.2.2.1-1)) a 0 c.2.1 (c.2.1-1)|pure (.done (some (lN a b c.2.2.2.1 c.2.1 c.2.2.1),c.2.1,c.2.2.1,c.2.2.2.1,mg,c.2.2.2.2.2.1,c.2.2.2.2.2.2))
 if c.2.1-t>0 then
  if t==0 then pure (.done (some (lN a b (c.2.2.2.1++(a.extract t c.2.1).reverse) t c.2.2.1),t,c.2.2.1,c.2.2.2.1++(a.extract t c.2.1).reverse,mg,c.2.1-t,c.2.2.2.2.2.2))
  else oZ a b t c.2.2.1 (c.2.2.2.1++(a.extract t c.2.1).reverse) mg (c.2.1-t) c.2.2.2.2.2.2
 else oZ a b c.2.1 c.2.2.1 c.2.2.2.1 mg (c.2.1-t) c.2.2.2.2.2.2
noncomputable def xO(c:U7):StateT SortSt Sem (ForInStep U7):=if c.2.2.2.2.1>1 then pQ a b c (c.2.2.2.2.1-1)else pQ a b c c.2.2.2.2.1
noncomputable def Ew(c:U5):StateT SortSt Sem (ForInStep U5):=do
 let d <-forIn [0:a.size+b.size] ((none,c.2.1,c.2.2.1,c.2.2.2.1,0,0):U6) λ_ d=>p0 a b c.2.2.2.2 d
 match d.1 with
 |some r=>pure (.done (some r,d.2.1,d.2.2.1,d.2.2.2.1,c.2.2.2.2))
 | none=>do
  rule "list.sort.gallop"
  let c2 <-forIn [0:a.size+b.size] ((none,d.2.1,d.2.2.1,d.2.2.2.1,c.2.2.2.2+1,d.2.2.2.2.1,d.2.2.2.2.2):U7) λ_ c2=>xO a b c2
  match c2.1 with
  |some r=>pure (.done (some r,c2.2.1,c2.2.2.1,c2.2.2.2.1,c2.2.2.2.2.1))
  |none=>do
   vd (c2.2.2.2.2.1+1)
   pure (.yield (none,c2.2.1,c2.2.2.1,c2.2.2.2.1,c2.2.2.2.2.1+1))
noncomputable def Ir:StateT SortSt Sem (Array Keyed):=do
 rule "list.sort.merge-hi"
 let x <-elem' a (a.size-1)
 if a.size-1==0 then pure (lN a b #v[x] (a.size-1) b.size)
 else if b.size==1 then pure (o0 a b #v[x] (a.size-1) b.size)
 else do
  let st <-get
  let c <-forIn [0:a.size+b.size] ((none,a.size-1,b.size,#v[x],gallopOf st):U5) λ_ c=>Ew a b c
  match c.1 with
  |some r=>pure r
  |none=>unsupported "internal:list.sort.merge-bound"
theorem L6:ET a b=Ir a b:=by
 refine de (bind _) (funext λ_=>de (bind (elem' a (a.size-1))) (funext λx=>?_));refine vz zZ (λ_=>rfl) (λ_=>vz zZ (λ_=>rfl) (λ_=>?_));refine de (bind get) (funext λst=>congr (de bind (de (forIn [0:a.size+b.size] _) (funext λu=>funext λc=>?_))) (funext λc=>?_))
 .refine congr (de bind (de (forIn [0:a.size+b.size] _) (funext λu=>funext λd=>rfl))) (funext λd=>?_);obtain⟨e,f,g,h,i,j⟩:=d;cases e with
  |some e=>rfl
  | none=>
   refine de (bind _) (funext λ_=>congr (de bind (de (forIn [0:a.size+b.size] _) (funext λu=>funext λc2=>?_))) (funext λc2=>?_))
   .refine vz zZ (λ_=>?_) (λ_=>?_)
    .rfl
    .rfl
   .obtain⟨k,_⟩:=c2;cases k<;>rfl
 .obtain⟨r,_⟩:=c;cases r<;>rfl
end
structure Mh(r:Keyed->Int)(la lb out:List Keyed)(na nb:Nat):Prop where
 perm:(la.take na++lb.take nb++out.reverse).Perm (la++lb)
 so:Up r out.reverse
 ao:∀x∈la.take na,∀y∈out,r x<r y
 bo:∀x∈lb.take nb,∀y∈out,r x<r y
theorem Jg(h:Up r l)(ht:t<=n):l.take t++(l.take n).drop t=l.take n/\Up r ((l.take n).drop t)/\∀x∈l.take t,∀y∈(l.take n).drop t,r x<r y:=by
 have e:l.take t++(l.take n).drop t=l.take n:=by
  have z:=oz t (l.take n);rwa[List.take_take,vy ht]at z
 have z:=pK (wq n l) h;rw[<-e]at z;obtain⟨_,a,b⟩:=iS.mp z;exact#[e,a,b]
theorem Mh.len(m:Mh r a b out f d)(c:f<=a.length)(e:d<=b.length):f+d+out.length=a.length+b.length:=by
 have z:=m.perm.length_eq;rw[di,di,di,gk,gk,List.length_reverse]at z;lia
theorem Mh.moveA(m:Mh r a b out f d)(l:Up r a)(ht:t<=f)(h:∀x∈b.take d,∀y∈(a.take f).drop t,r x<r y):Mh r a b (out++((a.take f).drop t).reverse) t d:=by
 obtain⟨e,u,c⟩:=Jg l ht;have sub:∀x∈a.take t,x∈a.take f:=λx g=>by rw[<-e];exact cW.mpr (.inl g)
 have i:∀x∈(a.take f).drop t,x∈a.take f:=λx g=>Fh g;have k:(out++((a.take f).drop t).reverse).reverse=(a.take f).drop t++out.reverse:=by rw[List.reverse_append,List.reverse_reverse]
 refine#[?_,?_,λx g y j=>?_,λx g y j=>?_]
 .rw[k];refine List.Perm.trans ?_ m.perm
  conv=>rhs;rw[<-e]
  rw[fu,fu,fu];refine yL _ ?_;rw[<-fu,<-fu];exact Ag _ AJ
 .rw[k];exact iS.mpr #[u,m.so,λx g y j=>m.ao x (i x g) y (oi.mp j)]
 .rcases cW.mp j with z|z
  .exact m.ao x (sub x g) y z
  .exact c x g y (oi.mp z)
 .rcases cW.mp j with z|z
  .exact m.bo x g y z
  .exact h x g y (oi.mp z)
theorem Mh.moveB(m:Mh r a b out f d)(l:Up r b)(ht:t<=d)(h:∀x∈a.take f,∀y∈(b.take d).drop t,r x<r y):Mh r a b (out++((b.take d).drop t).reverse) f t:=by
 obtain⟨e,u,c⟩:=Jg l ht;have sub:∀x∈b.take t,x∈b.take d:=λx g=>by rw[<-e];exact cW.mpr (.inl g)
 have i:∀x∈(b.take d).drop t,x∈b.take d:=λx g=>Fh g;have k:(out++((b.take d).drop t).reverse).reverse=(b.take d).drop t++out.reverse:=by rw[List.reverse_append,List.reverse_reverse]
 refine#[?_,?_,λx g y j=>?_,λx g y j=>?_]
 .rw[k];refine List.Perm.trans ?_ m.perm
  conv=>rhs;rw[<-e]
  rw[fu,fu,fu]
 .rw[k];exact iS.mpr #[u,m.so,λx g y j=>m.bo x (i x g) y (oi.mp j)]
 .rcases cW.mp j with z|z
  .exact m.ao x g y z
  .exact h x g y (oi.mp z)
 .rcases cW.mp j with z|z
  .exact m.bo x (sub x g) y z
  .exact c x g y (oi.mp z)
theorem Mh.endA(m:Mh r a b out f d)(c:Up r b)(h:f=0):gm r a b (a.take f++b.take d++out.reverse):=by
 refine#[m.perm,?_];subst h;rw[List.take_zero,EW];exact iS.mpr #[pK (wq d b) c,m.so,λx e y g=>m.bo x e y (oi.mp g)]
theorem Mh.endB(m:Mh r a b out f d)(c:Up r a)(h:d=0):gm r a b (a.take f++b.take d++out.reverse):=by
 refine#[m.perm,?_];subst h;rw[List.take_zero,hA];exact iS.mpr #[pK (wq f a) c,m.so,λx e y g=>m.ao x e y (oi.mp g)]
theorem Mh.first(m:Mh r a b out f d)(g:Up r a)(h:Up r b)(bot:∀y∈b.take d,∀x∈a,r y<r x):gm r a b (b.take d++a.take f++out.reverse):=by
 refine#[List.Perm.trans (Ag _ AJ) m.perm,(iS.mpr #[iS.mpr #[pK (wq d b) h,pK (wq f a) g,λy c x e=>bot y c x (wZ e)],m.so,λx e y c=>?_])]
 rcases cW.mp e with z|z
 .exact m.bo x z y (oi.mp c)
 .exact m.ao x z y (oi.mp c)
section
variable{A:Ar}{E:VP}{s:Sh}{r:Keyed->Int}{a₀ a b out:Array Keyed}
theorem Bf(a:Array Keyed)(i):(a.extract 0 i).toList=a.toList.take i:=by
 rw[Bw,Cb,List.drop_zero,Nat.sub_zero]
theorem Cy(a:Array Keyed)(t n):(a.extract t n).toList=(a.toList.take n).drop t:=by
 rw[Bw,Cb,List.drop_take]
theorem ym:(lN a b out na nb).toList=a.toList.take na++b.toList.take nb++out.toList.reverse:=by
 rw[mL,mL,Bf,Bf,A8]
theorem Cg:(o0 a b out na nb).toList=b.toList.take nb++a.toList.take na++out.toList.reverse:=by
 rw[mL,mL,Bf,Bf,A8]
theorem Ce(h:x∈a.toList.take n):∃j,j<n/\j<a.size/\a.getD j d0=x:=by
 obtain⟨j,d,b,c⟩:=E4 (by rw[List.drop_zero];exact h);rw[pO]at b c;exact#[j,d,b,c]
theorem AT(h:x∈(a.toList.take n).drop t):∃j,t<=j/\j<n/\j<a.size/\a.getD j d0=x:=by
 obtain⟨j,b⟩:=rc h;rw[zy,Cs]at b;split at b
 .next l=>
  rw[lY]at b;exact#[t+j,(),l,(oP.mp b).1,cR b]
 .cases b
theorem zS(h:n<a.size):(a.toList.take (n+1)).drop n=[a.getD n d0]:=by
 rw[List.drop_take,Ei h,zz];rfl
theorem BO(b:Up r a.toList)(c:n<a.size)(h:r (a.getD n d0)<x):∀y∈a.toList.take (n+1),r y<x:=λy d=>by
 obtain⟨j,f,g,rfl⟩:=Ce d;by_cases e:j=n
 .subst e;exact h
 .have:=wj b (cg _) j n (iE _) () c;have:=h;lia
theorem CY(t:Two κ r a₀ a b)(m:Mh r a.toList b.toList out.toList (na+1) nb)(c:na<a.size)(h:∀y∈b.toList.take nb,r y<r (a.getD na d0)):Mh r a.toList b.toList (out.push (a.getD na d0)).toList na nb:=by
 have z:=m.moveA t.sa (re _) (by rw[zS c];intro x d y e;rw[cJ.mp e];exact h x d);rw[zS c]at z;rw[BQ];exact z
theorem Gx(t:Two κ r a₀ a b)(m:Mh r a.toList b.toList out.toList na (nb+1))(c:nb<b.size)(h:∀y∈a.toList.take na,r y<r (b.getD nb d0)):Mh r a.toList b.toList (out.push (b.getD nb d0)).toList na nb:=by
 have z:=m.moveB t.sb (re _) (by rw[zS c];intro x d y e;rw[cJ.mp e];exact h x d);rw[zS c]at z;rw[BQ];exact z
theorem Two.bot(t:Two κ r a₀ a b):∀y∈b.toList.take 1,∀x∈a.toList,r y<r x:=λy c x d=>by
 obtain⟨j,f,g,rfl⟩:=Ce c;have e:j=0:=by lia
 subst e;exact t.lo x d
theorem NY{c:U6}{st:SortSt}(K:Asks M A s κ r a₀)(T:Two κ r a₀ a b)(p:Eqv h st)(q:kindOf h=κ)(u:c=(none,na+1,nb+2,out,c.2.2.2.2.1,c.2.2.2.2.2))(m:Mh r a.toList b.toList out.toList (na+1) (nb+2))(d:na<a.size)(e:nb+1<b.size)(C:old+t<=out.size)(n:∀w rest,Gd r a b w->Q (.done (some w,rest)) st) (o:∀na nb out x y,Mh r a.toList b.toList out.toList (na+1) (nb+2)->na<a.size->nb+1<b.size->old+t+1<=out.size->Q (.done (none,na+1,nb+2,out,x,y)) st/\Q (.yield (none,na+1,nb+2,out,x,y)) st):wpS M A E s (p0 a b mg c) Q st:=by
 have j:=p.kind.trans q;unfold p0;rw[u];have v:=T.ma _ (iB d);have B:=T.mb _ (iB e);rw[show nb+2-1=nb+1 by lia,show na+1-1=na by lia];refine cC (gS e (cC (gS d (cC (yA K j B v ?_)))));by_cases w:r (b.getD (nb+1) d0)<r (a.getD na d0)
 .rw[dF w];refine cC (gS d ?_);have i:=CY T m d (BO T.sb e w);by_cases z:na=0
  .rw[wB (by simpa using z)];refine cL (n _ _ ?_);show gm r _ _ (lN a b _ _ _).toList
   rw[ym];exact i.endA T.sb z
  .rw[wA (by simpa using z)];obtain⟨f,rfl⟩:∃f,na=f+1:=qi (by first|assumption|lia);obtain⟨k,l⟩:=o f nb _ (c.2.2.2.2.1+1) 0 i () e (by rw[pE];lia);by_cases g:c.2.2.2.2.1+1>=mg
   .rw[wB g];exact cL k
   .rw[wA g];exact cL l
 .rw[e8 w];refine cC (gS e ?_);have D:=T.ap _ (iB d) _ (iB e);have i:=Gx T m e (BO T.sa d ());by_cases z:nb+1=1
  .rw[wB (by simpa using z)];refine cL (n _ _ ?_);show gm r _ _ (o0 a b _ _ _).toList
   rw[Cg];exact i.first T.sa T.sb (by rw[z];exact T.bot)
  .rw[wA (by simpa using z)];obtain⟨f,rfl⟩:∃f,nb=f+1:=qi (by first|assumption|lia);obtain⟨k,l⟩:=o na f _ 0 (c.2.2.2.2.2+1) i d () (by rw[pE];lia);by_cases g:c.2.2.2.2.2+1>=mg
   .rw[wB g];exact cL k
   .rw[wA g];exact cL l
structure RndH(r:Keyed->Int)(a b:Array Keyed)(st0:SortSt)(old:Nat)(Q:ForInStep U7->SortSt->Prop):Prop where
 q1:∀st w rest,Eqv st0 st->Gd r a b w->Q (.done (some w,rest)) st
 q2:∀st na nb (out:Array Keyed) x y z,Eqv st0 st->Mh r a.toList b.toList out.toList (na+1) (nb+2)->na<a.size->nb+1<b.size->old<=out.size->Q (.done (none,na+1,nb+2,out,x,y,z)) st/\Q (.yield (none,na+1,nb+2,out,x,y,z)) st
theorem GR{c st:SortSt}(T:Two κ r a₀ a b)(f:Eqv c st)(m:Mh r a.toList b.toList out.toList (na+1) (nb+2))(h:na<a.size)(j:nb+1<b.size)(o:old<=out.size)(lt:∀y∈b.toList.take (nb+2),r y<r (a.getD na d0))(q:RndH r a b c old Q):wpS M A E s (pF a b (na+1) (nb+2) out mg k d) Q st:=by
 unfold pF;rw[show na+1-1=na by lia];refine cC (gS h ?_);have i:=CY T m h lt;by_cases z:na=0
 .rw[wB (by simpa using z)];refine cL (q.q1 _ _ _ f ?_);show gm r _ _ (lN a b _ _ _).toList;rw[ym];exact i.endA T.sb z
 .rw[wA (by simpa using z)];obtain⟨e,rfl⟩:∃e,na=e+1:=qi (by first|assumption|lia);obtain⟨l,n⟩:=q.q2 st e nb _ mg k d f i () j (by rw[pE];lia);by_cases g:(decide (k<7)&&decide (d<7))=true
  .rw[wB g];exact cL l
  .rw[wA g];exact cL n
theorem G7{c st:SortSt}(K:Asks M A s κ r a₀)(L:kindOf c=κ)(T:Two κ r a₀ a b)(d:Eqv c st)(m:Mh r a.toList b.toList out.toList (na+1) (nb+2))(f:na<a.size)(G:nb+1<b.size)(Y:old<=out.size)(lt:∀y∈a.toList.take (na+1),r y<r (b.getD (nb+1) d0))(q:RndH r a b c old Q):wpS M A E s (oZ a b (na+1) (nb+2) out mg k J) Q st:=by
 have u:=d.kind.trans L;unfold oZ;rw[show nb+2-1=nb+1 by lia,show na+1-1=na by lia];refine cC (gS G ?_);have o:=Gx T m G lt;have h:old<=(out.push (b.getD (nb+1) d0)).size:=by rw[pE];lia
 generalize out.push (b.getD (nb+1) d0)=l at o h;by_cases z:nb+1=1
 .rw[wB (by simpa using z)];refine cL (q.q1 _ _ _ d ?_);show gm r _ _ (o0 a b _ _ _).toList;rw[Cg];exact o.first T.sa T.sb (by rw[z];exact T.bot)
 rw[wA (by simpa using z)];have H:=iB f;refine cC (gS f (cC (vv K u () (λi N=>T.mb _ (iB ())) (T.ma _ H) (λi N=>(T.ap _ H _ (iB (show 0+i<b.size by lia))).symm) (wj T.sb ()) () λt kn k2 k3=>?_)));dsimp only;have I:∀y∈b.toList.take t,r y<r (a.getD na d0):=λy v=>by
  obtain⟨j,w,O,rfl⟩:=Ce v;have:=k2 j w;rw[pO]at this;exact this
 by_cases g:nb+1-t>0
 .rw[wB g];have p:=o.moveB T.sb (t:=t) () (λx U y v=>by
   obtain⟨j,w,O,h3,rfl⟩:=AT v;have:=k3 j w ()
   rw[pO]at this;exact BO T.sa f this x U)
  rw[<-Cy,<-A8,<-mL]at p;have B:old<=(l++(b.extract t (nb+1)).reverse).size:=by rw[Ab];lia
  by_cases C:t=1
  .rw[wB (by simpa using C)];refine cL (q.q1 _ _ _ d ?_);show gm r _ _ (o0 a b _ _ _).toList
   rw[Cg];exact p.first T.sa T.sb (by rw[C];exact T.bot)
  rw[wA (by simpa using C)];by_cases D:t=0
  .rw[wB (by simpa using D)];refine cL (q.q1 _ _ _ d ?_);show gm r _ _ (lN a b _ _ _).toList
   rw[ym];exact p.endB T.sa D
  rw[wA (by simpa using D)];obtain⟨n,rfl⟩:∃n,t=n+2:=#[t-2,()];exact GR T d p f () B I q
 .rw[wA g];have e:t=nb+1:=by lia
  obtain⟨n,rfl⟩:∃n,nb=n+1:=qi (by first|assumption|lia);subst e;exact GR T d o f () h I q
theorem JR{d st:SortSt}(K:Asks M A s κ r a₀)(k:kindOf d=κ)(T:Two κ r a₀ a b)(C:Eqv d st)(D:c.2.1=na+1/\c.2.2.1=nb+2/\c.2.2.2.1=out)(m:Mh r a.toList b.toList out.toList (na+1) (nb+2))(G:na<a.size)(f:nb+1<b.size)(H:old<=out.size)(q:RndH r a b d old Q):wpS M A E s (pQ a b c mg) Q st:=by
 obtain⟨I,J,L⟩:=D;unfold pQ;rw[I,J,L];rw[show nb+2-1=nb+1 by lia,show na+1-1=na by lia];refine cC (A0 λN O=>?_);have h:=C.trans O;have l:=h.kind.trans k;have w:=iB f;refine cC (gS f (cC (vv K l () (λi U=>T.ma _ (iB ())) (T.mb _ w) (λi U=>T.ap _ (iB (show 0+i<a.size by lia)) _ w) (wj T.sa ()) () λt kn k2 k3=>?_)));dsimp only;have z:∀y∈a.toList.take t,r y<r (b.getD (nb+1) d0):=λy n=>by
  obtain⟨j,o,Y,rfl⟩:=Ce n;have:=k2 j o;rw[pO]at this;exact this
 by_cases g:na+1-t>0
 .rw[wB g];have p:=m.moveA T.sa (t:=t) () (λx hx y n=>by
   obtain⟨j,o,Y,h3,rfl⟩:=AT n;have:=k3 j o ()
   rw[pO]at this;exact BO T.sb f this x hx)
  rw[<-Cy,<-A8,<-mL]at p;have u:old<=(out++(a.extract t (na+1)).reverse).size:=by rw[Ab];lia
  by_cases v:t=0
  .rw[wB (by simpa using v)];refine cL (q.q1 _ _ _ h ?_);show gm r _ _ (lN a b _ _ _).toList
   rw[ym];exact p.endA T.sb v
  rw[wA (by simpa using v)];obtain⟨B,rfl⟩:∃B,t=B+1:=qi (by first|assumption|lia);exact G7 K k T h p () f u z q
 .rw[wA g];have e:t=na+1:=by lia
  subst e;exact G7 K k T h m G f H z q
theorem Ko{d st:SortSt}(K:Asks M A s κ r a₀)(e:kindOf d=κ)(T:Two κ r a₀ a b)(f:Eqv d st)(g:c.2.1=na+1/\c.2.2.1=nb+2/\c.2.2.2.1=out)(m:Mh r a.toList b.toList out.toList (na+1) (nb+2))(h:na<a.size)(i:nb+1<b.size)(j:old<=out.size)(q:RndH r a b d old Q):wpS M A E s (xO a b c) Q st:=by
 unfold xO;split
 .exact JR K e T f g m h i j q
 .exact JR K e T f g m h i j q
theorem Nl{f st:SortSt}{c:U5}(K:Asks M A s κ r a₀)(hk:kindOf f=κ)(T:Two κ r a₀ a b)(e0:Eqv f st)(ec:c=(none,na+1,nb+2,out,mg))(m:Mh r a.toList b.toList out.toList (na+1) (nb+2))(ha:na<a.size)(hb:nb+1<b.size)(q1:∀st w rest,Eqv f st->Gd r a b w->Q (.done (some w,rest)) st) (q2:∀st na nb k g,Eqv f st->Mh r a.toList b.toList k.toList (na+1) (nb+2)->na<a.size->nb+1<b.size->out.size+1<=k.size->Q (.yield (none,na+1,nb+2,k,g)) st):wpS M A E s (Ew a b c) Q st:=by
 subst ec;unfold Ew;have aa:0<a.size+b.size:=by lia
 refine cC (j3 (jm (I:=λx q d=>Eqv f d/\∃i j o u v,q=(none,i+1,j+2,o,u,v)/\Mh r a.toList b.toList o.toList (i+1) (j+2)/\i<a.size/\j+1<b.size/\out.size+x<=o.size)
  (Q:=λq d=>Eqv f d/\((∃w rest,q=(some w,rest)/\Gd r a b w)\/∃i j o u v,q=(none,i+1,j+2,o,u,v)/\Mh r a.toList b.toList o.toList (i+1) (j+2)/\i<a.size/\j+1<b.size/\out.size+1<=o.size)) ?step ?stop #[e0,na,nb,out,0,0,zZ,m,ha,hb,cg _]) ?post)
 case step=>
  rintro x q d _ hx ⟨p,i,j,o,u,v,rfl,B,C,D,h3⟩;refine NY K T p hk zZ B C D h3 (λw rest g=>#[p,.inl #[w,rest,zZ,g]]) λG H J u' v' L l n y=>#[#[p,.inr #[G,H,J,u',v',zZ,L,l,n,()]],#[p,G,H,J,u',v',zZ,L,l,n,()]]
 case stop=>
  rintro q d ⟨p,i,j,o,u,v,rfl,B,C,D,h3⟩;exact#[p,.inr #[i,j,o,u,v,zZ,B,C,D,()]]
 case post=>
  rintro q d ⟨p,h⟩
  rcases h with⟨w,rest,rfl,g⟩|⟨i,j,o,u,v,rfl,B,C,D,h3⟩
  .exact cL (q1 _ _ _ p g)
  refine cC (td (pC #[zZ,?_]));refine cC (j3 (jm (I:=λx c2 d=>Eqv f d/\∃i j o u v w,c2=(none,i+1,j+2,o,u,v,w)/\Mh r a.toList b.toList o.toList (i+1) (j+2)/\i<a.size/\j+1<b.size/\out.size+1<=o.size)
   (Q:=λc2 d=>Eqv f d/\((∃w rest,c2=(some w,rest)/\Gd r a b w)\/∃i j o u v w,c2=(none,i+1,j+2,o,u,v,w)/\Mh r a.toList b.toList o.toList (i+1) (j+2)/\i<a.size/\j+1<b.size/\out.size+1<=o.size)) ?step2 ?stop2 #[p,i,j,o,mg+1,u,v,zZ,B,C,D,h3]) ?post2)
  case step2=>
   rintro x c2 N _ hx ⟨z,i,j,o,u,v,w,rfl,O,U,g2,Y⟩;exact Ko K hk T z #[zZ,zZ,zZ] O U g2 Y #[λst w rest e g=>#[e,.inl #[w,rest,zZ,g]],λst G H J x' y' z' e L l n y=>#[#[e,.inr #[G,H,J,x',y',z',zZ,L,l,n,y]],#[e,G,H,J,x',y',z',zZ,L,l,n,y]]]
  case stop2=>
   rintro c2 N ⟨z,i,j,o,u,v,w,rfl,O,U,g2,Y⟩;exact#[z,.inr #[i,j,o,u,v,w,zZ,O,U,g2,Y]]
  case post2=>
   rintro c2 N ⟨z,h⟩
   rcases h with⟨w,rest,rfl,g⟩|⟨i,j,o,u,v,w,rfl,O,U,g2,Y⟩
   .exact cL (q1 _ _ _ z g)
   .exact cC (A0 λab x3=>cL (q2 _ _ _ _ _ (z.trans x3) O U g2 Y))
theorem N6{st:SortSt}(K:Asks M A s κ r a₀)(L:kindOf st=κ)(T:Two κ r a₀ a b)(q:∀m d,Eqv st d->Gd r a b m->Q m d):wpS M A E s (ET a b) Q st:=by
 rw[L6];unfold Ir;have a1:=T.a1;have b1:=T.b1;obtain⟨n,hn⟩:∃n,a.size=n+1:=qi (by first|assumption|lia);have G:a.size-1=n:=by lia
 rw[G];refine cC (td (pC #[zZ,cC (gS () ?_)]));have N:Mh r a.toList b.toList (#v[]:Array Keyed).toList (n+1) b.size:=#[by rw[BG (by rw[dR];lia),BG (by rw[dR];exact cg _)];simp,List.Pairwise.nil,λx _ y f=>(nomatch f),λx _ y f=>(nomatch f)];have k:Mh r a.toList b.toList (#v[a.getD n d0]:Array Keyed).toList n b.size:=CY T N () (λy f=>by have:=T.top y (wZ f);rw[G]at this;exact this);by_cases p:n=0
 .rw[wB (by simpa using p)];refine cL (q _ _ (Eqv.refl _) ?_);show gm r _ _ (lN a b _ _ _).toList;rw[ym];exact k.endA T.sb p
 rw[wA (by simpa using p)];by_cases t:b.size=1
 .rw[wB (by simpa using t)];refine cL (q _ _ (Eqv.refl _) ?_);show gm r _ _ (o0 a b _ _ _).toList;rw[Cg];exact k.first T.sa T.sb (by rw[t];exact T.bot)
 rw[wA (by simpa using t)];obtain⟨u,rfl⟩:∃u,n=u+1:=qi (by first|assumption|lia);obtain⟨v,h⟩:∃v,b.size=v+2:=#[b.size-2,()];rw[h]at k;refine cC (mX (cC (j3 (jm (I:=λx c d=>Eqv st d/\∃i j o g,c=(none,i+1,j+2,o,g)/\Mh r a.toList b.toList o.toList (i+1) (j+2)/\i<a.size/\j+1<b.size/\x+1<=o.size)
  (Q:=λc d=>Eqv st d/\∃w rest,c=(some w,rest)/\Gd r a b w) ?step ?stop #[Eqv.refl _,u,v,_,_,by rw[h],k,(),(),cg _]) ?post)))
 case step=>
  rintro x c d _ hx ⟨l,i,j,o,g,rfl,B,H,J,O⟩;exact Nl K L T l zZ B H J (λst w rest e g=>#[e,w,rest,zZ,g]) λd U Y o' g' e m' C D aa=>#[e,U,Y,o',g',zZ,m',C,D,()]
 case stop=>
  rintro c d ⟨l,i,j,o,g,rfl,B,H,J,O⟩;have z:=B.len (by rw[dR];lia) (by rw[dR];lia);rw[dR,dR,dR]at z
  exfalso
  lia
 case post=>
  rintro c d ⟨l,w,rest,rfl,g⟩;exact cL (q _ _ l g)
end
theorem Lu(i):mergeAt' i=(do
 let s <-get
 let(some (b,c,d),some (f,e,_)):=((pendingOf s)[i]?,(pendingOf s)[i+1]?)|unsupported "internal:list.sort.pending"
 set (setPending s (((pendingOf s).setIfInBounds i (b,c+e,d)).eraseIdxIfInBounds (i+1)))
 let some k <-qg false (<-elem' (arrOf s) f) (arrOf s) b c 0|return false
 let(b,c):=(b+k,c-k)
 if c==0 then return true
 let some e <-qg true (<-elem' (arrOf s) (b+c-1)) (arrOf s) f e (e-1)|return false
 if e==0 then return true
 let x:=(arrOf s).extract b f
 let y:=(arrOf s).extract f (f+e)
 let merged <-if c<=e then El x y else ET x y
 modify λs=>setArr s (merged.toList.zipIdx.foldl (λa (p,j)=>a.setIfInBounds (b+j) p) (arrOf s))
 return (failedOf (<-get)).isNone):=rfl
section
variable{A:Ar}{E:VP}{s:Sh}{d xs f:Array Keyed}
theorem MM{st a:SortSt}(h:Q ⟨⟩ a):wpS M A E s (set a:StateT SortSt Sem PUnit) Q st:=by
 unfold wpS;rw[StateT.run_set];exact b9 #[zZ,h]
theorem laid:∀c j b (xs:Array Keyed),b+j+c.length<=xs.size->((c.zipIdx j).foldl (λa (p,j)=>a.setIfInBounds (b+j) p) xs).toList=xs.toList.take (b+j)++c++xs.toList.drop (b+j+c.length)
 | [],j,b,xs,_=>by
  rw[hA,FS,xS];exact(oz _ _).symm
 | m::c,j,b,xs,h=>by
  rw[mF]at h;rw[List.zipIdx_cons,List.foldl_cons,laid c (j+1) b _ (by rw[Array.size_setIfInBounds];lia),GN,mF];have d:b+j<xs.toList.length:=by rw[dR];lia
  have e:(xs.toList.set (b+j) m).take (b+(j+1))=xs.toList.take (b+j)++[m]:=by
   rw[show b+(j+1)=b+j+1 by lia,List.take_succ_eq_append_getElem (by rw[um];exact d),List.getElem_set_self,List.take_set_of_le (cg _)]
  have f:(xs.toList.set (b+j) m).drop (b+(j+1)+c.length)=xs.toList.drop (b+j+(c.length+1)):=by
   rw[List.drop_set_of_lt ()]
   congr 1
   lia
  rw[e,f,fu,fu,fu];rfl
theorem BR(xs:Array Keyed)(t n):(xs.extract t n).toList=(xs.toList.take n).drop t:=Cy xs t n
theorem Bi(h:n<=xs.size):(xs.extract t n).size=n-t:=by rw[Array.size_extract];lia
theorem FX(h:n<=xs.size)(a:t+i<n):(xs.extract t n).getD i d0=xs.getD (t+i) d0:=by
 refine px ?_;rw[Array.getElem?_extract,wB ()]
theorem Jd(h:f.toList=l)(i:Nat):f[i]?=l[i]? :=by rw[<-h,lY]
theorem OF{st:SortSt}(K:Asks M A s g r d)(B:StOk g d st)(h1:(pendingOf st)[i]?=some (b,o,pw))(h2:(pendingOf st)[i+1]?=some (Y,L,ag))(es:Y=b+o)(aq:1<=o)(ar:1<=L)(hz:Y+L<=d.size)(N:Ris r (arrOf st) b (b+o)) (O:Ris r (arrOf st) Y (Y+L))(q:∀u,StOk g d u->pendingOf u=((pendingOf st).setIfInBounds i (b,o+L,pw)).eraseIdxIfInBounds (i+1)->Out (arrOf st) (arrOf u) b (Y+L)->Ris r (arrOf u) b (Y+L)->Q true u):wpS M A E s (mergeAt' i) Q st:=by
 have sz:=pV B.perm;subst es;rw[Lu];refine cC (mX ?_);rw[h1,h2];dsimp only;refine cC (MM ?_);generalize hP:((pendingOf st).setIfInBounds i (b,o+L,pw)).eraseIdxIfInBounds (i+1)=P at q|-;have B1:StOk g d (setPending st P):=#[B.kind,B.perm,B.ok];generalize D:arrOf st=xs at N O q sz|-;have pm:=D▸B.perm;have mem:∀j,j<d.size->xs.getD j d0∈d:=λj H=>Bd pm H;have ap:∀i j,i<d.size->j<d.size->i≠j->kx r xs i≠kx r xs j:=λi j hi H ij=>K.apart pm hi H ij;refine cC (gS () (cC (vv K B1.kind () (λj H=>mem _ ()) (mem _ ()) (λj H=>ap _ _ () () ()) N () λk kn k2 k3=>?_)));dsimp only;by_cases z0:o-k=0
 .rw[wB (by simpa using z0)];refine cL (q _ B1 zZ (by show Out xs (arrOf st) _ _;rw[D];exact Out.refl _ _ _) ?_);show Ris r (arrOf st) _ _;rw[D];intro i j w g2 G;by_cases c1:j<b+o
  .exact N i j w g2 c1
  by_cases c2:b+o<=i
  .exact O i j c2 g2 G
  have C:=k2 (i-b) ();rw[pi w]at C;have C:kx r xs i<kx r xs (b+o):=C;by_cases c3:j=b+o
  .rw[c3];exact C
  .exact xr C (O (b+o) j (cg _) (zL (Nat.not_lt.mp c1) (dG c3)) G)
 rw[wA (by simpa using z0)];have kl:k<o:=by lia
 clear z0;have dk:∀_:Unit,b+k+(o-k)=b+o:=λ_=>by lia
 rw[dk Unit.unit];refine cC (gS () (cC (vv K B1.kind () (λj H=>mem _ ()) (mem _ ()) (λj H=>ap _ _ () () ()) O () λv nn ah ae=>?_)));dsimp only;have bk:kx r xs (b+o)<kx r xs (b+k):=by
  have:=k3 k (cg _) ();exact this
 have aa:kx r xs (b+k)<=kx r xs (b+o-1):=by
  by_cases c:b+k=b+o-1
  .rw[c];exact Int.le_refl _
  .exact Int.le_of_lt (N (b+k) (b+o-1) () () ())
 have ai:v≠0:=λz=>by
  subst z;have:=ae 0 (cg _) ();rw[xS]at this;exact wC this (Int.not_lt.mpr (Int.le_trans (Int.le_of_lt bk) aa))
 rw[wA (by simpa using ai)];have sx:(xs.extract (b+k) (b+o)).size=o-k:=by rw[Bi ()];exact Nat.add_sub_add_left ..
 have sy:(xs.extract (b+o) (b+o+v)).size=v:=by rw[Bi ()];exact zz ..
 have mx:∀x∈(xs.extract (b+k) (b+o)).toList,∃j,b+k<=j/\j<b+o/\xs.getD j d0=x:=λx D=>by
  rw[BR]at D;obtain⟨j,w,g2,_,G⟩:=AT D;exact#[j,w,g2,G]
 have my:∀x∈(xs.extract (b+o) (b+o+v)).toList,∃j,b+o<=j/\j<b+o+v/\xs.getD j d0=x:=λx D=>by
  rw[BR]at D;obtain⟨j,w,g2,_,G⟩:=AT D;exact#[j,w,g2,G]
 have af:∀(t n:Nat),n<=xs.size->Ris r xs t n->Up r (xs.extract t n).toList:=λt n hn ur=>by
  refine oM.mpr λi j hi H ij=>?_;rw[dR,Bi hn]at hi H;have e:∀c (hc:c<(xs.extract t n).toList.length),(xs.extract t n).toList[c]=xs.getD (t+c) d0:=λc hc=>by
   rw[dR,Bi hn]at hc;rw[<-FX hn (),Array.getElem_toList];exact(cR (md _)).symm
  rw[e,e];exact ur (t+i) (t+j) () () ()
 have aj:∀_:Unit,b+k+(o-k-1)=b+o-1:=λ_=>by rw[<-dk Unit.unit];exact(Nat.add_sub_assoc (Nat.sub_pos_of_lt kl) _).symm
 have I:∀_:Unit,b+k+(o-k+v)=b+o+v:=λ_=>by rw[<-Nat.add_assoc,dk Unit.unit]
 have T:Two g r d (xs.extract (b+k) (b+o)) (xs.extract (b+o) (b+o+v)):=by
  refine#[λx D=>?_,λx D=>?_,af _ _ () λi j w g2 G=>N i j () g2 G,af _ _ () λi j w g2 G=>O i j w g2 (),λx D y hy=>?_,(),(),λx D=>?_,λy hy=>?_]
  .obtain⟨j,w,g2,rfl⟩:=mx x D;exact mem j ()
  .obtain⟨j,w,g2,rfl⟩:=my x D;exact mem j ()
  .obtain⟨j,w,g2,rfl⟩:=mx x D;obtain⟨l,G,g4,rfl⟩:=my y hy;exact ap j l () () ()
  .obtain⟨j,w,g2,rfl⟩:=mx x D;rw[FX () (),xS];show kx r xs (b+o)<kx r xs j
   by_cases c:j=b+k
   .rw[c];exact bk
   .exact xr bk (N (b+k) j (n' ..) (zL w (dG c)) g2)
  .obtain⟨j,w,g2,rfl⟩:=my y hy;rw[sx,FX () (),show b+k+(o-k-1)=b+o-1 from aj Unit.unit];have:=ah (j-(b+o)) (xI w g2)
   rw[pi w]at this;exact this
 have fin:∀m u,Eqv (setPending st P) u->Gd r (xs.extract (b+k) (b+o)) (xs.extract (b+o) (b+o+v)) m->wpS M A E s (do
   modify λs=>setArr s (m.toList.zipIdx.foldl (λa (p,j)=>a.setIfInBounds (b+k+j) p) (arrOf s))
   return (failedOf (<-get)).isNone) Q u:=λm u ev gd=>by
  have ea:arrOf u=xs:=ev.arr.trans D;have ml:m.toList.length=o-k+v:=by
   have:=gd.1.length_eq;rw[di,dR (xs:=xs.extract _ _),dR (xs:=xs.extract _ _),sx,sy]at this;exact this
  refine cC (ou (cC (mX ?_)));rw[ea];have tl:=laid m.toList 0 (b+k) xs (by rw[ml];lia);rw[xS,ml]at tl;generalize as:m.toList.zipIdx.foldl (λa (p,j)=>a.setIfInBounds (b+k+j) p) xs=f at tl|-;have ak:(failedOf (setArr u f)).isNone=true:=by
   show(failedOf u).isNone=true;rw[ev.ok];show(failedOf st).isNone=true
   rw[B.ok];rfl
  rw[ak];have mid:xs.toList=xs.toList.take (b+k)++((xs.extract (b+k) (b+o)).toList++(xs.extract (b+o) (b+o+v)).toList)++xs.toList.drop (b+k+(o-k+v)):=by
   rw[BR,BR];have e1:xs.toList.take (b+k)++(xs.toList.take (b+o)).drop (b+k)=xs.toList.take (b+o):=by
    have z:=oz (b+k) (xs.toList.take (b+o));rwa[List.take_take,vy ()]at z
   have e2:xs.toList.take (b+o)++(xs.toList.take (b+o+v)).drop (b+o)=xs.toList.take (b+o+v):=by
    have z:=oz (b+o) (xs.toList.take (b+o+v));rwa[List.take_take,vy ()]at z
   rw[<-fu,e1,e2,I Unit.unit,oz]
  have al:f.Perm xs:=by
   refine ot.mpr ?_;rw[tl]
   conv=>rhs;rw[mid]
   exact Ag _ (yL _ gd.1)
  have lx:xs.toList.length=d.size:=by rw[dR];exact sz
  have mn:min (b+k) xs.toList.length=b+k:=vy ();have U:∀j,j<b+k\/b+o+v<=j->f[j]?=xs[j]? :=λj H=>by
   rw[Jd tl j,<-lY]
   rcases H with h|h
   .rw[d7 (by rw[di,gk,mn];exact Nat.lt_add_right _ h),d7 (by rw[gk,mn];exact h),Cs,wB h]
   .rw[eC (by rw[di,gk,ml,mn,I Unit.unit];exact h),zy]
    congr 1
    rw[di,gk,ml,mn,I Unit.unit];exact pi h
  have ab:∀j,b+k<=j->j<b+o+v->∃h:j-(b+k)<m.toList.length,f.getD j d0=m.toList[j-(b+k)]:=λj w g2=>by
   have hl:j-(b+k)<m.toList.length:=by rw[ml];exact xI w (by rw[I Unit.unit];exact g2)
   refine#[hl,cR ?_];rw[Jd tl j,d7 (by rw[di,gk,ml,mn,I Unit.unit];exact g2),eC (by rw[gk,mn];exact w),gk,mn,b7 hl]
  have J:∀j,b+k<=j->j<b+o+v->∃l,b+k<=l/\l<b+o+v/\f.getD j d0=xs.getD l d0:=λj w g2=>by
   obtain⟨hl,e⟩:=ab j w g2;have mm:f.getD j d0∈(xs.extract (b+k) (b+o)).toList++(xs.extract (b+o) (b+o+v)).toList:=by
    rw[e];exact(List.Perm.mem_iff gd.1).mp (jv hl)
   rcases cW.mp mm with z|z
   .obtain⟨l,C,l2,l3⟩:=mx _ z;exact#[l,C,(),l3.symm]
   .obtain⟨l,C,l2,l3⟩:=my _ z;exact#[l,(),l2,l3.symm]
  refine cL (q _ #[ev.kind.trans B1.kind,al.trans pm,by show failedOf u=none;rw[ev.ok];exact B.ok] ev.pend (λj H=>U j ()) λi j w g2 G=>?_);show kx r f i<kx r f j;have oe:∀c,c<b+k\/b+o+v<=c->kx r f c=kx r xs c:=λc hc=>de r (px (U c hc));have hd:∀c l,b<=c->c<b+k->b+k<=l->l<b+o+L->kx r xs c<kx r xs l:=λc l c1 c2 c3 c4=>by
   by_cases c5:l<b+o
   .exact N c l c1 () c5
   .have C:=k2 (c-b) (xI c1 c2);rw[pi c1]at C;have C:kx r xs c<kx r xs (b+o):=C;by_cases c6:l=b+o
    .rw[c6];exact C
    .exact xr C (O (b+o) l (cg _) (zL (Nat.not_lt.mp c5) (dG c6)) c4)
  have am:∀l c,b+k<=l->l<b+o+v->b+o+v<=c->c<b+o+L->kx r xs l<kx r xs c:=λl c c1 c2 c3 c4=>by
   by_cases c5:b+o<=l
   .exact O l c c5 () c4
   .have c0:=dh (n' ..) c3;have C:=ae (c-(b+o)) (Nat.le_sub_of_add_le' c3) (xI c0 c4);rw[pi c0]at C;have C:kx r xs (b+o-1)<kx r xs c:=C;by_cases c6:l=b+o-1
    .rw[c6];exact C
    .exact xr (N l (b+o-1) () () ()) C
  by_cases i1:i<b+k
  .rw[oe i (.inl i1)];by_cases j1:j<b+k
   .rw[oe j (.inl j1)];exact N i j w g2 ()
   .by_cases j2:j<b+o+v
    .obtain⟨l,C,l2,l3⟩:=J j () j2;show kx r xs i<r (f.getD j d0);rw[l3];exact hd i l w i1 C ()
    .rw[oe j (.inr ())];exact hd i j w i1 () G
  .by_cases i2:i<b+o+v
   .by_cases j2:j<b+o+v
    .obtain⟨an,e1⟩:=ab i () i2;obtain⟨ao,e2⟩:=ab j () j2;show r (f.getD i d0)<r (f.getD j d0)
     rw[e1,e2];exact oM.mp gd.2 _ _ an ao ()
    .obtain⟨l,C,l2,l3⟩:=J i () i2;rw[oe j (.inr ())];show r (f.getD i d0)<kx r xs j
     rw[l3];exact am l j C l2 () G
   .rw[oe i (.inr ()),oe j (.inr ())];exact O i j () g2 G
 by_cases c:o-k<=v
 .rw[wB c];exact cC (Nh K B1.kind T fin)
 .rw[wA c];exact cC (N6 K B1.kind T fin)
end
def gc(r:Keyed->Int)(a:Array Keyed):Nat->List (Nat×Nat×Nat)->Nat->Prop
 |s,[],e=>s=e
 |s,u::l,e=>u.1=s/\1<=u.2.1/\Ris r a s (s+u.2.1)/\gc r a (s+u.2.1) l e
section
variable{r:Keyed->Int}
theorem BW:∀{l} {s e},gc r j s l e->s+l.length<=e
 | [],s,e,h=>by
  have:s=e:=h;simp;lia
 |u::l,s,e,h=>by
  have:=BW h.2.2.2;have:=h.2.1;rw[mF];lia
theorem dB:∀{l c} {s e},gc r j s (l++c) e↔ ∃m,gc r j s l m/\gc r j m c e
 | [],c,s,e=>#[λh=>#[s,zZ,h],λ⟨m,a,b⟩=>by have:=a;subst this;exact b]
 | u::l,c,s,e=>by
  constructor
  .rintro⟨a,b,d,g⟩;obtain⟨m,f,g2⟩:=dB.mp g;exact#[m,#[a,b,d,f],g2]
  .rintro⟨m,⟨a,b,d,f⟩,g2⟩;exact#[a,b,d,dB.mpr #[m,f,g2]]
theorem y4{lo a:Nat}(o:Out j k lo a):∀{l} {s e},gc r j s l e->e<=lo\/a<=s->gc r k s l e
 | [],_,_,h,_=>h
 |u::l,s,e,h,d=>by
  have:=BW h.2.2.2;exact#[h.1,h.2.1,o.ris h.2.2.1 (),y4 o h.2.2.2 ()]
theorem Og{p:Array (Nat×Nat×Nat)}(h:i+1<p.size):∃a u v l2,p.toList=a++u::v::l2/\a.length=i/\p[i]?=some u/\p[i+1]?=some v:=by
 have d:p.toList.length=p.size:=dR;refine#[p.toList.take i,p[i]'(),p[i+1],p.toList.drop (i+2),?_,by rw[gk];lia,md _,md _];have b:p.toList.drop i=p.toList[i]'()::p.toList.drop (i+1):=Bz ();have c:p.toList.drop (i+1)=p.toList[i+1]'()::p.toList.drop (i+2):=Bz ();rw[Array.getElem_toList]at b c;rw[<-c,<-b,oz]
theorem Qv{p:Array (Nat×Nat×Nat)}(h:p.toList=a++u::v::l2)(b:a.length=i):((p.setIfInBounds i w).eraseIdxIfInBounds (i+1)).toList=a++w::l2:=by
 rw[Array.toList_eraseIdxIfInBounds,GN,h,List.set_append_right _ _ (),b,m9,List.eraseIdx_append_of_length_le (),b,zz];rfl
variable{E:VP}
theorem CU{st:SortSt}{i lo:Nat}(K:Asks M A s b r a)(B:StOk b a st)(y:i+1<(pendingOf st).size)(R:gc r (arrOf st) 0 (pendingOf st).toList lo)(z:lo<=a.size)(q:∀c,StOk b a c->(pendingOf c).size+1=(pendingOf st).size->Out (arrOf st) (arrOf c) 0 lo->gc r (arrOf c) 0 (pendingOf c).toList lo->Q true c):wpS M A E s (mergeAt' i) Q st:=by
 obtain⟨T,u,v,l2,e,C,D,G⟩:=Og y;rw[e]at R;obtain⟨m,H,R2⟩:=dB.mp R;obtain⟨l,n,p,h,t,x,j⟩:=R2;obtain⟨d,g,I⟩:=u;obtain⟨J,f,L⟩:=v;dsimp only at l n p h t x j;subst l;have U:=BW j;refine OF K B D G h n t () p (by rw[h];exact x) λc N O o up=>?_;have k:=Qv (w:=(d,g+f,I)) e C;rw[<-O]at k;refine q c N ?_ (o.wide (iE _) ()) ?_
 .have l3:(pendingOf c).toList.length+1=(pendingOf st).toList.length:=by
   rw[k,e];simp;lia
  rwa[dR,dR]at l3
 .rw[k];refine dB.mpr #[d,y4 o H (.inl (cg _)),zZ,by lia,?_,?_]
  .rw[show d+(g+f)=J+f by lia];exact up
  .rw[show d+(g+f)=d+g+f by lia];exact y4 o j (.inr ())
theorem EJ{f:Nat->Nat}:∀{l} {s e i},gc r j s l e->gc r j s (l.modify i λu=>(u.1,u.2.1,f u.2.2)) e
 | [],_,_,_,h=>by simpa using h
 |u::l,s,e,0,h=>h
 |u::l,s,e,i+1,h=>#[h.1,h.2.1,h.2.2.1,EJ h.2.2.2]
theorem Oy{st:SortSt}(K:Asks M A s b r a)(B:StOk b a st)(hp:pendingOf st= #v[])(h1:1<=a.size)(q:∀d,StOk b a d->Ris r (arrOf d) 0 a.size->Q ⟨⟩ d):wpS M A E s sortRuns' Q st:=by
 have sz:=pV B.perm;rw[sortRuns'_eq];refine cC (mX ?_);dsimp only;rw[sz];refine cC (j3 (jm (I:=λx c d=>∃lo,c=(none,lo)/\x<=lo/\lo<=a.size/\StOk b a d/\gc r (arrOf d) 0 (pendingOf d).toList lo)
  (Q:=λc d=>c=(none,a.size)/\StOk b a d/\gc r (arrOf d) 0 (pendingOf d).toList a.size) ?step ?stop #[0,zZ,cg _,iE _,B,by rw[hp];rfl]) ?post)
 case stop=>
  rintro c d ⟨lo,rfl,h1,h2,B',R⟩;have e:lo=a.size:=by lia
  subst e;exact#[zZ,B',R]
 case step=>
  rintro x c Y _ hx ⟨lo,rfl,ae,N,U,O⟩;dsimp only;by_cases z:lo>=a.size
  .rw[wB z];have e:lo=a.size:=by lia
   subst e;exact cL #[zZ,U,O]
  rw[wA z];refine cC (Qm K U () () λn j H p2 g2 o2 L nn T=>?_);dsimp only;have R2:gc r (arrOf j) 0 (pendingOf j).toList lo:=by rw[p2];exact y4 o2 O (.inl (cg _))
  by_cases mr:n<minRun' a.size a.size 0
  .rw[wB mr];refine cC (td (pC #[zZ,?_]));refine cC (NN K H () () T λt C p3 g3 o3 v=>?_);rw[wA (by decide)];have J:gc r (arrOf t) 0 (pendingOf t).toList lo:=by rw[p3];exact y4 o3 R2 (.inl (cg _))
   have L:1<=min (a.size-lo) (minRun' a.size a.size 0):=by lia
   have nn:lo+min (a.size-lo) (minRun' a.size a.size 0)<=a.size:=by lia
   generalize min (a.size-lo) (minRun' a.size a.size 0)=D at v L nn|-;refine cC (mX ?_);cases eb:(pendingOf t).back? with
   |none=>
    dsimp only;refine cC (ou (cL #[lo+D,zZ,(),(),#[C.kind,C.perm,C.ok],?_]))
    rw[vh];exact dB.mpr #[lo,J,zZ,L,v,zZ]
   | some u=>
    obtain⟨w,m,w1⟩:=u;dsimp only;refine cC (j3 (jm (I:=λx c d=>c=(none,Unit.unit)/\StOk b a d/\gc r (arrOf d) 0 (pendingOf d).toList lo/\Ris r (arrOf d) lo (lo+D))
     (Q:=λc d=>c=(none,Unit.unit)/\StOk b a d/\gc r (arrOf d) 0 (pendingOf d).toList lo/\Ris r (arrOf d) lo (lo+D)) ?step2 ?stop2 #[zZ,C,J,v]) ?post2)
    case stop2=>
     rintro c i h;exact h
    case step2=>
     rintro y c i _ _ ⟨rfl,o,G,k⟩;refine cC (mX ?_);by_cases g:(pendingOf i).size>1
     .rw[wB g,md ()];generalize(pendingOf i)[(pendingOf i).size-2]=u2;obtain⟨a2,b2,p⟩:=u2;dsimp only;by_cases g2:p<=power' a.size (2 * w+m) (2 * w+m+m+D) a.size
      .rw[wB g2];exact cL #[zZ,o,G,k]
      .rw[wA g2];refine cC (CU K o () G N λaa B5 _ o5 R5=>?_);exact cL #[zZ,B5,R5,o5.ris k (.inr (cg _))]
     .rw[wA g];exact cL #[zZ,o,G,k]
    case post2=>
     rintro c i ⟨rfl,o,G,k⟩;dsimp only;refine cC (ou (cC (ou (cL #[lo+D,zZ,(),(),#[o.kind,o.perm,o.ok],?_]))))
     rw[vh,Array.toList_modify];exact dB.mpr #[lo,EJ (f:=λ_=>power' a.size (2 * w+m) (2 * w+m+m+D) a.size) G,zZ,L,k,zZ]
  .rw[wA mr];have C:=H;have J:=R2;have v:=T;refine cC (mX ?_);cases eb:(pendingOf j).back? with
   |none=>
    dsimp only;refine cC (ou (cL #[lo+n,zZ,(),(),#[C.kind,C.perm,C.ok],?_]))
    rw[vh];exact dB.mpr #[lo,J,zZ,L,v,zZ]
   | some u=>
    obtain⟨w,m,w1⟩:=u;dsimp only;refine cC (j3 (jm (I:=λx c d=>c=(none,Unit.unit)/\StOk b a d/\gc r (arrOf d) 0 (pendingOf d).toList lo/\Ris r (arrOf d) lo (lo+n))
     (Q:=λc d=>c=(none,Unit.unit)/\StOk b a d/\gc r (arrOf d) 0 (pendingOf d).toList lo/\Ris r (arrOf d) lo (lo+n)) ?step2 ?stop2 #[zZ,C,J,v]) ?post2)
    case stop2=>
     rintro c i h;exact h
    case step2=>
     rintro y c i _ _ ⟨rfl,o,G,k⟩;refine cC (mX ?_);by_cases g:(pendingOf i).size>1
     .rw[wB g,md ()];generalize(pendingOf i)[(pendingOf i).size-2]=u2;obtain⟨a2,b2,p⟩:=u2;dsimp only;by_cases g2:p<=power' a.size (2 * w+m) (2 * w+m+m+n) a.size
      .rw[wB g2];exact cL #[zZ,o,G,k]
      .rw[wA g2];refine cC (CU K o () G N λaa B5 _ o5 R5=>?_);exact cL #[zZ,B5,R5,o5.ris k (.inr (cg _))]
     .rw[wA g];exact cL #[zZ,o,G,k]
    case post2=>
     rintro c i ⟨rfl,o,G,k⟩;dsimp only;refine cC (ou (cC (ou (cL #[lo+n,zZ,(),(),#[o.kind,o.perm,o.ok],?_]))))
     rw[vh,Array.toList_modify];exact dB.mpr #[lo,EJ (f:=λ_=>power' a.size (2 * w+m) (2 * w+m+m+n) a.size) G,zZ,L,k,zZ]
 case post=>
  rintro c Y ⟨rfl,U,O⟩;dsimp only;refine cC (j3 (jm (I:=λx c d=>c=(none,Unit.unit)/\StOk b a d/\gc r (arrOf d) 0 (pendingOf d).toList a.size/\(pendingOf d).size+x<=a.size)
   (Q:=λc d=>c=(none,Unit.unit)/\StOk b a d/\gc r (arrOf d) 0 (pendingOf d).toList a.size/\(pendingOf d).size<=1) ?step3 ?stop3 #[zZ,U,O,by have:=BW O;rw[dR]at this;lia]) ?post3)
  case stop3=>
   rintro c j ⟨hc,H,R2,hz⟩;exact#[hc,H,R2,()]
  case step3=>
   rintro x c j _ hx ⟨rfl,H,R2,hz⟩;refine cC (mX ?_);by_cases g:(pendingOf j).size<=1
   .rw[wB g];exact cL #[zZ,H,R2,g]
   .rw[wA g];refine cC (CU K H ?_ R2 (cg _) λt C z3 o3 J=>?_)
    .have ab:∀(c:Prop) [Decidable c],(if c then(pendingOf j).size-2-1 else(pendingOf j).size-2)+1<(pendingOf j).size:=λc _=>by
      by_cases h:c
      .rw[wB h];lia
      .rw[wA h];lia
     exact ab _
    .exact cL #[zZ,C,J,()]
  case post3=>
   rintro c j ⟨rfl,H,R2,hz⟩;refine cL (q j H ?_);have hl:(pendingOf j).toList.length<=1:=by rw[dR];exact hz
   generalize(pendingOf j).toList=l at R2 hl
   match l,R2,hl with
   | [],R2,_=>
    have:0=a.size:=R2;lia
   | [u],R2,_=>
    have e:=R2.2.2.2;rw[<-e];exact R2.2.2.1
end
section
variable{P:Pg}{A:Ar}{E:VP}{s:Sh}{a:Ad}{vs ks:Vs}
noncomputable def hV (ks:Vs) (x:Keyed):Nat:=Classical.epsilon λi=>ks[i]?=some x.1
theorem zM(nd:ks.Nodup)(h:ks[i]?=some x.1):hV ks x=i:=by
 have z:=Classical.epsilon_spec (p:=λi=>ks[i]?=some x.1) #[i,h];exact(jj (cf.mp z).1 nd).mp (z.trans h.symm)
theorem Jh{Q:SortSt->Sh->Prop}(t:ks.length=vs.length)(M:1<=vs.length)(nd:ks.Nodup)(inj:∀i j,i<vs.length->j<vs.length->k i=k j->i=j)(ask:∀i j (C:Bool->Sh->Prop),i<ks.length->j<ks.length->C (decide (k i<k j)) s->kas_ask P w A d ks i j C s)(G:∀p a,Arr vs.length p->qh k p vs.length->(arrOf a).map (·.2)=(hI vs p).toArray->failedOf a=none->Q a s):
  wpAny (model P w) A ((sortRuns').run (SortSt.mk' d (ks.toArray.zip vs.toArray) #v[] 7 none)) (λr u=>Q r.2 u) E s:=by
 have sz:(ks.toArray.zip vs.toArray).size=vs.length:=by simp[t]
 have n:∀i,i<vs.length->(ks.toArray.zip vs.toArray).getD i d0=(ks.getD i Value.none,vs.getD i Value.none):=λi b=>kat_item t i;have o:∀i,i<vs.length->ks[i]?=some (ks.getD i Value.none):=λi b=>by
  rw[dO,b7 ()];rfl
 have f:∀i,i<vs.length->hV ks ((ks.toArray.zip vs.toArray).getD i d0)=i:=λi b=>zM nd (by rw[n i b];exact o i b);have c:∀x∈ks.toArray.zip vs.toArray,∃i,i<vs.length/\x=(ks.toArray.zip vs.toArray).getD i d0:=λx l=>by
  obtain⟨i,b,e⟩:=Array.getElem_of_mem l;exact#[i,(),(cR (oP.mpr #[b,e])).symm]
 have K:Asks (model P w) A s d (λx=>k (hV ks x)) (ks.toArray.zip vs.toArray):=by
  refine#[λx y C l H v=>?_,λi j b g I z=>?_]
  .obtain⟨i,b,rfl⟩:=c x l;obtain⟨j,g,rfl⟩:=c y H;have z:=ask i j C () () (by rw[f i b,f j g]at v;exact v);rw[n i b,n j g];exact z
  .rw[sz]at b g;rw[f i b,f j g]at z;exact I (inj i j b g z)
 have run:=Oy (E:=E) (st:=SortSt.mk' d (ks.toArray.zip vs.toArray) #v[] 7 none) (Q:=λ_ a=>Q a s) K #[zZ,EO _,zZ] zZ () λa B up=>?_
 .exact eZ run (λr u h=>by obtain⟨rfl,h⟩:=h;exact h) λ_ _ e=>e
 .have q:=pV B.perm;rw[sz]at up q;have mem:∀i,i<vs.length->(arrOf a).getD i d0∈ks.toArray.zip vs.toArray:=λi b=>Bd B.perm ();have J:Arr vs.length ((arrOf a).map (hV ks)):=by
   refine ot.mpr ?_;rw[AH];refine((ot.mp B.perm).map (hV ks)).trans (.of_eq ?_);refine nr λi=>?_;rw[cz,lY,BI];by_cases b:i<vs.length
   .rw[qc (),mS b];exact de some (f i b)
   .rw[ES (),jg (by simp;lia)];rfl
  have m:∀i,i<vs.length->((arrOf a).map (hV ks)).getD i 0=hV ks ((arrOf a).getD i d0):=λi b=>by
   rw[qq,Array.getElem?_map,qc ()];rfl
  refine G ((arrOf a).map (hV ks)) a J (λx y L D=>?_) ?_ B.ok
  .rw[m x (),m y D];exact up x y (iE _) L D
  .apply Array.toList_inj.mp;rw[AH]
   unfold hI;rw[AH,i0];refine sq λx l=>?_;obtain⟨i,b,rfl⟩:=c x ((DC B.perm).mp (DZ.mp l));show((ks.toArray.zip vs.toArray).getD i d0).2=vs.getD (hV ks ((ks.toArray.zip vs.toArray).getD i d0)) Value.none
   rw[f i b,n i b]
theorem NW{R:PySem.Fin->Sh->Prop}(z:s.heap.get? a=some (seqObj "list" vs.toArray n))(few:vs.length<=4000)(nd:vs.Nodup)(inj:∀i j,i<vs.length->j<vs.length->k i=k j->i=j)(ask:∀r,(∀b o,b≠a->s.heap.get? b=some o->r.get? b=some o)->2<=vs.length->Fo P w A vs (λi j=>decide (k i<k j)) {s with heap:=r})
  (q:∀p r c,Arr vs.length p->qh k p vs.length->r.get? a=some (seqObj "list" (hI vs p).toArray c)->(∀b o,b≠a->s.heap.get? b=some o->r.get? b=some o)->R (.done (.ret .none)) {s with heap:=r}):
  wpAny (model P w) A (Builtin.«list.sort» #[[.ref a],[]]) R E s:=by
 have Y:=cK z
 let D:=s.heap.update a (Obj.mapSeq λ_=>(#v[]:AV))
 obtain⟨B,u⟩:∃B,D.get? a=some (seqObj "list" #v[] B):=#[_,xC z λ_=> #v[]]
 let h:=(D.push (seqObj "tuple" vs.toArray 0)).push (seqObj "list" #v[] 0)
 have M:∀b o,b≠a->s.heap.get? b=some o->D.get? b=some o:=λb o t e=>(ko _ _ (dG t)).trans e;have k3:∀b o,b≠a->s.heap.get? b=some o->h.get? b=some o:=λb o t e=>Bm (M b o t e) _ _;have l:h.get? a=some (seqObj "list" #v[] B):=Bm u _ _;rw[list_sort_plain];refine bU (listItems_at z zZ ?_);refine bU (wW z zZ ?_ (by rw[eF,db];lia) (iE _));refine bU (B7 u zZ ?_);refine bU (wpAny_newTuple ?_ (by rw[db];lia));refine bU (yM ?_ (iE _));refine jo ?_;dsimp only;have fin:∀(st:SortSt) (p:Array Nat),Arr vs.length p->qh k p vs.length->(arrOf st).map (·.2)=(hI vs p).toArray->failedOf st=none->∀G,G=h->
   wpAny (model P w) A (do
    let f:=(<-seqEpoch a) != B
    Builtin.List.listUpdate (.ref a) λ_=>(arrOf st).map (·.2)
    if let some e:=failedOf st then rule "list.sort.comparison-raised";throw e
    if f then rule "list.sort.modified";raiseError "ValueError" "list modified during sort"
    ret .none) R E {s with heap:=G}:=λst p C up g H G N=>by
  subst N;rw[g];have sz:(hI vs p).toArray.size=vs.length:=by
   rw[eF,bW,dR,C.size]
  obtain⟨c2,I⟩:∃c2,(h.update a (Obj.mapSeq λ_=>(hI vs p).toArray)).get? a=some (seqObj "list" (hI vs p).toArray c2):=#[_,xC l λ_=>(hI vs p).toArray];refine bU (B7 l zZ ?_);refine bU (wW l zZ ?_ (iE _) (dh (ql sz) (by rw[db];lia)));rw[H];simp only[bne_self_eq_false,Bool.false_eq_true,if_false];exact b9 (q p _ c2 C up I λb o t e=>(ko _ _ (dG t)).trans (k3 b o t e))
 by_cases O:2<=vs.length
 .have v: ¬vs.toArray.size<2:=by rw[eF];lia
  rw[wA v,wA v];refine bU (eZ (ask h k3 O) (λd s0 J=>?_) λ_ _ x=>x.elim);obtain⟨rfl,J⟩:=J;refine bU (eZ (Jh (Q:=λm L=>L={s with heap:=h}/\∃p:Array Nat,Arr vs.length p/\qh k p vs.length/\(arrOf m).map (·.2)=(hI vs p).toArray/\failedOf m=none) rfl () nd inj J λp m T a2 a3 U=>#[rfl,p,T,a2,a3,U]) ?_ λ_ _ x=>x);rintro⟨⟨⟩,st⟩ L ⟨rfl,p,C,up,g,H⟩;exact fin st p C up g H _ rfl
 .have v:vs.toArray.size<2:=by rw[eF];lia
  rw[wB v,wB v];refine bU (b9 (bU (b9 ?_)));refine fin _ (List.range vs.length).toArray (EO _) (λx y xy yn=>by lia) ?_ zZ _ rfl;rw[Jz];exact JV rfl
end
theorem K0(c:TupsAt H e d)(nd:d.Nodup):(e.map Value.ref).Nodup:=by
 refine oM.mpr λi j g k o z=>?_;rw[vg,vg]at z;rw[bW]at g k;have z:=Value.ref.inj z;have p:=c.len;have l:=c.is i e[i] (d[i]'()) (b7 g) (b7 _);have m:=c.is j e[j] (d[j]'()) (b7 k) (b7 _);rw[z,m]at l;have n:d[j]'()=d[i]'():=by
  have y:=fK l;injection y with y
  exact(List.map_inj_right λa b h=>zw (V.int.inj h)).mp y
 have q:=(jj (i:=j) (j:=i) () nd).mp (by rw[b7 (),b7 (),n]);lia
noncomputable def gh(g:bS->Int)(t u:bS):Bool:=su (g t) t (g u) u
theorem oO(g:bS->Int)(f:LN):Total (gh g) f:=by
 refine#[λx=>?_,λx y z b a=>?_,λx _ y _ h=>?_]
 .unfold gh su;rw[wB zZ,pP]
 .unfold gh su at b a|-;by_cases d:g x=g y
  .rw[wB d]at b;by_cases c:g y=g z
   .rw[wB c]at a;rw[wB ()];exact By _ _ _ b a
   .rw[wA c]at a;have:=f7 a;rw[wA ()];exact dF ()
  .rw[wA d]at b;have i:=f7 b;by_cases c:g y=g z
   .rw[wA ()];exact dF ()
   .rw[wA c]at a;have l2:=f7 a;rw[wA ()];exact dF ()
 .unfold gh su;by_cases e:g x=g y
  .rw[wB e,wB e.symm];exact FW x y h
  .rw[wA e,wA λz=>e z.symm]
   rcases Int.lt_or_gt_of_ne e with q|q
   .exact .inl (dF q)
   .exact .inr (dF q)
def xA(H:Hp)(g:bS->Int)(b a:Ad)(t:bS):Prop:=H b=some (.tup [.int (g t),.ref a])/\H a=some (.tup (t.map nv))
structure KeysAt(H:Hp)(g:bS->Int)(κs as:As)(ts:LN):Prop where
 l1:κs.length=ts.length
 l2:as.length=ts.length
 is:∀(i:Nat) κ a t,κs[i]?=some κ->as[i]?=some a->ts[i]?=some t->xA H g κ a t
section
variable{d:St}
theorem Ev(I:Inv X b d H s)(h:xA H g i a t):∃o j e n,s.heap.get? i=some o/\o.cls=.type "tuple"/\o.data=.seq #v[.int (g t) j,.ref a] n/\Vals (t.map nv) e/\SeqObj "tuple" s.heap a e:=by
 obtain⟨_,e,r,o,m,p,c,q,_⟩:=(I.hok i _ h.1);obtain⟨k,l,rfl,⟨j,rfl⟩,u⟩:∃k l,e=k::l/\RelV (.int (g t)) k/\Vals [.ref a] l:=by
  cases r with
  |cons x y=>exact#[_,_,zZ,x,y]
 obtain⟨A,rfl,v⟩:=iz u;cases v;obtain⟨f,w,z,_⟩:=I.tuple (R4 h.2);exact#[o,j,f,c,m,p,q,w,Ly z]
theorem Pb{A:Ar}{Q:Bool->Sh->Prop}{E:VP}(O:A.units+8<cLine)(I:Inv X b d H s)(k:xA H g f a t)(l:xA H g c h u)(q:Q (gh g t u) s):
  wpAny (model X.prog X.w) A (keyLt' (tuples' true) (.ref f) (.ref c)) Q E s:=by
 obtain⟨T,m,r,U,v,Y,w,n,x⟩:=Ev I k;obtain⟨o2,k2,y,n2,B,y2,C,o,D⟩:=Ev I l;refine kat_lt v w B C ?_;have z:=fE (A:=A) (s:=s) (i:=g t) (j:=g u) (t:=m) (u:=k2);refine kat_cons ?_;unfold gh su at q;by_cases e:g t=g u
 .rw[dF e]at z;rw[wB e]at q;refine z _ _ _ _ (kat_yes (kat_cons ?_));obtain⟨G,J,L⟩:=xX I 1 (A:=A) () (i7 (R4 k.2)) (i7 (R4 l.2)) zZ rfl;refine J _ _ _ _ ?_;cases G with
  |true=>
   have M:=df.mp (L.mp zZ);subst M;rw[pP]at q;refine kat_yes (kat_nil q)
  |false=>
   refine kat_no (kat_one _ _ ?_);have N:t.length=r.length:=by simpa using n.length
   have l2:u.length=y.length:=by simpa using o.length
   have p:=OB (A:=A) x D () (Ky n o);rw[<-N,<-l2]at p;exact p _ _ _ _ q
 .rw[e8 e]at z;rw[wA e]at q;exact z _ _ _ _ (kat_no (JG _ q))
theorem GX(I:Inv X b d H s):∀{κs as} {ts},KeysAt H g κs as ts->∃fs:Vs,KatTups s.heap (κs.map Value.ref) fs/\fs.length=κs.length/\∀f∈fs,∃i t,f=.int i t
 | [],as,ts,_=>#[[],.nil,zZ,λ_ z=>nomatch z]
 |κ::κs,[],ts,h=>by have:=h.l1;have:=h.l2;simp at *;lia
 |κ::κs,a::as,[],h=>by have:=h.l1;simp at this
 | κ::κs,a::as,t::ts,h=>by
  obtain⟨fs,c,k2,k3⟩:=GX I #[by simpa using h.l1,by simpa using h.l2,λi κ a t j k l=>h.is (i+1) κ a t j k l];obtain⟨o,u,m,n,p,q,r,_⟩:=Ev I (h.is 0 κ a t zZ zZ zZ);exact#[_::fs,.cons p q r zZ c,by simp[k2],λf hf=>by
   rcases cP.mp hf with e|hf
   .exact#[_,_,e]
   .exact k3 f hf]
theorem Rs(r:A.units+8<cLine)(I:Inv X b d H s)(B:1<=k.length)(h:KeysAt H g c p k):Fo X.prog X.w A (c.map Value.ref) (λi j=>gh g (k.getD i []) (k.getD j [])) s:=by
 obtain⟨fs,u,k2,k3⟩:=GX I h;have D:=h.l1;have l2:=h.l2;refine kat_kind (T:= .type "int") u () (λf v=>?_) zZ #[zZ,λi j C m q w=>?_]
 .obtain⟨i,t,rfl⟩:=k3 f v;exact .now
 .rw[bW]at m q;have l:∀{i},i<c.length->∃e a,(c.map Value.ref).getD i Value.none=.ref e/\xA H g e a (k.getD i []):=λ{i} m=>by
   obtain⟨e,n⟩:∃e,c[i]?=some e:=#[_,b7 m];obtain⟨a,o⟩:∃a,p[i]?=some a:=#[_,b7 ()];refine#[e,a,?_,h.is i e a _ n o (pN ()).1];rw[dO,cz,n];rfl
  obtain⟨e,a,n,x⟩:=l m;obtain⟨y,E,o,z⟩:=l q;show wpAny (model X.prog X.w) A (keyLt' _ ((c.map Value.ref).getD i Value.none) ((c.map Value.ref).getD j Value.none)) C _ s;rw[n,o];exact Pb r I x z w
end
inductive gM(g:bS->Int)(d:List V)(H:Hp)(Q:VK)(b:XK):Prop|mk:∀(a:Ad) (t:bS),d=[.ref a]->H a=some (.tup (t.map nv))->(∀e c,Same H c->c e=some (.tup [.int (g t),.ref a])->Q (.ref e) c)->gM g d H Q b
section
variable{X:Cx}{d:AO}{j:St}
theorem Qt{us:Vs}(F:FnOk X.prog X.w X.K X.mg X.base cG m f n l c)(g:Room m X.A.in1.in1)(i:Binds X.K n l [])(I:Inv X d j H s)(r:Vals vs us)(h:c vs H Q E0):
  wpAny (model X.prog X.w) X.A.in1.in1 (call (.ref f) us) (EP X d j Q) (λ_ _=>False) s:=by
 have k:(us++[]).length=l.length:=by rw[hA,<-r.length];exact F.len _ _ _ _ h
 have b:=i s us I.kIn k;rw[hA]at b;refine nR (lW (F.run X.A.in1.in1 X.stack s H #[us,[]] us vs Q E0 g I.env0.in1.in1 b r h) λr p a=>?_);cases r with
 |error e=>exact a.elim
 |ok o=>
  cases o with
  |ret u=>exact I.after a
  |next=>exact wE a
  |brk=>exact wE a
  |cont=>exact wE a
theorem Inv.pin2(I:Inv X d j H s)(a:FpOk X d H b)(e:FpOk X d H c)(f:s.heap.get? b=some o)(g:s.heap.get? c=some u)(h:∀v,o.data≠ .cell v)(i:∀v,u.data≠ .cell v):Inv X ((b,o)::(c,u)::d) j H s:=
 I.pins_of λp hp=>by
  rcases cP.mp hp with rfl|hp
  .exact#[f,a.1,a.2.1,a.2.2.1,h]
  .rcases cP.mp hp with rfl|hp
   .exact#[g,e.1,e.2.1,e.2.2.1,i]
   .exact I.pin p (dY _ hp)
theorem Inv.unpin2{b c:Ad}(I:Inv X ((b,o)::(c,u)::d) j H s):Inv X d j H s:=
 I.pins_of λp a=>I.pin p (dY _ (eM _ (eM _ a)))
theorem FpOk.to(h:FpOk X d H b)(e:a b=none):FpOk X d a b:=#[e,h.2]
theorem Hv{E:VP}{y D:Ad}{A:Vl->PUnit->Sem (ForInStep PUnit)}{Q:Sh->Prop}(F:FnOk X.prog X.w X.K X.mg X.base cG m f n l (gM g))(hr:Room m X.A.in1.in1)(hb:Binds X.K n l [])(ne:y≠D)(B:∀x (s:Sh) (C:VP) (Qy:Sh->Prop),wpAny (model X.prog X.w) X.A.in1.in1 (call (.ref f) [x]) C (λ_ _=>False) s->
   (∀k s',C k s'->∃aa c,s'.heap.get? y=some (seqObj "list" aa c)/\aa.size<64/\Qy {s' with heap:=s'.heap.update y (Obj.mapSeq (·.push k))})->wpAny (model X.prog X.w) X.A.in1.in1 (A x ⟨⟩) (λr s'=>r=.yield ⟨⟩/\Qy s') E s):
  ∀r rt H h c s,Inv X d j H s->TupsAt H r rt->s.heap.get? y=some (seqObj "list" (h.map Value.ref).toArray c)->s.heap.get? D=some (seqObj "list" #v[] J)->FpOk X d H y->FpOk X d H D->h.length+r.length<64->
   (∀L G c2 s2,Inv X d j L s2->Same H L->KeysAt L g G r rt->s2.heap.get? y=some (seqObj "list" ((h++G).map Value.ref).toArray c2)->s2.heap.get? D=some (seqObj "list" #v[] J)->FpOk X d L y->FpOk X d L D->Q s2)->
   wpAny (model X.prog X.w) X.A.in1.in1 (forIn (r.map Value.ref) PUnit.unit A) (λ_ s'=>Q s') E s
 | [],[],H,h,c,s,I,T,eS,eD,M,f2,_,q=>by
  rw[zP,List.forIn_nil];exact b9 (q H [] c s I (Same.refl _) #[zZ,zZ,λi p a t e=>by simp at e] (by rw[List.append_nil];exact eS) eD M f2)
 | [],_::_,H,h,c,s,I,T,eS,eD,M,f2,_,q=>by have:=T.len;simp at this
 |_::_,[],H,h,c,s,I,T,eS,eD,M,f2,_,q=>by have:=T.len;simp at this
 | a::r,t::rt,H,h,c,s,I,T,eS,eD,M,f2,ae,q=>by
  rw[mF]at ae;rw[hJ,List.forIn_cons];have ha:=T.is 0 a t zZ rfl;have I1:=I.pin2 M f2 eS eD (λ_ z=>nomatch z) (λ_ z=>nomatch z);have go:=Qt (Q:=λv w=>∃p,v=.ref p/\Same H w/\w p=some (.tup [.int (g t),.ref a])) F hr hb I1 (vs:=[.ref a]) (.cons zZ .nil) #[a,t,zZ,ha,λp w N e=>#[p,zZ,N,e]];refine bU (eZ (B _ s _ (λs'=>∃p w O,Inv X d j w s'/\Same H w/\w p=some (.tup [.int (g t),.ref a])/\s'.heap.get? y=some (seqObj "list" ((h++[p]).map Value.ref).toArray O)/\s'.heap.get? D=some (seqObj "list" #v[] J)/\FpOk X d w y/\FpOk X d w D) go λk s' hk=>?_) (λx s' hx=>?_) λ_ _ z=>z)
  .obtain⟨v,w,I',rv,p,rfl,N,U⟩:=hk;cases rv;obtain⟨p1,p2,p3,p4,_⟩:=I'.pin (y,_) (dY _ (dy ..));obtain⟨d1,d2,d3,d4,_⟩:=I'.pin (D,_) (dY _ (eM _ (dy ..)));obtain⟨O,af⟩:∃O,(s'.heap.update y (Obj.mapSeq (·.push (Value.ref p)))).get? y=some (seqObj "list" ((h++[p]).map Value.ref).toArray O):=by
    have ea:(List.map Value.ref h).toArray.push (.ref p)=((h++[p]).map Value.ref).toArray:=by simp
    rw[<-ea];exact#[_,xC p1 (·.push (Value.ref p))]
   refine#[_,_,p1,by rw[eF,bW];lia,p,w,O,?_,N,U,af,?_,M.to p2,f2.to d2]
   .obtain⟨_,w1,w2,w3,w4,w5⟩:=M;exact I'.unpin2.turned (λb o nb e=>(ko _ _ (dG nb)).trans e) p2 w1 w3 w4 w5
   .exact(ko _ _ ne).trans d1
  .obtain⟨rfl,p,w,O,I',N,U,ag,ah,g1,g2⟩:=hx;refine Hv F hr hb ne B r rt w (h++[p]) O s' I' #[by simpa using T.len,λi b u J e2=>N _ _ (T.is (i+1) b u J e2)] ag ah g1 g2 (by rw[List.length_append];show h.length+1+r.length<64;lia) λL G c2 s2 I2 Y K2 ab ai h1 h2=>q L (p::G) c2 s2 I2 (N.trans Y) #[by simp[K2.l1],by simp[K2.l2],λi aj b u J e2 e3=>?_] (by rw[List.append_assoc]at ab;exact ab) ai h1 h2;cases i with
   |zero=>
    cases J;cases e2;cases e3;exact#[Y _ _ U,(N.trans Y) _ _ ha]
   |succ i=>exact K2.is i aj b u J e2 e3
end
section
variable{u:St}{f D:Ad}{E:VP}
theorem O5{R:PySem.Fin->Sh->Prop}(F:FnOk X.prog X.w X.K X.mg X.base cG v f B w (gM g))(hr:Room v X.A.in1.in1)(hb:Binds X.K B w [])(hu:X.A.units+64<cLine)(I:Inv X t u H s)(T:TupsAt H r m)(nd:m.Nodup)(am:m.length<64)(ho:s.heap.get? D=some (seqObj "list" (r.map Value.ref).toArray n)) (fD:FpOk X t H D)(q:∀U p s2 c,Inv X t u U s2->Same H U->Arr m.length p->qh (λi=>ky (gh g) m (m.getD i [])) p m.length->s2.heap.get? D=some (seqObj "list" (hI (r.map Value.ref) p).toArray c)->FpOk X t U D->R (.done (.ret .none)) s2):
  wpAny (model X.prog X.w) X.A.in1.in1 (ksk_tree D (.ref f) false) R E s:=by
 have la:=T.len;have Y:(r.map Value.ref).length=m.length:=by rw[bW,la]
 have lD:=cK ho;obtain⟨d0,d1,d2,d3,d4,d5⟩:=fD
 let h1:=s.heap.update D (Obj.mapSeq λ_=>(#v[]:AV))
 obtain⟨L,aa⟩:∃L,h1.get? D=some (seqObj "list" #v[] L):=#[_,xC ho λ_=> #v[]];have I1:Inv X t u H {s with heap:=h1}:=I.turned (t':=s.toks) (λb o nb e=>(ko _ _ (dG nb)).trans e) d0 d1 d3 d4 d5
 let G:=h1.push (seqObj "tuple" (r.map Value.ref).toArray 0)
 have I3:Inv X t u H {s with heap:=G.push (seqObj "list" #v[] 0)}:=I1.kept (t':=s.toks) λb o e=>Bm e _ _;have ag:(G.push (seqObj "list" #v[] 0)).get? D=some (seqObj "list" #v[] L):=Bm aa _ _;have ah:(G.push (seqObj "list" #v[] 0)).get? G.objs.size=some (seqObj "list" ((([]:As)).map Value.ref).toArray 0):=eQ _ rfl;have lk:s.heap.objs.size<=G.objs.size:=by
  show _<=(h1.push _).objs.size;rw[size_push'];show _<=(s.heap.update D _).objs.size+1;rw[Heap.size_update];exact re _
 have fk:=I.fpOk lk (I.hok.fresh lk);have ne:=mC (eB lD lk);unfold ksk_tree;refine bU (listItems_at ho zZ ?_);refine bU (wW ho zZ ?_ (by rw[eF,db];lia) (iE _));refine bU (B7 aa zZ ?_);refine bU (wpAny_newTuple ?_ (by show(r.map Value.ref).length<=_;rw[db];lia));refine bU (yM ?_ (iE _));refine jo ?_;show wpAny (model X.prog X.w) X.A.in1.in1 (ksk_rest D (.ref f) false (r.map Value.ref).toArray L (.ref G.objs.size)) R E {s with heap:=G.push (seqObj "list" #v[] 0)};unfold ksk_rest;refine bU (pC ?_);rw[List.forIn_toArray];refine bU (Hv F hr hb ne (λx s0 C Qy hx hC=>?_) r m H [] 0 _ I3 T ah ag fk #[d0,d1,d2,d3,d4,d5] (by simp;lia) λU J c2 s2 I2 gg K2 eS eD f1 f2=>?_)
 .refine bU (qb (eZ hx (λk s' hk=>?_) λ_ _ z=>z.elim));obtain⟨ai,c,e,l,qy⟩:=hC k s' hk;refine bU (wW e zZ ?_ (by rw[db];lia) (by show(ai.push k).size<=_;rw[pE,db];lia));exact b9 #[zZ,qy]
 rw[EW]at eS;have ab:(J.map Value.ref).length=(r.map Value.ref).length:=by rw[bW,Y,K2.l1]
 refine bU (listItems_at eS zZ ?_);have fin:∀(st:SortSt) (p:Array Nat),Arr m.length p->qh (λi=>ky (gh g) m (m.getD i [])) p m.length->(arrOf st).map (·.2)=(hI (r.map Value.ref) p).toArray->failedOf st=none->
   wpAny (model X.prog X.w) X.A.in1.in1 (ksk_tail D false L (.ref G.objs.size) st) R E s2:=λst p ar up M hf=>by
  have sz:(hI (r.map Value.ref) p).toArray.size=m.length:=by
   rw[eF,bW,dR,ar.size]
  unfold ksk_tail
  try dsimp only
  rw[M];have I4:Inv X t u U {s2 with heap:=s2.heap.update G.objs.size (Obj.mapSeq λ_=>(#v[]:AV))}:=by
   obtain⟨w0,w1,w2,w3,w4,w5⟩:=f1;exact I2.turned (t':=s2.toks) (λb o nb e=>(ko _ _ (dG nb)).trans e) w0 w1 w3 w4 w5
  have N:(s2.heap.update G.objs.size (Obj.mapSeq λ_=>(#v[]:AV))).get? D=some (seqObj "list" #v[] L):=(ko _ _ ne).trans eD;obtain⟨c5,aj⟩:∃c5,((s2.heap.update G.objs.size (Obj.mapSeq λ_=>(#v[]:AV))).update D (Obj.mapSeq λ_=>(hI (r.map Value.ref) p).toArray)).get? D=some (seqObj "list" (hI (r.map Value.ref) p).toArray c5):=#[_,xC N λ_=>(hI (r.map Value.ref) p).toArray];refine bU (wW eS zZ ?_ (by rw[eF,db];lia) (iE _));refine bU (wpAny_letGo ?_);refine bU (B7 N zZ ?_);refine bU (wW N zZ ?_ (iE _) (by show(hI (r.map Value.ref) p).toArray.size<=_;rw[sz,db];lia));rw[hf];simp only[bne_self_eq_false,Bool.false_eq_true,if_false];refine b9 (q U p _ c5 ?_ gg ar up aj f2);obtain⟨w0,w1,w2,w3,w4,w5⟩:=f2;exact I4.turned (t':=s2.toks) (λb o nb e=>(ko _ _ (dG nb)).trans e) w0 w1 w3 w4 w5
 unfold ksk_end;simp only[Bool.false_eq_true,if_false];by_cases an:2<=m.length
 .have n2: ¬(r.map Value.ref).toArray.size<2:=by rw[eF];lia
  rw[wA n2,wA n2];have To:=oO g m;have inj:=J2 (d:=([]:bS)) To nd;refine bU (eZ (Rs (A:=X.A.in1.in1) (by show X.A.units+1+1+8<cLine;lia) I2 () K2) (λκ s0 hk=>?_) λ_ _ x=>x.elim);obtain⟨rfl,hk⟩:=hk;have al:J.length=m.length:=K2.l1;have ae:(J.map Value.ref).Nodup:=by
   refine oM.mpr λi j hi hj ij z=>?_;rw[vg,vg]at z;rw[bW]at hi hj;have z:=Value.ref.inj z;have L:=K2.is i J[i] (r[i]'()) (m[i]'()) (b7 hi) (b7 _) (b7 _);have e2:=K2.is j J[j] (r[j]'()) (m[j]'()) (b7 hj) (b7 _) (b7 _);obtain⟨L,ak⟩:=L;obtain⟨e2,af⟩:=e2;rw[z,e2]at L;have ea:r[j]'()=r[i]'():=by
    have y:=fK L;injection y with y
    injection y with _ y
    injection y with y
    exact V.ref.inj y
   rw[ea]at af;have et:m[j]'()=m[i]'():=by
    have y:=fK (af.symm.trans ak);injection y with y
    exact(List.map_inj_right (f:=nv) λa b h=>zw (V.int.inj h)).mp y
   have e4:=(jj (i:=j) (j:=i) () nd).mp (by rw[b7 (),b7 (),et]);lia
  refine bU (eZ (Jh (ks:=J.map Value.ref) (vs:=r.map Value.ref) (k:=λi=>ky (gh g) m (m.getD i [])) (Q:=λO s'=>s'=s0/\∃p:Array Nat,Arr m.length p/\qh (λi=>ky (gh g) m (m.getD i [])) p m.length/\(arrOf O).map (·.2)=(hI (r.map Value.ref) p).toArray/\failedOf O=none) ab () ae (by rw[Y];exact inj) (λi j C li lj hC=>hk i j C () () (by
   have e:=To.asks (pN (d:=([]:bS)) (show i<m.length by lia)).2 (pN (d:=([]:bS)) (show j<m.length by lia)).2;show C (gh g (m.getD i []) (m.getD j [])) _
   rw[<-e];exact hC)) λp O a1 a2 a3 a4=>#[zZ,p,by rw[<-Y];exact a1,by rw[<-Y];exact a2,a3,a4]) ?_ λ_ _ x=>x)
  rintro⟨⟨⟩,st⟩ s' ⟨rfl,p,ar,up,M,hf⟩;exact fin st p ar up M hf
 .have n2:(r.map Value.ref).toArray.size<2:=by rw[eF];lia
  rw[wB n2,wB n2];refine bU (b9 (bU (b9 ?_)));refine fin _ (List.range m.length).toArray (EO _) (λx y xy yn=>by lia) ?_ rfl;rw[<-Y,Jz];exact JV ab
end
section
variable{j:St}
theorem Hw(I:Inv X m j H s)(h:H d=some (.dT c))(e:c.map (·.1)=g.map nk):∃M n D,Lies s.heap d n D/\(d==sysModules)=false/\TupsAt H M g/\(∀(i:Nat) E,n[i]?=some E->∃a,M[i]?=some a/\E.key=.ref a)/\n.size=g.length/\g.Nodup/\g.length<=sizeLine:=by
 obtain⟨z,U,w,l,o,n,D,Y,e2,e3,N,nd⟩:=(I.hok d _ h);have l1:=pL l;have l2:c.length=g.length:=by rw[<-bW,e,bW]
 have le:=AI N;have G:∀i t,g[i]?=some t->∃k v y u,c[i]?=some (k,v)/\w[i]?=some (k,y,u)/\k=nk t/\H y=some (.tup (t.map nv)):=λi t B=>by
  have li:=(cf.mp B).1;obtain⟨⟨k,v⟩,r⟩:∃p,c[i]?=some p:=#[_,b7 ()];obtain⟨⟨k',y,u⟩,x,J,p2,p3⟩:=BY l r;have O:k=nk t:=by
   have C:(c.map (·.1))[i]?=some k:=by rw[cz,r];rfl
   rw[e,cz,B]at C;exact(fK C).symm
  have L:=J;subst L;refine#[k,v,y,u,r,x,O,?_];have A:=p2;rw[O,g7]at A;exact A
 refine#[w.map (·.2.1),n,D,#[o,Y,e2,e3],U,#[by rw[bW];lia,λi b t Q B=>?_],λi E T=>?_,(),?_,()]
 .obtain⟨k,v,y,u,_,x,_,hy⟩:=G i t B;rw[cz,x]at Q;cases Q;exact hy
 .rw[entry_at N]at T;obtain⟨q,eq,rfl⟩:=dW.mp T;exact#[q.2.1,by rw[cz,eq];rfl,zZ]
 .have C:(w.map (·.1))=g.map nk:=by
   rw[<-e];refine nr λi=>?_;rw[cz,cz];cases r:c[i]? with
   |none=>rw[jg (by rw[<-l1];exact DW.mp r)];rfl
   |some p=>
    obtain⟨q,x,J,_⟩:=BY l r;rw[x];exact de some J.symm
  rw[C]at nd;exact(vb.mp nd).imp λh z=>h (de nk z)
theorem Ek{e:As}{d:Array DictEntry}{b:AV}(is:∀(i:Nat) c,d[i]?=some c->∃a,e[i]?=some a/\c.key=.ref a)(n:e.length=d.size)(f:ItemsOf (λi v=>∃c,d[i]?=some c/\v=c.key) b d.size):b.toList=e.map Value.ref:=by
 refine nr λi=>?_;by_cases h:i<d.size
 .obtain⟨v,g⟩:∃v,b[i]?=some v:=#[_,md (by rw[f.1];exact h)];obtain⟨c,j,k⟩:=f.2 i v g;obtain⟨a,l,m⟩:=is i c j;rw[lY,g,cz,l,k,m];rfl
 .rw[jg (by rw[dR,f.1];lia),jg (by rw[bW];lia)]
theorem BB:∀l:As,Vals (l.map V.ref) (l.map Value.ref)
 | []=> .nil
 |x::l=> .cons zZ (BB l)
end
inductive iH(g:bS->Int)(f:List V)(H:Hp)(Q:VK):Prop|mk:∀d a c,f=[V.ref d]->H d=some (.dT a)->a.map (·.1)=c.map nk->c.length<64->(∀D bs e b,Same H b->H D=none->b D=some (.lst (bs.map V.ref))->TupsAt b bs e->e.Perm c->e.Pairwise (λx y=>gh g x y=true)->Q (.ref D) b)->iH g f H Q
theorem Go{a:As}(b:Arr a.length p):hI (a.map Value.ref) p=(p.toList.map λi=>a.getD i 0).map Value.ref:=by
 rw[i0];refine sq λi c=>?_;have d:i<a.length:=by
  have m:=(ot.mp b).mem_iff.mp c;simpa using m
 show(a.map Value.ref).getD i Value.none=Value.ref (a.getD i 0);rw[dO,dO,cz,b7 d];rfl
theorem LY{n:St}(N:X.calm=true)(O:X.A.units+64<cLine)(F:FnOk X.prog X.w X.K X.mg X.base cG x f y B (gM g))(U:Room x X.A.in1.in1)(Y:Binds X.K y B [])(I:Inv X k n H s)(h:iH g [.ref d] H Q):wpAny (model X.prog X.w) X.A (call (.builtin "sorted") [.ref d] [(Str.ofString "key",.ref f)]) (EP X k n Q) X.xe s:=by
 obtain⟨d',aa,ts,e0,hd,e,u,q⟩:=h;cases e0;obtain⟨a,es,ep,L,nm,T,is,le,nd,v⟩:=Hw I hd e;refine call_function_entry_kw kind_sorted plain_sorted entry_sorted (ksk_s1 _ _) ?_;unfold Builtin.«sorted»;refine bU (b9 ?_);refine bU (kdu_collect (t6 nm) (by simpa using I.ok.hd N) L () λj r ab keep it=>?_);have ea:=Ek is (by rw[T.len,le]) it;rw[ea];have t:Inv X k n H {s with heap:=j,toks:=r}:=I.kept keep;refine bU (yM ?_ (by rw[bW,T.len,db];lia));have C:(j.push (seqObj "list" (a.map Value.ref).toArray 0)).get? j.objs.size=some (seqObj "list" (a.map Value.ref).toArray 0):=eQ _ rfl;have I2:Inv X k n H {s with heap:=j.push (seqObj "list" (a.map Value.ref).toArray 0),toks:=r}:=t.kept λb o z=>c7 _ z;have D:=t.hok.fresh (cg _);have fD:=t.fpOk (cg _) D;refine bU (jo (wpAny_call_entry_kw slot_list_sort #[_,C,zZ] Fy (O5 F U Y O I2 T nd u C fD λH2 p s2 c Iz E l up G f2=>#[_,rfl,?_]) (ksk_l1 _ _)));have w:Arr a.length p:=by rw[T.len];exact l
 rw[Go w]at G;have T2:=(T.same E).pick l;obtain⟨J,w1,w2,w3,w4,w5⟩:=f2;have few:((p.toList.map λi=>a.getD i 0).map V.ref).length<=sizeLine:=by
  rw[bW,bW,dR,l.size];exact v
 have I5:=Iz.track (o:= .lst ((p.toList.map λi=>a.getD i 0).map V.ref)) J #[few,_,c,BB _,G] (dh t.sz (cg _)) w1 w4 w5;have M:=cn J (.lst ((p.toList.map λi=>a.getD i 0).map V.ref));exact b9 #[_,zZ,.ref j.objs.size,_,I5,zZ,q _ _ _ _ (E.trans M) D bY (T2.same M) (HY l) (HQ (oO g ts) l up)]
def Mr(g:bS->Int)(a:TE):TE:=λb H Q=>a b H λx c=>∃d,x=.ref d/\iH g [.ref d] c Q
theorem K7{p w y a:Pos}(z:X.calm=true)(A:X.A.units+64<cLine)(B:dC X.prog X.w X.K X.mg X.base b n v (gM g))(C:Room (n+2) X.A)(D:Gl X "sorted")(E:X.mg "sorted"=none)(i:Gl X b)(G:PE X e c)(j:(b==("__debug__":Str))=false:=by decide) (k:starEach [e] X.env=[(false,eval e X.env)]:=by rfl):PE X (.Call (.Name "sorted" p) [e] [#[some "key",.Name b w,y]] a) (Mr g c):=by
 intro J s L H Q I h;obtain⟨f,T,F,l,U,M⟩:=B;refine n7 (tm I D E boot_sorted (callWith_kw ?_ (by rw[k];rfl) (by rw[k];rfl)));have N:=ci G ce k;refine cj (N a J s L H (λm o=>match m with| [x]=>∃d,x=.ref d/\iH g [.ref d] o Q|_=>False) I h) λY s1 ⟨m,o,t,r,q⟩=>?_
 match m,r,q with
 | [x],r,q=>
  obtain⟨d,rfl,q⟩:=q;obtain⟨u,rfl,O⟩:=iz r;cases O;refine kws_cons (nK t i l (kws_nil (LY z A F C.in1.in1 M t q)) j)
end L2
namespace L2
open PySem PySem.Spec PyProof.Rows
section
variable{j:St}
theorem Inv.freeze(I:Inv X l j H s)(h:H d=some (.dT c))(e:s.heap.get? d=some o):Inv X l j (bT H d (.frz o (.dT c))) s:=by
 obtain⟨z,b,f,a,g,i,k,m,n,t,u,nd⟩:=(I.hok d _ h);refine I.write (by rw[h];exact True.intro) (.inl rfl) (λ_ _ _ q=>q) #[o,e] #[e,z,b,f,Paired.mapP a λp q r=>#[r.1,?_,r.2.2],g,i,k,m,n,t,u,nd];rw[bX (nE r.2.1 h)];exact r.2.1
theorem AB(I:Inv X l j H s)(h:H d=some (.frz o (.dT c)))(e:c.map (·.1)=g.map nk):∃B m w,s.heap.get? d=some o/\o.ExactDict/\o.data=.dict m w/\(d==sysModules)=false/\TupsAt H B g/\(∀(i:Nat) x,m[i]?=some x->∃a,B[i]?=some a/\x.key=.ref a)/\m.size=g.length:=by
 obtain⟨C,z,O,A,n,o',m,w,D,Q,T,E,nd⟩:=(I.hok d _ h);rw[C]at D;cases D;have l1:=pL n;have l2:c.length=g.length:=by rw[<-bW,e,bW]
 have le:=AI E;refine#[A.map (·.2.1),m,w,C,Q,T,O,#[by rw[bW];lia,λi b t G J=>?_],λi x L=>?_,()]
 .have li:=(cf.mp J).1;obtain⟨⟨k,v⟩,M⟩:∃p,c[i]?=some p:=#[_,b7 ()];obtain⟨⟨k',y,u⟩,U,p1,Y,p3⟩:=BY n M;have kk:k=nk t:=by
   have N:(c.map (·.1))[i]?=some k:=by rw[cz,M];rfl
   rw[e,cz,J]at N;exact(fK N).symm
  rw[cz,U]at G;cases G;have r:=Y;rw[kk,g7]at r;exact r
 .rw[entry_at E]at L;obtain⟨q,eq,rfl⟩:=dW.mp L;exact#[q.2.1,by rw[cz,eq];rfl,zZ]
end
noncomputable def ua(d:Ad)(o:Obj):It:=
  #[λi H=>∃(b:List (List cQ×V)) (c:LN) (t:bS),H d=some (.frz o (.dT b))/\b.map (·.1)=c.map nk/\c[i]?=some t,
   λi H x e=>e=H/\∃a,x=.ref a/\∀(b:List (List cQ×V)) (c:LN),H d=some (.frz o (.dT b))->b.map (·.1)=c.map nk->∃t:bS,c[i]?=some t/\H a=some (.tup (t.map nv)),
   λi H=>∃b,∃c:LN,H d=some (.frz o (.dT b))/\b.map (·.1)=c.map nk/\c.length<=i]
theorem MQ{c d:LN}(h:c.map nk=d.map nk):c=d:=vj (λa b e=>w6 e) h
theorem Oq{K:R6}(ne:d≠c)(l:o.data=.dict y ep)(ox:o.ExactDict):Turn P w K tg (ua d o) [c] c (λi h=>h.get? c=some (qk d i y.size ep)) where
 mem:=by simp
 obj:=λi h st b f=>by
  have e:b=c:=by simpa using f
  subst e;exact#[_,st,λv z=>by
   have z':=z;cases z']
 keep:=λi h m st k=>k c (by simp) _ st
 item:=by
  intro X A hw B hc i za s σ H E I p st C;obtain⟨D,ts,t,r,u,x⟩:=C;obtain⟨as,G,J,L,e2,g,nm,T,is,le⟩:=AB I r u;rw[l]at g;cases g;obtain⟨M,N,f2,O,U,Y⟩:=p c (by simp);have li:=(cf.mp x).1;obtain⟨en,ee⟩:∃en,y[i]?=some en:=#[_,md ()];obtain⟨a,ea,ek⟩:=is i en ee;refine JX st #[o,L,ox,l] ee λm j sb=>?_;have I1:=I.turned (t':=s.toks) (λb o f e=>(sb.2 b f).trans e) M N O U Y;refine#[_,zZ,zV j rfl rfl zZ #[.ref a,H,I1,ek,#[rfl,a,rfl,λaa ab g1 g2=>?_],j,λb f=>(p b f).1]];rw[r]at g1;cases g1;have tt:=MQ (u.symm.trans g2);subst tt;exact#[t,x,T.is i a t ea x]
 done:=by
  intro X A hw B hc i za s σ H E I p st C;obtain⟨D,ts,r,u,x⟩:=C;obtain⟨as,G,J,L,e2,g,nm,T,is,le⟩:=AB I r u;rw[l]at g;cases g;obtain⟨M,N,f2,O,U,Y⟩:=p c (by simp);exact J8 (I.ok.hd hc) st #[o,L,ox,l] (ES ()) λm eb=>#[zZ,I.turned (λb o f e=>eb b o f e) M N O U Y]
 self:=λ_ i s Q E st q=>by
  have ty:s.TypeIs (.ref c) "dict_keyiterator":=#[_,st,zZ];refine xa ty Cm (lV Cm ty Hz ?_ (JS _));exact b9 #[_,zZ,"dict_keyiterator",_,ty,ti.lookup,q]
def Qp(H:Hp)(d:Ad)(o:Obj)(a:List (List cQ×V))(b:Hp):Prop:=(H d=some (.frz o (.dT a))/\b=H)\/(H d=some (.dT a)/\b=bT H d (.frz o (.dT a)))
def xE(e:TE):TI:=λf H R=>e f H λx b=>∃d a,∃g:LN,x=.ref d/\a.map (·.1)=g.map nk/\(b d=some (.dT a)\/∃o,b d=some (.frz o (.dT a)))/\∀o c,Qp b d o a c->R (ua d o) c
theorem AA(z:PE X l tl):PI X a l (xE tl):=by
 intro m s n H R I h;refine cj (z m s n H _ I h) λv f ⟨x,t,p,A,B⟩=>?_;obtain⟨d,g,G,e,C,w,q⟩:=B;subst e;cases A;have go:∀i o,Inv X m n i f->i d=some (.frz o (.dT g))->R (ua d o) i->wpAny (model X.prog X.w) X.A (pyIter (.ref d)) (Dl X m n a R) X.xe f:=λi o j c r=>by
  obtain⟨J,L,M,k,u,y,D,T,is,N⟩:=AB j c C;refine Ka D #[o,k,u,y] ?_;refine#[f.heap.objs.size,[f.heap.objs.size],_,_,i,zZ,j.kept λb o e=>c7 _ e,Oq (dq (cK k)) y u,eQ _ zZ,λb E=>?_,r];have e:b=f.heap.objs.size:=by simpa using E
  subst e;exact j.fpOk (cg _) (j.hok.fresh (cg _))
 rcases w with c|⟨o,c⟩
 .obtain⟨_,_,_,_,o,_,_,k,_⟩:=(p.hok d _ c);exact go _ o (p.freeze c k) bY (q o _ (.inr #[c,zZ]))
 .exact go t o p c (q o _ (.inl #[c,zZ]))
section
variable{c:LN}{Fin:List V->Hp->Prop}
theorem IP(u:f.map (·.1)=c.map nk)(Pv:Nat->List V->Hp->Prop)(N:c.length<=sizeLine)(x:Pv 0 [] H)(z:∀i n H,i<=c.length->Pv i n H->H d=some (.frz o (.dT f))/\n.length<=i)(A:∀i a t n H,c[i]?=some t->H a=some (.tup (t.map nv))->Pv i n H->g (.ref a) (iv j h) H λr B=>sh (iv j h) r/\l r B λb w=>if b=true then k r w λy C=>Pv (i+1) (n++[y]) C else Pv (i+1) n w)(D:∀n H,Pv c.length n H->Fin n H):oN j g l k h (ua d o) H Fin:=by
 refine#[λi m n H=>m=c.length-i/\i<=c.length/\Pv i n H,#[c.length,by simp,Nat.zero_le _,x],?_];rintro i m n H ⟨rfl,E,p⟩;obtain⟨q,O⟩:=z i n H E p;by_cases s:i<c.length
 .refine .inr #[#[f,c,c[i],q,u,by simp[s]],(),Pv (i+1),λQ G I=>#[c.length-(i+1),Nat.sub_succ_lt_self _ _ s,zZ,s,I],λv G y=>?_];obtain⟨e,a,J,y⟩:=y;subst e J;obtain⟨t,L,M⟩:=y f c q u;exact A i a t n _ L M p
 .have e:i=c.length:=by lia
  subst e;exact .inl #[#[f,c,q,u,cg _],(),D n H p]
end
section
variable{ts:LN}{g:TG}{f:TS}{D:Ends}
theorem HL(n:c.map (·.1)=ts.map nk)(Pv:Nat->St->Hp->Prop)(u:Pv 0 b H)(v:∀i b H,i<=ts.length->Pv i b H->H d=some (.frz o (.dT c)))(w:∀i a t b H,ts[i]?=some t->H a=some (.tup (t.map nv))->Pv i b H->g (.ref a) b H λh r=>f {D with nx:=Pv (i+1),ct:=Pv (i+1),bk:=D.nx} h r) (z:∀b H,Pv ts.length b H->D.nx b H):
  ∃W:Nat->Nat->St->Hp->Prop,(∃m,W 0 m b H)/\∀i m b H,W i m b H->
   ((ua d o).stop i H/\D.nx b H)\/((ua d o).go i H/\∃N,(∀j k,N j k->∃s,s<m/\W (i+1) s j k)/\∀x k,(ua d o).yld i H x k->g x b k λh r=>f {D with nx:=N,ct:=N,bk:=D.nx} h r):=by
 refine#[λi m b H=>m=ts.length-i/\i<=ts.length/\Pv i b H,#[ts.length,by simp,Nat.zero_le _,u],?_];rintro i m b H ⟨rfl,A,p⟩;have q:=v i b H A p;by_cases l:i<ts.length
 .refine .inr #[#[c,ts,ts[i],q,n,by simp[l]],Pv (i+1),λj k B=>#[ts.length-(i+1),Nat.sub_succ_lt_self _ _ l,zZ,l,B],λx k y=>?_];obtain⟨e,a,C,y⟩:=y;subst e C;obtain⟨t,E,G⟩:=y c ts q n;exact w i a t b _ E G p
 .have e:i=ts.length:=by lia
  subst e;exact .inl #[#[c,ts,q,n,cg _],z b H p]
end
section
variable{d:St}
theorem Inv.turnedN{ch:As}(I:Inv X a d H s)(k:∀b o,b∉ch->s.heap.get? b=some o->h'.get? b=some o)(h:∀b∈ch,FpOk X a H b):Inv X a d H {s with heap:=h',toks:=t'}:=by
 have i:∀b u,H b=some u->b∉ch:=λb u e f=>by rw[(h b f).1]at e;cases e
 refine I.step (λb f=>?_) (λb o _ _ g e _=>k b o g e) (λb o _ _ g e _=>#[o.slots,k b o g e]) (λb o _ _ n=>n) (λb o g e=>#[o,k b o g e])
  (λb w q=>q) (λb o u q=>q) (λb x q=>#[#v[],by rw[q];simp]) (λm j=>?_) (λb u q=>?_) I.bare
 .obtain⟨_,l,_,p,r,t⟩:=h b f;exact#[p,l,r,t]
 .exact j.at' λo e=>k _ o (λf=>(h _ f).2.1 zZ) e
 .refine(I.hok b u q).stay (λc o v e=>k c o ?_ e) (λ_ z=>z) λ_ _ z=>z
  rcases v with z|z
  .rw[z];exact i b u q
  .exact i c _ z
end
structure ZipL(h:Heap)(z TI TO i1 i2 t1 t2:Ad)(f0:Vl)(i:Nat):Prop where
 zip:IsZip h z TI TO f0
 ins:IsPair h TI (.ref i1) (.ref i2)
 out:∃a b,IsPair h TO a b
 one:h.IsListIter i1 t1 i
 two:h.IsListIter i2 t2 i
theorem QG{n a b:Nat}(c:a<n)(d:b<n):ZipApart (n+4) (n+2) (n+3) n (n+1) a b:=by
 constructor<;>(intro h;have e:=h;lia)
theorem JA{z TO i1 i2 c:Ad}(h:c∉[z,TO,i1,i2]):c≠z/\c≠TO/\c≠i1/\c≠i2:=by
 simp only[List.mem_cons,List.not_mem_nil,or_false,not_or]at h;exact h
noncomputable def yp(K:R6)(c d:Ad):It:=
  #[λi H=>∃a b x y,SqL K H c a/\SqL K H d b/\a[i]?=some x/\b[i]?=some y,
   λi H v e=>∃T x y,v=.ref T/\H T=none/\e=bT H T (.tup [x,y])/\(∀a,SqL K H c a->a[i]?=some x)/\∀b,SqL K H d b->b[i]?=some y,
   λi H=>∃a b,SqL K H c a/\SqL K H d b/\(a.length<=i\/b.length<=i)]
theorem L3{K:R6}{z TI TO i1 i2 G J:Ad}(D:ZipApart z TI TO i1 i2 G J):
  Turn P w K (.Tuple p x1 T) (yp K G J) [z,TI,TO,i1,i2] z (λi h=>ZipL h z TI TO i1 i2 G J .none i) where
 mem:=dy ..
 obj:=λi h Z b f=>by
  obtain⟨a0,b0,l⟩:=Z.out;simp only[List.mem_cons,List.not_mem_nil,or_false]at f
  rcases f with rfl|rfl|rfl|rfl|rfl
  .exact#[_,Z.zip,λv q=>by cases q]
  .exact#[_,Z.ins,λv q=>by cases q]
  .exact#[_,l,λv q=>by cases q]
  .obtain⟨o,e,c,d⟩:=Z.one;exact#[o,e,λv z=>by rw[d]at z;cases z]
  .obtain⟨o,e,c,d⟩:=Z.two;exact#[o,e,λv z=>by rw[d]at z;cases z]
 keep:=λi h h' Z k=>#[k z (by simp) _ Z.zip,k TI (by simp) _ Z.ins,let⟨a,b,o⟩:=Z.out;#[a,b,k TO (by simp) _ o],Z.one.at λo e=>k i1 (by simp) o e,Z.two.at λo e=>k i2 (by simp) o e]
 item:=by
  intro X U hw Y hc i L s M H E I r Z hg;subst U hw Y;obtain⟨xs,ys,x,y,N,O,hx,hy⟩:=hg;obtain⟨aa,rv,p1,_⟩:=I.list N;obtain⟨t,m,p2,_⟩:=I.list O;obtain⟨u,hu,ru⟩:=rv.get hx;obtain⟨v,hv,ab⟩:=m.get hy;obtain⟨ae,af,g⟩:=Z.out;refine wpAny_pyNext_zip_item D Z.zip Z.ins g Z.one Z.two p1.isList p2.isList (by simpa using hu) (by simpa using hv) λn c1 c2 c3 c4 pr _ Q=>?_;have k1:=λc o nc e=>let⟨n1,n2,n3,n4⟩:=JA nc;Q c o n1 n2 n3 n4 e
  have A:ZipL n z TI TO i1 i2 G J (rawInt s.heap.objs.size) (i+1):=#[c1,Q _ _ D.TIz D.TITO D.TIi1 D.TIi2 Z.ins,#[_,_,c2],c3,c4];have sub:∀b∈[z,TO,i1,i2],b∈[z,TI,TO,i1,i2]:=λb f=>by simp only[List.mem_cons,List.not_mem_nil,or_false]at f|-;rcases f with e|e|e|e<;>simp[e]
  have I1:=I.turnedN (t':=s.toks) k1 λb f=>r b (sub b f);have nT:=I.hok.fresh (cg _);have ok:ObjOk X.prog X.w (bT H s.heap.objs.size (.tup [x,y])) n s.heap.objs.size (.tup [x,y]):=#[by show 2<=sizeLine;decide,[u,v],.cons ru (.cons ab .nil),#[_,pr,zZ,_,zZ,zZ]];have I2:=Inv.trackNew I I1 ok;refine#[_,zZ,wpAny_letOwnedTupleGo_zip A.zip λh2 z2 B=>?_];obtain⟨a0,b0,l⟩:=A.out;have old:∀b∈[z,TI,TO,i1,i2],b≠s.heap.objs.size:=λb f=>by
   obtain⟨a1,b1,C⟩:=Z.out;simp only[List.mem_cons,List.not_mem_nil,or_false]at f
   rcases f with rfl|rfl|rfl|rfl|rfl
   .exact dq (cK Z.zip)
   .exact dq (cK Z.ins)
   .exact dq (cK C)
   .obtain⟨o,e,_⟩:=Z.one;exact dq (cK e)
   .obtain⟨o,e,_⟩:=Z.two;exact dq (cK e)
  have j:∀b∈[z,TI,TO,i1,i2],bT H s.heap.objs.size (.tup [x,y]) b=none:=λb f=>by rw[bX (old b f)];exact(r b f).1
  obtain⟨f0,f1,f2,f3,f4,f5⟩:=r z (dy ..);have I3:=I2.turned (t':=s.toks) (λb o nb e=>B.extBut b o nb e) (j z (dy ..)) f1 f3 f4 f5;refine#[.ref s.heap.objs.size,_,I3,zZ,#[_,x,y,zZ,nT,zZ,λag h=>?_,λah h=>?_],#[z2,B.extBut _ _ D.TIz A.ins,#[a0,b0,B.extBut _ _ D.TOz l],A.one.at λo e=>B.extBut _ _ D.i1z e,A.two.at λo e=>B.extBut _ _ D.i2z e],j]
  .rw[I.list_inj h N];exact hx
  .rw[I.list_inj h O];exact hy
 done:=by
  intro X U hw Y hc i L s M H E I r Z hg;subst U hw Y;obtain⟨xs,ys,N,O,he⟩:=hg;obtain⟨aa,rv,p1,_⟩:=I.list N;obtain⟨t,m,p2,_⟩:=I.list O;have l1:=rv.length;have l2:=m.length;have sub:∀b∈[z,TO,i1,i2],b∈[z,TI,TO,i1,i2]:=λb f=>by simp only[List.mem_cons,List.not_mem_nil,or_false]at f|-;rcases f with e|e|e|e<;>simp[e]
  obtain⟨ae,af,g⟩:=Z.out;refine wpAny_pyNext_zip_end (I.ok.hd hc) D Z.zip Z.ins g Z.one Z.two p1.isList p2.isList ?_ λn Q=>#[zZ,I.turnedN (λc o nc e=>let⟨n1,n2,n3,n4⟩:=JA nc;Q c o n1 n2 n3 n4 e) λb f=>r b (sub b f)]
  rcases he with h|h
  .exact .inl (by simp;lia)
  .exact .inr (by simp;lia)
 self:=λ_ _ _ _ _ Z q=>wpAny_pyIter_zip Z.zip q
def ze(K:R6)(d:TA):TI:=λe H R=>d e H λf a=>∃b c g h,f=[.ref b,.ref c]/\SqL K a b g/\SqL K a c h/\R (yp K b c) a
theorem IT{c:List Expr}{J:Nat}{L:Pos}{p d:Pos}(M:Gl X "zip")(N:X.mg "zip"=none)(O:PA X [a,b] u)(Q:starEach [a,b] X.env=[(false,eval a X.env),(false,eval b X.env)]:=by rfl)
  (f:starEach [b] X.env=[(false,eval b X.env)]:=by rfl):PI X (.Tuple c J L) (.Call (.Name "zip" p) [a,b] [] d) (ze X.K u):=by
 intro v s w H R I h;refine Call_ (tm I M N PyProof.Rows.boot_zip (Ch (cj (O d v s w H _ I h) λx s1 ⟨vs,y,g,T,l⟩=>?_) (by rw[Q,f]) (by rw[f];rfl)));obtain⟨j,k,xs,ys,e,l,U,q⟩:=l;subst e;obtain⟨m,x,rfl,n,Y⟩:∃m i,x=m::i/\RelV (.ref j) m/\Vals [.ref k] i:=by cases T with|cons a b=>exact#[_,_,rfl,a,b]
 obtain⟨u2,rfl,o⟩:=iz Y;cases n;cases o;obtain⟨aa,rv,z,_⟩:=g.list l;obtain⟨A,ab,B,_⟩:=g.list U;have r:=let⟨_,e,_⟩:=z.isList;cK e
 have t:=let⟨_,e,_⟩:=B.isList;cK e
 refine call_zip_2 z.isList B.isList λC c1 c2 c3 c4 c5 _ all=>?_;have Z:ZipL C (s1.heap.objs.size+4) (s1.heap.objs.size+2) (s1.heap.objs.size+3) s1.heap.objs.size (s1.heap.objs.size+1) j k .none 0:=#[c1,c2,#[_,_,c3],c4,c5];refine wpAny_pyIter_zip Z.zip ?_;have I2:=g.kept (t':=s1.toks) all;have D:=QG r t;refine#[_,_,_,_,y,zZ,I2,L3 D,Z,λb E=>?_,q];have G:s1.heap.objs.size<=b:=by
  simp only[List.mem_cons,List.not_mem_nil,or_false]at E
  rcases E with e|e|e|e|e<;>(rw[e];first|exact cg _|exact n' _ _)
 exact g.fpOk G (g.hok.fresh G)
theorem Hf{K:R6}{g:TG}{n:TS}{D:Ends}(Pv:Nat->St->Hp->Prop)(q:Pv 0 a H)(r:∀i a H,Pv i a H->SqL K H f xs/\SqL K H h ys)(s:∀i x y T a H,xs[i]?=some x->ys[i]?=some y->H T=none->Pv i a H->g (.ref T) a (bT H T (.tup [x,y])) λb j=>n {D with nx:=Pv (i+1),ct:=Pv (i+1),bk:=D.nx} b j) (t:∀a H,Pv (min xs.length ys.length) a H->D.nx a H):
  ∃W:Nat->Nat->St->Hp->Prop,(∃m,W 0 m a H)/\∀i m a H,W i m a H->
   ((yp K f h).stop i H/\D.nx a H)\/((yp K f h).go i H/\∃N,(∀c d,N c d->∃o,o<m/\W (i+1) o c d)/\∀x d,(yp K f h).yld i H x d->g x a d λb j=>n {D with nx:=N,ct:=N,bk:=D.nx} b j):=by
 refine#[λi m a H=>m=min xs.length ys.length-i/\i<=min xs.length ys.length/\Pv i a H,#[min xs.length ys.length,by simp,Nat.zero_le _,q],?_];rintro i m a H ⟨rfl,C,p⟩;obtain⟨k,l⟩:=r i a H p;by_cases lt:i<min xs.length ys.length
 .have u:i<xs.length:=by lia
  have l2:i<ys.length:=by lia
  refine .inr #[#[xs,ys,xs[i],ys[i],k,l,b7 u,b7 l2],Pv (i+1),λc d w=>#[min xs.length ys.length-(i+1),(),zZ,lt,w],λv d z=>?_];obtain⟨T,x,y,rfl,hT,rfl,A,B⟩:=z;exact s i x y T a H (A xs k) (B ys l) hT p
 .have e:i=min xs.length ys.length:=by lia
  exact .inl #[#[xs,ys,k,l,()],t a H (e▸p)]
noncomputable def xM(K:R6)(l:Ad):It:=
  #[λi H=>∃a x,SqL K H l a/\a[i]?=some x,
   λi H v b=>∃T x,v=.ref T/\H T=none/\b=bT H T (.tup [.int (i:Nat),x])/\∀a,SqL K H l a->a[i]?=some x,
   λi H=>∃a,SqL K H l a/\a.length<=i]
def Nr(e a l:Ad)(i:Nat)(h:Heap):Prop:=(∃old,IsEnum h e a (i:Nat) old)/\h.IsListIter a l i
theorem P2{K:R6}{e d l:Ad}(U:e≠d):Turn P w K (.Tuple m x1 B) (xM K l) [e,d] e (λi h=>Nr e d l i h) where
 mem:=dy ..
 obj:=λi h Z b f=>by
  obtain⟨⟨old,c⟩,o,g,r,C⟩:=Z;simp only[List.mem_cons,List.not_mem_nil,or_false]at f
  rcases f with rfl|rfl
  .exact#[_,c,λv q=>by cases q]
  .exact#[_,g,λv q=>by rw[C]at q;cases q]
 keep:=λi h n Z k=>by
  obtain⟨⟨old,c⟩,o,g,r,C⟩:=Z;exact#[#[old,k e (by simp) _ c],o,k d (by simp) _ g,r,C]
 item:=by
  intro X D hw G Y i t s y H E I p Z J;subst D hw G;obtain⟨xs,x,A,hx⟩:=J;obtain⟨⟨old,c⟩,g⟩:=Z;obtain⟨L,M,N,_⟩:=I.list A;obtain⟨u,hu,ru⟩:=M.get hx;refine wpAny_pyNext_enum_item c g N.isList (by simpa using hu) U λn ho O hT hs k=>?_;have I1:=I.turnedN (t':=s.toks+1) (λb o j Q=>k b o (λz=>j (by simp[z])) (λz=>j (by simp[z])) Q) p;have nT:=I.hok.fresh (cg _);have ok:ObjOk X.prog X.w (bT H s.heap.objs.size (.tup [.int (i:Nat),x])) n s.heap.objs.size (.tup [.int (i:Nat),x]):=#[by show 2<=sizeLine;decide,[_,u],.cons #[_,zZ] (.cons ru .nil),#[_,hT,zZ,_,zZ,zZ]];have I2:=Inv.trackNew I I1 ok;refine#[_,zZ,wpAny_letOwnedTupleGo_enum ho λr T sb=>?_];have le:=cK c;have li:d<s.heap.objs.size:=by obtain⟨_,z,_⟩:=g;exact cK z
  have a:∀b∈[e,d],bT H s.heap.objs.size (.tup [.int (i:Nat),x]) b=none:=λb f=>by
   have j:b≠s.heap.objs.size:=by
    simp only[List.mem_cons,List.not_mem_nil,or_false]at f
    rcases f with rfl|rfl
    .exact dq le
    .exact dq li
   rw[bX j];exact(p b f).1
  obtain⟨f0,f1,f2,f3,f4,f5⟩:=p e (dy ..);have I3:=I2.turned (t':=s.toks+1) (λb o j e=>sb.extBut b o j e) (a e (dy ..)) f1 f3 f4 f5;refine#[.ref s.heap.objs.size,_,I3,zZ,#[_,x,zZ,nT,zZ,λaa h=>?_],#[#[_,T],?_],a]
  .rw[I.list_inj h A];exact hx
  .obtain⟨o,z1,z2,z3⟩:=O;exact#[o,sb.extBut _ _ (dG U) z1,z2,z3]
 done:=by
  intro X D hw G Y i t s y H E I p Z J;subst D hw G;obtain⟨xs,A,he⟩:=J;obtain⟨⟨old,c⟩,g⟩:=Z;obtain⟨L,M,N,_⟩:=I.list A;have l1:=M.length;refine wpAny_pyNext_enum_end (I.ok.hd Y) c g N.isList (by simp;lia) λn k=>#[zZ,?_];exact I.turnedN (ch:=[d]) (λb o j Q=>k b o (λz=>j (by simp[z])) Q) λb f=>p b (by rw[List.mem_singleton.mp f];simp)
 self:=λ_ _ _ _ _ Z q=>by
  obtain⟨⟨old,c⟩,_⟩:=Z;exact wpAny_pyIter_enum c q
def yF(K:R6)(b:TA):TI:=λc H R=>b c H λd a=>∃l e,d=[.ref l]/\SqL K a l e/\R (xM K l) a
theorem MP(y:Gl X "enumerate")(z:X.mg "enumerate"=none)(A:PA X [a] m)(B:starEach [a] X.env=[(false,eval a X.env)]:=by rfl):PI X (.Tuple c w x) (.Call (.Name "enumerate" p) [a] [] d) (yF X.K m):=by
 intro n s o H R I h;refine Call_ (tm I y z PyProof.Rows.boot_enumerate (Ch (cj (A d n s o H _ I h) λM s1 ⟨N,r,f,C,g⟩=>?_) (by rw[B];rfl) zZ));obtain⟨l,O,e,g,q⟩:=g;subst e;obtain⟨Q,rfl,i⟩:=iz C;cases i;obtain⟨D,T,E,_⟩:=f.list g;have j:=E.isList;refine call_enumerate_list j λG t J sz k=>wpAny_pyIter_enum t ?_;have L:=f.kept (t':=s1.toks) k;refine#[_,_,_,_,r,zZ,L,P2 (mC (nj _)),#[#[_,t],J],λb u=>?_,q];have v:s1.heap.objs.size<=b:=by
  simp only[List.mem_cons,List.not_mem_nil,or_false]at u
  rcases u with e|e<;>(rw[e];first|exact cg _|exact n' _ _)
 exact f.fpOk v (f.hok.fresh v)
section
variable{K:R6}{g:TG}{b:TS}{D:Ends}
theorem Ot(Pv:Nat->St->Hp->Prop)(n:Pv 0 a H)(o:∀i a H,i<=xs.length->Pv i a H->SqL K H l xs)(r:∀i T x a H,xs[i]?=some x->H T=none->Pv i a H->g (.ref T) a (bT H T (.tup [.int (i:Nat),x])) λc j=>b {D with nx:=Pv (i+1),ct:=Pv (i+1),bk:=D.nx} c j) (s:∀a H,Pv xs.length a H->D.nx a H):
  ∃W:Nat->Nat->St->Hp->Prop,(∃m,W 0 m a H)/\∀i m a H,W i m a H->
   ((xM K l).stop i H/\D.nx a H)\/((xM K l).go i H/\∃N,(∀d f,N d f->∃k,k<m/\W (i+1) k d f)/\∀x f,(xM K l).yld i H x f->g x a f λc j=>b {D with nx:=N,ct:=N,bk:=D.nx} c j):=by
 refine#[λi m a H=>m=xs.length-i/\i<=xs.length/\Pv i a H,#[xs.length,by simp,Nat.zero_le _,n],?_];rintro i m a H ⟨rfl,t,p⟩;have q:=o i a H t p;by_cases h:i<xs.length
 .refine .inr #[#[xs,xs[i],q,by simp[h]],Pv (i+1),λd f u=>#[xs.length-(i+1),Nat.sub_succ_lt_self _ _ h,zZ,h,u],λv f y=>?_];obtain⟨T,x,rfl,w,rfl,y⟩:=y;exact r i T x a _ (y xs q) w p
 .have e:i=xs.length:=by lia
  subst e;exact .inl #[#[xs,q,cg _],s a H p]
end
structure CompScope1(X:Cx)(vs:Ss)(x:Str)(sc:Scope):Prop where
 kind:sc.kind=.function
 spl:∃l1 l2,sc.names=l1++(x,.cell)::l2/\(∀y∈l1,y.2≠ .cell)/\∀y∈l2,y.2≠ .cell
 look:sc.names.lookup x=some .cell
 locs:∀y∈sc.names,y.2=.local->sc.names.lookup y.1=some .local
 own:∀y∈X.N.map (gF vs),sc.names.lookup y≠some .local/\y≠x
 hid:∀y∈vs,sc.names.lookup (xh y)=none
 nd:(vs++X.N.map (gF vs)).Nodup
 free:∀y∈sc.names,y.2=.free->X.env.kindOf y.1=some .cell\/X.env.kindOf y.1=some .free
noncomputable def jc(X:Cx)(a:Ss)(x:Str)(b:Scope)(C:Ad)(s:Sh)(H:Hp)(c:As):Cx where
 prog:=X.prog
 w:=X.w
 K:=X.K
 mg:=X.mg
 base:=X.base
 A:=X.A
 N:=a++X.N.map (gF a)
 s₀:=s
 H₀:=H
 env:=compEnvC b ((x,C+1)::gA X.env b) C X.env
 outer:=X.stack
 stack:=X.stack
 ex:=c
 fn:=λy=>y==x
 calm:=X.calm
 pn:=X.pn
 xe:=λ_ _=>False
section
variable{A:Ar}{E:VP}{s:Sh}{c:List (Str×Ad)}{globals:Ad}
theorem Pz{Q:Env->Sh->Prop}(r:∃i l2,d.names=i++(x,.cell)::l2/\(∀y∈i,y.2≠ .cell)/\∀y∈l2,y.2≠ .cell)(q:Q {scope:=d,locals:=s.heap.objs.size,globals:=globals,cells:=(x,s.heap.objs.size+1)::c,qual:=qual,func:=none,code:=a.code,frame:=a.frame,builtins:=a.builtins}
      {s with heap:=(s.heap.push {cls:= .type "dict",data:= .dict #v[]}).push {cls:= .type "cell",data:= .cell none}}):wpAny M A (newFunctionEnv d globals c [] qual none .none (some a)) Q E s:=by
  obtain⟨i,l2,e,t,u⟩:=r;refine bU (A1 ?_);rw[e];have sz:(s.heap.push {cls:= .type "dict",data:= .dict #v[]}).objs.size=s.heap.objs.size+1:=pW ..;refine bU (Es _ (λrest cells j=>(∃f,rest=f++(x,.cell)::l2/\(∀y∈f,y.2≠ .cell)/\cells=c/\j={s with heap:=s.heap.push {cls:= .type "dict",data:= .dict #v[]}})\/((∀y∈rest,y.2≠ .cell)/\cells=(x,s.heap.objs.size+1)::c/\j={s with heap:=(s.heap.push {cls:= .type "dict",data:= .dict #v[]}).push {cls:= .type "cell",data:= .cell none}})) _ (λz rest b j l=>?_) (λb j l=>?_) _ _ (.inl #[i,rfl,t,rfl,rfl]))
  · rcases l with⟨f,k,g,rfl,rfl⟩|⟨h,rfl,rfl⟩
    · cases f with
      | nil=>
        injection k with n o
        subst n o;dsimp only;rw[wB (by rfl)];refine bU (A1 (b9 (.inr #[u,?_,zZ])));rw[sz]
      | cons y f=>
        injection k with n o
        subst n o;have p:=g z (dy ..);dsimp only;rw[wA (by simpa using p)];exact b9 (.inl #[f,zZ,λw hw=>g w (eM _ hw),zZ,zZ])
    · have p:=h z (dy ..)
      dsimp only;rw[wA (by simpa using p)];exact b9 (.inr #[λw hw=>h w (eM _ hw),zZ,zZ])
  · rcases l with⟨f,k,_⟩|⟨_,rfl,rfl⟩
    · cases f<;>cases k
    · refine bU ?_
      rw[List.forIn_nil];exact b9 (b9 q)
end
section
variable{g:St}
theorem LO{C:Ad}{fp:As}{m0:SV}(S:CompScope1 X f x a)(I:Inv X j g H s)(hf:∀b∈fp,FpOk X j H b)(ho:∀b∈fp,∃o,s.heap.get? b=some o)(k:∀b o,s.heap.get? b=some o->U.get? b=some o) (ag:U.Ns C m0) (G:s.heap.objs.size<=C) (ah:U.IsCell (C+1) none):Inv (jc X f x a C s H fp) j (iv f g) H {s with heap:=U,toks:=tk}:=by
 have l:∀y c,(gA X.env a).lookup y=some c->X.env.cells.lookup y=some c:=sr a.names [] λy c e=>by simp at e
 have B:∀y c,List.lookup y ((x,C+1)::gA X.env a)=some c->(y=x/\c=C+1)\/(y≠x/\(gA X.env a).lookup y=some c):=λy c e=>by
  rw[iO]at e;cases M:y==x with
  |true=>
   rw[M]at e;cases e;exact .inl #[eq_of_beq M,zZ]
  |false=>
   rw[M]at e;exact .inr #[λz=>by rw[z]at M;simp at M,e]
 have Y:List.lookup x ((x,C+1)::gA X.env a)=some (C+1):=by rw[iO];simp
 have aa:∀y,y≠x->List.lookup y ((x,C+1)::gA X.env a)=(gA X.env a).lookup y:=λy ny=>by
  rw[iO];have:(y==x)=false:=by simpa using ny
  rw[this]
 have fr:=λy e=>S.free (y,.free) (om e) rfl;have ai:=λy e=>I.ok.has y e;have N:∀y,a.names.lookup y=some .cell->y=x:=λy e=>by
  obtain⟨l1,l2,en,n1,n2⟩:=S.spl;have m:=om e;rw[en]at m
  rcases cW.mp m with z|z
  .exact wC zZ (n1 _ z)
  .rcases cP.mp z with z|z
   .injection z
   .exact wC zZ (n2 _ z)
 have t:∀{y} {kd},(relabel a X.env).names.lookup y=some kd->kd=.cell\/kd=.free->y=x\/a.names.lookup y=some .free:=λ{y kd} e hk=>by
  rcases uf e with z|⟨z,_⟩
  .rcases hk with q|q
   .subst q;exact .inl (N y z)
   .subst q;exact .inr z
  .exact .inr z
 have has:=λy e=>DE a.names [] y e (ai y (fr y e));have ab:=λy c e=>let⟨_,z⟩:=I.cell y c e;z.lt
 have kc:∀{c v},s.heap.IsCell c v->U.IsCell c v:=λ{c v} ⟨o,e,d⟩=>#[o,k _ _ e,d];have A:∀y,y=x\/a.names.lookup y=some .free->∃c,List.lookup y ((x,C+1)::gA X.env a)=some c:=λy h=>by
  by_cases e:y=x
  .rw[e];exact#[_,Y]
  .rcases h with h|h
   .exact wC h e
   .rw[aa y e];exact has y h
 refine#[#[I.ok.mod,S.kind,I.ok.glob,I.ok.blt,G,λy z c h1 Q=>?_,λy M=>?_,λy c z Q=>?_,I.ok.hd,I.ok.frames,.inl zZ,λb O=>#[?_,λy c e=>?_],I.bs,dh I.ok.bsz I.sz,λb o e O=>?_,λb O hs=>?_,I.stack,I.stkFree],
  rfl,I.bare,Un.kept k,#[m0,ag,λi y v e1 T e3=>?_],λy c e=>?_,I.hok.fresh G,λy c e=>?_,λp hp=>?_,I.hok.kept k,?_]
 .rcases B y c h1 with⟨rfl,rfl⟩|⟨_,L⟩
  .rcases B z _ Q with⟨rfl,_⟩|⟨_,q2⟩
   .rfl
   .exact wC (eB (ab _ _ (l _ _ q2)) (yd G)) (iG _)
  .rcases B z c Q with⟨rfl,rfl⟩|⟨_,q2⟩
   .exact wC (eB (ab _ _ (l _ _ L)) (yd G)) (iG _)
   .exact I.ok.inj y z c (l y c L) (l z c q2)
 .have aj:=M
  rcases aj with z|z
  .exact A y (t z (.inl zZ))
  .exact A y (t z (.inr zZ))
 .have ey:=eq_of_beq z;subst ey;have ae:List.lookup y ((y,C+1)::gA X.env a)=some c:=Q;rw[Y]at ae;cases ae;exact yd G
 .obtain⟨o,e⟩:=ho b O;exact dq (eB (cK e) G)
 .rcases B y c e with⟨_,rfl⟩|⟨_,L⟩
  .obtain⟨o,e⟩:=ho b O;exact mC (x6 (eB (cK e) G))
  .exact(hf b O).2.2.2.2.1 y c (l y c L)
 .obtain⟨_,_,_,z,_⟩:=hf b O
  rcases z with z|z
  .exact I.ok.noex b o e z
  .exact wC (eB (cK (I.ok.bs b o e).1) z) (iG _)
 .obtain⟨_,h1,Q,_⟩:=hf b O
  rcases cP.mp (I.stkSub b hs)with z|z
  .exact h1 z
  .exact Q z
 .have D:(f++X.N.map (gF f))[i]?=some y:=e1;have E:(List.replicate f.length none++g)[i]?=some (some v):=T;have hi:f.length<=i:=by
   by_cases z:i<f.length
   .rw[d7 (by simpa using z),List.getElem?_replicate]at E;split at E<;>cases E
   .lia
  rw[eC hi]at D;rw[eC (by simpa using hi),List.length_replicate]at E;have yN:=cF D;obtain⟨nl,nx⟩:=S.own y yN;have af:=e3;have J:a.names.lookup y=some .free:=by
   rcases af with z|z|z
   .rcases uf z with q|⟨_,q⟩
    .exact wC q nl
    .cases q
   .exact(t z (.inl zZ)).resolve_left nx
   .exact(t z (.inr zZ)).resolve_left nx
  have D:X.N[i-f.length]?=some y:=by
   have w:=D;rw[cz]at w;cases e:X.N[i-f.length]? with
   |none=>rw[e]at w;cases w
   | some y0=>
    rw[e]at w;have T:=fK w;unfold gF at T
    split at T
    .rename_i hc
     rw[<-T,S.hid y0 (by simpa using hc)]at J;cases J
    .rw[T]
  have ok:=fr y J;obtain⟨m,_,hl⟩:=I.loc;obtain⟨u,r,lk⟩:=hl (i-f.length) y v D E (.inr ok);refine#[u,r,?_]
  rcases lk with⟨q,_⟩|⟨_,c,ec,hc⟩
  .rcases ok with z|z<;>rw[z]at q<;>cases q
  .obtain⟨c',e'⟩:=has y J;have:=fK ((l y c' e').symm.trans ec);subst this;refine .inr #[?_,c',(aa y nx).trans e',kc hc]
   rcases af with z|z|z
   .rcases uf z with q|⟨_,q⟩
    .exact wC q nl
    .cases q
   .exact .inl z
   .exact .inr z
 .rcases B y c e with⟨_,rfl⟩|⟨_,L⟩
  .exact#[none,ah]
  .obtain⟨v,z⟩:=I.cell y c (l y c L);exact#[v,kc z]
 .rcases B y c e with⟨_,rfl⟩|⟨_,L⟩
  .exact I.hok.fresh (yd G)
  .exact I.freeC y c (l y c L)
 .obtain⟨e,n,ne,nf,d⟩:=I.pin p hp;refine#[k _ _ e,n,dq (eB (cK e) G),λz=>?_,d]
  rcases cP.mp (I.stkSub p.1 z)with q|q
  .exact ne q
  .exact nf q
 .show(List.replicate f.length none++g).length=(f++X.N.map (gF f)).length;rw[di,di,CS,bW,I.len]
end
section
variable{l:St}
theorem Mz{E:VP}{RR:Vl->Ad->Result->Sh->Prop}{Fin:List V->Hp->Prop}(S:CompScope1 X f j a) (hc:X.calm=true) (hg:∀C s H M,PG (jc X f j a C s H M) A g) (ht:∀C s H M,oH (jc X f j a C s H M) q G) (he:∀C s H M,PE (jc X f j a C s H M) t B)(I:Inv X k l H s) (T:Turn X.prog X.w X.K A J M it tn) (st:tn 0 s.heap) (hf:∀b∈M,FpOk X k H b) (hW:oN f g G B l J H Fin)(az:∀D C s' L ys m',Inv X k l (bT L D (.lst ys)) s'->L D=none->FpOk X k (bT L D (.lst ys)) C->s'.heap.Ns C m'->Fin ys L->RR (.ref D) C (.ok .next) s'):
  wpAny (model X.prog X.w) X.A (newList []) (λau s3=>wpAny (model X.prog X.w) X.A (newFunctionEnv a X.env.globals (gA X.env a) [] X.env.qual none .none (some X.env)) (λcenv s4=>
   codeAny (model X.prog X.w) X.A (.compStart (.ListComp t [#[A,m,q,0]] a w) 0 (.ref it) au {cenv with scope:=relabel a X.env}) (RR au cenv.locals) s4) E s3) E s:=by
 obtain⟨W,⟨m0,w0⟩,turn⟩:=hW;refine nq (Pz S.spl ?_);dsimp only;generalize an:s.heap.push {cls:= .type "list",dict:=none,data:= .seq ([]:Vs).toArray}=H2;have hC:H2.objs.size=s.heap.objs.size+1:=by rw[<-an,pW]
 have aj:=(Heap.Ns.new H2 (.type "dict")).push {cls:= .type "cell",data:= .cell none};have Y:((H2.push {cls:= .type "dict",data:= .dict #v[]}).push {cls:= .type "cell",data:= .cell none}).get? (H2.objs.size+1)=some {cls:= .type "cell",data:= .cell none}:=by
  rw[<-pW (h:=H2) (o:={cls:= .type "dict",data:= .dict #v[]})];exact eQ _ rfl
 have aa:∀b o,H2.get? b=some o->((H2.push {cls:= .type "dict",data:= .dict #v[]}).push {cls:= .type "cell",data:= .cell none}).get? b=some o:=λb o e=>c7 _ (c7 _ e);generalize(H2.push {cls:= .type "dict",data:= .dict #v[]}).push {cls:= .type "cell",data:= .cell none}=h1 at aj Y aa|-;have av:=aj;have ab:h1.IsCell (H2.objs.size+1) none:=#[_,Y,zZ];generalize aM:H2.objs.size=C at av hC ab|-;generalize ae:s.heap.objs.size=D at hC|-;have ao:D≠C:=by lia
 have below:∀b o,s.heap.get? b=some o->b≠D/\b≠C:=λb o e=>by
  have z:=cK e;rw[ae]at z;exact#[dq z,dq (by rw[hC];exact x6 z)]
 have old:=λb o e=>aa b o (an▸c7 _ e);have aA:h1.get? D=some {cls:= .type "list",data:= .seq ([]:Vs).toArray}:=aa _ _ (by rw[<-an,<-ae];exact eQ _ zZ);have af:∀b∈M,∃o,s.heap.get? b=some o:=λb O=>let⟨o,e,_⟩:=T.obj 0 _ st b O;#[o,e]
 have ap:∀b∈M,b≠D/\b≠C:=λb O=>let⟨o,e⟩:=af b O;below b o e
 have fD:∀L,L D=none->FpOk X k L D:=λL n=>I.fpOk () n;have fC:∀L,L C=none->FpOk X k L C:=λL n=>I.fpOk () n;have aB:∀p∈X.pn++k,p.1≠D:=λp hp=>(below _ _ (I.pin p hp).1).1;have aw:∀y c,List.lookup y ((j,C+1)::gA X.env a)=some c->c=C+1\/(gA X.env a).lookup y=some c:=λy c e=>by
  rw[iO]at e;cases hy:y==j with
  |true=>
   rw[hy]at e;cases e;exact .inl rfl
  |false=>
   rw[hy]at e;exact .inr e
 have aq:∀y c,List.lookup y ((j,C+1)::gA X.env a)=some c->c≠D:=λy c e=>by
  rcases aw y c e with rfl|e
  .lia
  .have e':=sr a.names [] (λy c e=>by simp at e) y c e;obtain⟨v,z⟩:=I.cell y c e';have z':c<s.heap.objs.size:=z.lt;rw[ae]at z';exact dq z'
 have aC:∀b,b∈cV X.stack->∃o,s.heap.get? b=some o:=λb O=>let⟨_,o,ho,_⟩:=I.stack.mem O;#[o,ho]
 have aD:D∉cV X.stack:=λz=>let⟨o,e⟩:=aC D z;(below _ _ e).1 rfl
 have ar:∀{pl:AO} {L:Hp},(∀p∈pl,p.1=D)->(∀b∈M,L b=none)->∀b∈M,FpOk (jc X f j a C s H M) (k++pl) L b:=λ{pl L} aE hn b O=>by
  obtain⟨_,q1,q2,q3,q4,q5⟩:=hf b O;refine#[hn b O,(ap b O).2,λz=>?_,.inl O,λy c e=>?_,λp hp=>?_]
  .rcases cP.mp (I.stkSub b z)with y|y
   .exact q1 y
   .exact q2 y
  .rcases aw y c e with rfl|e
   .obtain⟨o,eo⟩:=af b O;have z:b<s.heap.objs.size:=cK eo;rw[ae]at z;intro ez;have z2:C+1<D:=by rw[ez];exact z
    lia
   .exact q4 y c (sr a.names [] (λy c e=>by simp at e) y c e)
  .rcases cW.mp hp with z|z
   .exact q5 p (mM _ z)
   .rcases cW.mp z with y|y
    .exact q5 p (dY _ y)
    .rw[aE p y];exact dG (ap b O).1
 have ak:∀s3:Sh,s3={s with heap:=h1}->
   codeAny (model X.prog X.w) X.A (.compLoop (.ListComp t [#[A,m,q,0]] a w) 0 (.ref it) (.ref D) (compEnvC a ((j,C+1)::gA X.env a) C X.env)) (RR (.ref D) C) s3:=by
  rintro s3 rfl;have I0:Inv (jc X f j a C s H M) k (iv f l) H {s with heap:=h1}:=LO (tk:=s.toks) S I hf af old av () ab;refine IB (λn s'=>∃i ys Q no L,Inv (jc X f j a C s H M) k (iv f l) L s'/\tn i s'.heap/\(∀b∈M,L b=none)/\L D=none/\
   s'.heap.get? D=some {cls:= .type "list",data:= .seq Q.toArray no}/\Vals ys Q/\W i n ys L) ?_ m0
   #[0,[],[],0,H,I0,T.keep 0 _ _ st λb O o e=>old b o e,λb O=>(hf b O).1,I.hok.fresh (),aA,.nil,w0]
  rintro n s' ⟨i,ys,Q,no,L,I1,ax,ay,ah,aF,ai,w1⟩;have al:Inv (jc X f j a C s H M) (k++[(D,{cls:= .type "list",data:= .seq Q.toArray no})]) (iv f l) L s':=I1.pins_of λp hp=>by
   rcases cW.mp hp with z|z
   .exact I1.pin p (dY _ z)
   .have e:p=(D,{cls:= .type "list",data:= .seq Q.toArray no}):=by simpa using z
    subst e;exact#[aF,ah,ao,aD,λv z=>by have z':Data.seq _ _=Data.cell v:=z;cases z']
  have U:∀p∈[((D,{cls:= .type "list",data:= .seq Q.toArray no}):Ad×Obj)],p.1=D:=λp hp=>by
   have e:p=(D,{cls:= .type "list",data:= .seq Q.toArray no}):=by simpa using hp
   rw[e]
  rcases turn i n ys L w1 with⟨stop,hz,fin⟩|⟨go,hz,N,hN,step⟩
  .refine cj (T.done (jc X f j a C s H M) zZ zZ zZ hc i _ s' _ L (λ_ _=>False) al (ar U ay) ax stop) λr s4 ⟨hr,I4⟩=>?_;subst hr;have d4:s4.heap.get? D=some {cls:= .type "list",data:= .seq Q.toArray no}:=(I4.pin (D,_) (dY _ (dY _ (dy ..)))).1;have Io:Inv X k l L s4:=I.call' (H':=L) (ch:=M) I4.os I4.base I4.hok I4.bare λb O=>by
    obtain⟨_,q1,_,q3,q4,q5⟩:=hf b O;exact#[q3,q1,q4,q5]
   obtain⟨_,a1,_,a3,a4,a5⟩:=fD L ah;have Ia:=Io.adopt hz ai ah d4 (dh I.sz ()) a1 a4 a5;obtain⟨m4,aG,_⟩:=I4.loc;refine az D C s4 L ys m4 Ia ah (fC _ ?_) aG fin;rw[bX (dG ao)];exact I4.free
  .refine cj (T.item (jc X f j a C s H M) zZ zZ zZ hc i _ s' _ L (λ_ _=>False) al (ar U ay) ax go) λr s4 ⟨u,hr,h4⟩=>?_;subst hr;refine cj h4 λ_ s5 ⟨x,H5,I5,r5,y5,as,aH⟩=>?_;have aI:=I5.pinned (ar U aH) (T.obj _ _ as);refine cj (hg C s H M _ s5 _ H5 x u _ aI r5 (step x H5 y5)) λ_ s6 ⟨ag,H6,I6,k6,q6⟩=>?_;refine cj (ht C s H M _ s6 ag H6 _ I6 q6) λok s7 ⟨H7,I7,q7⟩=>?_;have am:(iv f l).length=ag.length:=by rw[I1.len,I6.len]
   have pinned:∀{H8:Hp} {s8:Sh},Inv (jc X f j a C s H M) (k++[(D,{cls:= .type "list",data:= .seq Q.toArray no})]++v0 M s5.heap) ag H8 s8->
     tn (i+1) s8.heap/\(∀b∈M,H8 b=none)/\H8 D=none/\s8.heap.get? D=some {cls:= .type "list",data:= .seq Q.toArray no}:=λ{H8 s8} I8=>by
    refine#[T.keep _ _ _ as λb O o e=>(I8.pin (b,o) (dY _ (dY _ (v6 O e)))).1,λb O=>?_,?_,?_]
    .obtain⟨o,e,d⟩:=T.obj _ _ as b O;exact(I8.pin (b,o) (dY _ (dY _ (v6 O e)))).2.1
    .exact(I8.pin (D,_) (dY _ (mM _ (dY _ (dy ..))))).2.1
    .exact(I8.pin (D,_) (dY _ (mM _ (dY _ (dy ..))))).1
   cases ok with
   |false=>
    rw[wA (by decide)]at q7|-;obtain⟨m',hm,w7⟩:=hN _ _ q7;obtain⟨a1,a2,a3,a4⟩:=pinned I7;exact#[m',hm,i+1,ys,Q,no,H7,(I7.unpinned.unpinned).weak am k6,a1,a2,a3,a4,ai,w7]
   | true=>
    rw[wB zZ]at q7|-;refine cj (he C s H M _ s7 ag H7 _ I7 q7) λyv s8 ⟨y,H8,I8,r8,n8⟩=>?_;obtain⟨m',hm,w8⟩:=hN _ _ n8;obtain⟨a1,a2,a3,a4⟩:=pinned I8;have aJ:Q.toArray.size<=sizeLine:=by
     have:=ai.length;rw[eF];lia
    refine wpAny_list_append_plain #[no,a4] (λh' pl sb=>?_) aJ;obtain⟨aK,aL⟩:=pl;have I9:Inv (jc X f j a C s H M) k ag H8 {s8 with heap:=h'}:=(I8.unpinned.unpinned).turned (t':=s8.toks) (it:=D) (λb o O e=>(sb.2 b O).trans e) a3 ao (.inr (ql ae)) aq aB;refine#[m',hm,i+1,ys++[y],Q++[yv],aK,H8,I9.weak am k6,T.keep _ _ _ a1 λb O o e=>(sb.2 b (ap b O).1).trans e,a2,a3,?_,ai.append (.cons r8 .nil),w8];rw[aL]
    simp
 exact codeAny_compStart_list (ak _ zZ) (T.self _ 0 _ _ _ (T.keep 0 _ _ st λb O o e=>old b o e) (ak _ zZ))
end
section
variable{w:St}
theorem F8{b:Env}{x:Str}:∀{a:List (Str×NameKind)},a.lookup x=some .cell->(a.map λ(n,k)=>if(k==NameKind.free&&b.scope.kind== .function&&b.kindOf n==some .cell)then(n,NameKind.cell)else(n,k)).lookup x=some .cell
 | [],h=>by simp at h
 | (n,k)::r,h=>by
  have d:=@F8 b x r;rw[iO]at h;rw[hJ];cases c:x==n with
  |true=>
   rw[c]at h;cases h;dsimp only;rw[wA (by simp),List.lookup_cons,c]
  | false=>
   rw[c]at h;dsimp only;split
   .rw[iO,c];exact d h
   .rw[iO,c];exact d h
theorem CompScope1.clos(S:CompScope1 X a x d)(I:Inv X m w H s):closureFor d X.env=pure (gA X.env d):=
 Ju λy b c=>I.ok.has y.1 (S.free y b c)
theorem K3(S:CompScope1 X [x] x d):∀C s H a,PG (jc X [x] x d C s H a) (.Name x p) (ge 0):=λC s H a=>
 fB S.nd zZ (.inr (F8 S.look)) (.inl (show(x==x)=true by simp))
theorem Ql{n k:Pos}(S:CompScope1 X r x d)(hc:X.calm=true)(hN:X.N.Nodup)(hj:X.N[j]?=some y)(U:X.env.scope.names.lookup y=some .local)(hi:PI X q c O)(hg:∀C s H p,PG (jc X r x d C s H p) q g)(ht:∀C s H p,oH (jc X r x d C s H p) f u)(he:∀C s H p,PE (jc X r x d C s H p) i t) (E:swapsWith (.ListComp i [#[q,c,f,0]] d l) (some (.Name y n)) k.line X.env=pure true:=by rfl) (hs:∀x,foldedSetIterable c X.env x=pure x:=by intro _;rfl):
  PS X (.Assign [.Name y n] (.ListComp i [#[q,c,f,0]] d l) k) (nh (t9 r O g u t) (ge j)):=by
 intro m s w H D I h;rw[exec_Assign_Name_used _ _ _ _ E];refine bU (uk (bU ?_));refine bU (eZ (Dw zZ hs (S.clos I) S.kind S.locs (cj (hi m s w H _ I h) λv s1 h1=>cj h1 λaa s2 h2=>?_)) (λ_ A hq=>b9 (b9 hq)) λ_ _ e=>e);obtain⟨it,p,tn,J,H2,e,I2,T,G,f2,hW⟩:=h2;subst e;refine Mz S hc hg ht he I2 T G f2 hW λB C A H' ys m' I' hD fC ns fin=>?_;obtain⟨c0,Y,c2,c3,c4,c5⟩:=fC;refine ED (Fq (v:= .ref B) I' hN hj (.inl U) (rfl) (λs3 I3 ⟨a,sb,ha⟩=>?_) (.inr U));have M:a≠C:=by
  rcases ha with z|z
  .rw[z];exact dG Y
  .exact c4 y a z
 refine#[m',ns.sameBut sb (dG M),λh' N=>#[_,_,I3.turned (λb o hb e=>(N.2 b hb).trans e) c0 Y c3 c4 c5,fin B hD]]
theorem LS{p h a:Pos}(S:CompScope1 X [x] x d)(k:X.calm=true)(m:X.N.Nodup)(n:X.N[j]?=some y)(o:X.env.scope.names.lookup y=some .local)(q:PI X (.Name x p) c g)(ht:∀C s H b,oH (jc X [x] x d C s H b) f u) (r:∀C s H b,PE (jc X [x] x d C s H b) i t)(e:swapsWith (.ListComp i [#[.Name x p,c,f,0]] d l) (some (.Name y h)) a.line X.env=pure true:=by rfl) (v:∀x,foldedSetIterable c X.env x=pure x:=by intro _;rfl):
  PS X (.Assign [.Name y h] (.ListComp i [#[.Name x p,c,f,0]] d l) a) (nh (t9 [x] g (ge 0) u t) (ge j)):=Ql S k m n o q (K3 S) ht r e v
end
structure CompSc1(N:Ss)(osc:Scope)(vs:Ss)(x:Str)(sc:Scope):Prop where
 kind:sc.kind=.function
 one:(sc.names.filter λy=>y.2== .cell)=[(x,.cell)]
 look:sc.names.lookup x=some .cell
 locs:∀y∈sc.names,y.2=.local->sc.names.lookup y.1=some .local
 own:∀y∈N.map (gF vs),sc.names.lookup y≠some .local/\y≠x
 hid:∀y∈vs,sc.names.lookup (xh y)=none
 nd:(vs++N.map (gF vs)).Nodup
 free:∀y∈sc.names,y.2=.free->osc.names.lookup y.1=some .cell\/osc.names.lookup y.1=some .free
theorem Ih:∀{l:List (Str×NameKind)},(l.filter λy=>y.2== .cell)=[(x,.cell)]->∃a l2,l=a++(x,.cell)::l2/\(∀y∈a,y.2≠ .cell)/\∀y∈l2,y.2≠ .cell
 | [],h=>by cases h
 | y::l,h=>by
  rw[List.filter_cons]at h;by_cases c:(y.2==NameKind.cell)=true
  .rw[wB c]at h;injection h with b d
   refine#[[],l,by rw[b];rfl,λ_ z=>(nomatch z),λz hz e=>?_];have:=List.filter_eq_nil_iff.mp d z hz
   exact this (by rw[e];rfl)
  .rw[wA c]at h;obtain⟨a,l2,e,f,g⟩:=Ih h;refine#[y::a,l2,by rw[e];rfl,λz hz=>?_,g]
   rcases cP.mp hz with rfl|hz
   .exact λe=>c (by rw[e];rfl)
   .exact f z hz
theorem CompSc1.to{X:Cx}(h:CompSc1 N osc vs x a)(b:X.N=N:=by rfl)(c:X.env.scope=osc:=by rfl):CompScope1 X vs x a:=by
 subst b c;exact#[h.kind,Ih h.one,h.look,h.locs,h.own,h.hid,h.nd,h.free]
noncomputable def MN(a osc:Scope):Bool:=a.names.all λy=> !(y.2== .free) || (osc.names.lookup y.1==some .cell || osc.names.lookup y.1==some .free)
theorem CompSc.toN(d:X.N=N)(k:a.kind=.function)(c:∀y∈a.names,y.2≠ .cell)(l:∀y∈a.names,y.2=.local->a.names.lookup y.1=some .local)(o:∀y∈N.map (gF vs),a.names.lookup y≠some .local)(h:∀y∈vs,a.names.lookup (xh y)=none) (nd:(vs++N.map (gF vs)).Nodup) (f:MN a X.env.scope=true):CompScope X vs a:=by
 subst d;refine#[k,c,l,o,h,nd,λy g e=>?_];have z:=rj.mp f y g;rw[e]at z;have b:(X.env.scope.names.lookup y.1==some .cell || X.env.scope.names.lookup y.1==some .free)=true:=by simpa using z
 rw[Bool.or_eq_true]at b;exact b.imp (λq=>eq_of_beq q) (λq=>eq_of_beq q)
open PySem PySem.Spec PySem.W PyProof.Rows
inductive iR(e:List V)(H:Hp)(Q:VK):Prop|mk:∀d a b,e=[V.ref d]->H d=some (.dT a)->a.map (·.1)=b.map nk->(∀t∈b,t≠[])->b.length<=4000->(∀D bs c,H D=none->TupsAt H bs c->c.Perm b->c.Pairwise (λx y=>dZ x y=true)->Q (.ref D) (bT H D (.lst (bs.map V.ref))))->iR e H Q
theorem KQ(hc:X.calm=true):CallR X (.builtin "sorted") iR:=by
 intro G s J H xs us Q I rr h;obtain⟨d,ae,g,rfl,hd,e,ne,few,q⟩:=h;obtain⟨u,rfl,ru⟩:=iz rr;cases ru;obtain⟨n,es,ep,L,nm,f,is,le,nd,M⟩:=Hw I hd e;refine EM kind_sorted plain_sorted entry_sorted (args_sorted1 _) ?_;unfold Builtin.«sorted»;refine bU (b9 ?_);refine bU (kdu_collect (t6 nm) (by simpa using I.ok.hd hc) L (by rw[sizeLine_eq];lia) λl y af keep it=>?_);have N:=Ek is (by rw[f.len,le]) it;rw[N];have D:(n.map Value.ref).length=g.length:=by rw[bW,f.len]
 refine bU (yM ?_ (by rw[D,db];lia));have T:=OX g;have inj:=J2 (d:=([]:bS)) T nd;have O:=K0 f nd;have eD:(l.push (seqObj "list" (n.map Value.ref).toArray 0)).get? l.objs.size=some (seqObj "list" (n.map Value.ref).toArray 0):=eQ _ rfl;have B:∀{b:Ad} {o:Obj},s.heap.get? b=some o->b≠l.objs.size:=λz=>dq (cK (keep _ _ z));refine bU (jo (lV slot_list_sort #[_,eD,zZ] Fy (NW eD (by rw[D];exact few) O (λi j hi hj z=>inj i j () () z) (λE U h2=>?_) λp E c r up e U=>#[_,zZ,?_]) (args_list_sort _)))
 .have Y:Inv X G J H {s with heap:=E,toks:=y}:=I.kept λb o z=>U b o (B z) (c7 _ (keep b o z));have z:=N4 (P:=X.prog) (w:=X.w) (A:=X.A.in1.in1) D () (λi v t e1 e2=>by
   rw[cz]at e1;obtain⟨a,N,rfl⟩:=dW.mp e1;exact#[yf Y.hok (f.is i a t N e2),ne t (cF e2)])
  refine eZ z (λκ s' hk=>#[hk.1,λi j C li lj hC=>hk.2 i j C li lj ?_]) λ_ _ x=>x;have e:=T.asks (pN (d:=([]:bS)) (show i<g.length by lia)).2 (pN (d:=([]:bS)) (show j<g.length by lia)).2;show C (dZ (g.getD i []) (g.getD j [])) _;rw[<-e];exact hC
 .rw[D]at r up;have Y:Inv X G J H {s with heap:=E,toks:=y}:=I.kept λb o z=>U b o (B z) (c7 _ (keep b o z));have I0:Inv X G J H {s with heap:=l,toks:=y}:=I.kept keep;have hD:=I0.hok.fresh (cg _);have aa:=f.pick r;obtain⟨f0,f1,f2,f3,f4,f5⟩:=I0.fpOk (b:=l.objs.size) (H':=H) (cg _) hD;have ab:Arr n.length p:=by rw[f.len];exact r
  rw[Go ab]at e;have fw:((p.toList.map λi=>n.getD i 0).map V.ref).length<=sizeLine:=by
   rw[bW,bW,dR,r.size];exact M
  exact b9 #[_,zZ,.ref l.objs.size,_,Y.track (o:= .lst ((p.toList.map λi=>n.getD i 0).map V.ref)) hD #[fw,_,c,BB _,e] I0.sz f1 f4 f5,zZ,q _ _ _ hD aa (HY r) (HQ T r up)]
theorem Ph(l:Ad)(a:AV)(n)(v:Option Ad)(sl:Array (Option Vl))(x:Vl)(e:Vl->Bool)(j)(M:j<a.size)(p:e a[j]=true)(q:∀m N,m<j->e a[m]=false):
  Meets (Builtin.«tuple.index» #[[.ref l,x],[]]) (λA R s=>s.heap.get? l=some {cls:= .type "tuple",dict:=v,data:= .seq a n,slots:=sl}/\(∀y,y∈a->SeqAt.EqAt A.in1 s y x (e y))/\R (.ok (.ret (.int j s.toks))) {s with toks:=s.toks+1}):=
 .of_wp λf w A R s h=>by
  obtain⟨B,g,d,C,os⟩:=s;obtain⟨D,E,h⟩:=h;unfold Builtin.«tuple.index»;simp only[Std.Legacy.Range.forIn_eq_forIn_range'];have G:∀k,([:k]:Std.Legacy.Range).size=k:=λk=>by simp[Std.Legacy.Range.size]
  wp_walk using zW D,Es _ (λrest b r=>r=#[B,g,d,C,os]/\b=(none,Unit.unit)/\∃i,i<=j/\rest=List.range' i (a.size-i)) _
  case h=>exact#[zZ,zZ,0,iE _,by rw[G,Nat.min_self];rfl]
  case turn=>
   rintro i rest b r ⟨rfl,rfl,u,H,o⟩;have I:a.size-u=(a.size-(u+1))+1:=by lia
   rw[I,List.range'_succ]at o;injection o with J L
   subst J;have t:i<a.size:=by lia
   rw[md t];refine bU (E _ (Array.getElem_mem t) f w _ _ ?_);by_cases c:i=j
   .subst c;rw[p];exact bU (bU (wpAny_mkInt (b9 (b9 (b9 #[_,zZ,h])))))
   .rw[q i t ()];exact b9 #[zZ,zZ,i+1,(),L]
  case fin=>
   rintro b r ⟨rfl,rfl,i,H,o⟩;have z:=de List.length o;rw[List.length_range']at z;simp at z;lia
inductive lT(K:R6)(x:V)(b:List V)(H:Hp)(Q:VK):Prop|mk:∀(l:Ad) (a:Zs) (i:Int),x=.ref l->b=[.int i]->SqT K H l (a.map V.int)->i∈a->Q (.int (a.idxOf i:Nat)) H->lT K x b H Q
theorem KN:uo X "tuple.index" (lT X.K):=by
 intro E s G H x J v L Q I j m h;obtain⟨l,b,i,rfl,rfl,o,p,q⟩:=h;cases j;obtain⟨u,rfl,t,rfl⟩:=m.one;obtain⟨a,r,w,M⟩:=I.tuple o;obtain⟨⟨N,z,O,A⟩,e,f,n,g⟩:=w;subst f g;have c:=Lj r;have T:=c.length;have B:=yu.mpr p;refine yK F.slot_tuple_index #[_,e,zZ] F.entry_tuple_index (F.args_tuple_index_2 _ _) (Ph l a.toArray n z A (.int i t) (isInt i) (b.idxOf i) (by simp only[List.size_toArray];lia) ?_ ?_)
  #[e,λy C=>(eq_isInt i t c y (by simpa using C)).at _ _,#[.int (b.idxOf i:Nat),H,I.tok _,#[_,zZ],q]]
 .show isInt i a[b.idxOf i]=true;rw[isInt_at i c _ () B];simp
 .intro k D d;show isInt i a[k]=false;rw[isInt_at i c _ () ()];exact ne_of_lt_idxOf d _
def Fv(r:V->List V->Hp->VK->Prop)(to:TE)(t:TA):TE:=λa H Q=>to a H λx b=>(∃p c,x=.ref p/\b p=some (.tup c))/\t a b λd e=>r x d e Q
theorem La{d b:Pos}{id:String}(i:Slot "tuple" name id)(k:typeOf (.builtin id)=pure (.type "method_descriptor"))(A:uo X id r)(B:PE X o to)(C:PA X (e::c) t)(f:attributeBase o name X.env (eval o X.env)=eval o X.env:=by rfl)
  (j:((backTo b (starEach (e::c) X.env)).all (λx=> !x.1)&&(backToKw b (keywordEach [] X.env)).all (λx=>x.1.isSome)&&decide ((e::c).length+([]:List Keyword).length+(if([]:List Keyword).isEmpty then 0 else 1)<30))=true:=by rfl)
  (g:(d.endLine==b.line)=true:=by rfl) (D:starEach (e::c) X.env=(false,eval e X.env)::starEach c X.env:=by rfl) (E:(backTo b (starEach c X.env)).any (·.1)=false:=by rfl):
  PE X (.Call (.Attribute o name d) (e::c) [] b) (Fv r to t):=by
 intro l s m H Q I h;refine wpAny_Call_method_late f j g zZ (cj (B l s m H _ I h) λv n ⟨x,q,u,G,⟨p,J,L,M⟩,N⟩=>?_);subst L;cases(G);obtain⟨_,_,_,w,y,O,_,_,T⟩:=(u.hok p _ M);refine#["tuple",id,F.plainAttrs_tuple,i,k,#[w,y,O],λa U=>?_,?_]
 .cases U;exact#[w,y,T]
 have z:=C b l n m q _ u N;rw[D]at z|-;refine DH (show(false || (backTo b (starEach c X.env)).any λx=>x.1)=false by rw[E];rfl) (Calls.evalArgs_plain (cj z λY s2 ⟨vs,H2,I2,r2,q2⟩=>A l s2 m H2 (.ref p) vs (.ref p) Y Q I2 zZ r2 q2))
end L2
namespace L2
open PySem PySem.Spec PyProof.Rows
def NoAs(K:R6)(C:Ad):Ss->Prop
 | []=>True
 |f::fs=>PySem.W.findIn K (.ref C) f=some none/\NoAs K C fs
structure OwnC(K:R6)(C:Ad)(fs:Ss):Prop where
 cl:Cls K C
 na:NoAs K C fs
theorem NoAs.get{K:R6}{f:Str}:∀{fs},NoAs K C fs->f∈fs->NoAttr K C f
 | [],_,h=>nomatch h
 | g::fs,n,h=>by
  rcases cP.mp h with e|e
  .subst e;exact n.1
  .exact NoAs.get n.2 e
theorem OwnC.no{K:R6}(o:OwnC K C fs)(h:fs.contains f=true:=by rfl):NoAttr K C f:=o.na.get (hO.mp h)
theorem NoAs.nil{K:R6}:NoAs K C []:=True.intro
theorem NoAs.cons{K:R6}{C:Ad}{f:Str}{fs:Ss}(h:PySem.W.findIn K (.ref C) f=some none)(n:NoAs K C fs):NoAs K C (f::fs):=#[h,n]
abbrev CW(K:R6)(C:Ad)(m q:Str)(st:Stmt)(f:Ad)(a:Fd):Prop:=PySem.W.findIn K (.ref C) m=some (some (.ref f))/\PySem.W.isFn K (.ref f)=true/\Fun K m q st f a
def gI(P:Pg)(w:World)(K:R6)(mg:SV)(a:Heap)(C:Ad)(m:Str)(k:Nat)(b:Ss)(d:Sp):Prop:=
 ∃f c,FnOk P w K mg a cG k f c b d/\Meth K C m f/\Binds K c b []
def yB(P:Pg)(w:World)(K:R6)(mg:SV)(a:Heap)(x:Str)(C:Ad)(k:Nat)(b:Ss)(d:Sp):Prop:=
 ∃f c,FnOk P w K mg a cG k f c b d/\Mk K C f/\mg x=some (.ref C)/\Binds K c b []
theorem jh{d a:Pos}{q:Sem Bool}(r:PE X o j)(c:Cls X.K C)(s:gI X.prog X.w X.K X.mg X.base C m k p l)(u:Room k X.A)(v:PA X (e::g) t)(h:starEach (e::g) X.env=(false,eval e X.env)::starEach g X.env:=by rfl) (i:(backTo a (starEach g X.env)).any (·.1)=false:=by rfl)
  (ht:eval (.Call (.Attribute o m d) (e::g) [] a) X.env=(do
   let n <-eval o X.env
   standAt d.atName
   let(f,first) <-holding [n] (getMethod n m q)
   callWith a f first (backTo a (starEach (e::g) X.env)) (backToKw a (keywordEach [] X.env))):=by rfl):
  PE X (.Call (.Attribute o m d) (e::g) [] a) (Bt C m l [] E0 j t):=by
 obtain⟨f,w,F,M,b⟩:=s;exact KS r c M F u b .nil yE v h i ht
theorem GB(l:PE X o e)(c:Cls X.K C)(n:gI X.prog X.w X.K X.mg X.base C m k i g)(p:Room k X.A)(ht:eval (.Call (.Attribute o m a) [] [] d) X.env=(do
   let h <-eval o X.env
   standAt a.atName
   let(f,first) <-holding [h] (getMethod h m j)
   callWith d f first (backTo d (starEach [] X.env)) (backToKw d (keywordEach [] X.env))):=by rfl):
  PE X (.Call (.Attribute o m a) [] [] d) (Bt C m g [] E0 e f8):=by
 obtain⟨f,q,F,M,b⟩:=n;exact LB l c M F p b .nil yE ht
theorem CZ{p d:Pos}(c:yB X.prog X.w X.K X.mg X.base x C k h g)(i:Room (k+1) X.A)(j:Gl X x)(l:PA X (e::a) t)(n:(x==("__debug__":Str))=false:=by decide) (o:starEach (e::a) X.env=(false,eval e X.env)::starEach a X.env:=by rfl) (q:(backTo d (starEach a X.env)).any (·.1)=false:=by rfl):
  PE X (.Call (.Name x p) (e::a) [] d) (Gu C g [] E0 t):=by
 obtain⟨f,r,F,M,m,b⟩:=c;exact NA M F i j m b .nil yE l n o q
theorem J5:∀{bs:List Bool} {a:Vs},Vals (bs.map V.bl) a->a=bs.map Value.bool
 | [],_,h=>by cases h;rfl
 | b::bs,_,h=>by
  cases h with
  |cons r t=>
   obtain rfl:=r;rw[J5 t];rfl
noncomputable def DB:Vl->Bool
 |.bool b=>b
 |_=>false
inductive lP(K:R6)(x:V)(a:List V)(H:Hp)(Q:VK):Prop|mk:∀(l:Ad) (bs:List Bool),x=.ref l->a=[.bl true]->SqL K H l (bs.map V.bl)->true∈bs->Q (.int (bs.idxOf true:Nat)) H->lP K x a H Q
theorem Rg:uo X "list.index" (lP X.K):=by
 intro L s M H x N v O Q I j m h;obtain⟨l,bs,rfl,rfl,o,t,q⟩:=h;cases j;obtain⟨u,rfl,w⟩:=m.one;obtain rfl:u=Value.bool true:=w;obtain⟨B,r,⟨⟨T,U,Y,C⟩,n,e,c,d,f⟩,D⟩:=I.list o;subst c d f;have E:=J5 r;subst E;have g:=yu.mpr t;rw[bW,db]at D;refine yK F.slot_list_index #[_,e,zZ] F.entry_list_index (F.args_list_index_2 _ _) (SeqAt.list_indexAt l (bs.map Value.bool).toArray n none C (.bool true) DB (bs.idxOf true) (by simp only[List.size_toArray,List.length_map];exact g) () ?_ ?_)
  #[e,λy G=>?_,#[.int (bs.idxOf true:Nat),H,I.tok _,#[_,zZ],q]]
 .simp[DB,List.getElem_idxOf g]
 .intro k J a;have hk:k<bs.length:=by lia
  have z:bs[k]≠true:=λe=>by
   have y:=List.not_of_lt_findIdx a;rw[e]at y;cases y
  simp only[List.getElem_toArray,List.getElem_map];exact wn.mpr z
 .obtain⟨b,_,rfl⟩:=cH.mp (show y∈bs.map Value.bool by simpa using G);have z:=DP (A:=X.A.in1) (s:=s) b true;rw[show(b==true)=DB (.bool b) by cases b<;>rfl]at z;exact z
open PySem PySem.Spec PySem.W PyProof.Rows
inductive nN(c:List V)(H:Hp)(Q:VK):Prop|mk:∀d o a b,c=[V.ref d]->H d=some (.frz o (.dT a))->a.map (·.1)=b.map nk->b.length<=sizeLine->(∀l e,H l=none->TupsAt H e b->Q (.ref l) (bT H l (.lst (e.map V.ref))))->nN c H Q
theorem PU(f:X.calm=true):CallR X (.type "list") nN:=by
 intro g s i H D E Q I r h;obtain⟨d,o,j,G,rfl,k,e,b,q⟩:=h;obtain⟨u,rfl,l⟩:=iz r;cases l;obtain⟨a,J,L,m,n,p,t,T,is,v⟩:=AB I k e;refine kdl_call (t6 t) (I.ok.hd f) #[o,m,n,p] () λw x y c keep z A=>?_;have B:=Ek is (by rw[T.len,v]) A;have C:Inv X g i H {s with heap:=w,toks:=x}:=I.kept keep;refine#[.ref s.heap.objs.size,_,Inv.trackNew I C (o:= .lst (a.map V.ref)) #[by rw[bW,T.len];exact b,a.map Value.ref,c,BB a,?_],zZ,q _ a I.fresh T];rw[<-B];simpa using z
end L2
namespace L2
open PySem PySem.Spec PyProof.Rows
inductive pX(K:R6)(x y:V)(H:Hp)(Q:VK):Prop|mk:∀(a b:Ad) (i:Int) (p:Bool),x=.ref a->y=.ref b->SqT K H a [.int i,.bl p]->SqT K H b [.int i,.bl p]->Q (.bl true) H->pX K x y H Q
theorem QR(O:X.A.units+64<cLine):OpR X (compareOp .Eq) (pX X.K):=by
 intro T s U H x y v u Q I n o h;obtain⟨a,B,i,p,rfl,rfl,C,D,q⟩:=h;cases n;cases o;obtain⟨d,E,t,_⟩:=I.tuple C;obtain⟨c,f,G,_⟩:=I.tuple D;obtain⟨Y,l,rfl,⟨J,rfl⟩,g⟩:∃w r,d=w::r/\RelV (.int i) w/\Vals [.bl p] r:=by cases E with|cons a b=>exact#[_,_,rfl,a,b]
 obtain⟨w2,m,rfl,⟨k2,rfl⟩,k⟩:∃w r,c=w::r/\RelV (.int i) w/\Vals [.bl p] r:=by cases f with|cons a b=>exact#[_,_,rfl,a,b]
 obtain⟨y1,rfl,L⟩:=iz g;obtain⟨y2,rfl,M⟩:=iz k;cases L;cases M;refine(SeqAt.RcAt.tuples (e:=λ_=>true) (t) (G) () λj N g2=>?_) _ _ _ _ #[.bl true,H,I,?_,q]
 .match j,N,g2 with
  |0,_,_=>
   have z:=EG (A:=X.A.in1) (s:=s) i J i k2;simpa using z
  |1,_,_=>
   have z:=DP (A:=X.A.in1) (s:=s) p p;simpa using z
 .rfl
end L2
namespace My
open PySem L2 PyProof.Rows
abbrev sA:Str:="machine"
abbrev sB:Str:="rooms"
abbrev sC:Str:="self"
abbrev sD:Str:="sets_reached.<locals>.<lambda>"
abbrev sF:Str:="level_group.<locals>.<lambda>"
abbrev sG:Str:="letter"
abbrev sH:Str:="group"
abbrev sJ:Str:="tiles"
abbrev sK:Str:="most"
abbrev sL:Str:="_law_script"
abbrev sM:Str:="level"
abbrev sN:Str:="_law_machine_here"
abbrev sO:Str:="turns"
abbrev sP:Str:="words"
abbrev sQ:Str:="tile_count"
abbrev sS:Str:="sets_reached"
abbrev sT:Str:="_law_found"
abbrev sU:Str:="reached"
abbrev sV:Str:="level_group"
abbrev sW:Str:="together"
abbrev sX:Str:="room"
abbrev sY:Str:="here"
abbrev sZ:Str:="_law_room"
abbrev tE:Str:="_law_most"
abbrev tG:Str:="other"
abbrev tH:Str:="refuse_more"
abbrev tI:Str:="row"
abbrev tJ:Str:="sets"
abbrev tK:Str:="_law_turn_here"
abbrev tL:Str:="_law_k"
abbrev tM:Str:="waiting"
abbrev tN:Str:="steps"
abbrev tO:Str:="word"
abbrev tQ:Str:="__init__"
abbrev tR:Str:="_law_lone"
abbrev tS:Str:="_law_rooms"
abbrev tT:Str:="together.<locals>.<lambda>"
abbrev tV:Str:="turning"
abbrev tW:Str:="_law_cell"
abbrev tX:Str:="pairs"
abbrev tY:Str:="pair"
abbrev tZ:Str:="deed"
abbrev vC:Str:="carried"
abbrev vD:Str:="all_tiles_turned"
abbrev vE:Str:="one"
abbrev vF:Str:="_law_due"
abbrev vG:Str:="_law_cell_at"
abbrev vH:Str:="tiles_of_set"
abbrev vI:Str:="tiles_turned"
abbrev vJ:Str:="levels_in_order"
abbrev vK:Str:="step"
abbrev vL:Str:="_law_more"
abbrev vM:Str:="sets_of_levels"
abbrev vN:Str:="letters"
abbrev vO:Str:="words_between"
abbrev vP:Str:="_law_whole"
abbrev vQ:Str:="within"
abbrev vR:Str:="makers"
abbrev vS:Str:="_law_machine"
abbrev vT:Str:="_law_refused"
abbrev vV:Str:="part"
abbrev vW:Str:="TooMany.__init__"
abbrev vX:Str:="lies_in"
abbrev vY:Str:="_law_is_due"
abbrev vZ:Str:="start"
abbrev wF:Str:="there"
abbrev wG:Str:="things"
abbrev wH:Str:="_law_start"
abbrev wI:Str:="_law_e"
abbrev wJ:Str:="behind"
abbrev wK:Str:="is_covered"
abbrev wL:Str:="alike_sets"
abbrev wM:Str:="is_turning"
abbrev wN:Str:="least_tile"
def top(i:Nat):Stmt:=PySem.Challenge.pw_cascade_k70_rows_put_together.main.body.getD i (.Pass #[0,0,0,0])
abbrev vk:Stmt:=top 9
abbrev oI:Stmt:=top 10
abbrev tz:Stmt:=top 12
abbrev EB:Stmt:=top 14
abbrev CC:Stmt:=top 15
abbrev AX:Stmt:=top 16
abbrev Au:Stmt:=top 17
abbrev oE:Stmt:=top 18
abbrev D4:Stmt:=top 20
abbrev AF:Stmt:=top 21
abbrev Fw:Stmt:=top 23
abbrev ww:Stmt:=top 24
abbrev z9:Stmt:=top 25
abbrev yG:Stmt:=top 26
abbrev EU:Stmt:=top 28
abbrev Bh:Stmt:=top 29
abbrev Dv:Stmt:=top 30
abbrev z8:Stmt:=top 31
abbrev x9:Stmt:=top 32
abbrev Ap:Stmt:=top 33
abbrev Et:Stmt:=top 34
abbrev B9:Stmt:=top 35
abbrev Aj:Stmt:=top 37
abbrev C7:Stmt:=top 38
abbrev oo:Stmt:=top 39
abbrev mV:Stmt:=top 44
abbrev CB:Stmt:=top 46
abbrev FF:Stmt:=top 47
abbrev xq:Stmt:=top 48
abbrev DY:Stmt:=top 49
abbrev yP:Stmt:=top 50
abbrev vl:Stmt:=top 51
abbrev FA:Stmt:=top 52
abbrev zB:Stmt:=top 53
abbrev v8:Stmt:=top 54
noncomputable def kv:Stmt->List Stmt
 | .ClassDef _ _ _ b _ _ _ _ _ _ _=>b
 |_=>[]
noncomputable abbrev vU:Stmt:=(kv (top 4)).getD 0 (.Pass #[0,0,0,0])
noncomputable abbrev Ci:Stmt:=(kv (top 41)).getD 0 (.Pass #[0,0,0,0])
noncomputable abbrev Db:Stmt:=(kv (top 41)).getD 1 (.Pass #[0,0,0,0])
noncomputable abbrev DX:Stmt:=(kv (top 41)).getD 2 (.Pass #[0,0,0,0])
noncomputable abbrev Cj:Stmt:=(kv (top 41)).getD 3 (.Pass #[0,0,0,0])
noncomputable abbrev EA:Stmt:=(kv (top 41)).getD 4 (.Pass #[0,0,0,0])
noncomputable abbrev FJ:Stmt:=(kv (top 41)).getD 5 (.Pass #[0,0,0,0])
noncomputable abbrev DF:Stmt:=(kv (top 41)).getD 6 (.Pass #[0,0,0,0])
noncomputable abbrev CK:Stmt:=(kv (top 41)).getD 7 (.Pass #[0,0,0,0])
noncomputable abbrev zT:Stmt:=(kv (top 42)).getD 0 (.Pass #[0,0,0,0])
noncomputable abbrev CG:Stmt:=(kv (top 42)).getD 2 (.Pass #[0,0,0,0])
noncomputable abbrev Dh:Stmt:=(kv (top 42)).getD 3 (.Pass #[0,0,0,0])
noncomputable abbrev CF:Stmt:=(kv (top 42)).getD 5 (.Pass #[0,0,0,0])
noncomputable abbrev Ec:Stmt:=(kv (top 42)).getD 6 (.Pass #[0,0,0,0])
noncomputable abbrev Fa:Stmt:=(kv (top 42)).getD 8 (.Pass #[0,0,0,0])
theorem O8:FnScope [wG,sK] [wG,sK] (cu vk):={}
theorem jK:FnScope [vZ,vN,vK,sK,sP,"wave","following","thing",sG,"found"] [vZ,vN,vK,sK] (cu oI):={}
theorem uY:FnScope [sA,sX,tO,sG] [sA,sX,tO] (cu tz):={}
theorem Pe:FnScope [sB] [sB] (cu EB):={}
theorem rV:FnScope [tJ,"once",sB] [tJ] (cu CC):={}
theorem O6:FnScope [vE,tG] [vE,tG] (cu AX):={}
theorem KI:FnScope [sA,sB,tO] [sA,sB,tO] (cu Au):={}
theorem Q9:FnScope [sA,sB] [sA,sB] (cu oE):={}
theorem Qw:FnScope [sB] [sB] (cu D4):={}
theorem Mb:FnScope [vE,tG] [vE,tG] (cu AF):={}
theorem rY:FnScope [sA,sP] [sA] (cu Fw):={}
theorem uQ:FnScope [sA,"singles"] [sA] (cu ww):={}
theorem NJ:FnScope [vV,tJ] [vV,tJ] (cu z9):={}
theorem uX:FnScope [sA,sB,vQ] [sA,sB] (cu yG):={}
theorem qK:FnScope [sA,sP,sB] [sA] (cu EU):={}
theorem Rh:FnScope [sP,sB] [sP,sB] (cu Bh):={}
theorem kO:FnScope [sP,"found",sB,tJ] [sP] (cu Dv):={}
theorem KW:FnScope [sP,tJ,tM] [sP,tJ,tM] (cu z8):={}
theorem kH:FnScope [sP,tM,"told","free"] [sP,tM] (cu x9):={}
theorem qP:FnScope [sA,sP,"told",tJ,"face","ways"] [sA] (cu Ap):={}
theorem OA:FnScope [sA,sM,"k","j"] [sA,sM,"k","j"] (cu Et):={}
theorem LR:FnScope [sA,sM,"k"] [sA,sM,"k"] (cu B9):={}
theorem qM:FnScope [sA,sM,"k",sG,wF,"ends"] [sA,sM,"k",sG] (cu Aj):={}
theorem jS:FnScope [sA,sM,"found","k",sG,"turn"] [sA,sM] (cu C7):={}
theorem rT:FnScope [sA,sM,vR] [sA,sM] (cu oo):={}
theorem kX:FnScope [sA,sX,sK,tI,sP,"numbers",sB,sO] [sA,sX,sK] (cu mV):={}
theorem Qe:FnScope [sL,tL] [sL,tL] (cu CB):={}
theorem MS:FnScope [sT] [sT] (cu FF):={}
theorem kY:FnScope [tS,tW,vL,"_law_numbers",tK,tL,"_law_j","_law_kept"] [tS,tW,vL] (cu xq):={}
theorem kP:FnScope [sL,wH,tS,"_law_turns",tL,tW] [sL,wH] (cu DY):={}
theorem kA:FnScope [sN,sZ,tE,"_law_line","_law_rows_here","_law_known","_law_goes",tL,"_law_letter","_law_there"] [sN,sZ,tE] (cu yP):={}
theorem O1:FnScope [wI] [wI] (cu vl):={}
theorem qH:FnScope [sN,sZ,tE,"_law_heard",wI] [sN,sZ,tE] (cu FA):={}
theorem rZ:FnScope [sT,vF,"_law_row"] [sT,vF] (cu zB):={}
theorem uA:FnScope [sL,sN,sZ,tE,vF,"_law_many",sT] [sL] (cu v8):={}
theorem Mm:FnScope [sC,sK] [sC,sK] (cu vU):={}
theorem kZ:FnScope [sC,sA,sM,"k",sB] [sC,sA,sM] (cu Ci):={}
theorem Qz:FnScope [sC] [sC] (cu Db):={}
theorem K':FnScope [sC,sY,tY] [sC,sY,tY] (cu DX):={}
theorem QQ:FnScope [sC,sY,sB] [sC,sY,sB] (cu Cj):={}
theorem kJ:FnScope [sC,sY,wF,sG,"still_turn","end"] [sC,sY,wF,sG] (cu EA):={}
theorem K5:FnScope [sC,tZ,tV] [sC,tZ,tV] (cu FJ):={}
theorem P':FnScope [sC,tZ,tV,"bringing"] [sC,tZ,tV,"bringing"] (cu DF):={}
theorem Qs:FnScope [sC,tZ,tY] [sC,tZ,tY] (cu CK):={}
theorem NU:FnScope [sC,sA] [sC,sA] (cu zT):={}
theorem jW:FnScope [sC,tI,tX,"place",vK,tV] [sC,tI] (cu CG):={}
theorem qF:FnScope [sC,tX,tI,vK,tY] [sC,tX] (cu Dh):={}
theorem jP:FnScope [sC,tX,sG,sY,wF,"ends",vK,tY,"end"] [sC,tX,sG] (cu CF):={}
theorem Lg:FnScope [sC,tI,sG] [sC,tI,sG] (cu Ec):={}
theorem qB:FnScope [sC,sX,sY,tX,vK,tY] [sC,sX] (cu Fa):={}
inductive fg(K:R6)(d:List V)(H:Hp)(Q:VK)(b:XK):Prop|mk:∀(a:Ad) (e:Zs) (k:Int),d=[.ref a,.int k]->0<=k->SqL K H a (e.map V.int)->(∀c,Q (.int c) H)->fg K d H Q b
variable{P:Pg}{w:World}{K:R6}{mg:SV}{base:Heap}{f:Ad}{fd:Fd}
theorem LP(F:Fun K vG vG CB f fd)(i:mg "len"=none):FnOk P w K mg base cG 1 f fd [sL,tL] (fg K):=by
 refine F.ok Qe (λj A b s H n Q E o h=>?_)
 obtain⟨a,d,k,rfl,p,g,q⟩:=h;refine#[_,(cq (fG (hG Hr (pv 1) (dM gq zZ i f6 (ci (pv 0) ce)) (fS _)) (cy (c8 (cU fH (pv 0) (pv 1) (λ_ _=>rfl)))) fJ) (cy (c8 cD))),#[_,zZ,_,zZ,a,_,zZ,.inl g,_,_,zZ,zZ,_,zZ,?_]];refine lH (λc=>?_) (λc=>?_)
 .have l:=f7 c;rw[bW]at l;have m:k.toNat<d.length:=by lia
  have e:k=((k.toNat:Nat):Int):=by lia
  refine#[_,zZ,_,zZ,a,_,_,.int (d.getD k.toNat 0),zZ,zZ,g,?_,q _];rw[e];exact J7 m
 .exact q _
structure Mach(H:Hp)(m:Ad)(ts:LN)(n:Nat):Prop where
 refs:∃rs:As,H m=some (.tup (rs.map V.ref))/\rs.length=ts.length/\∀(i:Nat) r t,rs[i]?=some r->ts[i]?=some t->H r=some (.tup (t.map nv))
 some1:1<=ts.length
 few:ts.length<=4
 n1:1<=n
 n5:n<=5
 each:∀t∈ts,t.length=n/\∀x∈t,x<n
theorem Mach.same(M:Mach H m a n)(g:Same H H'):Mach H' m a n:=
 #[let⟨b,c,d,e⟩:=M.refs;#[b,g _ _ c,d,λi r t f h=>g _ _ (e i r t f h)],M.some1,M.few,M.n1,M.n5,M.each]
theorem Mach.at(M:Mach H m ts n)(b:l<ts.length):
  ∃(a:As) (r:Ad),H m=some (.tup (a.map V.ref))/\a.length=ts.length/\ja (a.map V.ref) (l:Int)=some (.ref r)/\H r=some (.tup ((ts.getD l []).map nv))/\(ts.getD l []).length=n/\∀x∈ts.getD l [],x<n:=by
 obtain⟨a,d,f,g⟩:=M.refs;have c:l<a.length:=by lia
 have e:ts.getD l []=ts[l]:=by rw[dO,b7 b];rfl
 rw[e];obtain⟨h,i⟩:=M.each ts[l] (jv b);exact#[a,a[l],d,f,iM (by rw[cz,b7 c];rfl),g l _ _ (by simp[c]) (by simp[b]),h,i]
noncomputable def eE(a:LN)(r:Nat)(word:bS):Nat:=word.foldl (λr l=>(a.getD l []).getD r 0) r
theorem Ra(a)(r)(word)(l):eE a r (word++[l])=(a.getD l []).getD (eE a r word) 0:=by
 unfold eE;rw[pq];rfl
theorem pI(M:Mach H m a n):∀word r,r<n->(∀l∈word,l<a.length)->eE a r word<n
 | [],_,b,_=>b
 |l::word,r,b,h=>by
  obtain⟨_,_,_,_,_,_,e,c⟩:=M.at (h l (dy ..));exact pI M word _ (xV c ()) λx d=>h x (eM _ d)
noncomputable def u9(a:LN)(n:Nat)(word:bS):bS:=(List.range n).map λr=>eE a r word
theorem L8(a)(n)(word):(u9 a n word).length=n:=by simp[u9]
inductive lG(e:List V)(H:Hp)(Q:VK)(a:XK):Prop|mk:∀(n:Nat) (c m:Int),e=[nv n,.int c,.int m]->1<=n->n<=5->(∀(b:bS) r d,Same H d->d r=some (.tup (b.map nv))->b.length=n->(∀y∈b,y<n)->Q (.ref r) d)->lG e H Q a
inductive fZ(K:R6)(d:List V)(H:Hp)(Q:VK)(b:XK):Prop|mk:∀(a:Ad) (e:Zs) (st:Int),d=[.ref a,.int st]->0<=st->SqL K H a (e.map V.int)->(∀m f n c,Same H c->Mach c m f n->Q (.ref m) c)->fZ K d H Q b
def rf(H:Hp)(n:Nat)(c m:Int)(a:Ad)(e:Zs)(f:L2.St)(b:Hp):Prop:=Same H b/\∃(l:Ad) (d:bS) (g h i:Option V),f=[some (nv n),some (.int c),some (.int m),some (.ref a),some (.ref l),g,h,i]/\
 b a=some (.lst (e.map V.int))/\b l=some (.lst (d.map nv))/\H l=none/\l≠a/\d.length=n/\∀y∈d,y<n
noncomputable def EX(n:Nat):V->V
 |.int i=>nv (i%(n:Int)).toNat
 |v=>v
theorem Mj{ms:Zs}(h:1<=ms.length):∃i,ja (ms.map V.int) (-1)=some (.int i):=by
 have a:ms≠[]:=λz=>by rw[z]at h;exact wC h (by decide)
 refine#[ms.getLast a,?_];have e:ms.map V.int=ms.dropLast.map V.int++[V.int (ms.getLast a)]:=by
  conv=>lhs;rw[<-E3 a]
  rw[dH];rfl
 rw[e];exact Rf _ _
theorem K8(F:Fun K "_law_turn" "_law_turn" xq f fd)(jB:mg "range"=none)(jC:mg "tuple"=none)(qC:mg "list"=none):FnOk P w K mg base cG 1 f fd [tS,tW,vL] lG:=by
 refine F.ok kY (λap A ae s H vs Q E hr h=>?_)
 obtain⟨n,c,m,rfl,T,h5,q⟩:=h;refine#[_,(cq (AU (CompSc.to (N:=[tS,tW,vL,"_law_numbers",tK,tL,"_law_j","_law_kept"]) (osc:=cu xq) (vs:=[tL]) {}) zZ zZ kY.nd (j:=3) zZ zZ (mq zZ jB (ci (pv 0) ce)) (λ_ _ _ _=>hZ) (λ_ _ _ _=>(dQ jx (dQ xm (dQ nZ (dQ nZ (pv 3) (dQ xm (dQ xm cD (pv 0)) (pv 0))) cD) cD) cD))) (cq (fG (hG wx (dQ jx (pv 1) cD) cD (fS _)) (cy (c8 (iC nC zZ jC j9 (ci (iu (CompSc.to (N:=[tS,tW,vL,"_law_numbers",tK,tL,"_law_j","_law_kept"]) (osc:=cu xq) (vs:=["_law_number"]) {}) zZ zZ (gY (pv 3)) (λ_ _ _ _=>hZ) (λ_ _ _ _=>(dQ jx (pv 0) (pv 1)))) ce)))) fJ) (cq (cT (i:=4) kY.nd zZ Z' (iC (Oo zZ) zZ qC yx (ci (iC JK zZ jB boot_range (ci (pv 0) ce)) ce))) (cq (sf (fG (hG wx (dQ jx (pv 1) cD) cD (fS _)) (cy (hK iX zZ (mq zZ jB (ci (pv 0) ce)) (fB (i:=5) kY.nd zZ Z') (cq (cT (i:=6) kY.nd zZ Z' (dQ nZ (pv 5) (dQ jx (dQ u6 (cU fH (pv 3) (pv 5) (λ_ _=>rfl)) cD) (dQ HX (pv 0) (pv 5))))) (cq (cT (i:=7) kY.nd zZ Z' (cU fH (pv 4) (pv 5) (λ_ _=>rfl))) (cq (zY (cU fH (pv 4) (pv 6) (λ_ _=>rfl)) (BM (pv 4) (pv 5) Ai)) (cy (zY (pv 7) (BM (pv 4) (pv 6) Ai)))))))) fJ)) (cq (sf (fG (hG wx (dQ jx (pv 1) cD) cD (fS _)) (cy (zY (dQ jx (dQ u6 (cU fH (pv 3) (J4 Ha cD) (λ_ _=>rfl)) cD) (pv 0)) (BM (pv 4) (dQ jx (cU fH (pv 3) cD (λ_ _=>rfl)) (pv 0)) Ai))) fJ)) (cq (sf (fG (hG wx (dQ jx (pv 1) cD) cD (fS _)) (cy (hK iX zZ (mq zZ jB (ci (pv 0) ce)) (fB (i:=5) kY.nd zZ Z') (cy (fG (PW.pt (pG (hG wx (dQ jx (dQ u6 (pv 1) cD) cD) cD (fS _)) (wY (hG wx (dQ jx (dQ u6 (cU fH (pv 3) (pv 5) (λ_ _=>rfl)) cD) cD) cD (fS _))))) (cy (zY (dQ jx (cU fH (pv 3) cD (λ_ _=>rfl)) (pv 0)) (BM (pv 4) (pv 5) Ai))) fJ)))) fJ)) (cy (c8 (iC nC zZ jC j9 (ci (pv 4) ce)))))))))),?_];have np:(0:Int)<(n:Int):=by lia
 have e1:(n:Int).toNat=n:=iW n;refine#[_,zZ,(n:Int),zZ,(),(),Pd (f:=λ(i:Nat)=> .int ((m+31 * (0+(i:Int)) * (0+(i:Int))+7) * 48271%2147483647)) (small ()) (λi Q hi q=>?_) (λb af=>?_)]
 .have jb:CMul (31 * (0+(i:Int))) (0+(i:Int)):= .inr #[(),()];exact#[_,zZ,_,zZ,_,_,zZ,zZ,.inl #[by decide,by decide],_,zZ,_,_,zZ,zZ,jb,_,_,zZ,zZ,_,_,zZ,zZ,_,_,zZ,zZ,.inr #[by decide,by decide],_,_,zZ,zZ,(by decide:(0:Int)<2147483647),q]
 obtain⟨a,ag,ah⟩:∃a:Zs,(List.range (n:Int).toNat).map (λ(i:Nat)=>V.int ((m+31 * (0+(i:Int)) * (0+(i:Int))+7) * 48271%2147483647))=a.map V.int/\a.length=n:=#[(List.range n).map λ(i:Nat)=>((m+31 * (0+(i:Int)) * (0+(i:Int))+7) * 48271%2147483647),by rw[e1,i0];rfl,by simp];rw[ag];have r:=cn af (.lst (a.map V.int));have d:bT H b (.lst (a.map V.int)) b=some (.lst (a.map V.int)):=bY;generalize bT H b (.lst (a.map V.int))=H1 at r d|-;refine#[_,zZ,_,_,zZ,zZ,(by decide:(0:Int)<4),zZ,_,zZ,lH (λc1=>?_) (λc1=>?_)]
 .refine#[_,zZ,b,zZ,#[_,R3 d],Pu (f:=EX n) (small (by rw[bW];lia)) (R3 d) (λv Q hv q=>?_) (λp hp=>?_)]
  .obtain⟨i,_,rfl⟩:=cH.mp hv;refine#[_,zZ,_,zZ,_,_,zZ,zZ,np,?_];try dsimp only
   rw[(tD i T).1];exact q
  .refine#[p,_,zZ,.inl #[R3 bY,λt ht=>q (a.map λi=>(i%(n:Int)).toNat) t _ ((r.trans (cn hp _)).trans (cn ht _)) (by rw[bY,i0,i0];rfl) (by rw[bW,ah]) λy o=>?_]];obtain⟨i,_,rfl⟩:=cH.mp o;exact(tD i T).2
 refine#[_,zZ,(n:Int),zZ,λp1 ai=>#[p1,(n:Int),zZ,bY,(),(),λl e=>?_]];have k1:=cn ai (.rng 0 (n:Int));have k2:=cn e (.lst (mH (n:Int).toNat));have U:=(k1.trans k2) _ _ d;have num:∀{k:Nat},k<n->ja (a.map V.int) ((k:Nat):Int)=some (.int (a.getD k 0)):=λh=>J7 ();have s1:rf H n c m b a [some (nv n),some (.int c),some (.int m),some (.ref b),some (.ref l),none,none,none] (bT (bT H1 p1 (.rng 0 (n:Int))) l (.lst (mH (n:Int).toNat))):=
  #[(r.trans k1).trans k2,l,List.range n,none,none,none,zZ,U,by rw[bY];rfl,(r.trans k1).free e,(λz=>by rw[z,k1 _ _ d]at e;cases e),by simp,λy o=>List.mem_range.mp o]
 refine#[rf H n c m b a,?_,λaq H2 p2=>?_]
 .refine#[_,zZ,_,_,zZ,zZ,(by decide:(0:Int)<4),zZ,_,zZ,lH (λc2=>?_) (λc2=>s1)];refine#[_,zZ,(n:Int),zZ,(),(),ug (λ_ B u=>rf H n c m b a B u) s1 (λi B u hi p=>?_) (λB u p=>p)];obtain⟨g,l,ys,o1,I,J,rfl,C,L,e,M,x,o⟩:=p;have D:i<n:=by lia
  have O:(0+(i:Int))=((i:Nat):Int):=by lia
  have ip:(0:Int)<(n:Int)-(0+(i:Int)):=by lia
  refine#[_,zZ,_,zZ,_,zZ,b,_,_,_,zZ,zZ,R3 C,(by rw[O];exact num D),_,_,zZ,zZ,#[by decide,by decide],_,zZ,_,zZ,_,_,zZ,zZ,_,_,zZ,zZ,ip,_,_,zZ,zZ,?_];obtain⟨k,ek,hk⟩:∃k:Nat,0+(i:Int)+a.getD i 0/8%((n:Int)-(0+(i:Int)))=(k:Int)/\k<n:=#[(0+(i:Int)+a.getD i 0/8%((n:Int)-(0+(i:Int)))).toNat,by have:=Int.emod_nonneg (a.getD i 0/8) (Int.ne_of_gt ip);lia,by have:=Int.emod_lt_of_pos (a.getD i 0/8) ip;lia]
  try dsimp only
  rw[ek];refine#[_,zZ,_,zZ,l,_,_,_,zZ,zZ,R3 L,(by rw[O];exact tc ()),?_];refine#[_,zZ,_,zZ,l,_,_,_,zZ,zZ,R3 L,tc (),_,zZ,_,zZ,l,_,_,i,zZ,zZ,L,(by rw[O,bW];exact zR ()),?_]
  try dsimp only
  rw[Am];refine#[_,zZ,_,zZ,_,zZ,l,_,_,k,zZ,zZ,bY,(by rw[bW,um];exact zR ()),?_]
  try dsimp only
  rw[Am,Gr];exact#[iA g e,l,_,_,_,_,zZ,by rw[bX (dG M)];exact C,bY,e,M,by rw[um,um,x],Az (Az o (xV o ())) (xV o ())]
 obtain⟨g2,l2,ar,o1,I,J,rfl,G,aj,Y,nG,aa,ak⟩:=id p2;refine#[rf H n c m b a,?_,λas H3 p3=>?_]
 .refine#[_,zZ,_,_,zZ,zZ,(by decide:(0:Int)<4),zZ,_,zZ,lH (λc3=>?_) (λc3=>p2)];obtain⟨v,ev⟩:=Mj (ms:=a) ();refine#[_,zZ,_,zZ,b,_,_,_,zZ,zZ,R3 G,ev,_,_,zZ,zZ,#[by decide,by decide],_,zZ,_,_,zZ,zZ,np,?_]
  try dsimp only
  obtain⟨m1,m2⟩:=tD (v/8) T;obtain⟨m3,m4⟩:=tD (a.getD 0 0) T;rw[m1];refine#[_,zZ,_,zZ,b,_,_,_,zZ,zZ,R3 G,num (k:=0) (),_,zZ,_,_,zZ,zZ,np,?_]
  try dsimp only
  rw[m3];refine#[l2,_,_,(a.getD 0 0%(n:Int)).toNat,zZ,zZ,aj,(by rw[bW];exact zR ()),?_]
  try dsimp only
  rw[Am];exact#[iA g2 Y,l2,_,_,_,_,zZ,by rw[bX (dG nG)];exact G,bY,Y,nG,by rw[um,aa],Az ak m2]
 obtain⟨g3,l3,au,o1,I,J,rfl,av,aw,ax,va,ao,ay⟩:=id p3;refine#[rf H n c m b a,?_,λaz H4 p4=>?_]
 .refine#[_,zZ,_,_,zZ,zZ,(by decide:(0:Int)<4),zZ,_,zZ,lH (λc4=>?_) (λc4=>p3)];refine#[_,zZ,(n:Int),zZ,(),(),ug (λ_ B u=>rf H n c m b a B u) p3 (λi B u hi p=>?_) (λB u p=>p)];obtain⟨g,l,ys,o1,I,J,rfl,C,L,e,M,x,o⟩:=p;have D:i<n:=by lia
  have O:(0+(i:Int))=((i:Nat):Int):=by lia
  obtain⟨m3,m4⟩:=tD (a.getD 0 0) T;have keep:rf H n c m b a [some (nv n),some (.int c),some (.int m),some (.ref b),some (.ref l),some (.int (0+(i:Int))),I,J] u:=#[g,l,ys,_,_,_,zZ,C,L,e,M,x,o];have set:rf H n c m b a [some (nv n),some (.int c),some (.int m),some (.ref b),some (.ref l),some (.int (0+(i:Int))),I,J] (bT u l (.lst ((ys.set i (a.getD 0 0%(n:Int)).toNat).map nv))):=#[iA g e,l,_,_,_,_,zZ,by rw[bX (dG M)];exact C,bY,e,M,by rw[um,x],Az o m4];refine#[_,zZ,_,_,zZ,zZ,#[by decide,by decide],_,_,zZ,zZ,(by decide:(0:Int)<3),zZ,_,zZ,lH (λc5=>fy ?_) (λc5=>#[_,zZ,_,zZ,b,_,_,_,zZ,zZ,R3 C,(by rw[O];exact num D),_,_,zZ,zZ,#[by decide,by decide],_,_,zZ,zZ,(by decide:(0:Int)<2),zZ,_,zZ,lH (λc6=>?_) (λc6=>keep)])]
  all_goals
   refine#[_,zZ,b,_,_,_,zZ,zZ,R3 C,num (k:=0) (),_,zZ,_,_,zZ,zZ,np,?_];try dsimp only
   rw[m3];refine#[_,zZ,_,zZ,l,_,_,i,zZ,zZ,L,(by rw[O,bW];exact zR ()),?_];try dsimp only
   rw[Am];exact set
 .obtain⟨g4,l4,al,o1,I,J,rfl,aA,am,aB,wS,ab,an⟩:=p4;exact#[_,zZ,l4,_,zZ,.inl #[R3 am,λt ht=>q al t _ (g4.trans (cn ht _)) bY ab an]]
theorem OQ(F:Fun K vS vS DY f fd)(J:dC P w K mg base vG 1 [sL,tL] (fg K))(rC:dC P w K mg base "_law_turn" 1 [tS,tW,vL] lG)(jB:mg "range"=none) (jC:mg "tuple"=none):FnOk P w K mg base cG 3 f fd [sL,wH] (fZ K):=by
 refine F.ok kP (λab A N s H vs Q E u h=>?_)
 obtain⟨a,L,st,rfl,h0,M,q⟩:=h;refine#[_,(cq (cT (i:=2) kP.nd zZ Z' (dQ nZ cD (dQ jx (dv J u.m zZ (cE (bV (pv 0) (bV (pv 1) cA zZ) zZ))) cD))) (cq (cT (i:=3) kP.nd zZ Z' (gB ce)) (cq (hK iX zZ (mq zZ jB (ci (dQ nZ cD (dQ jx (dQ u6 (dv J u.m zZ (cE (bV (pv 0) (bV (pv 1) cA zZ) zZ))) cD) cD)) ce)) (fB (i:=4) kP.nd zZ Z') (cq (cT (i:=5) kP.nd zZ Z' (dv J u.m zZ (cE (bV (pv 0) (bV (dQ nZ (dQ nZ (pv 1) cD) (dQ xm cD (pv 4))) cA zZ) zZ)))) (cy (iq (iZ iD lU lL me (pv 3) (ci (dv rC u.m zZ (cE (bV (pv 2) (bV (pv 5) (bV (dv J u.m zZ (cE (bV (pv 0) (bV (dQ nZ (dQ nZ (pv 1) cD) (dQ xm cD (pv 4))) cA zZ) zZ))) cA zZ) zZ) zZ))) ce)))))) (cy (c8 (iC nC zZ jC j9 (ci (pv 3) ce))))))),?_];refine#[_,zZ,_,zZ,a,L,st,zZ,h0,M,λc=>#[_,_,zZ,zZ,(by decide:(0:Int)<5),_,_,zZ,zZ,?_]];obtain⟨n,en,n1,n5⟩:∃n:Nat,(1+c%5:Int)=(n:Int)/\1<=n/\n<=5:=#[(1+c%5).toNat,(),(),()]
 try dsimp only
 rw[en];refine#[by decide,λtl v=>?_];have l:=cn v (.lst []);have y:bT H tl (.lst []) tl=some (.lst []):=bY;generalize bT H tl (.lst [])=H1 at l y|-;refine#[_,zZ,_,zZ,a,L,st,zZ,h0,l.seq M,λc2=>#[_,_,zZ,zZ,#[by decide,by decide],_,_,zZ,zZ,(by decide:(0:Int)<4),_,_,zZ,zZ,?_]];obtain⟨k,ek,k1,k4⟩:∃k:Nat,(1+c2/5%4:Int)=(k:Int)/\1<=k/\k<=4:=#[(1+c2/5%4).toNat,(),(),()]
 let Pk:Nat->L2.St->Hp->Prop:=λi O T=>Same H T/\∃(d:As) (g:LN) (U Y:Option V),T tl=some (.lst (d.map .ref))/\d.length=i/\g.length=i/\(∀(j:Nat) r t,d[j]?=some r->g[j]?=some t->T r=some (.tup (t.map nv)))/\(∀t∈g,t.length=n/\∀x∈t,x<n)/\O=[some (.ref a),some (.int st),some (nv n),some (.ref tl),U,Y]
 refine#[(k:Int),(by rw[ek]),(),(),ug Pk #[l,[],[],none,none,y,zZ,zZ,(λj r t e=>wC e (by simp)),(λt ht=>wC ht (by simp)),zZ] (λi O H2 hi p=>?_) (λO H2 p=>?_)]
 .obtain⟨g2,d,g,U,Y,b,B,C,m,ht,rfl⟩:=p;have ae:i<k:=by simpa using hi
  refine#[_,zZ,_,zZ,_,_,zZ,zZ,_,zZ,_,_,zZ,zZ,.inl #[by decide,by decide],_,_,zZ,zZ,a,L,_,zZ,(),g2.seq M,λcl=>?_];refine#[_,zZ,.inl #[zZ,_,R3 b],_,zZ,_,zZ,_,zZ,_,zZ,_,_,zZ,zZ,_,zZ,_,_,zZ,zZ,.inl #[by decide,by decide],_,_,zZ,zZ,a,L,_,zZ,(),g2.seq M,λcm=>?_];refine#[n,cl,cm,zZ,n1,n5,λys r H3 D er aa hy=>#[tl,_,_,zZ,zZ,D _ _ b,by rw[bW,db];lia,?_]];have rt:=nE er (D _ _ b);refine#[iA (g2.trans D) v,d++[r],g++[ys],_,_,by rw[bY,dH];rfl,by rw[di,B];rfl,by rw[di,C];rfl,λj r' G o I=>?_,λG h'=>?_,zZ]
  .rcases Nat.lt_or_ge j i with hj|hj
   .rw[d7 ()]at o I;have z:=D _ _ (m j r' G o I);rw[bX (nE z (D _ _ b))];exact z
   .rw[eC ()]at o I;have j0:j-d.length=0:=by
     have:=(cf.mp o).1;simp at this;lia
    have j1:j-g.length=0:=by lia
    rw[j0]at o;rw[j1]at I;cases o;cases I;rw[bX rt];exact er
  .rcases cW.mp h' with z|z
   .exact ht G z
   .rw[cJ.mp z];exact#[aa,hy]
 .obtain⟨g2,d,g,U,Y,b,B,C,m,ht,rfl⟩:=p;have o:=iW k;refine#[_,zZ,tl,_,zZ,.inl #[R3 b,λt nt=>q t g n _ (g2.trans (cn nt _)) #[#[d,bY,(),λj r G a1 a2=>cn nt _ _ _ (m j r G a1 a2)],(),(),n1,n5,ht]]]
inductive nS(K:R6)(d:List V)(H:Hp)(Q:VK)(a:XK):Prop|mk:∀(m b:Ad) (c:LN) (n r:Nat) (word:bS),d=[.ref m,nv r,.ref b]->Mach H m c n->r<n->SqL K H b (word.map nv)->(∀l∈word,l<c.length)->Q (nv (eE c r word)) H->nS K d H Q a
theorem PR(F:Fun K "led" "led" tz f fd):FnOk P w K mg base cG 1 f fd [sA,sX,tO] (nS K):=by
 refine F.ok uY (λu A g s H D Q E G h=>?_)
 obtain⟨m,b,k,n,r,word,rfl,M,j,t,hw,q⟩:=h;refine#[_,(cq (hK iX zZ (gY (pv 2)) (fB (i:=3) uY.nd zZ Z') (cy (cT (i:=1) uY.nd zZ Z' (cU d6 (cU d6 (pv 0) (pv 3) (λ_ _=>rfl)) (pv 1) (λ_ _=>rfl))))) (cy (c8 (pv 1)))),?_];refine#[_,zZ,b,zZ,#[_,t],qr (λi c d=>d=H/\∃o,c=[some (.ref m),some (nv (eE k r (word.take i))),some (.ref b),o]) #[zZ,none,zZ] (λi c d _ p=>by obtain⟨rfl,_⟩:=p;exact t) (λi x c d a p=>?_) (λc d p=>?_)]
 .obtain⟨rfl,o,rfl⟩:=p;rw[cz]at a;cases e:word[i]? with
  |none=>rw[e]at a;cases a
  | some l=>
   rw[e]at a;cases a;obtain⟨I,v,y,J,z,B,C,L⟩:=M.at (hw l (cF e));refine#[_,zZ,_,zZ,m,_,_,_,zZ,zZ,R4 y,z,_,zZ,v,_,_,_,zZ,zZ,R4 B,tc ?_,zZ,some (nv l),?_]
   .rw[C];exact pI M _ _ j λx a=>hw x (wZ a)
   .rw[i8,e];show _=[some (.ref m),some (nv (eE k r (word.take i++[l]))),some (.ref b),some (nv l)];rw[Ra];rfl
 .obtain⟨rfl,o,rfl⟩:=p;refine#[_,zZ,?_];rw[bW,gW];exact q
noncomputable def qe(b:LN)(a word:bS):bS:=a.map λr=>eE b r word
theorem Lf(c:n<=5)(h:∀x∈a,x<n):eX a=(List.range n).filter λi=>a.contains i:=by
 unfold eX;have e:List.range 5=List.range n++(List.range (5-n)).map (n+ ·):=by rw[<-List.range_add];congr 1;lia
 rw[e,zp];have no:((List.range (5-n)).map (n+ ·)).filter (λi=>a.contains i)=[]:=by
  rw[List.filter_eq_nil_iff];intro y b z;obtain⟨k,_,rfl⟩:=cH.mp b;have:=h _ (hO.mp z);lia
 rw[no,hA]
theorem A9(h:x∈eX a):x∈a:=hO.mp (dm.mp h).2
theorem HN(h:x∈a)(b:x<5):x∈eX a:=dm.mpr #[ft.mpr b,hO.mpr h]
theorem QU(a):(eX a).length<=5:=dh (j8 _ _) (by simp)
theorem yq(i)(a:bS):AC (nv i) (a.map nv)=a.contains i:=by
 unfold AC;rw[Bl]
 induction a with
 |nil=>rfl
 | cons x a b=>
  rw[wV,xc,b]
  congr 1
  by_cases h:x=i
  .subst h;show((x:Int)==(x:Int))=(x==x);simp
  .have c: ¬(x:Int)=(i:Int):=by lia
   have d: ¬i=x:=by lia
   show((x:Int)==(i:Int))=(i==x);rw[oq.mpr c,oq.mpr d]
theorem MJ(a:bS):(a.map nv).all jr=true:=by
 rw[BA,rj];intro x _;rfl
inductive dt(K:R6)(e:List V)(H:Hp)(Q:VK)(c:XK):Prop|mk:∀(m p b:Ad) (d:LN) (n:Nat) (a word:bS),e=[.ref m,.ref p,.ref b]->Mach H m d n->SqT K H p (a.map nv)->a.length<=5->(∀r∈a,r<n)->SqL K H b (word.map nv)->(∀l∈word,l<d.length)->yi H ((eX (qe d a word)).map nv) Q->dt K e H Q c
theorem MD(F:Fun K vC vC Au f fd)(y:dC P w K mg base "led" 1 [sA,sX,tO] (nS K))(z:mg "tuple"=none)(B:mg "sorted"=none)(C:mg "set"=none):FnOk P w K mg base cG 3 f fd [sA,sB,tO] (dt K):=by
 refine F.ok KI (λD A j s H vs Q E G h=>?_)
 obtain⟨m,p,b,d,n,c,word,rfl,M,u,I,g,J,hw,q⟩:=h;refine#[_,(cy (c8 (iC nC zZ z j9 (ci (dM (LV zZ) zZ B boot_sorted (ci (iC (Kt zZ) zZ C PyProof.Rows.boot_set (ci (iu (CompSc.to (N:=[sA,sB,tO]) (osc:=cu Au) {}) zZ zZ (wP (pv 1)) (λ_ _ _ _=>hZ) (λ_ _ _ _=>(dv y G.m zZ (cE (bV (pv 1) (bV (pv 0) (bV (pv 3) cA zZ) zZ) zZ))))) ce)) ce)) ce)))),?_];have n5:=M.n5;refine#[_,zZ,p,zZ,#[_,u],yO (f:=λv=>match v with|.int i=>nv (eE d i.toNat word)|v=>v) (by rw[bW];exact small ()) u (λv Q L q=>?_) (λl O=>?_)]
 .obtain⟨r,k,rfl⟩:=cH.mp L;exact#[_,zZ,_,zZ,_,zZ,m,b,d,n,r,word,zZ,M,g r k,J,hw,q]
 .have e:(c.map nv).map (λv=>match v with|.int i=>nv (eE d i.toNat word)|v=>v)=(qe d c word).map nv:=by
   unfold qe;rw[i0,i0];rfl
  rw[e];have T:=cn O (.lst ((qe d c word).map nv));refine#[l,_,zZ,R3 bY,λx U=>?_,λa Y=>#[a,_,zZ,bY,λo ho=>?_]]
  .obtain⟨r,k,rfl⟩:=cH.mp U;have:=pI M word r (g r k) hw;lia
  .try dsimp only
   rw[Ja];exact#[o,_,zZ,.inl #[R3 bY,λt ht=>q t _ (T.trans ((cn Y _).trans ((cn ho _).trans (cn ht _)))) bY]]
inductive fY(C:Ad)(c:List V)(H:Hp)(Q:VK)(b:XK):Prop|mk:∀(e:Ad) (n:Nat),c=[.ref e,nv n]->n<=400->H e=some (.ext (iY e C none))->(∀a,H a=none->a≠e->Q .non (bT (bT H a (.xd [(sK,nv n)])) e (.ext (iY e C (some a)))))->fY C c H Q b
inductive iw(C:Ad)(c:List V)(H:Hp)(Q:VK)(E:XK):Prop|mk:∀(d:Ad) (a:List (List cQ×V)) (n:Nat),c=[.ref d,nv n]->H d=some (.dT a)->n<=400->((a.length<=n->Q .non H))->((n<a.length->∀b,H b=none->E (.ref C) (some b) (bT H b (.xd [(sK,nv n)]))))->iw C c H Q E
inductive dJ(P:Pg)(w:World)(K:R6)(mg:SV)(base:Heap)(C:Ad)(h:List V)(H:Hp)(Q:VK)(E:XK):Prop|mk:∀(a st:Ad) (fd:Fd) (i:Ss) (e:bS) (L:Nat) (U:LN) (g:bS->Nat->List Nat) (most:Nat),h=[.ref a,nv L,.ref st,nv most]->H a=some (.tup (e.map nv))->H st=some (gN st fd)->e∈U->((∀x∈U,∀l,l<L->g x l∈U))->L<=4000->most<=400->FnOk P w K mg base cG 11 st fd i (dE (Same H) U L g)->Binds K fd i []->((∀D c j d,Same H d->WordsAt d D c j->(∀b∈D::j,H b=none)->Told g L e c->c.length<=most->Q (.ref D) d))->((∀(c:TW) d f,Same H d->H f=none->d f=some (.xd [(sK,nv most)])->(c.map (·.1)).Nodup->(∀p∈c,(∀l∈p.2,l<L)/\cN g e p.2=p.1)->most<c.length->E (.ref C) (some f) d))->dJ P w K mg base C h H Q E
def yD(C:Ad):Sp:=λa H Q E=>(∃d,a=[.ref d,.non]/\Q .non H)\/iw C a H Q E
inductive cY(P:Pg)(w:World)(K:R6)(mg:SV)(base:Heap)(f:List V)(H:Hp)(Q:VK)(c:XK):Prop|mk:∀(a st:Ad) (fd:Fd) (h:Ss) (d:bS) (L:Nat) (U:LN) (g:bS->Nat->List Nat),f=[.ref a,nv L,.ref st,.non]->H a=some (.tup (d.map nv))->H st=some (gN st fd)->d∈U->((∀x∈U,∀l,l<L->g x l∈U))->U.length<=4000->L<=4000->FnOk P w K mg base cG 5 st fd h (dE (Same H) U L g)->Binds K fd h []->(∀D i j e,Same H e->WordsAt e D i j->(∀b∈D::j,H b=none)->Told g L d i->Q (.ref D) e)->cY P w K mg base f H Q c
theorem JJ:∀s H Q E,cY P w K mg base s H Q E->cY P w K mg base s H Q E0:=λ_ _ _ _ ⟨a,b,c,d,e,f,g,h,i,j,k,l,m,n,o,p,q,r⟩=>#[a,b,c,d,e,f,g,h,i,j,k,l,m,n,o,p,q,r]
theorem QH(F:Fun K tQ vW vU f j)(a:MkE K C D f)(bI:BaseI K D)(i:SetE K C sK)(l:mg "HallError"=some (.ref D)):FnOk P w K mg base cG 1 f j [sC,sK] (fY C):=by
 refine F.ok Mm (λm A b s H p Q E r h=>?_)
 obtain⟨e,n,rfl,t,c,q⟩:=h;refine#[_,(cq (iq (MY a bI zZ l (cE (bV (pv 0) (bV (ME (Kl (PF (pv 1) MG))) cA zZ) zZ)))) (cy (Nc zZ a i (pv 0) (pv 1)))),?_];have z:∀k:Fin 401,(Str.empty++Str.ofString "there are more than "++Str.ofString (toString ((k:Nat):Int))).length<=40:=by decide+kernel
 have d:=z #[n,()];have o:∀k:Fin 401,((k:Nat):Int).natAbs.log2<1920:=by decide+kernel
 have g:(40:Nat)<=sizeLine:=by decide
 exact#[_,zZ,by decide,_,zZ,(n:Int),zZ,o #[n,()],dh d g,dh d g,e,_,zZ,c,_,zZ,_,zZ,e,zZ,c,q]
theorem Py(F:Fun K tH tH vk f j)(t:D0 P w K mg base "TooMany" 1 [sC,sK] (fY C) C)(u:mg "len"=none):FnOk P w K mg base (CX1 P w) 3 f j [wG,sK] (yD C):=by
 refine F.okX O8 (λm H Q E h=>?_) (λv A l s H m Q E o h=>?_)
 .rcases h with⟨d,rfl,_⟩|⟨d,a,n,rfl,_⟩
  .rfl
  .rfl
 have x:=iT o;have few:∃b c,m=[b,c]:=by
  rcases h with⟨d,rfl,_⟩|⟨d,a,n,rfl,_⟩
  .exact#[_,_,zZ]
  .exact#[_,_,zZ]
 obtain⟨b,c,rfl⟩:=few;refine#[_,(cy (fG (PW.pt (wr (hG D9 (pv 1) qf (fS _)) (wQ (hG xT (dM IQ zZ u f6 (ci (pv 0) ce)) (pv 1) (fS _))))) (cy (OV zZ zZ KG t o.m zZ (ci (pv 1) ce))) fJ)),?_]
 rcases h with⟨d,e,q⟩|h
 .cases e;exact#[_,zZ,zZ,_,zZ,q]
 obtain⟨d,a,n,e,y,B,q,D⟩:=h;cases e;refine#[_,zZ,zZ,_,zZ,fy #[_,zZ,d,a,zZ,y,_,zZ,_,_,zZ,zZ,_,zZ,lH (λc=>?_) (λc=>?_)]]
 .have G:n<a.length:=by
   have:=f7 c;lia
  refine#[_,zZ,by show 1<=sizeLine;decide,λe I=>#[e,n,zZ,B,bY,λk i p=>#[zZ,some k,bT H k (.xd [(sK,nv n)]),?_,?_,D G k ?_]]]
  .funext b
   unfold bT;by_cases g:b=e
   .rw[wB g,wB g]
   .rw[wA g,wA g];by_cases r:b=k
    .rw[wB r,wA g]
    .rw[wA r,wA g]
  .rw[bX (dG p)];exact I
  .rw[bX p]at i;exact i
 .exact q (by
   have:=λz=>c (dF z);lia)
theorem QI(F:DefAt K sU oI f j l v)(r:B4 P w K mg base tH 3 [wG,sK] (yD C))(y:mg "range"=none):FnOk P w K mg base (CX1 P w) 8 f j [vZ,vN,vK,sK] (cY P w K mg base):=by
 refine F.fnOkX jK (λB H Q E h=>?_) (λA m s H B Q E h d=>?_)
 .obtain⟨a,st,j,I,J,L,U,g,rfl,_⟩:=h;rfl
 have b:=iT d;obtain⟨a,st,sd,I,J,L,U,g,rfl,M,n,N,O,few,c,T,Y,q⟩:=h;exact#[_,IM (λH1 D e t Q1 g1 W u run k=> .inl #[D,zZ,k True.intro]) d.m M n N O (λe u o _=>by
  have z:=qv u λx hx=>by
   obtain⟨p,hp,rfl⟩:=cH.mp hx;exact o p hp
  rw[bW]at z;lia) c T Y (λD e t H' g W nw TT _=>q D e t H' g W nw TT),(cq (cT jK.nd zZ Z' (EH b (pv 0) (gB ce))) (cq (iq (A5 r d.m xG zZ (cE (bV (pv 4) (bV (pv 3) cA zZ) zZ)))) (cq (cT jK.nd zZ Z' (gB (ci (pv 0) ce))) (cq (Aw tr (Ft (pv 5) (λ_=>rfl)) (cq (cT jK.nd zZ Z' (gB ce)) (cq (hK tr zZ (gY (pv 5)) (fB jK.nd zZ Z') (cy (hK tr zZ (mq zZ y (ci (pv 1) ce)) (fB jK.nd zZ Z') (cq (cT jK.nd zZ Z' (Ji 2 (pv 2) (cE (bV (pv 7) (bV (pv 8) cA zZ) zZ)))) (cy (fG (oY (xN b (pv 9) (pv 4))) (cq (ra b (pv 4) (pv 9) (dQ zO (mR b (pv 4) (pv 7) (λ_ _=>rfl)) (gB (ci (pv 8) ce))) zZ) (cq (iq (A5 r d.m xG zZ (cE (bV (pv 4) (bV (pv 3) cA zZ) zZ)))) (cy (iq (iZ iD lU lL me (pv 6) (ci (pv 9) ce)))))) fJ)))))) (cy (cT jK.nd zZ Z' (pv 6)))))) (cy (c8 (pv 4)))))))]
theorem O'(F:DefAt K sU oI f j n u)(r:B4 P w K mg base tH 3 [wG,sK] (yD C))(v:mg "range"=none):FnOk P w K mg base (CX1 P w) 14 f j [vZ,vN,vK,sK] (dJ P w K mg base C):=by
 refine F.fnOkX jK (λx H Q E h=>?_) (λA o s H x Q E h m=>?_)
 .obtain⟨a,st,j,y,z,L,U,g,most,rfl,_⟩:=h;rfl
 have b:=iT m;obtain⟨a,st,sd,y,z,L,U,g,most,rfl,B,p,I,J,c,d,M,N,q,O⟩:=h;refine#[_,IM (λH1 D e T Q1 t W Y run k=> .inr ?_) m.m B p I J (λe _ _ le=>by lia) c M N q,(cq (cT jK.nd zZ Z' (EH b (pv 0) (gB ce))) (cq (iq (A5 r m.m xG zZ (cE (bV (pv 4) (bV (pv 3) cA zZ) zZ)))) (cq (cT jK.nd zZ Z' (gB (ci (pv 0) ce))) (cq (Aw tr (Ft (pv 5) (λ_=>rfl)) (cq (cT jK.nd zZ Z' (gB ce)) (cq (hK tr zZ (gY (pv 5)) (fB jK.nd zZ Z') (cy (hK tr zZ (mq zZ v (ci (pv 1) ce)) (fB jK.nd zZ Z') (cq (cT jK.nd zZ Z' (Ji 2 (pv 2) (cE (bV (pv 7) (bV (pv 8) cA zZ) zZ)))) (cy (fG (oY (xN b (pv 9) (pv 4))) (cq (ra b (pv 4) (pv 9) (dQ zO (mR b (pv 4) (pv 7) (λ_ _=>rfl)) (gB (ci (pv 8) ce))) zZ) (cq (iq (A5 r m.m xG zZ (cE (bV (pv 4) (bV (pv 3) cA zZ) zZ)))) (cy (iq (iZ iD lU lL me (pv 6) (ci (pv 9) ce)))))) fJ)))))) (cy (cT jK.nd zZ Z' (pv 6)))))) (cy (c8 (pv 4)))))))];refine#[D,a3g e T,most,zZ,W.dict,d,λh=>k (by rw[AK W.len]at h;exact h),λh dx l=>O e _ dx (t.trans (cn l _)) (t.free l) bY Y run (by rw[AK W.len]at h;exact h)]
noncomputable def dP:List (Str×Pos×Ad):=[(sD,(#[57,40,57,93]:Pos),149),(sF,(#[129,61,129,110]:Pos),248),(tT,(#[239,52,239,98]:Pos),404)]
theorem Lx:(dP.map (·.2.2)).Nodup:=by decide
def Tabs(H:Hp):Prop:=∀q∈dP,TabOk q.1 q.2.1 H q.2.2
theorem _root_.L2.TabOk.most{H f:Hp}(t:TabOk a c H T)(g:∀b u,(∀d,u≠HO.dT d)->(∀h,u≠HO.lst h)->H b=some u->f b=some u):TabOk a c f T:=by
 rcases t with t|⟨i,j,k⟩
 .exact .inl (g _ _ (λ_ e=>nomatch e) (λ_ e=>nomatch e) t)
 .exact .inr #[i,g _ _ (λ_ e=>nomatch e) (λ_ e=>nomatch e) j,g _ _ (λ_ e=>nomatch e) (λ_ e=>nomatch e) k]
theorem Tabs.same(t:Tabs H)(g:Same H H'):Tabs H':=λq a=>(t q a).same g
theorem Tabs.most(t:Tabs H)(g:∀b u,(∀a,u≠HO.dT a)->(∀d,u≠HO.lst d)->H b=some u->c b=some u):Tabs c:=λq e=>(t q e).most g
def KeepsBut(T:Ad)(H a:Hp):Prop:=∀b o,b≠T->H b=some o->a b=some o
theorem KeepsBut.keeps(g:KeepsBut T H H')(hT:H T=some (.tbl a)):Keeps H H':=λb o c=>by
 obtain⟨z,d⟩:=uz c;exact g b o (io z hT λe=>d _ e) z
theorem GA:∀{l:List (Str×Pos×Ad)} {p q},(l.map (·.2.2)).Nodup->p∈l->q∈l->p.2.2=q.2.2->p=q
 | [],_,_,_,hp,_,_=>nomatch hp
 | r::l,p,q,nd,hp,hq,e=>by
  obtain⟨b,d⟩:=hX.mp nd
  rcases cP.mp hp with c|hp
  .rcases cP.mp hq with a|hq
   .rw[c,a]
   .exact wC (cH.mpr #[q,hq,by rw[<-c];exact e.symm]) b
  .rcases cP.mp hq with a|hq
   .exact wC (cH.mpr #[p,hp,by rw[<-a];exact e]) b
   .exact GA d hp hq e
theorem Tabs.but(j:(a,b,T)∈dP)(t:Tabs H)(hT:H T=some (.tbl i))(g:KeepsBut T H d)(k:TabOk a b d T):Tabs d:=λf c=>by
 by_cases e:f.2.2=T
 .have:=GA Lx c j e;subst this;exact k
 .rcases t f c with t|⟨l,m,h⟩
  .exact .inl (g _ _ e t)
  .exact .inr #[l,g _ _ e m,g _ _ (nE h hT) h]
theorem Dc(d)(c)(hT:H T=some (.tbl #v[]))(f:H e=none)(g:H a=none)(h:e≠a)(lo):KeepsBut T H (bT (bT (bT H T (.tbl (jE d a))) a (jy a c)) e lo)/\
  (bT (bT (bT H T (.tbl (jE d a))) a (jy a c)) e lo) T=some (.tbl (jE d a))/\(bT (bT (bT H T (.tbl (jE d a))) a (jy a c)) e lo) a=some (jy a c):=by
 refine#[λb o i z=>?_,?_,?_]
 .rw[bX (dj z f),bX (dj z g),bX i];exact z
 .rw[bX (dj hT f),bX (dj hT g),bY]
 .rw[bX (dG h),bY]
noncomputable def b8(a:LN)(x:bS)(l:Nat):bS:=eX (qe a x [l])
noncomputable def dN(n:Nat):LN:=((List.range 32).map cr).filter λx=>x.all λr=>decide (r<n)
inductive dw(T:Ad)(d:Pos)(g:List V)(H:Hp)(Q:VK)(e:XK):Prop|mk:∀(m p:Ad) (f:LN) (n:Nat) (a:bS),g=[.ref m,.ref p]->Mach H m f n->H p=some (.tup (a.map nv))->a∈dN n->Tabs H->(∀D h i c,Keeps H c->Tabs c->WordsAt c D h i->(∀b∈D::i,noT H b=none)->Told (b8 f) f.length a h->Q (.ref D) c)->dw T d g H Q e
theorem bZ{x:bS}:x∈dN n↔eX x=x/\∀r∈x,r<n:=by
 unfold dN;rw[dm,cH,rj];constructor
 .rintro⟨⟨k,a,rfl⟩,h⟩;refine#[?_,λr c=>f7 (h r c)];have z:∀k:Fin 32,eX (cr k)=cr k:=by decide+kernel
  exact z #[k,ft.mp a]
 .rintro⟨d,e⟩;refine#[#[nP 0 (eX x),ft.mpr ?_,by rw[Ja,d];exact d],λr c=>dF (e r c)];have z:∀b k,(∀n∈b,n<5)->k<32->nP k b<32:=by
   intro b
   induction b with
   |nil=>intro k _ a;exact a
   |cons n b f=>intro k h a;exact f _ (λy g=>h y (eM _ g)) (Jy #[k,a] #[n,h n (dy ..)])
  exact z _ 0 (λn i=>ft.mp (dm.mp i).1) (by decide)
theorem Hl(a):eX (eX a)=eX a:=by
 unfold eX;refine u7 λi b=>?_;rw[mv,hO,hO,dm,hO];exact#[λh=>h.2,λh=>#[b,h]]
theorem Mach.noT(M:Mach H m a n):Mach (L2.noT H) m a n:=
 #[let⟨b,c,d,e⟩:=M.refs;#[b,nU c,d,λi r t f g=>nU (e i r t f g)],M.some1,M.few,M.n1,M.n5,M.each]
theorem Mach.keeps(M:Mach H m a n)(g:Keeps H H'):Mach H' m a n:=M.noT.same g
theorem Mach.drop(M:Mach H m a n)(b:H c=some (.ext e)):Mach (L2.drop H c) m a n:=by
 obtain⟨f,d,g,h⟩:=M.refs;refine#[#[f,?_,g,λi r t j k=>?_],M.some1,M.few,M.n1,M.n5,M.each]
 .rw[dX (nE d b)];exact d
 .have z:=h i r t j k;rw[dX (nE z b)];exact z
theorem IF{u c m i:Ad}{f:Expr}(e:fc oE=[.Return (some (.Call Y [a1,a2,.Lambda a f d lp] kw cp)) rp])(jL:dC P w K mg base vC 3 [sA,sB,tO] (dt K)) (M:Mach j m p n) (h1:j u=some (gN u (fq sD a f d sA c pm (.ref i) v))) (O:j c=some (dU c m N)) (h3:j i=some (jy i sD)):
  FnOk P w K mg base cG 5 u (fq sD a f d sA c pm (.ref i) v) [sY,sG] (dE (Same j) (dN n) p.length (b8 p))/\Binds K (fq sD a f d sA c pm (.ref i) v) [sY,sG] []:=by
 cases e;refine#[Fz (m:=m) (oc:=N) #[zZ,zZ,zZ,by decide+kernel,by decide+kernel,zZ,by decide+kernel] (λT H Q E h=>?_) (λT H Q E h=>?_) (λA B s H T Q E hr h=>?_),.all λus C=>match us,C with| [_,_],_=>rfl]
 .obtain⟨t,x,l,rfl,_⟩:=h;rfl
 .obtain⟨t,x,l,rfl,g,_⟩:=h;exact#[g _ _ h1,g _ _ O,g _ _ h3]
 .obtain⟨t,x,l,rfl,g,ht,hx,C,q⟩:=h;refine#[_,(dv jL hr.m zZ (cE (bV (pv 2) (bV (pv 0) (bV (gB (ci (pv 1) ce)) cA zZ) zZ) zZ))),?_];obtain⟨x1,x2⟩:=bZ.mp hx;have D:=g _ _ O;refine#[_,zZ,_,zZ,_,zZ,by show 1<=sizeLine;decide,λb hb=>?_];have G:=cn hb (.lst [nv l]);have M1:=((M.same g).drop D).same G;have I:=G _ _ (by rw[dX (nE ht D)];exact ht);refine#[m,t,b,p,n,x,[l],zZ,M1,R4 I,by rw[<-x1];exact QU x,x2,R3 bY,λz hz=>by rw[cJ.mp hz];exact C,λr H3 g3 U free=>q r _ (λy o J=>?_) ?_]
  .by_cases L:y=c
   .subst L;rw[D]at J;cases J;exact bY
   .rw[bX L];exact g3 _ _ (G _ _ (by rw[dX L];exact J))
  .rw[bX (dj U free)];exact U
theorem MV{cd T:Ad}(F:DefAt K sS oE f fd .none (.ref cd))(hC:PySem.W.CodeHd base cd T)(bm:oA mg base)(hq:((sD:Str),(#[57,40,57,93]:Pos),T)∈dP)(jL:dC P w K mg base vC 3 [sA,sB,tO] (dt K))(qJ:Co P w K mg base sU 8 [vZ,vN,vK,sK] (cY P w K mg base) [.non]) (jD:mg "len"=none):FnOk P w K mg base cG 10 f fd [sA,sB] (dw T (#[57,40,57,93]:Pos)):=by
 refine F.fnOk Q9 (λvs H Q E h=>?_) (λA ae s H vs Q E h hr=>?_)
 .obtain⟨m,p,U,n,v,rfl,_⟩:=h;rfl
 obtain⟨m,p,U,n,v,rfl,M,hp,hU,hT,q⟩:=h;refine#[_,?_,(cy (c8 (GJ qJ hr.m zZ (j:=0) zZ zZ zZ zZ (cE (bV (pv 1) (bV (dM gq zZ jD f6 (ci (pv 0) ce)) (bV (D1 zZ hC bm (λ_ _ _ _ _=>rfl) zZ zZ) cA zZ) zZ) zZ)))))];obtain⟨rs,hm,af,_⟩:=M.refs;refine#[_,zZ,_,zZ,m,_,zZ,.inr (R4 hm),?_]
 rw[bW,af];have go:∀B t J L Y,H T=some (.tbl Y)->KeepsBut T H L->L T=some (.tbl (jE (#[57,40,57,93]:Pos) t))->L t=some (jy t sD)->∀d k e pm c,L B=some (gN B (fq sD d k e sA c pm (.ref t) J))->
   ∀C,L c=none->(FnOk P w K mg base cG 5 B (fq sD d k e sA c pm (.ref t) J) [sY,sG] (dE (Same (bT L c (dU c m C))) (dN n) U.length (b8 U)))->Binds K (fq sD d k e sA c pm (.ref t) J) [sY,sG] []->
   cY P w K mg base [.ref p,nv U.length,.ref B,.non] (bT L c (dU c m C)) (λr H2=>H2 c=some (dU c m C)/\Q r (L2.drop H2 c)) E0:=λB t J L Y aa kb h1 h2 d k e pm c h3 C G hF hB=>by
  have u:=kb.keeps aa;have i:=cn G (dU c m C);have n5:=M.n5;refine#[p,B,_,_,v,U.length,dN n,b8 U,zZ,i _ _ (u _ _ (nU hp)),i _ _ h3,hU,λx hx l hl=>?_,?_,?_,hF,hB,λD ws as H2 g2 W nw TT=>#[g2 _ _ bY,q D ws as _ (λb o N=>?_) (hT.but hq aa (λb o nb N=>?_) (.inr #[t,?_,?_])) #[W.len,?_,λj a r e1 e2=>?_] (λb N=>?_) TT]]
  .obtain⟨x1,x2⟩:=bZ.mp hx;refine bZ.mpr #[Hl _,λr hr=>?_];obtain⟨y,h4,rfl⟩:=cH.mp (A9 hr);exact pI M [l] y (x2 y h4) λz hz=>by rw[cJ.mp hz];exact hl
  .exact dh (j8 _ _) (by rw[bW,lK];decide)
  .have:=M.few;lia
  .have z:=u b o N;rw[dX (dj z G)];exact g2 _ _ (i _ _ z)
  .have z:=kb b o nb N;rw[dX (dj z G)];exact g2 _ _ (i _ _ z)
  .rw[dX (dj h1 G)];exact g2 _ _ (i _ _ h1)
  .rw[dX (dj h2 G)];exact g2 _ _ (i _ _ h2)
  .rw[dX (nE W.dict (g2 _ _ bY))];exact W.dict
  .have z:=W.list j a r e1 e2;rw[dX (nE z (g2 _ _ bY))];exact z
  .have z:=nw b N;cases y:L2.noT H b with
   |none=>rfl
   |some o=>
    have z2:=i _ _ (u _ _ y);rw[z]at z2;cases z2
 rcases hT _ hq with g|⟨t,g,I⟩
 .refine .inl #[g,λB t J O I ne=>#[m,zZ,λC G=>?_]];obtain⟨u,ag,ab⟩:=Dc (#[57,40,57,93]:Pos) sD g O I ne _;have i:=cn G (dU (s.heap.objs.size+1) m C);obtain⟨F1,F2⟩:=IF zZ jL ((M.keeps (u.keeps g)).same i) (i _ _ bY) bY (i _ _ ab);exact go B t J _ _ g u ag ab _ _ _ _ _ bY C G F1 F2
 .refine .inr #[t,g,I,λB J O=>#[m,zZ,λC G=>?_]];have u:=λlo=>cn O lo;have i:=cn G (dU (s.heap.objs.size+1) m C);obtain⟨F1,F2⟩:=IF zZ jL ((M.same (u _)).same i) (i _ _ bY) bY (i _ _ (u _ _ _ I));exact go B t J _ _ g (λb o _ N=>u _ _ _ N) (u _ _ _ g) (u _ _ _ I) _ _ _ _ _ bY C G F1 F2
inductive fv(b:List V)(H:Hp)(Q:VK)(a:XK):Prop|mk:∀n:Nat,b=[nv n]->n<=1000->yi H ((List.range n).map nv) Q->fv b H Q a
theorem Lp(F:Fun K "still" "still" D4 f fd)(b:mg "tuple"=none)(c:mg "range"=none):FnOk P w K mg base cG 1 f fd [sB] fv:=by
 refine F.ok Qw (λd A a s H g Q E i h=>?_)
 obtain⟨n,rfl,j,q⟩:=h;refine#[_,(cy (c8 (iC (QD zZ) zZ b j9 (ci (iC JK zZ c boot_range (ci (pv 0) ce)) ce)))),#[_,zZ,(n:Int),zZ,λp e=>#[p,(n:Int),zZ,bY,(),(),λt ht=>?_]]];exact q t _ ((cn e _).trans (cn ht _)) bY
noncomputable def eJ(xs a:bS):bS:=xs.map λx=>a.getD x 0
inductive eO(f:List V)(H:Hp)(Q:VK)(d:XK):Prop|mk:∀(a b:Ad) (c e:bS),f=[.ref a,.ref b]->H a=some (.tup (c.map nv))->H b=some (.tup (e.map nv))->(∀x∈c,x<e.length)->c.length<=1000->yi H ((eJ c e).map nv) Q->eO f H Q d
theorem N8(F:Fun K wJ wJ AF f fd)(l:mg "tuple"=none):FnOk P w K mg base cG 1 f fd [vE,tG] eO:=by
 refine F.ok Mb (λm A c s H z Q E B h=>?_)
 obtain⟨a,b,j,d,rfl,k,n,g,o,q⟩:=h;refine#[_,(cy (c8 (iC nC zZ l j9 (ci (iu (CompSc.to (N:=[vE,tG]) (osc:=cu AF) {}) zZ zZ (wP (pv 0)) (λ_ _ _ _=>hZ) (λ_ _ _ _=>(cU (IxR.k tA d6 zZ) (pv 2) (pv 0) (λ_ _=>rfl)))) ce)))),?_];have e:(j.map nv).map (λv=>match v with|.int i=>nv (d.getD i.toNat 0)|v=>v)=(eJ j d).map nv:=by
  unfold eJ;rw[i0,i0];rfl
 refine#[_,zZ,a,zZ,#[_,R4 k],yO (f:=λv=>match v with|.int i=>nv (d.getD i.toNat 0)|v=>v) (by rw[bW];exact small o) (R4 k) (λv Q r q=>?_) (λp u=>?_)]
 .obtain⟨x,y,rfl⟩:=cH.mp r;exact#[_,zZ,_,zZ,b,_,_,_,zZ,zZ,R4 n,tc (g x y),q]
 .rw[e];exact#[p,_,zZ,.inl #[R3 bY,λt ht=>q t _ ((cn u _).trans (cn ht _)) bY]]
noncomputable def lM(n:Nat):Nat->List bS
 |0=>[[]]
 |k+1=>(lM n k).flatMap λx=>(List.range n).map λr=>x++[r]
theorem cZ:∀{k} {x},x∈lM n k↔x.length=k/\∀r∈x,r<n
 | 0,x=>by
  show x∈[[]]↔_;rw[cJ];constructor
  .rintro rfl;exact#[zZ,λr a=>nomatch a]
  .rintro⟨h,_⟩;exact qo.mp h
 | k+1,x=>by
  show x∈(lM n k).flatMap _↔_;rw[List.mem_flatMap];constructor
  .rintro⟨y,e,f⟩;obtain⟨r,a,rfl⟩:=cH.mp f;obtain⟨b,c⟩:=cZ.mp e;refine#[by simp[b],λz g=>?_]
   rcases cW.mp g with m|m
   .exact c z m
   .rw[cJ.mp m];exact ft.mp a
  .rintro⟨b,c⟩;have d:x≠[]:=λz=>by rw[z]at b;cases b
   refine#[x.dropLast,cZ.mpr #[by rw[List.length_dropLast,b];rfl,λr a=>c r (List.dropLast_subset _ a)],cH.mpr #[x.getLast d,ft.mpr (c _ (List.getLast_mem d)),E3 d]]
theorem IZ:∀k,(lM n k).length=n ^ k
 |0=>rfl
 | k+1=>by
  show((lM n k).flatMap _).length=_;rw[List.length_flatMap];have z:∀l:LN,(l.map λx=>((List.range n).map λr=>x++[r]).length).sum=l.length * n:=by
   intro l
   induction l with
   |nil=>simp
   |cons a l b=>rw[hJ,List.sum_cons,b,bW,lK,mF,Nat.succ_mul,Nat.add_comm]
  rw[z,IZ k,Nat.pow_succ]
theorem KL(h:n<=5):(lM n n).length<=4000:=by
 rw[IZ];have z:∀k:Fin 6,(k:Nat) ^ (k:Nat)<=4000:=by decide
 exact z #[n,()]
theorem Q8(n):List.range n∈lM n n:=cZ.mpr #[lK,λr a=>ft.mp a]
noncomputable def gl(t:bS):Int:= -((t.length:Nat):Int)
noncomputable def mP(a:LN)(t:bS):LN:=if a.contains t then a else a++[t]
noncomputable def uniq(a:LN):LN:=a.foldl mP []
theorem QO(a)(t):uniq (a++[t])=mP (uniq a) t:=by
 unfold uniq;rw[pq];rfl
theorem Lb{t x:bS}:x∈mP a t↔x∈a\/x=t:=by
 unfold mP;by_cases h:a.contains t=true
 .rw[wB h];constructor
  .exact .inl
  .rintro(b|rfl)
   .exact b
   .exact hO.mp h
 .rw[wA h,cW,cJ]
theorem LK(nd:a.Nodup):(mP a t).Nodup:=by
 unfold mP;by_cases h:a.contains t=true
 .rw[wB h];exact nd
 .rw[wA h,Ct];refine#[nd,by simp,λx b y c z=>h (List.contains_iff_mem.mpr ?_)];rw[<-cJ.mp c,<-z];exact b
theorem C6(b):(uniq b).Nodup/\∀x,x∈uniq b↔x∈b:=by
 have go:∀(b a:LN),a.Nodup->(b.foldl mP a).Nodup/\∀x,x∈b.foldl mP a↔x∈a\/x∈b:=by
  intro b
  induction b with
  |nil=>intro a nd;exact#[nd,λx=>by simp]
  |cons t b e=>
   intro a nd;obtain⟨c,d⟩:=e (mP a t) (LK nd);refine#[c,λx=>?_];rw[List.foldl_cons,d x,Lb,cP,or_assoc]
 obtain⟨c,d⟩:=go b [] AN;exact#[c,λx=>by rw[show uniq b=b.foldl mP []from rfl,d x];simp]
theorem L'(h:b.map (·.1)=d.map nk):(jq b (nk t) v).map (·.1)=(mP d t).map nk:=by
 have e:(b.any λa=>decide (a.1=nk t))=d.contains t:=by
  rw[mv,zg,hO];constructor
  .rintro⟨a,f,g⟩;have m:a.1∈d.map nk:=by rw[<-h];exact cH.mpr #[a,f,zZ]
   obtain⟨u,i,j⟩:=cH.mp m;have z:=w6 (j.trans (f7 g));rw[<-z];exact i
  .intro ht;have m:nk t∈b.map (·.1):=by rw[h];exact cH.mpr #[t,ht,zZ]
   obtain⟨a,f,g⟩:=cH.mp m;exact#[a,f,dF g]
 unfold jq mP;rw[e];by_cases c:d.contains t=true
 .rw[wB c,wB c,<-h,i0];refine sq λa _=>?_;show(if a.1=nk t then(a.1,v)else a).1=a.1;split<;>rfl
 .rw[wA c,wA c,dH,dH,h];rfl
theorem CQ{g:Type}{lt:g->g->Bool}(i:∀x,lt x x=false)(j:∀x y z,lt x y=true->lt y z=true->lt x z=true):∀{c d:List g},c.Pairwise (λx y=>lt x y=true)->d.Pairwise (λx y=>lt x y=true)->(∀x,x∈c↔x∈d)->c=d
 | [],[],_,_,_=>rfl
 | [],q::d,_,_,h=>wC ((h q).mpr (dy ..)) (by simp)
 |p::c,[],_,_,h=>wC ((h p).mp (dy ..)) (by simp)
 | p::c,q::d,m,n,h=>by
  obtain⟨k,o⟩:=we.mp m;obtain⟨l,s⟩:=we.mp n;have no:∀{x y},lt x y=true->lt y x=true->False:=λ{x y} a b=>by
   have:=j _ _ _ a b;rw[i]at this;cases this
  have t:p=q:=by
   rcases cP.mp ((h p).mp (dy ..))with e|e
   .exact e
   .rcases cP.mp ((h q).mpr (dy ..))with e'|e'
    .exact e'.symm
    .exact(no (l p e) (k q e')).elim
  subst t;have rest:=CQ i j o s λr=>by
   constructor
   .intro f
    rcases cP.mp ((h r).mp (eM _ f))with e|e
    .subst e;have:=k r f;rw[i]at this;cases this
    .exact e
   .intro f
    rcases cP.mp ((h r).mpr (eM _ f))with e|e
    .subst e;have:=l r f;rw[i]at this;cases this
    .exact e
  rw[rest]
inductive fQ(e:List V)(H:Hp)(Q:VK)(c:XK):Prop|mk:∀(l:Ad) (f:As) (a U:LN),e=[.ref l]->H l=some (.lst (f.map .ref))->TupsAt H f a->(∀t∈a,t∈U)->U.length<64->a.length<=4000->(∀D bs d b,Same H b->H D=none->b D=some (.lst (bs.map .ref))->TupsAt b bs d->(∀x,x∈d↔x∈a)->d.Pairwise (λx y=>gh gl x y=true)->Q (.ref D) b)->fQ e H Q c
theorem Kv(F:Fun K "place_of" "place_of" EB f fd)(d:mg "len"=none):FnOk P w K mg base cG 1 f fd [sB] (gM gl):=by
 refine F.ok Pe (λe A b s H j Q E k h=>?_)
 obtain⟨a,t,rfl,g,q⟩:=h;refine#[_,(cy (c8 (kS (cE (bV (J4 Ha (dM gq zZ d f6 (ci (pv 0) ce))) (bV (pv 0) cA zZ) zZ))))),#[_,zZ,a,_,zZ,.inr (R4 g),_,zZ,_,zZ,by show 2<=sizeLine;decide,λi c=>?_]];refine q i _ (cn c _) ?_;rw[bY,bW];rfl
theorem K6(F:Fun K "in_order" "in_order" CC f fd)(M:dC P w K mg base "place_of" 1 [sB] (gM gl))(N:mg "sorted"=none):FnOk P w K mg base cG 5 f fd [tJ] fQ:=by
 refine F.ok rV (λO A r s H vs Q E u h=>?_)
 obtain⟨l,Y,c,U,rfl,z,T,inU,few,B,q⟩:=h;have hu:=u.units;have v:=iT u;refine#[_,(cq (cT (i:=1) rV.nd zZ Z' zb) (cq (hK iX zZ (gY (pv 0)) (fB (i:=2) rV.nd zZ Z') (cy (ra v (pv 1) (pv 2) oK zZ))) (cy (c8 (K7 zZ hu M u.m zZ N zZ (pv 1)))))),?_];intro d C;have G:=cn C (.dT []);have la:=T.len;obtain⟨un,I⟩:=C6 c;refine#[_,zZ,l,zZ,#[_,R3 (G _ _ z)],qr (λi n j=>Same H j/\∃b o,j d=some (.dT b)/\b.map (·.1)=(uniq (c.take i)).map nk/\n=[some (.ref l),some (.ref d),o]) #[G,[],none,bY,zZ,zZ] (λi n j _ p=>R3 (p.1 _ _ z)) (λi x n j e p=>?_) (λn j p=>?_)]
 .obtain⟨g,b,o,y,k,rfl⟩:=p;rw[cz]at e;obtain⟨a,J,rfl⟩:=dW.mp e;have li:=(cf.mp J).1;obtain⟨t,L⟩:∃t,c[i]?=some t:=#[_,b7 ()];have ha:=g _ _ (T.is i a t J L);have lk:b.length<=c.length:=by
   rw[<-bW,k,bW];refine dh (qv (C6 _).1 λx e=>wZ (((C6 _).2 x).mp e)) (cg _)
  refine#[_,zZ,_,zZ,d,_,zZ,DPut.t y (by rw[g7];exact ha) (by rw[db];lia),#[iA g C,_,_,bY,?_,zZ]];rw[L' k,i8,L];show _=(uniq (c.take i++[t])).map nk;rw[QO]
 .obtain⟨g,b,o,y,k,rfl⟩:=p;rw[bW,la,gW]at k;have lu:=zi (qv un λx e=>inU x ((I x).mp e)) few;refine#[_,zZ,d,zZ,d,b,uniq c,zZ,y,k,lu,λD bs us H2 g2 hD eD T2 m pw=>q D bs us H2 (g.trans g2) (g.free hD) eD T2 (λx=>(m.mem_iff).trans (I x)) pw]
def PicsAt(H:Hp)(l:Ad)(d:As)(e:TW):Prop:=H l=some (.lst (d.map .ref))/\d.length=e.length/\∀(j:Nat) (a:Ad) (p:bS×bS),d[j]?=some a->e[j]?=some p->∃b c,c≠l/\H a=some (.tup [.ref b,.ref c])/\H b=some (.tup (p.1.map nv))/\H c=some (.lst (p.2.map nv))
inductive fb(T:Ad)(b:Pos)(e:List V)(H:Hp)(Q:VK)(c:XK):Prop|mk:∀(m:Ad) (d:LN) (n:Nat),e=[.ref m]->Mach H m d n->Tabs H->(∀l g f a,Keeps H a->Tabs a->PicsAt a l g f->Told (b8 d) d.length (List.range n) f->Q (.ref l) a)->fb T b e H Q c
noncomputable def gV(a:bS):List Dt:=(a.map λ(n:Nat)=>(n:Int)).map Dt.int
theorem E7(h:gV a=gV b):a=b:=df.mp (de Dt.tup h)
theorem G6(h:n<=5):List.range n∈dN n:=by
 have z:∀k:Fin 6,eX (List.range k)=List.range k:=by decide+kernel
 exact bZ.mpr #[z #[n,()],λr a=>ft.mp a]
theorem Ov(F:Fun K "pictures" "pictures" Fw f fd)(U:dC P w K mg base "still" 1 [sB] fv)(Y:dC P w K mg base sS 10 [sA,sB] (dw T (#[57,40,57,93]:Pos)))(jD:mg "len"=none)(qC:mg "list"=none):
  FnOk P w K mg base cG 12 f fd [sA] (fb T (#[57,40,57,93]:Pos)):=by
 refine F.ok rY (λaa A g s H vs Q E C h=>?_)
 obtain⟨m,ts,n,rfl,M,hT,q⟩:=h;have t1:=M.some1;have n5:=M.n5;obtain⟨_,r0,b1,b2,b3,b4,b5,b6⟩:=M.at (l:=0) ();refine#[_,(cq (cT (i:=1) rY.nd zZ Z' (dv Y C.m zZ (cE (bV (pv 0) (bV (dv U C.m zZ (ci (dM gq zZ jD f6 (ci (cU d6 (pv 0) cD (λ_ _=>rfl)) ce)) ce)) cA zZ) zZ)))) (cy (c8 (iC (Qb zZ) zZ qC yx (ci (Jc PySem.F.plainAttrs_dict PySem.F.slot_dict_items PySem.F.type_dict_items O9 (pv 1)) ce))))),#[_,zZ,_,zZ,m,_,_,_,zZ,zZ,R4 b1,b3,r0,_,zZ,.inr (R4 b4),?_]]
 rw[bW,b5];refine#[n,zZ,(),λst H1 r t=>#[m,st,ts,n,List.range n,zZ,M.same r,t,G6 n5,hT.same r,λD ws as G k2 T2 W _ TT=>#[_,zZ,.inr (.inr (.inl #[zZ,.inr #[_,W.dict]])),zZ,D,_,zZ,W.dict,λv hv=>?_]]];have u:=cn hv (xZ v D);refine#[v,D,_,zZ,bY,u _ _ W.dict,λl ps y d=>?_];have k3:Same (bT G v (xZ v D)) y:=λb o e=>by
  rw[d.rest b (dj e d.new) λz=>by rw[d.news b z]at e;cases e];exact e
 have I:=u.trans k3;refine q l ps ws y ((r.keeps.trans k2).trans I.keeps) (T2.same I) #[d.lst,by rw[d.len,AK W.len],λj a p t B=>?_] TT;obtain⟨k,x,b,J,L,f3⟩:=d.is j a t;obtain⟨hj,_⟩:=cf.mp B;obtain⟨c,N⟩:∃c,as[j]?=some c:=#[_,b7 (by rw[W.len];exact hj)];rw[Mn B N]at J;cases J;have O:=u _ _ (W.list j c p N B);rw[g7]at L;exact#[b,c,dj O d.new,f3,k3 _ _ L,k3 _ _ O]
theorem HG(h:∀r,r∈a↔r∈b):eX a=eX b:=by
 refine u7 λi _=>?_;rw[mv,hO,hO];exact h i
theorem yJ(M:Mach H m a n){x:bS}(b:x∈dN n)(c:l<a.length):b8 a x l∈dN n:=by
 obtain⟨h,d⟩:=bZ.mp b;refine bZ.mpr #[Hl _,λr e=>?_];obtain⟨y,f,rfl⟩:=cH.mp (A9 e);exact pI M [l] y (d y f) λz g=>by rw[cJ.mp g];exact c
theorem BZ(M:Mach H m a n):∀word (x:bS),x∈dN n->(∀l∈word,l<a.length)->cN (b8 a) x word=eX (qe a x word)
 | [],x,c,_=>by
  show x=eX (x.map λr=>eE a r []);rw[show(λr=>eE a r [])=id from rfl,List.map_id];exact(bZ.mp c).1.symm
 | l::word,x,c,h=>by
  have e:=h l (dy ..);have f:=M.n5;show cN (b8 a) (b8 a x l) word=_;rw[BZ M word _ (yJ M c e) λy b=>h y (eM _ b)];refine HG λr=>?_;unfold qe;rw[cH,cH];constructor
  .rintro⟨y,b,rfl⟩;obtain⟨z,d,rfl⟩:=cH.mp (A9 b);exact#[z,d,zZ]
  .rintro⟨z,d,rfl⟩;have g:=pI M [l] z ((bZ.mp c).2 z d) λy b=>by rw[cJ.mp b];exact e
   exact#[eE a z [l],HN (cH.mpr #[z,d,zZ]) (),zZ]
theorem DM{b:Type}{P:Nat->b->Prop}:∀{n},(∀j,j<n->∃x,P j x)->∃a:List b,a.length=n/\∀j x,a[j]?=some x->P j x
 |0,_=>#[[],zZ,λj x e=>by simp at e]
 | n+1,h=>by
  obtain⟨a,c,d⟩:=DM (n:=n) λj f=>h j ();obtain⟨x,g⟩:=h n ();refine#[a++[x],by simp[c],λj y e=>?_];by_cases f:j<n
  .rw[d7 ()]at e;exact d j y e
  .rw[eC ()]at e;have z:j-a.length=0:=by
    have:=(cf.mp e).1;simp at this;lia
   rw[z]at e;cases e;have i:j=n:=by lia
   subst i;exact g
structure Prs(H:Hp)(l:Ad)(as:As)(bc:List (Ad×Ad))(ws:TW):Prop where
 lst:H l=some (.lst (as.map .ref))
 la:as.length=ws.length
 lb:bc.length=ws.length
 is:∀(j:Nat) (a:Ad) (q:Ad×Ad) (p:bS×bS),as[j]?=some a->bc[j]?=some q->ws[j]?=some p->q.2≠l/\H a=some (.tup [.ref q.1,.ref q.2])/\H q.1=some (.tup (p.1.map nv))/\H q.2=some (.lst (p.2.map nv))
theorem PicsAt.prs(h:PicsAt H l g d):∃m,Prs H l g m d:=by
 obtain⟨o,r,s⟩:=h;obtain⟨m,t,u⟩:=DM (n:=d.length) (P:=λj (q:Ad×Ad)=>∀a p,g[j]?=some a->d[j]?=some p->q.2≠l/\H a=some (.tup [.ref q.1,.ref q.2])/\H q.1=some (.tup (p.1.map nv))/\H q.2=some (.lst (p.2.map nv))) λj v=>by
  obtain⟨a,i⟩:∃a,g[j]?=some a:=#[_,b7 ()];obtain⟨p,k⟩:∃p,d[j]?=some p:=#[_,b7 v];obtain⟨b,c,w,x,y,z⟩:=s j a p i k;refine#[(b,c),λB C e f=>?_];rw[i]at e;rw[k]at f;cases e;cases f;exact#[w,x,y,z]
 exact#[m,o,r,t,λj a q p i A k=>u j q A a p i k]
theorem Prs.at(h:Prs H l as c b)(g:j<b.length):∃a q p,as[j]?=some a/\c[j]?=some q/\b[j]?=some p/\q.2≠l/\H a=some (.tup [.ref q.1,.ref q.2])/\H q.1=some (.tup (p.1.map nv))/\H q.2=some (.lst (p.2.map nv)):=by
 have i:=h.la;have k:=h.lb;obtain⟨a,d⟩:∃a,as[j]?=some a:=#[_,b7 ()];obtain⟨q,e⟩:∃q,c[j]?=some q:=#[_,b7 ()];obtain⟨p,f⟩:∃p,b[j]?=some p:=#[_,b7 g];exact#[a,q,p,d,e,f,h.is j a q p d e f]
def Dx(a:LN)(n:Nat)(x:bS):Prop:=∃word:bS,(∀l∈word,l<a.length)/\cN (b8 a) (List.range n) word=x
structure FamOf(ts:LN)(n:Nat)(us:LN):Prop where
 up:us.Pairwise λx y=>gh gl x y=true
 mem:∀x,x∈us↔(Dx ts n x\/∃r,r<n/\x=[r])
theorem FamOf.uniq(d:FamOf b n a)(e:FamOf b n c):a=c:=CQ (oO gl a).irr (oO gl a).trans d.up e.up λx=>(d.mem x).trans (e.mem x).symm
theorem DJ(T:Told (b8 a) a.length (List.range n) b)(x):x∈b.map (·.1)↔Dx a n x:=by
 constructor
 .intro h;obtain⟨p,c,rfl⟩:=cH.mp h;obtain⟨d,e⟩:=T.run p c;exact#[p.2,d,e]
 .rintro⟨word,f,rfl⟩;obtain⟨u,g,_⟩:=T.least _ word zZ f;exact cH.mpr #[_,g,zZ]
theorem yt(b:n<=5)(h:r<n):[r]∈dN n:=by
 have z:∀k:Fin 5,eX [(k:Nat)]=[(k:Nat)]:=by decide+kernel
 exact bZ.mpr #[z #[r,()],λx a=>by rw[cJ.mp a];exact h]
theorem F4(M:Mach H m a n)(h:Dx a n x):x∈dN n:=by
 obtain⟨word,b,rfl⟩:=h;exact pR (G6 M.n5) (λy c l d=>yJ M c d) word b
theorem DL(n):(dN n).length<=32:=dh (j8 _ _) (by rw[bW,lK];decide)
theorem FamOf.inU(M:Mach H m a n)(h:FamOf a n b){x:bS}(c:x∈b):x∈dN n:=by
 rcases (h.mem x).mp c with z|⟨r,d,rfl⟩
 .exact F4 M z
 .exact yt M.n5 d
theorem FamOf.few(M:Mach H m d n)(h:FamOf d n c):c.length<=32:=by
 refine dh (qv ?_ λx f=>h.inU M f) (DL n);exact h.up.imp λ{a b} z e=>by
  subst e;rw[(oO gl c).irr]at z;cases z
theorem tv(a:n<=5){x:bS}(h:x∈dN n):x.length<=n:=by
 obtain⟨b,c⟩:=bZ.mp h;rw[<-b,Lf a c];exact dh (j8 _ _) (by simp)
theorem qA(T:TupsAt H bs a)(h:H d=some o)(no:∀f,o≠ .tup f):TupsAt (bT H d c) bs a:=#[T.len,λi b u g j=>by
 have z:=T.is i b u g j;rw[bX (io z h λe=>no _ e.symm)];exact z]
theorem v9{u:bS}(h:TupsAt H bs d)(e:H p=some (.tup (u.map nv))):TupsAt H (bs++[p]) (d++[u]):=by
 refine#[by simp[h.len],λi b v c a=>?_];have l:=h.len;by_cases f:i<d.length
 .rw[d7 ()]at c a;exact h.is i b v c a
 .rw[eC ()]at c a;have z:i-d.length=0:=by
   have:=(cf.mp a).1;simp at this;lia
  rw[l,z]at c;rw[z]at a;cases c;cases a;exact e
theorem Ki{d f:LN}(h:TupsAt H bs d)(g:TupsAt H e f):TupsAt H (bs++e) (d++f):=by
 refine#[by simp[h.len,g.len],λi b v a c=>?_];have l:=h.len;by_cases j:i<d.length
 .rw[d7 ()]at a c;exact h.is i b v a c
 .rw[eC ()]at a c;rw[l]at a;exact g.is _ b v a c
theorem JT(f:H l=some (.lst (bs.map .ref)))(T:TupsAt H bs b):Rep K H 2 (.lst (b.map λu=> .tup (gV u))) (.ref l):=by
 refine .lst (R3 f) (by rw[bW,bW,T.len]) λi d v c e=>?_;rw[cz]at c e;obtain⟨p,g,rfl⟩:=dW.mp c;obtain⟨a,h,rfl⟩:=dW.mp e;exact i7 (R4 (T.is i a p h g))
theorem IJ{c d:LN}(h:(Dt.lst (c.map λu=> .tup (gV u)))=Dt.lst (d.map λu=> .tup (gV u))):c=d:=by
 injection h with h
 exact vj (λa b e=>by injection e with e;exact E7 e) h
inductive fA(T:Ad)(b:Pos)(d:List V)(H:Hp)(Q:VK)(c:XK):Prop|mk:∀(m:Ad) (e:LN) (n:Nat),d=[.ref m]->Mach H m e n->Tabs H->(∀D bs f a,Keeps H a->Tabs a->L2.noT H D=none->a D=some (.lst (bs.map .ref))->TupsAt a bs f->FamOf e n f->Q (.ref D) a)->fA T b d H Q c
theorem NP(F:Fun K "family" "family" ww f fd)(rR:dC P w K mg base "pictures" 12 [sA] (fb T (#[57,40,57,93]:Pos)))(rS:dC P w K mg base "in_order" 5 [tJ] fQ)(jD:mg "len"=none)(jB:mg "range"=none):FnOk P w K mg base cG 14 f fd [sA] (fA T (#[57,40,57,93]:Pos)):=by
 refine F.ok uQ (λak A aa s H vs Q E hr h=>?_)
 obtain⟨m,ts,n,rfl,M,hT,q⟩:=h;have t1:=M.some1;have n1:=M.n1;have n5:=M.n5;obtain⟨_,r0,b1,b2,b3,b4,b5,b6⟩:=M.at (l:=0) ();refine#[_,(cq (AU (CompSc.to (N:=[sA,"singles"]) (osc:=cu ww) (vs:=[sX]) {}) zZ zZ uQ.nd (j:=1) zZ zZ (mq zZ jB (ci (dM gq zZ jD f6 (ci (cU d6 (pv 0) cD (λ_ _=>rfl)) ce)) ce)) (λ_ _ _ _=>hZ) (λ_ _ _ _=>(kS (ci (pv 0) ce)))) (cy (c8 (dv rS hr.m zZ (ci (dQ zO (HA (CompSc.to (N:=[sA,"singles"]) (osc:=cu ww) (vs:=[sB,tO]) {}) zZ (gY (dv rR hr.m zZ (ci (pv 0) ce))) (MC (CompSc.to (N:=[sA,"singles"]) (osc:=cu ww) (vs:=[sB,tO]) {}) zZ zZ zZ) (λ_ _ _ _=>hZ) (λ_ _ _ _=>(pv 0))) (pv 1)) ce))))),?_];refine#[_,zZ,m,_,_,_,zZ,zZ,R4 b1,b3,r0,_,zZ,.inr (R4 b4),(n:Int),by rw[bW,b5],(),(),yI (λi d c=>Same H c/\∃a,d=a.map V.ref/\a.length=i/\TupsAt c a ((List.range i).map λr=>[r])) (by rw[iW];exact small ()) #[Same.refl _,[],zZ,zZ,zZ,λi b u e=>by simp at e] (λi d c _ p=>?_) (λi d c hi p=>?_) (λd H1 p O ab=>?_)]
 .obtain⟨_,a,rfl,e,_⟩:=p;rw[bW];lia
 .obtain⟨g,a,rfl,e,U⟩:=p;have e0:V.int (0+(i:Int))=nv i:=by rw[uh]
  refine#[ie,jt #[_,zZ,by show 1<=sizeLine;decide,λp hp=>?_]];have k:=cn hp (.tup [V.int (0+(i:Int))]);refine#[g.trans k,a++[p],by simp,by simp[e],?_];rw[List.range_succ,dH];refine v9 (U.same k) ?_;rw[bY,e0];rfl
 obtain⟨g1,a,rfl,er,U⟩:=p;rw[iW]at U er;have k1:=cn ab (.lst (a.map V.ref));have G:bT H1 O (.lst (a.map V.ref)) O=some (.lst (a.map V.ref)):=bY;have T2:=U.same k1;have g2:=g1.trans k1;generalize bT H1 O (.lst (a.map V.ref))=H2 at k1 G T2 g2|-;refine#[_,zZ,m,ts,n,zZ,M.same g2,hT.same g2,λl as Y H3 k3 T3 ae TT=>?_];obtain⟨bc,B⟩:=ae.prs;have aj:=(M.same g2);have few:Y.length<=32:=by
  rw[<-bW (f:=(·.1)) (as:=Y)];exact dh (qv TT.keys λx hx=>F4 M ((DJ TT x).mp hx)) (DL n)
 refine#[l,zZ,#[_,R3 B.lst],mG (xs:=as.map .ref) (λi d c=>c=H3/\∃bs,d=bs.map V.ref/\bs.length=i/\TupsAt H3 bs ((Y.take i).map (·.1))) (by rw[bW,B.la,db];lia) #[zZ,[],zZ,zZ,zZ,λi b u e=>by simp at e] (λi d c _ p=>?_) (λi v d c hv p=>?_) (λd c p c1 af=>?_)]
 .obtain⟨rfl,bs,rfl,e,_⟩:=p;exact#[R3 B.lst,by rw[bW];lia]
 .obtain⟨rfl,bs,rfl,e,I⟩:=p;rw[cz]at hv;obtain⟨a1,ea,rfl⟩:=dW.mp hv;obtain⟨a',q',p',J,al,ag,f0,f1,f2,f3⟩:=B.at (j:=i) (by have:=(cf.mp ea).1;rw[<-B.la];exact this);rw[ea]at J;cases J;refine#[a1,_,zZ,R4 f1,zZ,_,_,zZ,_,_,zZ,zZ,Ms,jt #[_,zZ,zZ,bs++[q'.1],by simp,by simp[e],?_]];rw[i8,ag,dH];exact v9 I f2
 obtain⟨rfl,bs,rfl,e,I⟩:=p;rw[bW,B.la,gW]at I;have C:=cn af (.lst (bs.map V.ref));have L:=C _ _ (k3 _ _ (nU G));have T5:TupsAt (bT c c1 (.lst (bs.map V.ref))) a ((List.range n).map λr=>[r]):=#[T2.len,λi b u e1 e2=>C _ _ (k3 _ _ (nU (T2.is i b u e1 e2)))];have lb:bs.length=Y.length:=by rw[I.len,bW]
 refine#[_,zZ,c1,O,_,_,zZ,zZ,R3 bY,R3 L,by rw[bW,bW,lb,er,db];lia,λl2 ah=>?_];have k2:=cn ah (.lst (bs.map V.ref++a.map V.ref));have T6:=(Ki (I.same C) T5).same k2;refine#[l2,bs++a,_,dN n,zZ,by rw[bY,dH],T6,λt ht=>?_,zi (DL n) (by decide),by rw[di,bW,bW,lK];lia,λD ds us H5 g5 hD eD T7 mem up=>?_]
 .rcases cW.mp ht with z|z
  .exact F4 M ((DJ TT t).mp z)
  .obtain⟨r,ai,rfl⟩:=cH.mp z;exact yt n5 (ft.mp ai)
 .have kk:=((g2.keeps.trans k3).trans (C.trans k2).keeps).trans g5.keeps;refine q D ds us H5 kk (T3.same ((C.trans k2).trans g5)) ?_ eD T7 #[up,λx=>?_]
  .cases y:L2.noT H D with
   |none=>rfl
   |some o=>
    have z:=(C.trans k2) _ _ ((g2.keeps.trans k3) _ _ y);rw[hD]at z;cases z
  .rw[mem x,cW,DJ TT x];refine or_congr Iff.rfl ?_;rw[cH];constructor
   .rintro⟨r,h1,rfl⟩;exact#[r,ft.mp h1,zZ]
   .rintro⟨r,h1,rfl⟩;exact#[r,ft.mpr h1,zZ]
noncomputable def sub(x y:bS):Bool:=x.all λr=>y.contains r
inductive jp(d:List V)(H:Hp)(Q:VK)(c:XK):Prop|mk:∀(a b:Ad) (x y:bS),d=[.ref a,.ref b]->H a=some (.tup (x.map nv))->H b=some (.tup (y.map nv))->x.length<=5->(∀e,Same H e->Q (.bl (sub x y)) e)->jp d H Q c
noncomputable def im(a:LN)(x:bS):LN:=a.filter λu=>decide (u≠x)&&sub u x
noncomputable def m6(a:LN)(u:bS):Bool:=a.any λv=>decide (v≠u)&&sub u v
noncomputable def jf(a:LN)(x:bS):LN:=(im a x).filter λu=> !m6 (im a x) u
inductive nL(d:List V)(H:Hp)(Q:VK)(b:XK):Prop|mk:∀(a l:Ad) (x:bS) (bs:As) (c:LN),d=[.ref a,.ref l]->H a=some (.tup (x.map nv))->H l=some (.lst (bs.map .ref))->TupsAt H bs c->x.length<=5->c.length<=32->(∀e,Same H e->Q (.bl (m6 c x)) e)->nL d H Q b
inductive iF(T:Ad)(c:Pos)(e:List V)(H:Hp)(Q:VK)(d:XK):Prop|mk:∀(m p:Ad) (f:LN) (n:Nat) (x:bS),e=[.ref m,.ref p]->Mach H m f n->H p=some (.tup (x.map nv))->Tabs H->(∀D bs g a b,Keeps H b->Tabs b->L2.noT H D=none->b D=some (.lst (bs.map .ref))->TupsAt b bs g->FamOf f n a->g=jf a x->Q (.ref D) b)->iF T c e H Q d
theorem Ba{b:LN}{f:bS->Bool}{t:bS}(T:TupsAt H d ((b.take i).filter f))(e:b[i]?=some t)(g:H a=some (.tup (t.map nv))):if f t=true then TupsAt H (d++[a]) ((b.take (i+1)).filter f)else TupsAt H d ((b.take (i+1)).filter f):=by
 have h:(b.take (i+1)).filter f=(b.take i).filter f++(if f t=true then[t]else[]):=by
  rw[i8,e,zp];cases c:f t with
  |true=>simp[c]
  |false=>simp[c]
 rw[h];cases c:f t with
 |true=>exact v9 T g
 |false=>
  rw[wA (by decide),wA (by decide),hA];exact T
theorem Ol(F:Fun K vX vX AX f fd)(g:mg "all"=none):FnOk P w K mg base cG 1 f fd [vE,tG] jp:=by
 refine F.ok O6 (λj A c s H p Q E t h=>?_)
 obtain⟨a,b,x,y,rfl,d,k,u,q⟩:=h;refine#[_,(cy (c8 (dM (Ef zZ) zZ g boot_all (ci (iu (CompSc.to (N:=[vE,tG]) (osc:=cu AX) {}) zZ zZ (wP (pv 0)) (λ_ _ _ _=>hZ) (λ_ _ _ _=>(tu (OpR.k (λK=>Ey K false) KA zZ) (pv 0) (pv 2) (by with_unfolding_all rfl)))) ce)))),#[_,zZ,a,zZ,#[_,R4 d],yO (f:=λv=>match v with|.int i=> .bl (y.contains i.toNat)|v=>v) (by rw[bW];exact small ()) (R4 d) (λv Q m q=>?_) (λl n=>?_)]]
 .obtain⟨r,z,rfl⟩:=cH.mp m;refine#[_,zZ,_,zZ,b,_,zZ,.inr (R4 k),zZ,MJ _,?_]
  rw[yq];exact q
 .have e:(x.map nv).map (λv=>match v with|.int i=>V.bl (y.contains i.toNat)|v=>v)=(x.map λr=>y.contains r).map V.bl:=by
   rw[i0,i0];rfl
  rw[e];refine#[l,_,zZ,R3 bY,?_];have o:(x.map λr=>y.contains r).all id=sub x y:=by
   rw[BA];rfl
  rw[o];exact q _ (cn n _)
theorem QV(F:Fun K wK wK z9 f fd)(L:dC P w K mg base vX 1 [vE,tG] jp)(M:mg "any"=none):FnOk P w K mg base cG 3 f fd [vV,tJ] nL:=by
 refine F.ok NJ (λO A n s H vs Q E r h=>?_)
 obtain⟨a,l,x,bs,j,rfl,U,t,T,Y,few,q⟩:=h;have hu:=r.units;have lb:=T.len;refine#[_,(cy (c8 (dM (JM zZ) zZ M boot_any (ci (iu (CompSc.to (N:=[vV,tJ]) (osc:=cu z9) {}) zZ zZ (gY (pv 1)) (λ_ _ _ _=>hZ) (λ_ _ _ _=>(v4 (tu (OpR.k (λK=>lC K true) (zX hu) zZ) (pv 0) (pv 1) (fS _)) (zI (dv L r.m zZ (cE (bV (pv 1) (bV (pv 0) cA zZ) zZ))))))) ce)))),#[_,zZ,l,zZ,#[_,R3 t],mG (xs:=bs.map .ref) (λi k m=>Same H m/\k=((j.take i).map λv=>decide (v≠x)&&sub x v).map V.bl) (by rw[bW,db];lia) #[Same.refl _,zZ] (λi k m hi p=>?_) (λi v k m y p=>?_) (λk m p c1 o=>?_)]]
 .obtain⟨g,rfl⟩:=p;exact#[R3 (g _ _ t),by simp;lia]
 .obtain⟨g,rfl⟩:=p;rw[cz]at y;obtain⟨b,B,rfl⟩:=dW.mp y;have li:=(cf.mp B).1;obtain⟨u,C⟩:∃u,j[i]?=some u:=#[_,b7 ()];have D:=g _ _ (T.is i b u B C);have G:=g _ _ U;have I:((j.take (i+1)).map λv=>decide (v≠x)&&sub x v).map V.bl=((j.take i).map λv=>decide (v≠x)&&sub x v).map V.bl++[V.bl (decide (u≠x)&&sub x u)]:=by
   rw[i8,C,dH,dH];rfl
  refine#[ie,jt #[_,zZ,_,zZ,b,a,0,_,_,zZ,zZ,i7 (R4 D),i7 (R4 G),by decide,λc J=>?_]];by_cases e:u=x
  .have d:=J.mpr (df.mpr e);subst d;refine#[_,zZ,eA #[g,?_]];rw[I,e8 (λz=>z e)];rfl
  .have d:c=false:=by
    cases c with
    |false=>rfl
    |true=>exact wC (df.mp (J.mp zZ)) e
   subst d;refine#[_,zZ,fy #[_,zZ,_,zZ,a,b,x,u,zZ,G,D,Y,λH4 g4=>#[g.trans g4,?_]]];rw[I,dF e,zc]
 .obtain⟨g,rfl⟩:=p;rw[bW,lb,gW];have e2:(j.map λv=>decide (v≠x)&&sub x v).any id=m6 j x:=by
   rw[Bl];rfl
  refine#[c1,_,zZ,R3 bY,?_]
  rw[e2];exact q _ (g.trans (cn o _))
theorem Of(F:Fun K sJ sJ yG f fd)(qQ:dC P w K mg base "family" 14 [sA] (fA T (#[57,40,57,93]:Pos)))(kB:dC P w K mg base vX 1 [vE,tG] jp)(qV:dC P w K mg base wK 3 [vV,tJ] nL):FnOk P w K mg base cG 16 f fd [sA,sB] (iF T (#[57,40,57,93]:Pos)):=by
 refine F.ok uX (λag A ab s H vs Q E hr h=>?_)
 obtain⟨m,p,ts,n,x,rfl,M,hp,hT,q⟩:=h;have hu:=hr.units;have n5:=M.n5;refine#[_,(cq (cT (i:=2) uX.nd zZ Z0 (iu (CompSc.to (N:=[sA,sB,vQ]) (osc:=cu yG) (vs:=[vV]) {}) zZ zZ (gY (dv qQ hr.m zZ (ci (pv 0) ce))) (λ_ _ _ _=>zo (PW.pt (wr (hG (OpR.k (K:=K) (λK=>lC K true) (zX hu) zZ) (pv 0) (pv 2) (fS _)) (wQ (iN (dv kB hr.m zZ (cE (bV (pv 0) (bV (pv 2) cA zZ) zZ)))))))) (λ_ _ _ _=>(pv 0)))) (cy (c8 (iu (CompSc.to (N:=[sA,sB,vQ]) (osc:=cu yG) (vs:=[vV]) {}) zZ zZ (gY (pv 2)) (λ_ _ _ _=>zo (mQ (iN (dv qV hr.m zZ (cE (bV (pv 0) (bV (pv 3) cA zZ) zZ)))))) (λ_ _ _ _=>(pv 0)))))),?_];refine#[_,zZ,m,ts,n,zZ,M,hT,λl bs a H1 k1 T1 nl el Tf ff=>?_];have few:=ff.few M;have lb:=Tf.len;have ae:=k1 _ _ (nU hp);have l5:∀u∈a,u.length<=5:=λu h=>dh (tv n5 (ff.inU M h)) n5;refine#[l,zZ,#[_,R3 el],mG (xs:=bs.map .ref) (λi k r=>Same H1 r/\∃d,k=d.map V.ref/\d.length<=i/\TupsAt r d ((a.take i).filter λu=>decide (u≠x)&&sub u x)) (by rw[bW,db];lia) #[Same.refl _,[],zZ,cg _,zZ,λi b u e=>by simp at e] (λi k r hi p=>?_) (λi v k r L p=>?_) (λk H2 p O af=>?_)]
 .obtain⟨g,d,rfl,e,_⟩:=p;exact#[R3 (g _ _ el),by rw[bW];exact e]
 .obtain⟨g,d,rfl,e,U⟩:=p;rw[cz]at L;obtain⟨b,Y,rfl⟩:=dW.mp L;have li:=(cf.mp Y).1;obtain⟨u,B⟩:∃u,a[i]?=some u:=#[_,b7 ()];have C:=g _ _ (Tf.is i b u Y B);have hx:=g _ _ ae;refine#[ie,_,zZ,_,zZ,b,_,0,_,_,zZ,zZ,i7 (R4 C),i7 (R4 hx),by decide,λc hc=>#[_,zZ,?_]];by_cases ex:u=x
  .have G:=hc.mpr (df.mpr ex);subst G;have z:=Ba U B C;rw[e8 (λz=>z ex),Cp,wA (by decide)]at z;refine eA (eA #[g,d,zZ,(),z])
  .have G:c=false:=by
    cases c with
    |false=>rfl
    |true=>exact wC (df.mp (hc.mp zZ)) ex
   subst G;refine fy #[_,zZ,_,zZ,b,_,u,x,zZ,C,hx,l5 u (cF B),λH4 I=>#[_,zZ,?_]];have z:=Ba (U.same I) B (I _ _ C);rw[dF ex,zc]at z;cases c2:sub u x with
   |true=>
    rw[c2,wB zZ]at z;exact fy #[_,zZ,g.trans I,d++[b],by simp,by simp;exact e,z]
   |false=>
    rw[c2,wA (by decide)]at z;exact eA #[g.trans I,d,zZ,(),z]
 obtain⟨g2,d,rfl,_,U⟩:=p;rw[bW,lb,gW]at U;have Tw:TupsAt H2 d (im a x):=U;have kw:=cn af (.lst (d.map V.ref));have t:bT H2 O (.lst (d.map V.ref)) O=some (.lst (d.map V.ref)):=bY;have J:=Tw.same kw;have g3:=g2.trans kw;generalize bT H2 O (.lst (d.map V.ref))=H3 at kw t J g3|-;have lw:(im a x).length<=32:=dh (j8 _ _) few;have lc:=Tw.len;have aa:∀u∈im a x,u∈a:=λu h=>(dm.mp h).1;refine#[_,zZ,O,zZ,#[_,R3 t],mG (xs:=d.map .ref) (λi k r=>Same H3 r/\∃j,k=j.map V.ref/\j.length<=i/\TupsAt r j (((im a x).take i).filter λu=> !m6 (im a x) u)) (by rw[bW,db];lia) #[Same.refl _,[],zZ,cg _,zZ,λi b u e=>by simp at e] (λi k r hi p=>?_) (λi v k r L p=>?_) (λk H4 p D hD=>?_)]
 .obtain⟨g,j,rfl,e,_⟩:=p;exact#[R3 (g _ _ t),by rw[bW];exact e]
 .obtain⟨g,j,rfl,e,Td⟩:=p;rw[cz]at L;obtain⟨b,Y,rfl⟩:=dW.mp L;have li:=(cf.mp Y).1;obtain⟨u,B⟩:∃u,(im a x)[i]?=some u:=#[_,b7 ()];have C:=g _ _ (J.is i b u Y B);refine#[ie,_,zZ,_,zZ,b,O,u,d,im a x,zZ,C,g _ _ t,J.same g,l5 u (aa u (cF B)),lw,λH5 g5=>#[_,zZ,?_]];have z:=Ba (Td.same g5) B (g5 _ _ C);cases c2:m6 (im a x) u with
  |true=>
   rw[c2,wA (by decide)]at z;exact eA #[g.trans g5,j,zZ,(),z]
  |false=>
   rw[c2,wB (by decide)]at z;exact fy #[_,zZ,g.trans g5,j++[b],by simp,by simp;exact e,z]
 obtain⟨I,j,rfl,_,Td⟩:=p;rw[bW,lc,gW]at Td;have kD:=cn hD (.lst (j.map V.ref));have gg:=g3.trans (I.trans kD);refine q D j _ a _ (k1.trans gg.keeps) (T1.same gg) ?_ bY (Td.same kD) ff rfl;cases y:L2.noT H D with
 |none=>rfl
 |some o=>
  have z:=(g3.trans I) _ _ (k1 _ _ y);rw[hD]at z;cases z
def Rch(ts:LN)(x y:bS):Prop:=∃word:bS,(∀l∈word,l<ts.length)/\cN (b8 ts) x word=y
open Classical in
noncomputable def d8 (a:LN) (x y:bS):Bool:=decide (Rch a x y)
theorem cb:d8 a x y=true↔Rch a x y:=by
 exact @decide_eq_true_iff _ (Classical.propDecidable _)
theorem Rch.refl(ts)(x):Rch ts x x:=#[[],λ_ h=>(nomatch h),zZ]
theorem Rch.trans(a:Rch ts x y)(b:Rch ts y z):Rch ts x z:=by
 obtain⟨u,c,rfl⟩:=a;obtain⟨v,d,rfl⟩:=b;refine#[u++v,λl e=>(cW.mp e).elim (c l) (d l),?_];unfold cN;rw[pq]
theorem Dj(T:Told (b8 a) a.length x b)(y):y∈b.map (·.1)↔Rch a x y:=by
 constructor
 .intro h;obtain⟨p,c,rfl⟩:=cH.mp h;obtain⟨d,e⟩:=T.run p c;exact#[p.2,d,e]
 .rintro⟨word,f,rfl⟩;obtain⟨u,g,_⟩:=T.least _ word zZ f;exact cH.mpr #[_,g,zZ]
abbrev WE:=Ad×TW×As
noncomputable def fX(a:LN)(ys:List WE):List (List cQ×V):=a3g (a.map λx=>(x,[])) (ys.map (·.1))
structure WB(H:Hp)(D:Ad)(ts:LN)(xs:LN)(ys:List WE):Prop where
 len:ys.length=xs.length
 each:∀(i:Nat) (x:bS) (y:WE),xs[i]?=some x->ys[i]?=some y->WordsAt H y.1 y.2.1 y.2.2/\Told (b8 ts) ts.length x y.2.1/\y.1≠D
 nd:xs.Nodup
theorem WB.same(h:WB H D c d ys)(g:Same H H'):WB H' D c d ys:=#[h.len,λi x y e f=>let⟨a,b⟩:=h.each i x y e f;#[a.same g,b],h.nd]
theorem MR(W:WordsAt H D c d)(g:Keeps H b):WordsAt b D c d:=#[W.len,g _ _ (nU W.dict),λj a p e f=>g _ _ (nU (W.list j a p e f))]
theorem WB.keeps(h:WB H D c d ys)(g:Keeps H H'):WB H' D c d ys:=#[h.len,λi x y e f=>let⟨a,b⟩:=h.each i x y e f;#[MR a g,b],h.nd]
theorem yj(h:ys.length=a.length):(fX a ys).map (·.1)=a.map nk:=by
 unfold fX L2.a3g
 induction a generalizing ys with
 |nil=>rfl
 | cons x a b=>
  cases ys with
  |nil=>simp at h
  |cons y ys=>
   have z:=b (by simpa using h);simp only[List.map_cons,List.zipWith_cons_cons];rw[z]
theorem WB.off{e f:LN}(h:WB H D e f ys)(g:H D=some (.dT d)):WB (bT H D o) D e f ys:=by
 refine#[h.len,λi x y k m=>?_,h.nd];obtain⟨a,b,c⟩:=h.each i x y k m;refine#[#[a.len,by rw[bX c];exact a.dict,λj l p n q=>?_],b,c];have z:=a.list j l p n q;rw[bX (nE z g)];exact z
theorem zu(a:LN):((a.map λx=>((x,[]):bS×bS)).map (·.1))=a:=by
 rw[i0];exact List.map_id' a
theorem WB.get{x:bS}(h:WB H D e c ys)(k:Rd H D (.dT (fX c ys)))(l:x∈c)(m:H b=some (.tup (x.map nv))):∃W f j,DGet H D (.ref b) (some (.ref W))/\WordsAt H W f j/\Told (b8 e) e.length x f/\∃i:Nat,c[i]?=some x/\ys[i]?=some (W,f,j):=by
 obtain⟨i,d⟩:=fF.mp l;have n:=(cf.mp d).1;have o:=h.len;obtain⟨y,g⟩:∃y,ys[i]?=some y:=#[_,b7 ()];obtain⟨a,t,_⟩:=h.each i x y d g;have v:gn (fX c ys) (nk x)=some (.ref y.1):=Cu (p:=(x,[])) (by rw[zu];exact h.nd) (by rw[cz,d];rfl) (by rw[cz,g];rfl);exact#[y.1,y.2.1,y.2.2,.inr #[_,_,b,k,zZ,by rw[g7];exact m,v.symm],a,t,i,d,g]
theorem CP{f:As}(a:WordsAt H W d f)(t:Told (b8 b) b.length x d)(g:H c=some (.tup (y.map nv))):∃o,DGet H W (.ref c) o/\o.isSome=d8 b x y:=by
 refine#[_,.inr #[_,nk y,c,.inl a.dict,zZ,by rw[g7];exact g,zZ],?_];by_cases m:y∈d.map (·.1)
 .rw[cb.mpr ((Dj t y).mp m)];obtain⟨p,h,rfl⟩:=cH.mp m;obtain⟨l,e,_⟩:=a.word t.keys h;rw[e];rfl
 .rw[t7 m];cases z:d8 b x y with
  |false=>rfl
  |true=>exact wC ((Dj t y).mpr (cb.mp z)) m
noncomputable def cO (ts a:LN) (x:bS):LN:=a.filter λy=>d8 ts x y&&d8 ts y x
noncomputable def cM (ts a:LN):ig:=(a.filter λx=>(cO ts a x).head? ==some x).map (cO ts a)
noncomputable def big(a:LN):LN:=a.filter λx=>decide (1<x.length)
inductive dL(T:Ad)(e:Pos)(h:List V)(H:Hp)(Q:VK)(f:XK):Prop|mk:∀(m:Ad) (g:LN) (n:Nat),h=[.ref m]->Mach H m g n->Tabs H->(∀D a d c,Keeps H c->Tabs c->L2.noT H D=none->FamOf g n a->c D=some (.dT (fX (big a) d))->WB c D g (big a) d->(∀y∈d,∀b∈y.2.2,L2.noT H b=none)->d.Pairwise (λp q=>∀b∈p.2.2,b∉q.2.2)->Q (.ref D) c)->dL T e h H Q f
inductive iQ(d:List V)(H:Hp)(Q:VK)(c:XK):Prop|mk:∀(D p:Ad) (o:Obj) (e a:LN) (f:List WE) (x:bS),d=[.ref D,.ref p]->H D=some (.frz o (.dT (fX a f)))->WB H D e a f->H p=some (.tup (x.map nv))->x∈a->a.length<=32->(∀l bs b,Same H b->H l=none->b l=some (.lst (bs.map .ref))->TupsAt b bs (cO e a x)->Q (.ref l) b)->iQ d H Q c
theorem Km(F:Fun K vO vO EU f fd)(qQ:dC P w K mg base "family" 14 [sA] (fA T (#[57,40,57,93]:Pos)))(jT:dC P w K mg base sS 10 [sA,sB] (dw T (#[57,40,57,93]:Pos)))(jD:mg "len"=none):FnOk P w K mg base cG 16 f fd [sA] (dL T (#[57,40,57,93]:Pos)):=by
 refine F.ok qK (λau A ah s H vs Q E hr h=>?_)
 obtain⟨m,ts,n,rfl,M,hT,q⟩:=h;have hu:=hr.units;have ai:=iT hr;refine#[_,(cq (cT (i:=1) qK.nd zZ Z' zb) (cq (hK iX zZ (gY (dv qQ hr.m zZ (ci (pv 0) ce))) (fB (i:=2) qK.nd zZ Z') (cy (fG (hG xT (dM gq zZ jD f6 (ci (pv 2) ce)) cD (fS _)) (cy (ra ai (pv 1) (pv 2) (dv jT hr.m zZ (cE (bV (pv 0) (bV (pv 2) cA zZ) zZ))) zZ)) fJ))) (cy (c8 (pv 1))))),?_];intro D hD;have kD:=cn hD (.dT []);refine#[_,zZ,m,ts,n,zZ,M.same kD,hT.same kD,λso fs d H1 k1 T1 av aa Tf ff=>?_];have aj:=k1 _ _ (nU (bY:bT H D (.dT []) D=_));have ak:=kD.keeps.trans k1;have lf:=Tf.len;have few:=ff.few M;have al:d.Nodup:=ff.up.imp λ{a b} z e=>by
  subst e;rw[(oO gl d).irr]at z;cases z
 have ab:=IA hD
 let Pv:Nat->L2.St->Hp->Prop:=λi σ N=>Keeps H N/\Tabs N/\N so=some (.lst (fs.map .ref))/\TupsAt N fs d/\∃k o2,N D=some (.dT (fX (big (d.take i)) k))/\WB N D ts (big (d.take i)) k/\(∀y∈k,∀b∈y.2.2,L2.noT H b=none)/\k.Pairwise (λp q=>∀b∈p.2.2,b∉q.2.2)/\σ=[some (.ref m),some (.ref D),o2]
 refine#[so,zZ,#[_,R3 aa],qr (xs:=fs.map .ref) Pv #[ak,T1,aa,Tf,[],none,aj,#[zZ,λi x y e=>by simp[big]at e,List.nodup_nil],λ_ h=>(nomatch h),.nil,zZ] (λi σ N _ p=>R3 p.2.2.1) (λi v σ H2 hv p=>?_) (λσ H2 p=>?_)]
 .obtain⟨k2,T2,O,C,k,o2,r,B,nw,ap,rfl⟩:=p;rw[cz]at hv;obtain⟨b,eb,rfl⟩:=dW.mp hv;have li:=(cf.mp eb).1;obtain⟨x,ex⟩:∃x,d[i]?=some x:=#[_,b7 ()];have hb:=C.is i b x eb ex;have mx:=cF ex;have G:big (d.take (i+1))=big (d.take i)++(if 1<x.length then[x]else[]):=by
   unfold big;rw[i8,ex,zp];by_cases c:1<x.length
   .rw[wB c];simp[c]
   .rw[wA c];simp[c]
  refine#[_,zZ,b,_,zZ,.inr (R4 hb),_,_,zZ,zZ,_,zZ,lH (λc=>?_) (λc=>?_)]
  .have c1:1<x.length:=by
    have z:=f7 c;rw[bW]at z;lia
   rw[wB c1]at G;refine#[_,zZ,_,zZ,m,b,ts,n,x,zZ,M.keeps k2,hb,ff.inU M mx,T2,λW ws as H3 k3 T3 Wd U TT=>?_];have t:=k3 _ _ (nU r);have am:=k3 _ _ (nU hb);have an:=B.keeps k3;have WD:W≠D:=λz=>by
    subst z;have z2:=U W (dy ..);rw[nU r]at z2;cases z2
   have xn:x∉big (d.take i):=λh=>by
    have h1:=(dm.mp h).1;obtain⟨j,Y⟩:=fF.mp h1;have lj:=(cf.mp Y).1;rw[gk]at lj;rw[A4 ()]at Y;have:=(jj () al).mp (Y.trans ex.symm)
    lia
   have vn:gn (fX (big (d.take i)) k) (nk x)=none:=t7 (by rw[zu];exact xn);have lk:(fX (big (d.take i)) k).length<sizeLine:=by
    rw[<-bW (f:=(·.1)),yj B.len,bW,db];have z1:(big (d.take i)).length<=(d.take i).length:=j8 _ _;rw[gk]at z1;lia
   refine#[_,zZ,_,zZ,D,_,zZ,DPut.t t (by rw[g7];exact am) lk,?_];have ae:=k3 _ _ (nU O);have ao:TupsAt H3 fs d:=#[C.len,λi b u I J=>k3 _ _ (nU (C.is i b u I J))];have ek:jq (fX (big (d.take i)) k) (nk x) (.ref W)=fX (big (d.take (i+1))) (k++[(W,ws,as)]):=by
    rw[yy _ vn,G];unfold fX;rw[dH,dH];exact(Dd (ws:=(big (d.take i)).map λx=>(x,[])) (as:=k.map (·.1)) (p:=(x,[])) (a:=W) (by simp[B.len])).symm
   have wo:=an.off (o:= .dT (fX (big (d.take (i+1))) (k++[(W,ws,as)]))) t;have Wo:WordsAt (bT H3 D (.dT (fX (big (d.take (i+1))) (k++[(W,ws,as)])))) W ws as:=#[Wd.len,by rw[bX WD];exact Wd.dict,λj l p h1 h2=>by
    have z:=Wd.list j l p h1 h2;rw[bX (nE z t)];exact z]
   rw[ek];refine#[λL o g=>?_,?_,?_,?_,k++[(W,ws,as)],_,bY,#[?_,λj x' y' I J=>?_,?_],?_,?_,zZ]
   .rw[bX λz=>?_]
    .exact(k2.trans k3) _ _ g
    .subst z;rw[ab]at g;cases g
   .exact T3.most λL u nd _ g=>by rw[bX (io g t λe=>nd _ e)];exact g
   .rw[bX (nE ae t)];exact ae
   .exact qA ao t λ_ e=>nomatch e
   .rw[G,di,di,B.len];rfl
   .rw[G]at I;have hl:=B.len;by_cases hj:j<k.length
    .rw[d7 ()]at I;rw[d7 hj]at J;exact wo.each j x' y' I J
    .rw[eC ()]at I J;have z:j-k.length=0:=by
      have:=(cf.mp J).1;simp at this;lia
     rw[<-hl,z]at I;rw[z]at J;cases I;cases J;exact#[Wo,TT,WD]
   .rw[G,Ct];refine#[B.nd,by simp,λa ha c hc e=>xn ?_];rw[cJ.mp hc]at e;rw[<-e];exact ha
   .intro y hy L g
    rcases cW.mp hy with h|h
    .exact nw y h L g
    .rw[cJ.mp h]at g;have z:=U L (.tail _ g);cases y2:L2.noT H L with
     |none=>rfl
     |some o=>
      have z3:=k2 _ _ y2;rw[qa z3 (uz y2).2]at z;cases z
   .rw[iS];refine#[ap,pS _ _,λp hp q' hq L g af=>?_];rw[cJ.mp hq]at af;have z:=U L (.tail _ af);obtain⟨j,Y⟩:=fF.mp hp;have lj:=(cf.mp Y).1;have hl:=B.len;obtain⟨x',aq⟩:∃x',(big (d.take i))[j]?=some x':=#[_,b7 ()];obtain⟨a',_⟩:=B.each j x' p aq Y;obtain⟨j2,ag⟩:=fF.mp g;have ar:=(cf.mp ag).1;have z2:=a'.list j2 L _ ag (b7 (by rw[<-a'.len];exact ar));rw[nU z2]at z;cases z
  .have c1: ¬1<x.length:=by
    have z:=Ee (wn.mpr c);rw[bW]at z;lia
   rw[wA c1,hA]at G;refine#[k2,T2,O,C,k,_,?_,?_,nw,ap,zZ]
   .rw[G];exact r
   .rw[G];exact B
 .obtain⟨k2,T2,O,C,k,o2,r,B,nw,ap,rfl⟩:=p;rw[bW,lf,gW]at r B;exact#[_,zZ,q D d k H2 k2 T2 ab ff r B nw ap]
theorem Ro(F:Fun K wL wL Bh f fd):FnOk P w K mg base cG 1 f fd [sP,sB] iQ:=by
 refine F.ok Rh (λaa A G s H vs Q E T h=>?_)
 obtain⟨D,p,o,j,I,ys,x,rfl,k,n,U,hx,few,q⟩:=h;have hu:=T.units;have d:=iT T;refine#[_,(cy (c8 (iu (CompSc.to (N:=[sP,sB]) (osc:=cu Bh) {}) zZ zZ (AA (pv 0)) (λ_ _ _ _=>zo (PW.pt (wr (oY (zC d (pv 0) (mR d (pv 1) (pv 2) (λ_ _=>rfl)))) (wQ (oY (zC d (pv 2) (mR d (pv 1) (pv 0) (λ_ _=>rfl)))))))) (λ_ _ _ _=>(pv 0))))),#[_,zZ,D,_,I,zZ,yj n.len,.inr #[o,k],λo' r fz=>?_]];have e2:o'=o/\r=H:=by
  rcases fz with⟨e,rfl⟩|⟨e,_⟩
  .rw[k]at e;injection e with e
   injection e with e _
   exact#[e.symm,zZ]
  .rw[k]at e;cases e
 obtain⟨rfl,rfl⟩:=e2;have Y:Rd r D (.dT (fX I ys)):= .inr #[_,k];refine IP (yj n.len) (λi g v=>v=r/\∃c,g=c.map V.ref/\c.length<=i/\TupsAt r c ((I.take i).filter λy=>d8 j x y&&d8 j y x)) (by rw[db];lia) #[zZ,[],zZ,cg _,zZ,λi b u e=>by simp at e] (λi g v _ l=>?_) (λi a t g v et J l=>?_) (λg v l B m=>?_)
 .obtain⟨rfl,c,rfl,e,_⟩:=l;exact#[k,by rw[bW];exact e]
 .obtain⟨rfl,c,rfl,e,C⟩:=l;have z:=Ba C et J;obtain⟨W,ws,as,dg,wa,tt,_⟩:=n.get Y hx U;obtain⟨o1,d1,s1⟩:=CP wa tt J;have ht:=cF et;obtain⟨W2,ab,ae,L,M,O,_⟩:=n.get Y ht J;obtain⟨o2,d2,s2⟩:=CP M O U;refine#[ie,_,zZ,_,zZ,_,zZ,D,_,zZ,dg,W,o1,zZ,d1,_,zZ,?_];rw[s1];cases B:d8 j x t with
  |false=>
   rw[B,Cp,wA (by decide)]at z;exact eA (eA #[zZ,c,zZ,(),z])
  | true=>
   rw[B,zc]at z;refine fy #[_,zZ,_,zZ,_,zZ,D,_,zZ,L,W2,o2,zZ,d2,_,zZ,?_];rw[s2];cases c2:d8 j t x with
   |true=>
    rw[c2,wB zZ]at z;exact fy #[_,zZ,zZ,c++[a],by simp,by simp;exact e,z]
   |false=>
    rw[c2,wA (by decide)]at z;exact eA #[zZ,c,zZ,(),z]
 .obtain⟨rfl,c,rfl,_,C⟩:=l;rw[gW]at C;have kc:=cn m (.lst (c.map V.ref));exact q B c _ kc m bY (C.same kc)
structure LsAt(H:Hp)(as:As)(cs:ig):Prop where
 len:as.length=cs.length
 is:∀(i:Nat) (a:Ad) (c:LN),as[i]?=some a->cs[i]?=some c->∃bs:As,H a=some (.lst (bs.map .ref))/\TupsAt H bs c
theorem LsAt.same(h:LsAt H b d)(g:Same H H'):LsAt H' b d:=#[h.len,λi a c e f=>let⟨bs,j,k⟩:=h.is i a c e f;#[bs,g _ _ j,k.same g]]
theorem LsAt.off(h:LsAt H b d)(j:H l=some (.lst g))(no:l∉b):LsAt (bT H l o) b d:=#[h.len,λi a c f k=>by
 obtain⟨bs,m,n⟩:=h.is i a c f k;refine#[bs,?_,qA n j λ_ e=>nomatch e];rw[bX λz=>no (by rw[<-z];exact cF f)];exact m]
theorem LsAt.snoc{f:ig}(h:LsAt H g f)(j:H a=some (.lst (bs.map .ref)))(T:TupsAt H bs c):LsAt H (g++[a]) (f++[c]):=by
 refine#[by simp[h.len],λi b v e d=>?_];have l:=h.len;by_cases k:i<f.length
 .rw[d7 ()]at e d;exact h.is i b v e d
 .rw[eC ()]at e d;have z:i-f.length=0:=by
   have:=(cf.mp d).1;simp at this;lia
  rw[l,z]at e;rw[z]at d;cases e;cases d;exact#[bs,j,T]
theorem CD(b:x∈a):x∈cO ts a x:=dm.mpr #[b,by rw[cb.mpr (Rch.refl ts x)];rfl]
inductive gQ(g:List V)(H:Hp)(Q:VK)(d:XK):Prop|mk:∀(D:Ad) (h b:LN) (e:List WE),g=[.ref D]->H D=some (.dT (fX b e))->WB H D h b e->b.length<=32->(∀l o f c,Same (bT H D (.frz o (.dT (fX b e)))) c->H l=none->c l=some (.lst (f.map .ref))->LsAt c f (cM h b)->(∀a∈f,H a=none)->Q (.ref l) c)->gQ g H Q d
theorem OL(F:Fun K vM vM Dv f fd)(qW:dC P w K mg base wL 1 [sP,sB] iQ):FnOk P w K mg base cG 3 f fd [sP] gQ:=by
 refine F.ok kO (λaj A aa s H vs Q E hr h=>?_)
 obtain⟨D,g,d,v,rfl,hD,wb,few,q⟩:=h;have hu:=hr.units;have ak:=iT hr;refine#[_,(cq (cT (i:=1) kO.nd zZ Z' (gB ce)) (cq (hK iX zZ (AA (pv 0)) (fB (i:=2) kO.nd zZ Z') (cq (cT (i:=3) kO.nd zZ Z' (dv qW hr.m zZ (cE (bV (pv 0) (bV (pv 2) cA zZ) zZ)))) (cy (fG (hG (DR hu) (cU fH (pv 3) cD (λ_ _=>rfl)) (pv 2) (fS _)) (cy (iq (iZ iD lU lL me (pv 1) (ci (pv 3) ce)))) fJ)))) (cy (c8 (pv 1))))),?_];refine#[by show 0<=sizeLine;decide,λj m=>?_];have kf:=cn m (.lst []);have L:=kf _ _ hD;have M:=(dj hD m).symm;refine#[_,zZ,D,_,d,zZ,yj wb.len,.inl L,λo H2 fz=>?_];have e2:H2=bT (bT H j (.lst [])) D (.frz o (.dT (fX d v))):=by
  rcases fz with⟨e,_⟩|⟨_,e⟩
  .rw[L]at e;cases e
  .exact e
 have gz:Same (bT H D (.frz o (.dT (fX d v)))) H2:=λb u I=>by
  rw[e2];by_cases z:b=D
  .subst z;rw[bY]at I|-;exact I
  .rw[bX z]at I|-;exact kf _ _ I
 have wz:WB (bT H D (.frz o (.dT (fX d v)))) D g d v:=wb.off hD;have ab:H2 j=some (.lst []):=by rw[e2,bX M,bY]
 have ae:bT H D (.frz o (.dT (fX d v))) j=none:=by rw[bX M];exact m
 clear e2 fz
 let Pv:Nat->L2.St->Hp->Prop:=λi T U=>Same (bT H D (.frz o (.dT (fX d v)))) U/\∃k o2 o3,U j=some (.lst (k.map .ref))/\j∉k/\(∀a∈k,H a=none)/\k.length<=i/\LsAt U k (((d.take i).filter λx=>(cO g d x).head? ==some x).map (cO g d))/\T=[some (.ref D),some (.ref j),o2,o3]
 refine HL (yj wb.len) Pv #[gz,[],none,none,ab,by simp,(λ_ h=>nomatch h),Nat.le_refl _,#[zZ,λi a c e=>by simp at e],zZ] (λi T U _ p=>p.1 _ _ bY) (λi a x T H3 ex Y p=>?_) (λT H3 p=>?_)
 .obtain⟨B,k,o2,o3,n,C,r,af,N,rfl⟩:=p;have mx:=cF ex;refine#[_,zZ,_,zZ,D,a,o,g,d,v,x,zZ,B _ _ bY,wz.same B,Y,mx,few,λl bs H4 J nl el Tl=>?_];have lb:=Tl.len;have self:=CD (ts:=g) mx;obtain⟨y,rest,ea⟩:∃y rest,cO g d x=y::rest:=by
   cases z:cO g d x with
   |nil=>rw[z]at self;cases self
   |cons y rest=>exact#[y,rest,zZ]
  have b1:0<bs.length:=by
   rw[lb,ea];simp
  obtain⟨b,eb⟩:∃b,bs[0]?=some b:=#[_,b7 b1];have I:=Tl.is 0 b y eb (by rw[ea];rfl);have ag:ja (bs.map V.ref) ((0:Nat):Int)=some (.ref b):=iM (by rw[cz,eb];rfl);have nx:((d.take (i+1)).filter λx=>(cO g d x).head? ==some x).map (cO g d)=((d.take i).filter λx=>(cO g d x).head? ==some x).map (cO g d)++(if y=x then[cO g d x]else[]):=by
   rw[i8,ex,zp,dH];by_cases c:y=x
   .rw[wB c];simp[ea,c]
   .rw[wA c];simp[ea,c]
  refine#[_,zZ,l,_,_,_,zZ,zZ,R3 el,ag,_,zZ,b,a,0,_,_,zZ,zZ,i7 (R4 I),i7 (R4 (J _ _ Y)),by decide,λc hc=>#[_,zZ,?_]];have t:=J _ _ n;have ah:l≠j:=(dj n nl).symm;have ai:H l=none:=by
   cases z:H l with
   |none=>rfl
   | some u=>
    by_cases e:l=D
    .have O:=B _ _ (bY (H:=H) (a:=D) (o:= .frz o (.dT (fX d v))));rw[<-e,nl]at O;cases O
    .have O:=B l u (by rw[bX e];exact z);rw[nl]at O;cases O
  by_cases e:y=x
  .have G:c=true:=hc.mpr (df.mpr e);subst G;rw[wB e]at nx;refine fy #[_,zZ,.inl #[zZ,_,R3 t],_,zZ,j,_,_,zZ,zZ,t,by rw[bW,db];have:=(cf.mp ex).1;lia,?_];have L4:=(N.same J).snoc el Tl;have na:j∉k++[l]:=λz=>(cW.mp z).elim C λz=>ah (cJ.mp z).symm
   refine#[iA (B.trans J) ae,k++[l],_,_,by rw[bY,dH];rfl,na,(λa Y=>(cW.mp Y).elim (r a) λz=>by rw[cJ.mp z];exact ai),by rw[di];simp;lia,?_,zZ];rw[nx];exact L4.off t na
  .have G:c=false:=by
    cases c with
    |false=>rfl
    |true=>exact wC (df.mp (hc.mp zZ)) e
   subst G;rw[wA e,hA]at nx;refine eA #[B.trans J,k,_,_,t,C,r,(),?_,zZ];rw[nx];exact N.same J
 .obtain⟨B,k,o2,o3,n,C,r,af,N,rfl⟩:=p;rw[gW]at N;exact#[_,zZ,q j o k H3 B m n N r]
noncomputable def cS (ts:LN) (cs:ig) (c:LN):Bool:=cs.any λd=>decide (d≠c)&&d8 ts (d.headD []) (c.headD [])
theorem BP(f:H a=some (.lst (bs.map .ref)))(T:TupsAt H bs c):Rep K H (n+2) (.lst (c.map λu=> .tup (gV u))) (.ref a):=by
 refine .lst (R3 f) (by rw[bW,bW,T.len]) λi d v b e=>?_;rw[cz]at b e;obtain⟨p,g,rfl⟩:=dW.mp b;obtain⟨a,h,rfl⟩:=dW.mp e;exact i7 (R4 (T.is i a p h g))
theorem DU(T:TupsAt H bs c)(d:c≠[]):∃b,ja (bs.map V.ref) 0=some (.ref b)/\H b=some (.tup ((c.headD []).map nv))/\c.headD []∈c:=by
 have e:=T.len;obtain⟨y,rest,f⟩:∃y rest,c=y::rest:=by
  cases c with
  |nil=>exact wC zZ d
  |cons y rest=>exact#[y,rest,zZ]
 subst f;obtain⟨b,a⟩:∃b,bs[0]?=some b:=#[_,b7 (by rw[e];simp)];have z:ja (bs.map V.ref) ((0:Nat):Int)=some (.ref b):=iM (by rw[cz,a];rfl);exact#[b,z,T.is 0 b y a zZ,dy ..]
inductive iI(g:List V)(H:Hp)(Q:VK)(e:XK):Prop|mk:∀(D a l:Ad) (h f:LN) (i:List WE) (c:LN) (b:ig) (bs j:As),g=[.ref D,.ref a,.ref l]->Rd H D (.dT (fX f i))->WB H D h f i->H a=some (.lst (bs.map .ref))->TupsAt H bs c->H l=some (.lst (j.map .ref))->LsAt H j b->c≠[]->(∀d∈b,d≠[]/\∀x∈d,x∈f)->b.length<=32->(∀k,Same H k->Q (.bl (cS h b c)) k)->iI g H Q e
theorem OO(F:Fun K "is_led_to" "is_led_to" z8 f fd)(uI:mg "any"=none):FnOk P w K mg base cG 1 f fd [sP,tJ,tM] iI:=by
 refine F.ok KW (λaa A r s H vs Q E M h=>?_)
 obtain⟨D,a,l,j,xs,ys,c,k,bs,as,rfl,rd,wb,O,T,U,L,cne,t,few,q⟩:=h;have hu:=M.units;have m:=iT M;have la:=L.len;obtain⟨b0,u,x,_⟩:=DU T cne;refine#[_,(cy (c8 (dM (JM zZ) zZ uI boot_any (ci (iu (CompSc.to (N:=[sP,tJ,tM]) (osc:=cu z8) {}) zZ zZ (gY (pv 2)) (λ_ _ _ _=>hZ) (λ_ _ _ _=>(v4 (tu (OpR.k (λK=>lC K true) (zX hu) zZ) (pv 0) (pv 2) (fS _)) (zI (MZ (zC m (cU (IxR.k nI fH zZ) (pv 2) cD (λ_ _=>rfl)) (mR m (pv 1) (cU (IxR.k nI fH zZ) (pv 0) cD (λ_ _=>rfl)) (λ_ _=>rfl)))))))) ce)))),?_];refine#[_,zZ,l,zZ,#[_,R3 U],mG (xs:=as.map .ref) (λi b n=>n=H/\b=((k.take i).map λd=>decide (d≠c)&&d8 j (d.headD []) (c.headD [])).map V.bl) (by rw[bW,db];lia) #[zZ,zZ] (λi b n hi p=>?_) (λi v b n Y p=>?_) (λb n p c1 y=>?_)]
 .obtain⟨rfl,rfl⟩:=p;exact#[R3 U,by simp;lia]
 .obtain⟨rfl,rfl⟩:=p;rw[cz]at Y;obtain⟨e,ee,rfl⟩:=dW.mp Y;have li:=(cf.mp ee).1;obtain⟨d,B⟩:∃d,k[i]?=some d:=#[_,b7 ()];obtain⟨ds,he,Td⟩:=L.is i e d ee B;obtain⟨C,dx⟩:=t d (cF B);obtain⟨b1,G,I,m1⟩:=DU Td C;have nx:((k.take (i+1)).map λd=>decide (d≠c)&&d8 j (d.headD []) (c.headD [])).map V.bl=((k.take i).map λd=>decide (d≠c)&&d8 j (d.headD []) (c.headD [])).map V.bl++[V.bl (decide (d≠c)&&d8 j (d.headD []) (c.headD []))]:=by
   rw[i8,B,dH,dH];rfl
  refine#[ie,jt ?_];refine#[_,zZ,_,zZ,e,a,1,_,_,zZ,zZ,BP he Td,BP O T,by decide,λJ hc=>?_];by_cases o:d=c
  .have g:=hc.mpr (by rw[o]);subst g;refine#[_,zZ,eA #[zZ,?_]];rw[nx,e8 (λz=>z o)];rfl
  .have g:J=false:=by
    cases J with
    |false=>rfl
    |true=>exact wC (IJ (hc.mp zZ)) o
   subst g;obtain⟨W,ws,wa,dg,wt,tt,_⟩:=wb.get rd (dx _ m1) I;obtain⟨o1,d1,s1⟩:=CP wt tt x;refine#[_,zZ,fy #[_,zZ,a,_,_,_,zZ,zZ,R3 O,u,_,zZ,_,zZ,e,_,_,_,zZ,zZ,R3 he,G,D,_,zZ,dg,W,o1,zZ,d1,zZ,?_]];rw[nx,dF o,zc,s1]
 .obtain⟨rfl,rfl⟩:=p;rw[bW,la,gW];have e2:(k.map λd=>decide (d≠c)&&d8 j (d.headD []) (c.headD [])).any id=cS j k c:=by
   unfold cS;rw[Bl];rfl
  refine#[c1,_,zZ,R3 bY,?_]
  try dsimp only
  rw[e2];exact q _ (cn y _)
inductive Ord (ts:LN):ig->List LN->Prop
 |nil:Ord ts [] []
 |cons {cs told:ig} {s:LN} (h:(cs.filter λc=> !cS ts cs c).head?=some s) (r:Ord ts (cs.filter λc=>decide (c≠s)) told):Ord ts cs (s::told)
def wh(a:LN)(b:ig):Prop:=∀c∈b,∀d∈b,d8 a (c.headD []) (d.headD [])=true->d8 a (d.headD []) (c.headD [])=true->c=d
theorem Im{a:Type}{xs:List a}{p q:a->Bool}(h:∀z∈xs,p z=true->q z=true)(e:∃z∈xs,q z=true/\p z=false):xs.countP p<xs.countP q:=by
 induction xs with
 |nil=>
  obtain⟨z,hz,_⟩:=e;cases hz
 | cons x xs d=>
  rw[BX,BX];have mono:=List.countP_mono_left λz hz f=>h z (.tail _ hz) f;obtain⟨z,hz,b,c⟩:=e
  rcases cP.mp hz with rfl|hz
  .rw[b,c];simp;lia
  .have:=d (λz hz=>h z (.tail _ hz)) #[z,hz,b,c];have g:=h x (dy ..);cases i:p x with
   |true=>
    rw[g i];simp;lia
   |false=>
    simp;split<;>lia
theorem CN(un:wh ts cs):∀k (s:LN),s∈cs->cs.countP (λt=>d8 ts (t.headD []) (s.headD []))<=k->∃s∈cs,cS ts cs s=false
 |0,s,a,f=>by
  have z:0<cs.countP (λt=>d8 ts (t.headD []) (s.headD [])):=List.countP_pos_iff.mpr #[s,a,cb.mpr (Rch.refl ts _)];lia
 | k+1,s,a,f=>by
  cases c:cS ts cs s with
  |false=>exact#[s,a,c]
  | true=>
   obtain⟨d,b,e⟩:=zg.mp c;rw[mK,xY]at e;obtain⟨g,r⟩:=e;have lt:=Im (q:=λt=>d8 ts (t.headD []) (s.headD [])) (λz _ h=>cb.mpr ((cb.mp h).trans (cb.mp r))) #[s,a,cb.mpr (Rch.refl ts _),by
    cases z:d8 ts (s.headD []) (d.headD [])with
    |false=>rfl
    |true=>exact wC (un d b s a r z) g]
   exact CN un k d b ()
theorem IU{d as:As}{b:ig}{f:LN->Bool}{c:LN}(L:LsAt H d ((b.take i).filter f))(g:b[i]?=some c)(h:H a=some (.lst (bs.map .ref)))(T:TupsAt H bs c):if f c=true then LsAt H (d++[a]) ((b.take (i+1)).filter f)else LsAt H d ((b.take (i+1)).filter f):=by
 have e:(b.take (i+1)).filter f=(b.take i).filter f++(if f c=true then[c]else[]):=by
  rw[i8,g,zp];cases z:f c with
  |true=>simp[z]
  |false=>simp[z]
 by_cases z:f c=true
 .rw[wB z,e,wB z];exact L.snoc h T
 .rw[wA z,e,wA z,hA];exact L
inductive e9(j:List V)(H:Hp)(Q:VK)(f:XK):Prop|mk:∀(D l:Ad) (g h:LN) (k:List WE) (c:ig) (i:As),j=[.ref D,.ref l]->Rd H D (.dT (fX h k))->WB H D g h k->H l=some (.lst (i.map .ref))->LsAt H i c->(∀d∈c,d≠[]/\∀x∈d,x∈h)->wh g c->c.length<=32->(∀l2 b told e,Same H e->H l2=none->e l2=some (.lst (b.map .ref))->LsAt e b told->Ord g c told->told.length<=32->(∀d∈told,d∈c)->(∀a∈b,a∈i)->Q (.ref l2) e)->e9 j H Q f
theorem F'(h:Rd H a u)(g:Same H b):Rd b a u:=h.elim (λe=> .inl (g _ _ e)) λ⟨o,e⟩=> .inr #[o,g _ _ e]
theorem K9(F:Fun K vJ vJ x9 f fd)(rD:dC P w K mg base "is_led_to" 1 [sP,tJ,tM] iI):FnOk P w K mg base cG 3 f fd [sP,tM] e9:=by
 refine F.ok kH (λaT A aJ s H vs Q E hr h=>?_)
 obtain⟨D,l0,M,xs,ys,aa,ab,rfl,rd,wb,av,L0,aK,un,few,q⟩:=h;have hu:=hr.units;have aU:=iT hr;refine#[_,(cq (cT (i:=2) kH.nd zZ Z' (gB ce)) (cq (Aw iX (Ft (pv 1) (λ_=>rfl)) (cq (cT (i:=3) kH.nd zZ Z0 (iu (CompSc.to (N:=[sP,tM,"told","free"]) (osc:=cu x9) (vs:=[tJ]) {}) zZ zZ (gY (pv 1)) (λ_ _ _ _=>zo (mQ (iN (dv rD hr.m zZ (cE (bV (pv 1) (bV (pv 0) (bV (pv 2) cA zZ) zZ) zZ)))))) (λ_ _ _ _=>(pv 0)))) (cq (iq (iZ iD lU lL me (pv 2) (ci (cU fH (pv 3) cD (λ_ _=>rfl)) ce))) (cy (cT (i:=1) kH.nd zZ Z0 (iu (CompSc.to (N:=[sP,tM,"told","free"]) (osc:=cu x9) (vs:=[tJ]) {}) zZ zZ (gY (pv 1)) (λ_ _ _ _=>zo (hG (OpR.k (K:=K) (λK=>lC K true) (zX hu) zZ) (pv 0) (cU (IxR.k (K:=K) nI fH zZ) (pv 4) cD (λ_ _=>rfl)) (fS _))) (λ_ _ _ _=>(pv 0)))))))) (cy (c8 (pv 2))))),?_];refine#[by show 0<=sizeLine;decide,λt O=>?_];have kf:=cn O (.lst []);have aw:t∉ab:=λz=>by
  obtain⟨j,ej⟩:=fF.mp z;have lj:=(cf.mp ej).1;obtain⟨bs,e,_⟩:=L0.is j t _ ej (b7 (by rw[<-L0.len];exact lj));rw[O]at e;cases e
 let Wv:Nat->L2.St->Hp->Prop:=λm σ C=>Same H C/\∃l B n k told o3,C l=some (.lst (B.map .ref))/\LsAt C B n/\l≠t/\t∉B/\(∀c∈n,c∈aa)/\C t=some (.lst (k.map .ref))/\LsAt C k told/\t∉k/\(∀c∈told,c∈aa)/\told.length+n.length<=32/\(∀a∈B,a∈ab)/\(∀a∈k,a∈ab)/\(∀rest,Ord M n rest->Ord M aa (told++rest))/\m=n.length/\σ=[some (.ref D),some (.ref l),some (.ref t),o3]
 refine#[Wv,#[_,kf,l0,ab,aa,[],[],none,kf _ _ av,L0.same kf,dj av O,aw,λc h=>h,bY,#[zZ,λi a c e=>by simp at e],by simp,λc h=>(nomatch h),by simpa using few,(λ_ h=>h),(λ_ h=>nomatch h),λrest h=>h,zZ,zZ],λm σ H1 p=>?_];obtain⟨g1,l,B,n,k,told,o3,el,L,aL,ak,G,al,am,aM,ag,aV,ia,ax,ah,hm,rfl⟩:=p;have la:=L.len;have aW:=am.len;refine#[_,zZ,!(B.map V.ref).isEmpty,.inl #[_,R3 el,zZ],?_];by_cases an:n=[]
 .subst an;have e:=qo.mp la;subst e;rw[wA (by simp)];have od:=ah [] .nil;rw[hA]at od;exact#[_,zZ,q t k told H1 g1 O al am od () ag ax]
 have ne:B≠[]:=λz=>an (qo.mp (by rw[<-la,z];rfl));have c1:(!(B.map V.ref).isEmpty)=true:=by
  cases B with
  |nil=>exact wC zZ ne
  |cons=>rfl
 rw[c1];refine fy ?_;refine#[λay C=>∃m',m'<m/\Wv m' ay C,λay C h=>h,?_];have ai:∀d∈n,d≠[]/\∀x∈d,x∈xs:=λd hd=>aK d (G d hd);have aN:wh M n:=λc hc d hd=>un c (G c hc) d (G d hd);have aO:=wb.same g1;have aP:=F' rd g1;refine#[_,zZ,l,zZ,#[_,R3 el],mG (xs:=B.map .ref) (λi u C=>Same H1 C/\∃r,u=r.map V.ref/\r.length<=i/\(∀e∈r,e∈B)/\LsAt C r ((n.take i).filter λc=> !cS M n c)) (by rw[bW,db];lia) #[Same.refl _,[],zZ,cg _,λ_ h=>(nomatch h),#[zZ,λi a c e=>by simp at e]] (λi u C hi p=>?_) (λi v u C hv p=>?_) (λu H2 p fr ao=>?_)]
 .obtain⟨g,r,rfl,e,_⟩:=p;exact#[R3 (g _ _ el),by rw[bW];exact e]
 .obtain⟨g,r,rfl,e,sb,Le⟩:=p;rw[cz]at hv;obtain⟨a,ea,rfl⟩:=dW.mp hv;have li:=(cf.mp ea).1;obtain⟨c,ec⟩:∃c,n[i]?=some c:=#[_,b7 ()];obtain⟨bs,ha,Ta⟩:=(L.same g).is i a c ea ec;have mc:=cF ec;refine#[ie,_,zZ,_,zZ,_,zZ,D,a,l,M,xs,ys,c,n,bs,B,zZ,F' aP g,aO.same g,ha,Ta,g _ _ el,L.same g,(ai c mc).1,ai,(),λH4 g4=>#[_,zZ,?_]];have z:=IU (as:=B) (f:=λc=> !cS M n c) (Le.same g4) ec (g4 _ _ ha) (Ta.same g4);cases c2:cS M n c with
  |false=>
   rw[c2,wB (show(!false)=true from rfl)]at z;refine fy #[_,zZ,g.trans g4,r++[a],by simp,by simp;exact e,λe' he=>?_,z];exact(cW.mp he).elim (sb e') λh=>by rw[cJ.mp h];exact cF ea
  |true=>
   rw[c2,wA (by decide)]at z;exact eA #[g.trans g4,r,zZ,(),sb,z]
 obtain⟨g2,r,rfl,_,sb,Le⟩:=p;rw[bW,la,gW]at Le;have k3:=cn ao (.lst (r.map V.ref));have ap:bT H2 fr (.lst (r.map V.ref)) fr=some (.lst (r.map V.ref)):=bY;have az:fr≠t:=(dj (g2 _ _ al) ao).symm;have aX:fr≠l:=(dj (g2 _ _ el) ao).symm;have J:=g2.trans k3;have aq:=Le.same k3;generalize bT H2 fr (.lst (r.map V.ref))=H3 at k3 ap J aq|-;obtain⟨s0,aQ,aR⟩:∃s∈n,cS M n s=false:=by
  cases n with
  |nil=>exact wC zZ an
  |cons c n=>exact CN aN _ c (dy ..) (cg _)
 have mf:s0∈n.filter λc=> !cS M n c:=dm.mpr #[aQ,by rw[aR];rfl];obtain⟨s,hs⟩:∃s,(n.filter λc=> !cS M n c).head?=some s:=by
  cases z:n.filter λc=> !cS M n c with
  |nil=>rw[z]at mf;cases mf
  |cons y ys=>exact#[y,zZ]
 have ms:s∈n:=(dm.mp (List.mem_of_mem_head? hs)).1;have aA:(n.filter λc=> !cS M n c)[0]?=some s:=by rw[<-List.head?_eq_getElem?];exact hs
 have le:=aq.len;obtain⟨a,ea⟩:∃a,r[0]?=some a:=#[_,b7 (by rw[le];exact(cf.mp aA).1)];have aB:ja (r.map V.ref) ((0:Nat):Int)=some (.ref a):=iM (by rw[cz,ea];rfl);obtain⟨bs,ha,Ta⟩:=aq.is 0 a s ea aA;have aC:=sb a (cF ea);have aD:a≠t:=λz=>ak (z▸aC);have I:=J _ _ al;refine#[_,zZ,.inl #[zZ,_,R3 I],_,zZ,fr,_,_,_,zZ,zZ,R3 ap,aB,t,_,_,zZ,zZ,I,by rw[bW,db];lia,?_];have g4:Same H (bT H3 t (.lst (k.map V.ref++[.ref a]))):=iA (g1.trans J) O;have aE:t∉k++[a]:=λz=>(cW.mp z).elim aM λz=>aD (cJ.mp z).symm;have L4:=((am.same J).snoc ha Ta).off (o:= .lst (k.map V.ref++[.ref a])) I aE;have aF:=(L.same J).off (o:= .lst (k.map V.ref++[.ref a])) I ak;have T:bT H3 t (.lst (k.map V.ref++[.ref a])) t=some (.lst ((k++[a]).map V.ref)):=by rw[bY,dH];rfl
 have ar:bT H3 t (.lst (k.map V.ref++[.ref a])) l=some (.lst (B.map V.ref)):=by
  rw[bX aL];exact J _ _ el
 have aj:bT H3 t (.lst (k.map V.ref++[.ref a])) fr=some (.lst (r.map V.ref)):=by
  rw[bX az];exact ap
 have aG:bT H3 t (.lst (k.map V.ref++[.ref a])) a=some (.lst (bs.map V.ref)):=by
  rw[bX aD];exact ha
 have aH:TupsAt (bT H3 t (.lst (k.map V.ref++[.ref a]))) bs s:=qA Ta I λ_ e=>nomatch e;generalize bT H3 t (.lst (k.map V.ref++[.ref a]))=H4 at g4 L4 aF T ar aj aG aH|-;refine#[_,zZ,l,zZ,#[_,R3 ar],mG (xs:=B.map .ref) (λi u C=>C=H4/\∃r,u=r.map V.ref/\r.length<=i/\(∀e∈r,e∈B)/\LsAt H4 r ((n.take i).filter λc=>decide (c≠s))) (by rw[bW,db];lia) #[zZ,[],zZ,cg _,λ_ h=>(nomatch h),#[zZ,λi a c e=>by simp at e]] (λi u C hi p=>?_) (λi v u C hv p=>?_) (λu H5 p wl aI=>?_)]
 .obtain⟨rfl,r,rfl,e,_⟩:=p;exact#[R3 ar,by rw[bW];exact e]
 .obtain⟨rfl,U,rfl,e,Y,ae⟩:=p;rw[cz]at hv;obtain⟨b,eb,rfl⟩:=dW.mp hv;have li:=(cf.mp eb).1;obtain⟨c,ec⟩:∃c,n[i]?=some c:=#[_,b7 ()];obtain⟨ds,hb,Tb⟩:=aF.is i b c eb ec;have z:=IU (as:=B) (f:=λc=>decide (c≠s)) ae ec hb Tb;refine#[ie,_,zZ,_,zZ,fr,_,_,_,zZ,zZ,R3 aj,aB,b,a,1,_,_,zZ,zZ,BP hb Tb,BP aG aH,by decide,λcc hc=>#[_,zZ,?_]];by_cases af:c=s
  .have au:cc=true:=hc.mpr (by rw[af]);subst au;rw[e8 (λz=>z af),wA (by decide)]at z;exact eA #[zZ,U,zZ,(),Y,z]
  .have au:cc=false:=by
    cases cc with
    |false=>rfl
    |true=>exact wC (IJ (hc.mp zZ)) af
   subst au;rw[dF af,wB zZ]at z;refine fy #[_,zZ,zZ,U++[b],by simp,by simp;exact e,λe' he=>?_,z];exact(cW.mp he).elim (Y e') λh=>by rw[cJ.mp h];exact cF eb
 obtain⟨rfl,U,rfl,_,Y,ae⟩:=p;rw[bW,la,gW]at ae;have k5:=cn aI (.lst (U.map V.ref));have less:(n.filter λc=>decide (c≠s)).length<n.length:=by
  rw[<-Fk];have z:=Im (xs:=n) (p:=λc=>decide (c≠s)) (q:=λ_=>true) (λ_ _ _=>rfl) #[s,ms,zZ,e8 λz=>z zZ];rw[List.countP_true]at z;exact z
 refine#[(n.filter λc=>decide (c≠s)).length,(),g4.trans k5,wl,U,n.filter λc=>decide (c≠s),k++[a],told++[s],_,bY,ae.same k5,(dj T aI).symm,λz=>ak (Y _ z),λc hc=>G c (dm.mp hc).1,k5 _ _ T,L4.same k5,aE,λc hc=>(cW.mp hc).elim (ag c) λh=>by rw[cJ.mp h];exact G s ms,by rw[di];simp only[List.length_singleton];lia,(λb hb=>ia b (Y b hb)),(λb hb=>(List.mem_append.mp hb).elim (ax b) λz=>by rw[List.mem_singleton.mp z];exact ia a aC),λrest aS=>?_,zZ,zZ];rw[fu];exact ah _ (.cons hs aS)
theorem MW(h:Rd H a u)(no:∀c,u≠ .tbl c)(g:Keeps H b):Rd b a u:=h.elim (λe=> .inl (g _ _ (qa e no))) λ⟨o,e⟩=> .inr #[o,g _ _ (nU e)]
theorem oB(T:TupsAt H bs c)(g:Keeps H a):TupsAt a bs c:=#[T.len,λi b u d e=>g _ _ (nU (T.is i b u d e))]
theorem LsAt.keeps(h:LsAt H b d)(g:Keeps H H'):LsAt H' b d:=#[h.len,λi a c e f=>let⟨bs,j,k⟩:=h.is i a c e f;#[bs,g _ _ (nU j),oB k g]]
theorem WB.off2(h:WB H D d e ys)(n:H l=some (.lst m))(no:∀y∈ys,l∉y.2.2):WB (bT H l o) D d e ys:=by
 refine#[h.len,λi x y q f=>?_,h.nd];obtain⟨a,b,c⟩:=h.each i x y q f;refine#[#[a.len,by rw[bX (nE a.dict n)];exact a.dict,λj g p k r=>?_],b,c];rw[bX λz=>no y (cF f) (by rw[<-z];exact cF k)];exact a.list j g p k r
theorem gX{c:LN}(h:c∈cM ts b):c≠[]/\c=cO ts b (c.headD [])/\c.headD []∈b/\∀x∈c,x∈b/\Rch ts (c.headD []) x/\Rch ts x (c.headD []):=by
 obtain⟨x,g,rfl⟩:=cH.mp h;obtain⟨f,i⟩:=dm.mp g;have e:(cO ts b x).headD []=x:=by
  have z:=eq_of_beq i;cases y:cO ts b x with
  |nil=>rw[y]at z;cases z
  |cons a l=>
   rw[y]at z;injection z with z
 refine#[λz=>?_,by rw[e],by rw[e];exact f,λy j=>?_]
 .have s:=CD (ts:=ts) f;rw[z]at s;cases s
 .obtain⟨k,d⟩:=dm.mp j;rw[mK]at d;rw[e];exact#[k,cb.mp d.1,cb.mp d.2]
theorem JQ(e i):wh e (cM e i):=λc j d k f g=>by
 obtain⟨_,l,_⟩:=gX j;obtain⟨_,m,_⟩:=gX k;rw[l,m];refine u7 λz _=>?_;have go:∀{x y},d8 e x y=true->d8 e y x=true->(d8 e x z&&d8 e z x)=true->(d8 e y z&&d8 e z y)=true:=λ{x y} a b h=>by
  rw[mK]at h|-;exact#[cb.mpr ((cb.mp b).trans (cb.mp h.1)),cb.mpr ((cb.mp h.2).trans (cb.mp a))]
 rw[mv];exact#[go f g,go g f]
def LevAt(H:Hp)(l:Ad)(f e:LN)(h:LN)(j:List WE)(a:Ad)(c:LN):Prop:=∃(s t v:Ad) (bs g d:As) (i:Nat) (y:WE),H a=some (.tup [.ref s,.ref t,.ref v])/\s≠l/\t≠l/\v≠l/\l∉d/\H s=some (.lst (bs.map .ref))/\TupsAt H bs c/\H t=some (.lst (g.map .ref))/\TupsAt H g (jf e (c.headD []))/\H v=some (.lst (d.map .ref))/\d.length=c.length/\h[i]?=some (c.headD [])/\j[i]?=some y/\Told (b8 f) f.length (c.headD []) y.2.1/\
 (∀b∈d,b∈y.2.2)/\∀(k:Nat) (x:bS) (b:Ad),c[k]?=some x->d[k]?=some b->∃word,(x,word)∈y.2.1/\H b=some (.lst (word.map nv))
theorem LevAt.keeps(h:LevAt H l q d r ys a c)(g:Keeps H H'):LevAt H' l q d r ys a c:=by
 obtain⟨s,t,v,bs,u,w,i,y,z,A,B,C,D,E,G,I,J,e,f,j,m,n,o,p⟩:=h;refine#[s,t,v,bs,u,w,i,y,g _ _ (nU z),A,B,C,D,g _ _ (nU E),oB G g,g _ _ (nU I),oB J g,g _ _ (nU e),f,j,m,n,o,λk x b L M=>?_];obtain⟨word,N,O⟩:=p k x b L M;exact#[word,N,g _ _ (nU O)]
theorem LevAt.off{u d w:LN}(h:LevAt H l u d w A a c)(f:H l=some (.lst J)):LevAt (bT H l o) l u d w A a c:=by
 obtain⟨s,t,v,bs,L,M,i,y,B,C,D,E,G,N,O,Q,T,g,j,m,n,p,q,r⟩:=h;refine#[s,t,v,bs,L,M,i,y,by rw[bX (nE B f)];exact B,C,D,E,G,by rw[bX C];exact N,qA O f (λ_ e=>nomatch e),by rw[bX D];exact Q,qA T f (λ_ e=>nomatch e),by rw[bX E];exact g,j,m,n,p,q,λk x b U I=>?_];obtain⟨word,Y,z2⟩:=r k x b U I;refine#[word,Y,?_];rw[bX λz=>G (by rw[<-z];exact cF I)];exact z2
structure LevsAt(H:Hp)(l:Ad)(ts fam xs:LN)(ys:List WE)(as:As)(told:ig):Prop where
 len:as.length=told.length
 is:∀(i:Nat) (a:Ad) (c:LN),as[i]?=some a->told[i]?=some c->LevAt H l ts fam xs ys a c
def HU(H b:Hp)(a:Ad):Prop:=∃s t v,b a=some (.tup [.ref s,.ref t,.ref v])/\L2.noT H s=none/\L2.noT H t=none/\L2.noT H v=none
inductive gP(T:Ad)(g:Pos)(k:List V)(H:Hp)(Q:VK)(h:XK):Prop|mk:∀(m:Ad) (e:LN) (n:Nat),k=[.ref m]->Mach H m e n->Tabs H->(∀l i told d j f,Keeps H f->Tabs f->L2.noT H l=none->f l=some (.lst (i.map .ref))->FamOf e n d->Ord e (cM e (big d)) told->(∀c∈told,c∈cM e (big d))->told.length<=32->LevsAt f l e d (big d) j i told->(∀y∈j,∀b∈y.2.2,L2.noT H b=none)->j.Pairwise (λp q=>∀b∈p.2.2,b∉q.2.2)->(∀a∈i,HU H f a)->Q (.ref l) f)->gP T g k H Q h
theorem Ku(F:Fun K "levels" "levels" Ap f fd)(qG:dC P w K mg base vO 16 [sA] (dL T (#[57,40,57,93]:Pos)))(qD:dC P w K mg base vM 3 [sP] gQ)(kR:dC P w K mg base vJ 3 [sP,tM] e9)(uL:dC P w K mg base sJ 16 [sA,sB] (iF T (#[57,40,57,93]:Pos))):FnOk P w K mg base cG 18 f fd [sA] (gP T (#[57,40,57,93]:Pos)):=by
 refine F.ok qP (λbi A aU s H vs Q E hr h=>?_)
 obtain⟨m,ts,n,rfl,M,hT,q⟩:=h;have hu:=hr.units;have aA:=iT hr;refine#[_,(cq (cT (i:=1) qP.nd zZ Z0 (dv qG hr.m zZ (ci (pv 0) ce))) (cq (cT (i:=2) qP.nd zZ Z' (gB ce)) (cq (hK iX zZ (gY (dv kR hr.m zZ (cE (bV (pv 1) (bV (dv qD hr.m zZ (ci (pv 1) ce)) cA zZ) zZ)))) (fB (i:=3) qP.nd zZ Z') (cq (cT (i:=4) qP.nd zZ Z0 (cU fH (pv 3) cD (λ_ _=>rfl))) (cq (AU (CompSc.to (N:=[sA,sP,"told",tJ,"face","ways"]) (osc:=cu Ap) (vs:=[sB]) {}) zZ zZ qP.nd (j:=5) zZ zZ (gY (pv 3)) (λ_ _ _ _=>hZ) (λ_ _ _ _=>(mR aA (mR aA (pv 2) (pv 5) (λ_ _=>rfl)) (pv 0) (λ_ _=>rfl)))) (cy (iq (iZ iD lU lL me (pv 2) (ci (kS (cE (bV (pv 3) (bV (dv uL hr.m zZ (cE (bV (pv 0) (bV (pv 4) cA zZ) zZ))) (bV (pv 5) cA zZ) zZ) zZ))) ce))))))) (cy (c8 (pv 2)))))),?_];refine#[_,zZ,m,ts,n,zZ,M,hT,λD l ys H1 k1 T1 nD ff eD wb nw ap=>?_];have few:=ff.few M;have O:(big l).length<=32:=dh (j8 _ _) few;refine#[by show 0<=sizeLine;decide,λto af=>?_];have kt:=cn af (.lst []);have aB:∀y∈ys,to∉y.2.2:=λy hy r=>by
  obtain⟨j,ej⟩:=fF.mp hy;have lj:=(cf.mp ej).1;have hl:=wb.len;obtain⟨x',aV⟩:∃x',(big l)[j]?=some x':=#[_,b7 ()];obtain⟨a',_⟩:=wb.each j x' y aV ej;obtain⟨j2,aC⟩:=fF.mp r;have aW:=(cf.mp aC).1;have U:=a'.list j2 to _ aC (b7 (by rw[<-a'.len];exact aW));rw[af]at U;cases U
 have aX:to≠D:=(dj eD af).symm;have ar:=kt _ _ eD;refine#[_,zZ,_,zZ,D,ts,big l,ys,zZ,ar,wb.same kt,O,λwl o as H3 g3 bj aY Lw aD=>?_];have aE:H3 D=some (.frz o (.dT (fX (big l) ys))):=g3 _ _ bY;have aF:WB H3 D ts (big l) ys:=((wb.same kt).off ar).same g3;have au:∀{b:Ad} {u:HO},b≠D->bT H1 to (.lst []) b=some u->H3 b=some u:=λnb r=>g3 _ _ (by rw[bX nb];exact r);have Y:H3 to=some (.lst []):=au aX bY;have aZ:∀{b:Ad} {u:HO},L2.noT H b=some u->b≠D:=λr z=>by
  subst z;rw[nD]at r;cases r
 have a0:Keeps H H3:=λb u r=>au (aZ r) (kt _ _ (k1 _ _ r));have T3:Tabs H3:=(T1.same kt).most λb u nd _ r=>au (io r ar λe=>nd _ e) r;have a1:∀d∈cM ts (big l),d≠[]/\∀x∈d,x∈big l:=λd hd=>#[(gX hd).1,λx hx=>((gX hd).2.2.2 x hx).1];have aG:(cM ts (big l)).length<=32:=by
  unfold cM;rw[bW];exact dh (j8 _ _) O
 refine#[D,wl,ts,big l,ys,_,as,zZ,.inr #[o,aE],aF,aY,Lw,a1,JQ ts _,aG,λol ag told H4 g4 a2 aH Lo od a3 sub a4=>?_];have lo:=Lo.len;have aI:ol≠to:=(dj Y a2).symm;have an:to∉ag:=λz=>by
  obtain⟨j,ej⟩:=fF.mp z;have lj:=(cf.mp ej).1;obtain⟨bs,e,_⟩:=Lo.is j to _ ej (b7 (by rw[<-lo];exact lj));have ec:=jv (show j<told.length by lia);have C:=g4 _ _ Y;rw[e]at C;injection C with C
  injection C with C
  have U:bs=[]:=List.map_eq_nil_iff.mp C;obtain⟨a5,e',a6⟩:=Lo.is j to _ ej (b7 ());rw[e]at e';injection e' with e'
  injection e' with e'
  rw[U]at e';have z3:a5=[]:=List.map_eq_nil_iff.mp e'.symm;have z4:=a6.len;rw[z3]at z4;exact(gX (sub _ ec)).1 (qo.mp z4.symm)
 have a7:Keeps H H4:=a0.trans g4.keeps;have T4:=T3.same g4;have aJ:=g4 _ _ Y;have aK:L2.noT H to=none:=by
  cases z:L2.noT H to with
  |none=>rfl
  |some u=>
   have U:=k1 _ _ z;rw[af]at U;cases U
 let Pv:Nat->L2.St->Hp->Prop:=λi σ t=>Keeps H t/\Tabs t/\t ol=some (.lst (ag.map .ref))/\LsAt t ag told/\Rd t D (.dT (fX (big l) ys))/\WB t D ts (big l) ys/\∃ls o3 o4 o5,t to=some (.lst (ls.map .ref))/\LevsAt t to ts l (big l) ys ls (told.take i)/\(∀a∈ls,HU H t a)/\σ=[some (.ref m),some (.ref D),some (.ref to),o3,o4,o5]
 refine#[ol,zZ,#[_,R3 aH],qr (xs:=ag.map .ref) Pv #[a7,T4,aH,Lo,.inr #[o,g4 _ _ aE],aF.same g4,[],none,none,none,aJ,#[zZ,λi a c e=>by simp at e],(λ_ h=>nomatch h),zZ] (λi σ t _ p=>R3 p.2.2.1) (λi v σ H5 hv p=>?_) (λσ H5 p=>?_)]
 .obtain⟨k5,T5,ao,av,aw,ax,ls,o3,o4,o5,I,aa,ay,rfl⟩:=p;rw[cz]at hv;obtain⟨a,ea,rfl⟩:=dW.mp hv;have li:=(cf.mp ea).1;obtain⟨c,ec⟩:∃c,told[i]?=some c:=#[_,b7 ()];obtain⟨bs,ha,Ta⟩:=av.is i a c ea ec;obtain⟨cne,_,cx,call⟩:=gX (sub c (cF ec));obtain⟨b0,a8,aL,m0⟩:=DU Ta cne;have bk:=Ta.len;have bl:c.length<=32:=by
   rw[(gX (sub c (cF ec))).2.1];exact dh (j8 _ _) O
  have a9:a≠to:=λz=>an (z▸cF ea);obtain⟨W,ws,wa,dg,wt,tt,ix,ex,ey⟩:=ax.get aw cx aL;refine#[_,zZ,a,_,_,_,zZ,zZ,R3 ha,a8,?_];refine#[_,zZ,a,zZ,#[_,R3 ha],mG (xs:=bs.map .ref) (λj ah t=>t=H5/\∃G:As,ah=G.map V.ref/\G.length=j/\(∀b∈G,b∈wa)/\∀(k:Nat) (x:bS) (b:Ad),c[k]?=some x->G[k]?=some b->∃word,(x,word)∈ws/\H5 b=some (.lst (word.map nv))) (by rw[bW,db];lia) #[zZ,[],zZ,zZ,λ_ h=>(nomatch h),λk x b _ e=>by simp at e] (λj ah t hi p=>?_) (λj v ah t hv p=>?_) (λah t p J ai=>?_)]
  .obtain⟨rfl,G,rfl,e,_⟩:=p;exact#[R3 ha,by rw[bW];lia]
  .obtain⟨rfl,G,rfl,e,sb,al⟩:=p;rw[cz]at hv;obtain⟨b,eb,rfl⟩:=dW.mp hv;have lj:=(cf.mp eb).1;obtain⟨x,az⟩:∃x,c[j]?=some x:=#[_,b7 ()];have r:=Ta.is j b x eb az;obtain⟨_,r1,_⟩:=call x (cF az);obtain⟨⟨x',u⟩,hp,e'⟩:=cH.mp ((Dj tt x).mpr r1);have B:x'=x:=e';subst B;obtain⟨aM,v1,v2⟩:=wt.word tt.keys hp;have ba:DGet t W (.ref b) (some (.ref aM)):= .inr #[_,nk x',b,.inl wt.dict,zZ,by rw[g7];exact r,v1.symm];refine#[ie,jt #[_,zZ,_,zZ,D,_,zZ,dg,_,zZ,W,_,zZ,ba,zZ,G++[aM],by simp,by simp[e],λb' aj=>?_,λk x b' L B=>?_]]
   .exact(cW.mp aj).elim (sb b') λh=>by rw[cJ.mp h];exact KY v1
   .by_cases hk:k<G.length
    .rw[d7 hk]at B;exact al k x b' L B
    .rw[eC ()]at B;have z:k-G.length=0:=by
      have:=(cf.mp B).1;simp at this;lia
     rw[z]at B;cases B;have kj:k=j:=by lia
     subst kj;rw[az]at L;cases L;exact#[u,hp,v2]
  .obtain⟨rfl,G,rfl,bb,sb,al⟩:=p;rw[bW]at bb;have kw:=cn ai (.lst (G.map V.ref));have aN:J≠to:=(dj I ai).symm;have aO:bT t J (.lst (G.map V.ref)) J=some (.lst (G.map V.ref)):=bY;generalize bT t J (.lst (G.map V.ref))=H6 at kw aO|-;have ab:=kw _ _ I;refine#[_,zZ,.inl #[zZ,_,R3 ab],_,zZ,_,zZ,_,zZ,m,b0,ts,n,c.headD [],zZ,(M.keeps k5).same kw,kw _ _ aL,T5.same kw,λtl ds us aP H7 k7 T7 ak bc Td bd be=>?_];have ef:aP=l:=bd.uniq ff;subst ef;subst be;have aQ:=k7 _ _ (nU ab);have aR:tl≠to:=λz=>by
    subst z;rw[nU ab]at ak;cases ak
   refine#[_,zZ,by show 3<=sizeLine;decide,λlv bf=>?_];have kl:=cn bf (.tup [.ref a,.ref tl,.ref J]);have am:bT H7 lv (.tup [.ref a,.ref tl,.ref J]) lv=some (.tup [.ref a,.ref tl,.ref J]):=bY;have kk:Keeps t (bT H7 lv (.tup [.ref a,.ref tl,.ref J])):=(kw.keeps.trans k7).trans kl.keeps;have aS:Keeps H6 (bT H7 lv (.tup [.ref a,.ref tl,.ref J])):=k7.trans kl.keeps;have aq:=kl _ _ bc;have aT:=Td.same kl;have T8:=T7.same kl;have g:=kl _ _ aQ;generalize bT H7 lv (.tup [.ref a,.ref tl,.ref J])=H8 at kl am kk aS aq aT T8 g|-;have bg:=aa.len;rw[gk]at bg;refine#[to,_,_,zZ,zZ,g,by rw[bW,db];lia,?_];have ae:∀{b:Ad} {u:HO},t b=some u->(∀ps,u≠ .tbl ps)->H8 b=some u:=λr no=>kk _ _ (qa r no)
   refine#[λb u r=>?_,?_,?_,?_,?_,?_,ls++[lv],_,_,_,by rw[bY,dH];rfl,#[?_,λj a' c' L B=>?_],λa' bh=>?_,zZ]
   .rw[bX λ(z:b=to)=>by subst z;rw[aK]at r;cases r];exact(k5.trans kk) _ _ r
   .exact T8.most λb' u _ nl aj=>by rw[bX (io aj g λe=>nl _ e)];exact aj
   .rw[bX aI];exact ae ao λ_ e=>nomatch e
   .exact(av.keeps kk).off g an
   .rcases MW aw (λ_ e=>nomatch e) kk with z|⟨o',z⟩
    .exact .inl (by rw[bX (nE z g)];exact z)
    .exact .inr #[o',by rw[bX (nE z g)];exact z]
   .exact(ax.keeps kk).off2 g aB
   .rw[di,gk];simp only[List.length_singleton];lia
   .have lt':told.take (i+1)=told.take i++[c]:=by rw[i8,ec];rfl
    rw[lt']at B;by_cases hj:j<ls.length
    .rw[d7 hj]at L;rw[d7 (by rw[gk];lia)]at B;exact((aa.is j a' c' L B).keeps kk).off g
    .rw[eC ()]at L;rw[eC (by rw[gk];lia)]at B;have z:j-ls.length=0:=by
      have:=(cf.mp L).1;simp at this;lia
     have z':j-(told.take i).length=0:=by rw[gk];lia
     rw[z]at L;rw[z']at B;cases L;cases B;refine LevAt.off #[a,tl,J,bs,ds,G,ix,(W,ws,wa),am,a9,aR,aN,λz=>aB _ (cF ey) (sb _ z),ae ha (λ_ e=>nomatch e),oB Ta kk,aq,aT,aS _ _ (nU aO),(),ex,ey,tt,sb,λk x b L B=>?_] g;obtain⟨word,C,U⟩:=al k x b L B;exact#[word,C,ae U λ_ e=>nomatch e]
   .rcases cW.mp bh with z|z
    .obtain⟨s',t',v',C,U⟩:=ay a' z;exact#[s',t',v',(by rw[bX (nE (ae C λ_ e=>nomatch e) g)];exact ae C λ_ e=>nomatch e),U]
    .rw[cJ.mp z];refine#[a,tl,J,by rw[bX (nE am g)];exact am,?_,?_,?_]
     .have C:=aD a (a4 a (cF ea));cases y:L2.noT H a with
      |none=>rfl
      |some u=>
       rw[kt _ _ (k1 _ _ y)]at C;cases C
     .cases y:L2.noT H tl with
      |none=>rfl
      |some u=>
       have C:=kw _ _ (k5 _ _ y);rw[qa C (uz y).2]at ak;cases ak
     .cases y:L2.noT H J with
      |none=>rfl
      |some u=>
       rw[k5 _ _ y]at ai;cases ai
 .obtain⟨k5,T5,ao,av,aw,ax,ls,o3,o4,o5,I,aa,ay,rfl⟩:=p;rw[bW,lo,gW]at aa;exact#[_,zZ,q to ls told l ys H5 k5 T5 aK I ff od sub a3 aa nw ap ay]
theorem cw:sub x y=true↔ ∀r∈x,r∈y:=by
 unfold sub;rw[rj];exact#[λh r a=>hO.mp (h r a),λh r a=>hO.mpr (h r a)]
theorem HB{u v:bS}(d:u∈dN n)(f:v∈dN n)(h:sub u v=true)(g:u≠v):u.length<v.length:=by
 obtain⟨a,_⟩:=bZ.mp d;obtain⟨b,_⟩:=bZ.mp f;have s:=cw.mp h;have e:∃z∈List.range 5,u.contains z=false/\v.contains z=true:=by
  refine Cq λno=>g ?_;rw[<-a,<-b];refine u7 λz j=>?_;rw[mv];constructor
  .exact λq=>hO.mpr (s z (hO.mp q))
  .intro q;cases c:u.contains z with
   |true=>rfl
   |false=>exact wC #[z,j,c,q] no
 have z:=E9 (λz _ q=>hO.mpr (s z (hO.mp q))) e;rw[Fk,Fk]at z;unfold eX at a b;rw[a,b]at z;exact z
structure TileFacts(fam:LN)(x:bS)(us:LN):Prop where
 mem:∀u∈us,u∈fam/\u≠x/\sub u x=true
 apart:∀u∈us,∀v∈us,u≠v->sub u v=false
 up:us.Pairwise λa b=>gh gl a b=true
 all:∀u∈fam,u≠x->sub u x=true->∃t∈us,sub u t=true
 few:us.length<=32
 few2:fam.length<=32
 l5:∀u∈fam,u.length<=5
theorem pZ(M:Mach H m s n)(j:FamOf s n a)(x):TileFacts a x (jf a x):=by
 have few:=j.few M;have b:∀u,u∈im a x↔u∈a/\u≠x/\sub u x=true:=λu=>by
  unfold im;rw[dm,mK,xY]
 have k:∀u,m6 (im a x) u=true↔ ∃v∈im a x,v≠u/\sub u v=true:=λu=>by
  unfold m6;rw[zg];constructor
  .rintro⟨v,g,e⟩;rw[mK,xY]at e;exact#[v,g,e]
  .rintro⟨v,g,e⟩;exact#[v,g,by rw[mK,xY];exact e]
 have f:∀u,u∈jf a x↔u∈im a x/\m6 (im a x) u=false:=λu=>by
  unfold jf;rw[dm];refine and_congr Iff.rfl ?_;cases m6 (im a x) u<;>simp
 have w:∀u∈a,u.length<=5:=λu h=>dh (tv M.n5 (j.inU M h)) M.n5;have l:∀d u,u∈im a x->5-u.length<=d->∃t∈jf a x,sub u t=true:=by
  intro d
  induction d with
  | zero=>
   intro u i y;cases c:m6 (im a x) u with
   |false=>exact#[u,(f u).mpr #[i,c],cw.mpr λr p=>p]
   |true=>
    obtain⟨v,o,g,e⟩:=(k u).mp c;have:=HB (j.inU M ((b u).mp i).1) (j.inU M ((b v).mp o).1) e (dG g)
    have:=w v ((b v).mp o).1;lia
  | succ d A=>
   intro u i y;cases c:m6 (im a x) u with
   |false=>exact#[u,(f u).mpr #[i,c],cw.mpr λr p=>p]
   |true=>
    obtain⟨v,o,g,e⟩:=(k u).mp c;have:=HB (j.inU M ((b u).mp i).1) (j.inU M ((b v).mp o).1) e (dG g)
    obtain⟨t,ht,q⟩:=A v o ();exact#[t,ht,cw.mpr λr p=>cw.mp q r (cw.mp e r p)]
 refine#[λu i=>(b u).mp ((f u).mp i).1,λu i v o B=>?_,?_,λu g e q=>l 5 u ((b u).mpr #[g,e,q]) (),?_,few,w]
 .cases c:sub u v with
  |false=>rfl
  |true=>
   have z:=(k u).mpr #[v,((f v).mp o).1,dG B,c];rw[((f u).mp i).2]at z;cases z
 .exact(j.up.filter _).filter _
 .exact dh (j8 _ _) (dh (j8 _ _) few)
theorem GD(x):gh gl x x=false:=(oO gl [x]).irr x
theorem Bx(T:TupsAt H fs b)(i:Nat)(d)(v)(c:(b.map λu=>Dt.tup (gV u))[i]?=some d)(e:(fs.map V.ref)[i]?=some v):Rep K H (n+1) d v:=by
 rw[cz]at c e;obtain⟨p,f,rfl⟩:=dW.mp c;obtain⟨a,g,rfl⟩:=dW.mp e;exact i7 (R4 (T.is i a p g f))
theorem Nz{a:LN}:Dt.tup (gV u)∈a.map (λu=>Dt.tup (gV u))↔u∈a:=by
 rw[cH];constructor
 .rintro⟨v,c,b⟩;injection b with b
  rw[<-E7 b];exact c
 .exact λh=>#[u,h,zZ]
noncomputable def kC(f:Nat->Nat):Nat->Nat->Nat
 |0,r=>r
 |k+1,r=>kC f k (f r)
theorem Fs(f:Nat->Nat):∀a b r,kC f (a+b) r=kC f b (kC f a r)
 |0,b,r=>by rw[pO];rfl
 |a+1,b,r=>by
  rw[Nat.add_right_comm];exact Fs f a b (f r)
theorem wO{f:Nat->Nat}(h:kC f d r=r):∀k,kC f (d * k) r=r
 |0=>rfl
 |k+1=>by rw[Nat.mul_succ,Fs,wO h k,h]
theorem Er(a)(r)(u v):eE a r (u++v)=eE a (eE a r u) v:=by
 unfold eE;rw[pq]
noncomputable def rh(u:bS):Nat->List Nat
 |0=>[]
 |k+1=>u++rh u k
theorem GH(a)(u):∀k r,eE a r (rh u k)=kC (λr=>eE a r u) k r
 |0,_=>rfl
 |k+1,r=>by
  show eE a r (u++rh u k)=_;rw[Er,GH a u k];rfl
theorem Hs:∀{k},l∈rh u k->l∈u
 |0,h=>nomatch h
 |k+1,h=>(cW.mp h).elim id Hs
theorem Bk(a)(x u v):cN (b8 a) x (u++v)=cN (b8 a) (cN (b8 a) x u) v:=by
 unfold cN;rw[pq]
theorem BF{x y:bS}(a:x∈dN n)(b:y∈dN n)(h:∀r,r∈x↔r∈y):x=y:=by
 rw[<-(bZ.mp a).1,<-(bZ.mp b).1];exact HG h
theorem C4{x:bS}(a:x∈dN n):x.Nodup:=by
 rw[<-(bZ.mp a).1];exact List.Nodup.sublist ul List.nodup_range
theorem mw(M:Mach H m b n){x word:bS}(d:x∈dN n)(hw:∀l∈word,l<b.length):r∈cN (b8 b) x word↔ ∃a∈x,eE b a word=r:=by
 have f:=M.n5;rw[BZ M word x d hw];constructor
 .intro h;obtain⟨a,c,e⟩:=cH.mp (A9 h);exact#[a,c,e]
 .rintro⟨a,c,rfl⟩;have:=pI M word a ((bZ.mp d).2 a c) hw;exact HN (cH.mpr #[a,c,zZ]) ()
theorem oC(M:Mach H m a n){x word:bS}(b:x∈dN n)(hw:∀l∈word,l<a.length):cN (b8 a) x word∈dN n:=pR b (λy c l d=>yJ M c d) word hw
structure Bij(ts:LN)(x y w p:bS):Prop where
 to:cN (b8 ts) x w=y
 fro:cN (b8 ts) y p=x
 lw:∀l∈w,l<ts.length
 lp:∀l∈p,l<ts.length
 here:∀r∈x,eE ts (eE ts r w) p=r
 there:∀r∈y,eE ts (eE ts r p) w=r
theorem Bij.symm{x y w p:bS}(b:Bij a x y w p):Bij a y x p w:=#[b.fro,b.to,b.lp,b.lw,b.there,b.here]
theorem Ry{x:bS}{f:Nat->Nat}(nd:x.Nodup)(j:∀r∈x,∃c∈x,f c=r):∀a∈x,∀b∈x,f a=f b->a=b:=λa d b k e=>by
 by_cases g:a=b
 .exact g
 have z:=u0 (l₂:=(x.erase a).map f) nd λr l=>by
  obtain⟨c,m,h⟩:=j r l;by_cases i:c=a
  .exact cH.mpr #[b,(z5 (dG g)).mpr k,by rw[<-e,<-i,h]]
  .exact cH.mpr #[c,(z5 i).mpr m,h]
 rw[bW,D6 d]at z;have:=B8 d;lia
theorem Dg{x:bS}{f:Nat->Nat}(a:∀r∈x,f r∈x):∀k r,r∈x->kC f k r∈x
 |0,_,h=>h
 |k+1,r,h=>Dg a k (f r) (a r h)
theorem Hm{x:bS}{f:Nat->Nat}(c:∀r∈x,f r∈x)(inj:∀a∈x,∀b∈x,f a=f b->a=b):∀k,∀a∈x,∀b∈x,kC f k a=kC f k b->a=b
 |0,_,_,_,_,e=>e
 |k+1,a,d,b,g,e=>inj a d b g (Hm c inj k (f a) (c a d) (f b) (c b g) e)
theorem zf{x:bS}{f:Nat->Nat}(p:x.length<=5)(g:∀r∈x,f r∈x)(inj:∀a∈x,∀b∈x,f a=f b->a=b)(r)(k:r∈x):kC f 60 r=r:=by
 have:∃d,1<=d/\d<=5/\kC f d r=r:=by
  by_cases h:∃i j,i<j/\j<=5/\kC f i r=kC f j r
  .obtain⟨i,j,l,m,c⟩:=h;refine#[j-i,(),(),?_];have e:j=(j-i)+i:=by lia
   rw[e,Fs]at c;exact(Hm g inj i r k _ (Dg g (j-i) r k) c).symm
  .have nd:((List.range 6).map λi=>kC f i r).Nodup:=by
    rw[Ga,vb];refine Di ?_ List.pairwise_lt_range;intro i j q n lt e;exact h #[i,j,lt,by have:=ft.mp n;lia,e]
   have z:=u0 nd λy o=>by
    obtain⟨i,_,rfl⟩:=cH.mp o;exact Dg g i r k
   rw[bW,lK]at z;lia
 obtain⟨d,l,m,c⟩:=this;have:d=1\/d=2\/d=3\/d=4\/d=5:=by lia
 rcases this with rfl|rfl|rfl|rfl|rfl
 .exact wO c 60
 .exact wO c 30
 .exact wO c 20
 .exact wO c 15
 .exact wO c 12
theorem D2(M:Mach H m a n){x y w:bS}(b:x∈dN n)(i:∀l∈w,l<a.length)(e:cN (b8 a) x w=y)(back:Rch a y x):∃p,Bij a x y w p:=by
 obtain⟨v,s,B⟩:=back;have t:y∈dN n:=by rw[<-e];exact oC M b i
 have d:=λl o=>(cW.mp o).elim (i l) (s l);have u:cN (b8 a) x (w++v)=x:=by rw[Bk,e,B]
 have C:=λr c=>by
  have z:=(mw M b d).mpr #[r,c,zZ];rw[u]at z;exact z
 have D:∀r∈x,∃j∈x,eE a j (w++v)=r:=λr c=>(mw M b d).mp (by rw[u];exact c);have inj:=Ry (C4 b) D;have E:=zf (dh (tv M.n5 b) M.n5) C inj;have here:∀r∈x,eE a (eE a r w) (v++rh (w++v) 59)=r:=λr c=>by
  rw[<-Er,<-fu,Er,GH];exact E r c
 have q:∀l∈v++rh (w++v) 59,l<a.length:=λl o=>(cW.mp o).elim (s l) λh=>d l (Hs h);have g:∀r∈y,eE a (eE a r (v++rh (w++v) 59)) w=r:=λr c=>by
  rw[<-e]at c;obtain⟨j,k,rfl⟩:=(mw M b i).mp c;rw[here j k]
 refine#[v++rh (w++v) 59,e,BF (oC M t q) b λr=>?_,i,q,here,g];rw[mw M t q];constructor
 .rintro⟨j,k,rfl⟩;rw[<-e]at k;obtain⟨G,A,rfl⟩:=(mw M b i).mp k;rw[here G A];exact A
 .intro h;exact#[eE a r w,by rw[<-e];exact(mw M b i).mpr #[r,h,zZ],here r h]
theorem Bij.back(M:Mach H m a n){x y w p u:bS}(b:Bij a x y w p)(c:u∈dN n)(s:sub u x=true):cN (b8 a) (cN (b8 a) u w) p=u:=by
 have d:=cw.mp s;have e:=oC M c b.lw;refine BF (oC M e b.lp) c λr=>?_;rw[mw M e b.lp];constructor
 .rintro⟨i,h,rfl⟩;obtain⟨f,g,rfl⟩:=(mw M c b.lw).mp h;rw[b.here f (d f g)];exact g
 .intro z;exact#[eE a r w,(mw M c b.lw).mpr #[r,z,zZ],b.here r (d r z)]
theorem yH(M:Mach H m a n){u v w:bS}(d:u∈dN n)(e:v∈dN n)(b:∀l∈w,l<a.length)(s:sub u v=true):sub (cN (b8 a) u w) (cN (b8 a) v w)=true:=by
 refine cw.mpr λr f=>?_;obtain⟨c,g,rfl⟩:=(mw M d b).mp f;exact(mw M e b).mpr #[c,cw.mp s c g,zZ]
theorem C8(M:Mach H m b n)(f:FamOf b n a){u w:bS}(g:u∈a)(c:∀l∈w,l<b.length):cN (b8 b) u w∈a:=by
 have d:=M.n5;refine(f.mem _).mpr ?_
 rcases (f.mem u).mp g with⟨h,i,j⟩|⟨r,e,rfl⟩
 .refine .inl #[h++w,λl k=>(cW.mp k).elim (i l) (c l),?_];rw[Bk,j]
 .have lt:=pI M w r e c;refine .inr #[eE b r w,lt,BF (oC M (yt d e) c) (yt d lt) λp=>?_];rw[mw M (yt d e) c];constructor
  .rintro⟨q,o,rfl⟩;rw[cJ.mp o];exact cJ.mpr rfl
  .intro z;exact#[r,cJ.mpr zZ,(cJ.mp z).symm]
theorem Gn{u v:bS}(c:u∈dN n)(d:v∈dN n)(a:sub u v=true)(b:sub v u=true):u=v:=BF c d λr=>#[cw.mp a r,cw.mp b r]
theorem EI{u v w:bS}(a:sub u v=true)(b:sub v w=true):sub u w=true:=cw.mpr λr c=>cw.mp b r (cw.mp a r c)
theorem oX(M:Mach H m h n)(d:FamOf h n a){x u:bS}:u∈jf a x↔u∈a/\u≠x/\sub u x=true/\∀v∈a,v≠x->sub v x=true->sub u v=true->v=u:=by
 have b:=pZ M d x;constructor
 .intro i;obtain⟨c,f,g⟩:=b.mem u i;refine#[c,f,g,λv j l o k=>?_];obtain⟨t,ht,st⟩:=b.all v j l o;have p:u=t:=by
   by_cases e:u=t
   .exact e
   .have z:=b.apart u i t ht e;rw[EI k st]at z;cases z
  subst p;exact Gn (d.inU M j) (d.inU M c) st k
 .rintro⟨c,f,g,q⟩;obtain⟨t,ht,st⟩:=b.all u c f g;obtain⟨r,s,w⟩:=b.mem t ht;rw[<-q t r s w st];exact ht
theorem wX(M:Mach H m a n)(d:FamOf a n c){x y w p u:bS}(j:x∈dN n)(b:Bij a x y w p)(o:u∈jf c x):cN (b8 a) u w∈jf c y:=by
 obtain⟨k,q,h,r⟩:=(oX M d).mp o;have s:y∈dN n:=by rw[<-b.to];exact oC M j b.lw
 have f:=d.inU M k;have gU:=oC M f b.lw;have t:sub (cN (b8 a) u w) y=true:=by
  have z:=yH M f j b.lw h;rw[b.to]at z;exact z
 refine(oX M d).mpr #[C8 M d k b.lw,λe=>q ?_,t,λv l A i B=>?_]
 .rw[<-b.back M f h,e,b.fro]
 .have g:=d.inU M l;have bs:=b.symm;have C:=C8 M d l b.lp;have D:cN (b8 a) v p≠x:=λe=>A (by rw[<-bs.back M g i,e,b.to]);have E:sub (cN (b8 a) v p) x=true:=by
   have z:=yH M g s b.lp i;rw[b.fro]at z;exact z
  have G:sub u (cN (b8 a) v p)=true:=by
   have z:=yH M gU g b.lp B;rw[b.back M f h]at z;exact z
  rw[<-bs.back M g i,r _ C D E G]
def LvH(H:Hp)(a:Ad)(c g:LN)(d:LN):Prop:=∃(s t v:Ad) (bs ds e:As),H a=some (.tup [.ref s,.ref t,.ref v])/\H s=some (.lst (bs.map .ref))/\TupsAt H bs c/\H t=some (.lst (ds.map .ref))/\TupsAt H ds g/\H v=some (.lst (e.map .ref))/\e.length=d.length/\∀(k:Nat) (b:Ad) (f:bS),e[k]?=some b->d[k]?=some f->H b=some (.lst (f.map nv))
theorem LvH.same(h:LvH H a c e d)(g:Same H H'):LvH H' a c e d:=by
 obtain⟨s,t,v,bs,ds,f,i,j,l,m,n,o,p,q⟩:=h;exact#[s,t,v,bs,ds,f,g _ _ i,g _ _ j,l.same g,g _ _ m,n.same g,g _ _ o,p,λk b r u w=>g _ _ (q k b r u w)]
structure LvP(ts fam:LN)(c us wds:LN):Prop where
 cls:c∈cM ts (big fam)
 tl:us=jf fam (c.headD [])
 len:wds.length=c.length
 go:∀(k:Nat) (x wd:bS),c[k]?=some x->wds[k]?=some wd->(∀l∈wd,l<ts.length)/\cN (b8 ts) (c.headD []) wd=x
inductive kq(g:List V)(H:Hp)(Q:VK)(d:XK):Prop|mk:∀(m a:Ad) (k j:Nat) (e:LN) (n:Nat) (c h b:LN) (u f:bS),g=[.ref m,.ref a,nv k,nv j]->Mach H m e n->LvH H a c h b->h[j]?=some u->b[k]?=some f->u∈dN n->(∀l∈f,l<e.length)->yi H ((cN (b8 e) u f).map nv) Q->kq g H Q d
inductive eU(i:List V)(H:Hp)(Q:VK)(f:XK):Prop|mk:∀(m a:Ad) (k:Nat) (g:LN) (n:Nat) (c d b:LN) (h:bS),i=[.ref m,.ref a,nv k]->Mach H m g n->LvH H a c d b->b[k]?=some h->(∀u∈d,u∈dN n)->d.length<=32->(∀l∈h,l<g.length)->(∀l j e,Same H e->e l=some (.lst (j.map .ref))->TupsAt e j (d.map λu=>cN (b8 g) u h)->Q (.ref l) e)->eU i H Q f
def j5(a b:LN)(g c:bS)(l:Nat)(d:bS):Prop:=d.length=b.length/\∀(j:Nat) (u:bS) (e:Nat),b[j]?=some u->d[j]?=some e->∃f,b[e]?=some f/\cN (b8 a) f c=b8 a (cN (b8 a) u g) l
inductive fm(j:List V)(H:Hp)(Q:VK)(h:XK):Prop|mk:∀(m a:Ad) (k l:Nat) (d:LN) (n:Nat) (f c i b:LN) (x o:bS),j=[.ref m,.ref a,nv k,nv l]->Mach H m d n->FamOf d n f->LvH H a c i b->LvP d f c i b->c[k]?=some x->b[k]?=some o->l<d.length->((b8 d x l∉c->∀e,Same H e->Q .non e))->(∀(q:Nat) (g:bS),c[q]?=some (b8 d x l)->b[q]?=some g->∀p r e,Same H e->e p=some (.tup (r.map nv))->j5 d i o g l r->Q (.ref p) e)->fm j H Q h
theorem Fc{b:Type}{d:b}:∀{ds:List b},d∈ds->∃j,ds[j]?=some d/\∀i:Nat,i<j->ds[i]? ≠some d
 | [],h=>nomatch h
 | e::ds,h=>by
  by_cases z:e=d
  .exact#[0,by rw[z];rfl,λi c=>wC c (m7 i)]
  .obtain⟨j,f,g⟩:=Fc ((cP.mp h).resolve_left λa=>z a.symm);refine#[j+1,f,λi c=>?_];cases i with
   |zero=>exact λa=>z (by injection a)
   |succ i=>exact g i ()
theorem nB{a:LN}:Dt.tup (gV u)∈a.map (λu=>Dt.tup (gV u))↔u∈a:=Nz
theorem fW{a:LN}{j:Nat}:(a.map λu=>Dt.tup (gV u))[j]?=some (Dt.tup (gV u))↔a[j]?=some u:=by
 rw[cz];constructor
 .intro h;obtain⟨v,c,b⟩:=dW.mp h;injection b with b
  rw[<-E7 b];exact c
 .intro h;rw[h];rfl
theorem LvP.bij(M:Mach H m d n)(i:FamOf d n a)(f:LvP d a c h b){k:Nat}{x e:bS}(g:c[k]?=some x)(j:b[k]?=some e):∃p,Bij d (c.headD []) x e p:=by
 obtain⟨_,_,l,call⟩:=gX f.cls;obtain⟨o,l2⟩:=f.go k x e g j;exact D2 M (i.inU M (dm.mp l).1) o l2 (call x (cF g)).2.2
theorem Iv(M:Mach H m a n)(b:FamOf a n d)(f:LvP a d c i e){k s l:Nat}{x j g:bS}(t:c[k]?=some x)(D:e[k]?=some j)(E:l<a.length)(v:c[s]?=some (b8 a x l))(o:e[s]?=some g){u:bS}(G:u∈i):b8 a (cN (b8 a) u j) l∈i.map λu=>cN (b8 a) u g:=by
 obtain⟨_,_,I,call⟩:=gX f.cls;have J:=b.inU M (dm.mp I).1;obtain⟨p,L⟩:=f.bij M b t D;obtain⟨p',y⟩:=f.bij M b v o;obtain⟨N,q,O⟩:=call x (cF t);obtain⟨Q,T,r⟩:=call _ (cF v);have A:=b.inU M (dm.mp N).1;have U:=b.inU M (dm.mp Q).1;obtain⟨p2,Y⟩:=D2 M (w:=[l]) A (λz hz=>by rw[cJ.mp hz];exact E) zZ (r.trans q);have h:=G;rw[f.tl]at h;have t1:=wX M b J L h;have B:=wX M b A Y t1;obtain⟨f1,f2,f3,_⟩:=(oX M b).mp B;have C:=wX M b U y.symm B;rw[<-f.tl]at C;exact cH.mpr #[_,C,y.symm.back M (b.inU M f1) f3]
theorem LvP.nd{d c i f:LN}(j:FamOf h n d)(k:LvP h d c i f):c.Nodup:=by
 have g:d.Nodup:=j.up.imp λ{a b} z e=>by
  subst e;rw[(oO gl d).irr]at z;cases z
 rw[(gX k.cls).2.1];exact List.Nodup.sublist (ul.trans ul) g
theorem LvP.inU(M:Mach H m b n)(g:FamOf b n a)(h:LvP b a c d e):(∀u∈d,u∈dN n)/\d.length<=32:=by
 have f:=pZ M g (c.headD []);rw[<-h.tl]at f;exact#[λu i=>g.inU M (f.mem u i).1,f.few]
theorem NG(F:Fun K "tile" "tile" Et f fd)(C:dC P w K mg base vC 3 [sA,sB,tO] (dt K)):FnOk P w K mg base cG 5 f fd [sA,sM,"k","j"] kq:=by
 refine F.ok OA (λD A e s H vs Q E l h=>?_)
 obtain⟨m,a,k,j,G,n,c,us,I,u,g,rfl,M,J,o,r,i,t,q⟩:=h;have hu:=l.units;obtain⟨s',L,N,bs,O,T,v,h2,h3,U,x,Y,h7,h8⟩:=J;have l5:=x.len;have lj:=(cf.mp o).1;have lk:=(cf.mp r).1;obtain⟨d,y⟩:∃d,O[j]?=some d:=#[_,b7 ()];obtain⟨b,z⟩:∃b,T[k]?=some b:=#[_,b7 ()];have hd:=x.is j d u y o;have hb:=h8 k b g z r;refine#[_,(cy (c8 (dv C l.m zZ (cE (bV (pv 0) (bV (cU fH (cU d6 (pv 1) cD (λ_ _=>rfl)) (pv 3) (λ_ _=>rfl)) (bV (cU fH (cU d6 (pv 1) cD (λ_ _=>rfl)) (pv 2) (λ_ _=>rfl)) cA zZ) zZ) zZ))))),#[_,zZ,_,zZ,a,_,_,_,zZ,zZ,R4 v,zZ,_,zZ,L,_,_,_,zZ,zZ,R3 U,iM (by rw[cz,y];rfl),_,zZ,a,_,_,_,zZ,zZ,R4 v,zZ,_,zZ,N,_,_,_,zZ,zZ,R3 Y,iM (by rw[cz,z];rfl),m,d,b,G,n,u,g,zZ,M,R4 hd,dh (tv M.n5 i) M.n5,(bZ.mp i).2,R3 hb,t,λp H2 g2 B=>?_]];rw[<-BZ M g u i t]at B;exact q p H2 g2 B
theorem Mx(F:Fun K vH vH B9 f fd)(J:dC P w K mg base "tile" 5 [sA,sM,"k","j"] kq)(L:mg "len"=none)(O:mg "range"=none):FnOk P w K mg base cG 7 f fd [sA,sM,"k"] eU:=by
 refine F.ok LR (λT A t s H vs Q E B h=>?_)
 obtain⟨m,a,k,C,n,c,j,v,D,rfl,M,G,U,Y,few,lw,q⟩:=h;have hu:=B.units;obtain⟨s',t',v',bs,ds,cs,h1,h2,h3,h4,h5,h6,h7,h8⟩:=id G;have l5:=h5.len;refine#[_,(cy (c8 (iu (CompSc.to (N:=[sA,sM,"k"]) (osc:=cu B9) {}) zZ zZ (mq zZ O (ci (dM gq zZ L f6 (ci (cU d6 (pv 1) cD (λ_ _=>rfl)) ce)) ce)) (λ_ _ _ _=>hZ) (λ_ _ _ _=>(dv J B.m zZ (cE (bV (pv 1) (bV (pv 2) (bV (pv 3) (bV (pv 0) cA zZ) zZ) zZ) zZ))))))),#[_,zZ,a,_,_,_,zZ,zZ,R4 h1,zZ,t',_,zZ,.inl (R3 h4),(j.length:Int),by rw[bW,l5],(),(),yI (λi l o=>Same H o/\∃d,l=d.map V.ref/\d.length=i/\TupsAt o d ((j.take i).map λu=>cN (b8 C) u D)) (by rw[iW];exact small ()) #[Same.refl _,[],zZ,zZ,zZ,λi b u e=>by simp at e] (λi l o _ p=>?_) (λi l o hi p=>?_) (λl H1 p sg x=>?_)]]
 .obtain⟨_,d,rfl,e,_⟩:=p;rw[bW];lia
 .obtain⟨g,d,rfl,e,r⟩:=p;have e0:V.int (0+(i:Int))=nv i:=by rw[uh]
  have y:i<j.length:=by simpa using hi
  obtain⟨u,z⟩:∃u,j[i]?=some u:=#[_,b7 y];rw[e0];refine#[ie,jt #[_,zZ,_,zZ,_,zZ,_,zZ,m,a,k,i,C,n,c,j,v,u,D,zZ,M.same g,G.same g,z,U,Y u (cF z),lw,λp H2 g2 e2=>#[g.trans g2,d++[p],by simp,by simp[e],?_]]];rw[i8,z,dH];exact v9 (r.same g2) e2
 obtain⟨g1,d,rfl,er,r⟩:=p;rw[iW,gW]at r;have I:=cn x (.lst (d.map V.ref));exact q sg d _ (g1.trans I) bY (r.same I)
theorem LA(F:Fun K vI vI Aj f fd)(jL:dC P w K mg base vC 3 [sA,sB,tO] (dt K))(jO:dC P w K mg base vH 7 [sA,sM,"k"] eU)(jC:mg "tuple"=none):FnOk P w K mg base cG 9 f fd [sA,sM,"k",sG] fm:=by
 refine F.ok qM (λax A am s H vs Q E hr h=>?_)
 obtain⟨m,a,k,l,o,n,an,c,us,I,x,wd,rfl,M,ff,lv,lp,ex,ew,ll,q1,q2⟩:=h;have hu:=hr.units;obtain⟨s',t',v',bs,ds,cs,h1,h2,h3,h4,h5,h6,h7,h8⟩:=id lv;obtain⟨cne,ay,cx,call⟩:=gX lp.cls;have lb:=h3.len;have lk:=(cf.mp ex).1;obtain⟨b,eb⟩:∃b,bs[k]?=some b:=#[_,b7 ()];have hb:=h3.is k b x eb ex;have aa:∀y∈big an,y∈dN n:=λy hy=>ff.inU M (dm.mp hy).1;have mx:=cF ex;have hU:=aa x (call x mx).1;refine#[_,(cq (cT (i:=4) qM.nd zZ Z' (dv jL hr.m zZ (cE (bV (pv 0) (bV (cU fH (cU d6 (pv 1) cD (λ_ _=>rfl)) (pv 2) (λ_ _=>rfl)) (bV (gB (ci (pv 3) ce)) cA zZ) zZ) zZ)))) (cq (fG (hG (Kr hu) (pv 4) (cU d6 (pv 1) cD (λ_ _=>rfl)) (by with_unfolding_all rfl)) (cy (c8 qf)) fJ) (cq (cT (i:=5) qM.nd zZ Z0 (dv jO hr.m zZ (cE (bV (pv 0) (bV (pv 1) (bV (iZ iD B6 Cd (DG hu) (cU d6 (pv 1) cD (λ_ _=>rfl)) (ci (pv 4) ce)) cA zZ) zZ) zZ)))) (cy (c8 (iC nC zZ jC j9 (ci (iu (CompSc.to (N:=[sA,sM,"k",sG,wF,"ends"]) (osc:=cu Aj) (vs:=[vV]) {}) zZ zZ (gY (dv jO hr.m zZ (cE (bV (pv 0) (bV (pv 1) (bV (pv 2) cA zZ) zZ) zZ)))) (λ_ _ _ _=>hZ) (λ_ _ _ _=>(Qh (K:=K) iL zZ (iZ iD B6 Cd (DG hu) (pv 6) (ci (dv jL hr.m zZ (cE (bV (pv 1) (bV (pv 0) (bV (gB (ci (pv 4) ce)) cA zZ) zZ) zZ))) ce))))) ce))))))),?_];obtain⟨uU,few⟩:=lp.inU M ff;have ab:=(lp.go k x wd ex ew).1;have l1:∀z∈[l],z<o.length:=λz hz=>by rw[cJ.mp hz];exact ll
 refine#[_,zZ,_,zZ,a,_,_,_,zZ,zZ,R4 h1,zZ,_,zZ,s',_,_,_,zZ,zZ,R3 h2,iM (by rw[cz,eb];rfl),_,zZ,by show 1<=sizeLine;decide,λp1 J=>?_];have D:=cn J (.lst [nv l]);refine#[m,b,p1,o,n,x,[l],zZ,M.same D,R4 (D _ _ hb),dh (tv M.n5 hU) M.n5,(bZ.mp hU).2,R3 bY,l1,λth H2 ao G=>?_];have g2:=D.trans ao;have L:H2 th=some (.tup ((b8 o x l).map nv)):=G;generalize hy:b8 o x l=y at L q1 q2;have O:=g2 _ _ h2;refine#[_,zZ,_,zZ,a,_,_,_,zZ,zZ,R4 (g2 _ _ h1),zZ,s',1,.tup (gV y),c.map λu=>Dt.tup (gV u),_,zZ,R3 O,by rw[bW,bW,lb],i7 (R4 L),Bx (h3.same g2),by decide,λcc hc=>#[_,zZ,?_]];by_cases my:y∈c
 .have T:=hc.mpr (nB.mpr my);subst T;refine eA ?_;obtain⟨k',ey,no⟩:=Fc my;have ap:=(cf.mp ey).1;obtain⟨q,B⟩:∃q,I[k']?=some q:=#[_,b7 (by rw[lp.len];exact ap)];have ae:=(lp.go k' y q ey B).1;refine#[_,zZ,_,zZ,_,zZ,a,_,_,_,zZ,zZ,R4 (g2 _ _ h1),zZ,.inl #[zZ,_,R3 O],_,zZ,s',_,1,.tup (gV y),c.map λu=>Dt.tup (gV u),_,k',zZ,zZ,R3 O,by rw[bW,bW,lb],i7 (R4 L),Bx (h3.same g2),by decide,fW.mpr ey,λi hi e=>no i hi (fW.mp e),?_];refine#[m,a,k',o,n,c,us,I,q,zZ,M.same g2,lv.same g2,B,uU,few,ae,λen es H3 aq af ag=>?_];have g3:=g2.trans aq;have len:=ag.len;rw[bW]at len;refine#[_,zZ,_,zZ,_,zZ,m,a,k,o,n,c,us,I,wd,zZ,M.same g3,lv.same g3,ew,uU,few,ab,λpl ps H4 U ah ai=>?_];have g4:=g3.trans U;have ar:=ai.len;rw[bW]at ar;refine#[pl,zZ,#[_,R3 ah],mG (xs:=ps.map .ref) (λi C H'=>Same H4 H'/\∃t:bS,C=t.map nv/\t.length=i/\∀(j:Nat) (u:bS) (j':Nat),us[j]?=some u->t[j]?=some j'->∃u',us[j']?=some u'/\cN (b8 o) u' q=b8 o (cN (b8 o) u wd) l) (by rw[bW,db];lia) #[Same.refl _,[],zZ,zZ,λj u j' _ e=>by simp at e] (λi C H' hi p=>?_) (λi v C H' hv p=>?_) (λC H5 p tl as=>?_)]
  .obtain⟨g,t,rfl,e,_⟩:=p;exact#[R3 (g _ _ ah),by rw[bW];lia]
  .obtain⟨g,t,rfl,e,al⟩:=p;rw[cz]at hv;obtain⟨d,ed,rfl⟩:=dW.mp hv;have li:=(cf.mp ed).1;obtain⟨u,eu⟩:∃u,us[i]?=some u:=#[_,b7 ()];have mu:=cF eu;have hd:=g _ _ (ai.is i d _ ed (by rw[cz,eu];rfl));have aj:=oC M (uU u mu) ab;have gH:=g4.trans g;refine#[ie,jt #[_,zZ,.inl #[zZ,_,R3 ((U.trans g) _ _ af)],_,zZ,_,zZ,_,zZ,by show 1<=sizeLine;decide,λp1 J=>?_]];have D:=cn J (.lst [nv l]);refine#[m,d,p1,o,n,_,[l],zZ,M.same (gH.trans D),R4 (D _ _ hd),dh (tv M.n5 aj) M.n5,(bZ.mp aj).2,R3 bY,l1,λca H6 ak e6=>?_];have au:=e6;have g6:=(U.trans g).trans (D.trans ak);have mi:=Iv M ff lp ex ew ll (by rw[hy];exact ey) B mu;obtain⟨j0,Y,av⟩:=Fc mi;refine#[en,_,1,.tup (gV (b8 o (cN (b8 o) u wd) l)),(us.map λu=>cN (b8 o) u q).map λu=>Dt.tup (gV u),_,j0,zZ,zZ,R3 (g6 _ _ af),by rw[bW,bW,bW,len],i7 (R4 au),Bx (ag.same g6),by decide,fW.mpr Y,λi hi e=>av i hi (fW.mp e),?_];refine#[g.trans (D.trans ak),t++[j0],by simp,by simp[e],λj u2 j' e1 G=>?_];by_cases hj:j<t.length
   .rw[d7 hj]at G;exact al j u2 j' e1 G
   .rw[eC ()]at G;have z:j-t.length=0:=by
     have:=(cf.mp G).1;simp at this;lia
    rw[z]at G;cases G;have ji:j=i:=by lia
    subst ji;rw[eu]at e1;cases e1;rw[cz]at Y;obtain⟨u',f1,f2⟩:=dW.mp Y;exact#[u',f1,f2]
  .obtain⟨g5,t,rfl,ej,al⟩:=p;rw[bW]at ej;have kt:=cn as (.lst (t.map nv));refine#[tl,_,zZ,.inl #[R3 bY,λr aw=>?_]];have kr:=cn aw (.tup (t.map nv));exact q2 k' q ey B r t _ (((g4.trans g5).trans kt).trans kr) bY #[(),al]
 .have T:cc=false:=by
   cases cc with
   |false=>rfl
   |true=>exact wC (nB.mp (hc.mp zZ)) my
  subst T;exact fy (q1 my H2 g2)
theorem DD:(dP[0]'(by decide))∈dP:=jv _
theorem EC:(dP[1]'(by decide))∈dP:=jv _
noncomputable def h9(t u:bS):bS:=eX (u.map λr=>t.getD r 0)
theorem lQ:r∈eX a↔r<5/\r∈a:=by
 unfold eX;rw[dm,ft,hO]
theorem Ln(h:∀r,r∈a↔r∈b):eX a=eX b:=by
 refine u7 λi _=>?_;rw[mv,hO,hO];exact h i
theorem Lk{f:Nat->Nat}(h:r<n):((List.range n).map f).getD r 0=f r:=by
 rw[dO,cz,mS h];rfl
theorem Rj(M:Mach H m a n){u w:bS}(b:u∈dN n)(c:∀l∈w,l<a.length):cN (b8 a) u w=h9 (u9 a n w) u:=by
 rw[BZ M w u b c];unfold h9 qe u9
 congr 1
 refine sq λr d=>?_;rw[Lk ((bZ.mp b).2 r d)]
theorem P7(M:Mach H m a n){w:bS}(b:∀l∈w,l<a.length):u9 a n w∈lM n n:=by
 refine cZ.mpr #[L8 a n w,λr c=>?_];obtain⟨x,d,rfl⟩:=cH.mp c;exact pI M w x (ft.mp d) b
noncomputable def dS(a:LN)(x:bS):Nat:=a.findIdx λy=>decide (y=x)
theorem j7(h:x∈a):dS a x<a.length/\a[dS a x]?=some x:=by
 have l:dS a x<a.length:=List.findIdx_lt_length_of_exists #[x,h,dF zZ];refine#[l,?_];rw[b7 l];have z:decide (a[dS a x]=x)=true:=List.findIdx_getElem (w:=l);rw[f7 z]
theorem Aa{a:LN}{x:bS}{j:Nat}(nd:a.Nodup)(h:a[j]?=some x):dS a x=j:=by
 obtain⟨l,e⟩:=j7 (cF h);exact(jj l nd).mp (e.trans h.symm)
noncomputable def wu(a:LN)(t:bS):bS:=a.map λu=>dS a (h9 t u)
noncomputable def gU(a:LN)(n:Nat):LN:=((lM n n).filter λt=>a.all λu=>a.contains (h9 t u)).map (wu a)
theorem fV{x:bS}:x∈gU a n↔ ∃t∈lM n n,(∀u∈a,h9 t u∈a)/\x=wu a t:=by
 unfold gU;rw[cH];constructor
 .rintro⟨t,ht,rfl⟩;obtain⟨b,c⟩:=dm.mp ht;exact#[t,b,λu d=>hO.mp (rj.mp c u d),zZ]
 .rintro⟨t,b,c,rfl⟩;exact#[t,dm.mpr #[b,rj.mpr λu d=>hO.mpr (c u d)],zZ]
theorem Jv(h:n<=5):(gU a n).length<=4000:=by
 unfold gU;rw[bW];exact dh (j8 _ _) (KL h)
theorem EQ{x:bS}(h:x∈gU a n):x.length=a.length/\∀r∈x,r<a.length:=by
 obtain⟨t,_,g,rfl⟩:=fV.mp h;refine#[by simp[wu],λr b=>?_];obtain⟨u,c,rfl⟩:=cH.mp b;exact(j7 (g u c)).1
theorem Ke(nd:a.Nodup)(d:∀u∈a,u∈dN n):List.range a.length∈gU a n:=by
 have b:∀u∈a,h9 (List.range n) u=u:=λu c=>by
  obtain⟨e,f⟩:=bZ.mp (d u c);unfold h9;have:u.map (λr=>(List.range n).getD r 0)=u.map id:=sq λr g=>by
   rw[dO,mS (f r g)];rfl
  rw[this,List.map_id,e]
 refine fV.mpr #[List.range n,Q8 n,λu c=>by rw[b u c];exact c,(nr λj=>?_)];unfold wu;rw[cz];by_cases h:j<a.length
 .rw[mS h,b7 h];show some j=some (dS a (h9 (List.range n) a[j]));rw[b _ (jv h),Aa nd (b7 h)]
 .rw[jg (by simp;lia),List.getElem?_eq_none ()];rfl
theorem P1{t b u:bS}(k:n<=5)(ht:t∈lM n n)(i:u∈dN n):h9 b (h9 t u)=h9 (eJ t b) u:=by
 obtain⟨f,j⟩:=cZ.mp ht;obtain⟨_,g⟩:=bZ.mp i;refine Ln λr=>?_;have e:∀x∈u,(eJ t b).getD x 0=b.getD (t.getD x 0) 0:=λx a=>by
  have h:x<t.length:=by rw[f];exact g x a
  unfold eJ;rw[dO,cz,b7 h,dO (l:=t),b7 h];rfl
 have c:∀x∈u,t.getD x 0<5:=λx a=>by
  have:=xV j (by rw[f];exact g x a);lia
 rw[cH,cH];constructor
 .rintro⟨y,d,rfl⟩;obtain⟨_,d⟩:=lQ.mp d;obtain⟨x,a,rfl⟩:=cH.mp d;exact#[x,a,e x a]
 .rintro⟨x,a,rfl⟩;exact#[t.getD x 0,lQ.mpr #[c x a,cH.mpr #[x,a,zZ]],(e x a).symm]
theorem NR(h:t∈lM n n)(b:a∈lM n n):eJ t a∈lM n n:=by
 obtain⟨c,a2⟩:=cZ.mp h;obtain⟨d,e⟩:=cZ.mp b;refine cZ.mpr #[by unfold eJ;rw[List.length_map,c],λr f=>?_];obtain⟨x,g,rfl⟩:=cH.mp f;exact xV e (by rw[d];exact a2 x g)
theorem GW{x y:bS}(g:n<=5)(h:∀u∈a,u∈dN n)(i:x∈gU a n)(j:y∈gU a n):eJ x y∈gU a n:=by
 obtain⟨t,d,f,rfl⟩:=fV.mp i;obtain⟨c,k,g2,rfl⟩:=fV.mp j;have e:∀u∈a,h9 (eJ t c) u=h9 c (h9 t u):=λu b=>(P1 g d (h u b)).symm;refine fV.mpr #[eJ t c,NR d k,λu b=>by rw[e u b];exact g2 _ (f u b),?_];show(a.map λu=>dS a (h9 t u)).map (λx=>(a.map λu=>dS a (h9 c u)).getD x 0)=_;rw[i0];refine sq λu b=>?_;obtain⟨l,m⟩:=j7 (f u b);show(a.map λu=>dS a (h9 c u)).getD (dS a (h9 t u)) 0=dS a (h9 (eJ t c) u);rw[dO,cz,m,e u b];rfl
theorem Av{f:LN}(M:Mach H m f n)(j:FamOf f n d)(k:LvP f d c h g):h.Nodup:=by
 have i:=pZ M j (c.headD []);rw[<-k.tl]at i;exact i.up.imp λ{a b} z e=>by
  subst e;rw[GD]at z;cases z
theorem Ps(M:Mach H m d n)(y:FamOf d n q)(r:LvP d q c g i){k C l:Nat}{x o s t:bS}(O:c[k]?=some x)(Q:i[k]?=some o)(T:l<d.length)(U:c[C]?=some (b8 d x l))(A:i[C]?=some s)(D:j5 d g o s l t):
  t∈gU g n:=by
 obtain⟨E,_⟩:=r.inU M y;have nd:=Av M y r;have B:=(r.go k x o O Q).1;obtain⟨p,b⟩:=r.bij M y U A;have G:=pZ M y (c.headD []);rw[<-r.tl]at G;have I:∀z∈o++[l]++p,z<d.length:=λz Y=>by
  rcases cW.mp Y with h|h
  .rcases cW.mp h with h|h
   .exact B z h
   .rw[cJ.mp h];exact T
  .exact b.lp z h
 have v:∀j u a,g[j]?=some u->t[j]?=some a->g[a]?=some (h9 (u9 d n (o++[l]++p)) u):=λj u a J f=>by
  obtain⟨L,N,f2⟩:=D.2 j u a J f;have w:=cF N;rw[<-Rj M (E u (cF J)) I,Bk,Bk];show g[a]?=some (cN (b8 d) (b8 d (cN (b8 d) u o) l) p);rw[<-f2,b.back M (E L w) (G.mem L w).2.2];exact N
 have lj:=D.1;refine fV.mpr #[_,P7 M I,λu hu=>?_,?_]
 .obtain⟨j,f⟩:=rc hu;obtain⟨a,e⟩:∃a,t[j]?=some a:=#[_,b7 (by rw[lj];exact(cf.mp f).1)];exact cF (v j u a f e)
 .refine nr λj=>?_;unfold wu;rw[cz];cases f:g[j]? with
  |none=>
   have:=DW.mp f;rw[jg ()];rfl
  |some u=>
   have:=(cf.mp f).1;obtain⟨a,e⟩:∃a,t[j]?=some a:=#[_,b7 ()];rw[e];exact de some (Aa nd (v j u a f e)).symm
theorem Rm{f:LN}(M:Mach H m f n)(r:FamOf f n g)(s:LvP f g c q h){B l:Nat}{y C d D i:bS}(N:c[B]?=some y)(t:h[B]?=some d)(w:j5 f q C d l D)(k:j5 f q C d l i):D=i:=by
 obtain⟨E,_⟩:=s.inU M r;have nd:=Av M r s;obtain⟨p,b⟩:=s.bij M r N t;have x:=pZ M r (c.headD []);rw[<-s.tl]at x;refine yW (by rw[w.1,k.1]) λj a O G Q=>?_;obtain⟨u,I⟩:∃u,q[j]?=some u:=#[_,b7 (by rw[<-w.1];exact(cf.mp G).1)];obtain⟨v,z,T⟩:=w.2 j u a I G;obtain⟨A,J,g2⟩:=k.2 j u O I Q;have L:=cF z;have o:=cF J;have e:v=A:=by
  rw[<-b.back M (E v L) (x.mem v L).2.2,<-b.back M (E A o) (x.mem A o).2.2,T,g2]
 subst e;exact(jj (cf.mp z).1 nd).mp (z.trans J.symm)
theorem IK{b c i f:LN}(M:Mach H m d n)(g:FamOf d n b)(j:LvP d b c i f):0<i.length:=by
 obtain⟨_,_,l,_⟩:=gX j.cls;obtain⟨o,a⟩:=dm.mp l;have h:=pZ M g (c.headD []);rw[<-j.tl]at h;obtain⟨_,k⟩:=bZ.mp (g.inU M o);cases e:c.headD []with
 |nil=>
  rw[e]at a;cases a
 | cons r q=>
  rw[e]at h k a;obtain⟨t,ht,_⟩:=h.all [r] ((g.mem [r]).mpr (.inr #[r,k r (dy ..),zZ])) (λz=>by
   have p:=de List.length z;have a:=f7 a;rw[<-p]at a;simp at a) (by simp[sub])
  exact B8 ht
structure Makers(ts c us wds mk:LN):Prop where
 mem:∀t∈mk,∃(k l k':Nat) (x wd wd':bS),c[k]?=some x/\wds[k]?=some wd/\l<ts.length/\c[k']?=some (b8 ts x l)/\wds[k']?=some wd'/\j5 ts us wd wd' l t
 all:∀(k l:Nat) (x wd:bS),c[k]?=some x->wds[k]?=some wd->l<ts.length->b8 ts x l∈c->∃(k':Nat) (wd' t:bS),t∈mk/\c[k']?=some (b8 ts x l)/\wds[k']?=some wd'/\j5 ts us wd wd' l t
theorem DV:∀{ws} {as},as.length=ws.length->(a3g ws as).map (·.1)=(ws.map (·.1)).map nk
 | [],[],_=>rfl
 |p::ws,a::as,h=>de (nk p.1:: ·) (DV (Nat.succ.inj h))
noncomputable def nX(a:LN)(x:bS)(i:Nat):bS:=eJ x (a.getD i [])
inductive eK(i:List V)(H:Hp)(Q:VK)(g:XK):Prop|mk:∀(m a:Ad) (e:LN) (n:Nat) (d c h b:LN),i=[.ref m,.ref a]->Mach H m e n->FamOf e n d->LvH H a c h b->LvP e d c h b->(∀l j mk f,Same H f->f l=some (.lst (j.map .ref))->TupsAt f j mk->Makers e c h b mk->mk.length<=200->Q (.ref l) f)->eK i H Q g
inductive iP(j:List V)(H:Hp)(Q:VK)(h:XK):Prop|mk:∀(m a:Ad) (f:LN) (n:Nat) (d c g b:LN),j=[.ref m,.ref a]->Mach H m f n->FamOf f n d->LvH H a c g b->LvP f d c g b->Tabs H->(∀l bs i mk k e,Keeps H e->Tabs e->L2.noT H l=none->e l=some (.lst (bs.map .ref))->TupsAt e bs i->i.Perm (k.map (·.1))->i.Pairwise (λx y=>dZ x y=true)->Makers f c g b mk->Told (nX mk) mk.length (List.range g.length) k->Q (.ref l) e)->iP j H Q h
theorem Oa(F:Fun K vD vD C7 f fd)(jU:dC P w K mg base vI 9 [sA,sM,"k",sG] fm)(jD:mg "len"=none)(jB:mg "range"=none):FnOk P w K mg base cG 11 f fd [sA,sM] eK:=by
 refine F.ok jS (λam A ai s H vs Q E hr h=>?_)
 obtain⟨m,a,G,n,aj,c,us,B,rfl,M,ff,lv,lp,q⟩:=h;have hu:=hr.units;refine#[_,(cq (cT (i:=2) jS.nd zZ Z' (gB ce)) (cq (hK iX zZ (mq zZ jB (ci (dM gq zZ jD f6 (ci (cU d6 (pv 1) cD (λ_ _=>rfl)) ce)) ce)) (fB (i:=3) jS.nd zZ Z') (cy (hK iX zZ (mq zZ jB (ci (dM gq zZ jD f6 (ci (pv 0) ce)) ce)) (fB (i:=4) jS.nd zZ Z') (cq (cT (i:=5) jS.nd zZ Z' (dv jU hr.m zZ (cE (bV (pv 0) (bV (pv 1) (bV (pv 3) (bV (pv 4) cA zZ) zZ) zZ) zZ)))) (cy (fG (hG D9 (pv 5) qf (fS _)) (cy (iq (iZ iD lU lL me (pv 2) (ci (pv 5) ce)))) fJ)))))) (cy (c8 (pv 2))))),?_];obtain⟨s',t',v',bs,ds,cs,h1,h2,h3,h4,h5,h6,h7,h8⟩:=id lv;have lb:=h3.len;have t1:=M.some1;have t4:=M.few;obtain⟨rs,hm,ak,_⟩:=M.refs;have an:c.length<=32:=by
  rw[(gX lp.cls).2.1];exact dh (j8 _ _) (dh (j8 _ _) (ff.few M))
 refine#[by decide,λfo ab=>?_];have k0:=cn ab (.lst [])
 let Mk:Nat->Nat->List bS->Prop:=λk l g=>g.length<=4 * k+l/\(∀t∈g,∃(k l J:Nat) (x C o:bS),c[k]?=some x/\B[k]?=some C/\l<G.length/\c[J]?=some (b8 G x l)/\B[J]?=some o/\j5 G us C o l t)/\
  ∀(i j:Nat) (x C:bS),(i<k\/i=k/\j<l)->c[i]?=some x->B[i]?=some C->j<G.length->b8 G x j∈c->∃(J:Nat) (o t:bS),t∈g/\c[J]?=some (b8 G x j)/\B[J]?=some o/\j5 G us C o j t
 let Pk:Nat->L2.St->Hp->Prop:=λk T U=>Same H U/\∃(y:As) (g:LN) (o3 Y o5:Option V),U fo=some (.lst (y.map .ref))/\TupsAt U y g/\Mk k 0 g/\T=[some (.ref m),some (.ref a),some (.ref fo),o3,Y,o5]
 refine#[_,zZ,a,_,_,_,zZ,zZ,R4 (k0 _ _ h1),zZ,s',_,zZ,.inl (R3 (k0 _ _ h2)),(c.length:Int),by rw[bW,lb],(),(),ug Pk #[k0,[],[],none,none,none,bY,#[zZ,λi b u e=>by simp at e],#[Nat.zero_le _,(λt ht=>nomatch ht),λi j x C aa=>by lia],zZ] (λk T H1 hk p=>?_) (λT H1 p=>?_)]
 .obtain⟨g1,y,g,o3,Y,o5,L,T1,K1,rfl⟩:=p;have ae:k<c.length:=by simpa using hk
  have zk:V.int ((0:Int)+((k:Nat):Int))=nv k:=by rw[uh]
  rw[zk];obtain⟨C,ew⟩:∃C,B[k]?=some C:=#[_,b7 (by rw[lp.len];exact ae)];obtain⟨x,ex⟩:∃x,c[k]?=some x:=#[_,b7 ae]
  let Pl:Nat->L2.St->Hp->Prop:=λl T U=>Same H U/\∃(y:As) (g:LN) (Y o5:Option V),U fo=some (.lst (y.map .ref))/\TupsAt U y g/\Mk k l g/\T=[some (.ref m),some (.ref a),some (.ref fo),some (nv k),Y,o5]
  refine#[_,zZ,m,_,zZ,.inr (R4 (g1 _ _ hm)),(G.length:Int),by rw[bW,ak],(),(),ug Pl #[g1,y,g,_,_,L,T1,K1,zZ] (λl T H2 hl p=>?_) (λT H2 p=>?_)]
  .obtain⟨g2,y,g,Y,o5,N,T2,K2,rfl⟩:=p;have af:l<G.length:=by simpa using hl
   have zl:V.int ((0:Int)+((l:Nat):Int))=nv l:=by rw[uh]
   rw[zl];obtain⟨kz,km,O⟩:=K2;refine#[_,zZ,_,zZ,_,zZ,_,zZ,m,a,k,l,G,n,aj,c,us,B,x,C,zZ,M.same g2,ff,lv.same g2,lp,ex,ew,af,λmy H3 g3=>?_,λJ o ey ag tp js H3 g3 ah tb=>?_]
   .refine#[_,zZ,zZ,_,zZ,eA #[g2.trans g3,y,g,_,_,g3 _ _ N,T2.same g3,#[(),km,λi j x' r aa d v I D=>?_],zZ]];by_cases z:i=k/\j=l
    .obtain⟨rfl,rfl⟩:=z;rw[ex]at d;cases d;exact wC D my
    .exact O i j x' r () d v I D
   .refine#[_,zZ,zZ,_,zZ,fy ?_];have e3:=g3 _ _ N;have lq:=T2.len;refine#[_,zZ,.inl #[zZ,_,R3 e3],_,zZ,fo,_,_,zZ,zZ,e3,by rw[bW,db];lia,?_];refine#[iA (g2.trans g3) ab,y++[tp],g++[js],_,_,by rw[bY,dH];rfl,v9 #[lq,λi b u L N=>?_] ?_,#[by rw[di,zr];lia,λt ht=>?_,λi j x' r aa d v I D=>?_],zZ]
    .have z:=(T2.same g3).is i b u L N;rw[bX (nE z e3)];exact z
    .rw[bX (nE ah e3)];exact ah
    .rcases cW.mp ht with z|z
     .exact km t z
     .rw[cJ.mp z];exact#[k,l,J,x,C,o,ex,ew,af,ey,ag,tb]
    .by_cases z:i=k/\j=l
     .obtain⟨rfl,rfl⟩:=z;rw[ex]at d;cases d;rw[ew]at v;cases v;exact#[J,o,js,cW.mpr (.inr (cJ.mpr zZ)),ey,ag,tb]
     .obtain⟨k2,al,t,r1,r2⟩:=O i j x' r () d v I D;exact#[k2,al,t,cW.mpr (.inl r1),r2]
  .obtain⟨g2,y,g,Y,o5,N,T2,⟨kz,km,O⟩,rfl⟩:=p;have el:(G.length:Int).toNat=G.length:=iW _;rw[el]at kz O;exact#[g2,y,g,_,_,_,N,T2,#[(),km,λi j x' r aa d v I D=>O i j x' r () d v I D],zZ]
 .obtain⟨g1,y,g,o3,Y,o5,L,T1,⟨kz,km,O⟩,rfl⟩:=p;have el:(c.length:Int).toNat=c.length:=iW _;rw[el]at kz O;exact#[_,zZ,q fo y g H1 g1 L T1 #[km,λk l x C L N e3 e4=>O k l x C (.inl (cf.mp L).1) L N e3 e4] ()]
theorem JI{I c G B:Ad}{f:Expr}(e:fc oo=[s0,.Return (some (.Call sx [.Call fx [a1,a2,.Lambda a f d lp] kw cp] M N)) rp])(kU:dC P w K mg base wJ 1 [vE,tG] eO) (O:z G=some (.lst (J.map .ref))) (Tm:TupsAt z J i) (mU:∀t∈i,t∈gU C n) (few:C.length<=32) (h1:z I=some (gN I (fq sF a f d vR c pm (.ref B) L))) (h2:z c=some (dU c G oc)) (h3:z B=some (jy B sF)):
  FnOk P w K mg base cG 5 I (fq sF a f d vR c pm (.ref B) L) ["turn","number"] (dE (Same z) (gU C n) i.length (nX i))/\Binds K (fq sF a f d vR c pm (.ref B) L) ["turn","number"] []:=by
 cases e;refine#[Fz (m:=G) (oc:=oc) #[zZ,zZ,zZ,by decide+kernel,by decide+kernel,zZ,by decide+kernel] (λvs H Q E h=>?_) (λvs H Q E h=>?_) (λA T s H vs Q E hr h=>?_),.all λC O=>match C,O with| [_,_],_=>rfl]
 .obtain⟨t,x,l,rfl,_⟩:=h;rfl
 .obtain⟨t,x,l,rfl,g,_⟩:=h;exact#[g _ _ h1,g _ _ h2,g _ _ h3]
 .obtain⟨t,x,l,rfl,g,ht,hx,U,q⟩:=h;refine#[_,(dv kU hr.m zZ (cE (bV (pv 0) (bV (cU fH (pv 2) (pv 1) (λ_ _=>rfl)) cA zZ) zZ))),?_];have hc:=g _ _ h2;have off:∀{b} {u},(∀φ,u≠ .ext φ)->H b=some u->(L2.drop H c) b=some u:=λnu hb=>by
   rw[dX (io hb hc λe=>nu _ e)];exact hb
  have ln:=Tm.len;obtain⟨r,er⟩:∃r,J[l]?=some r:=#[_,b7 ()];have et:i[l]?=some (i.getD l []):=by rw[dO,b7 U];rfl
  have Y:=off (u:= .tup _) (λ_ e=>nomatch e) (g _ _ (Tm.is l r _ er et));have mt:=mU _ (cF et);obtain⟨x1,x2⟩:=EQ hx;obtain⟨y1,y2⟩:=EQ mt;refine#[_,zZ,_,zZ,_,zZ,G,_,_,_,zZ,zZ,R3 (off (λ_ e=>nomatch e) (g _ _ O)),iM (by rw[cz,er];rfl),t,r,x,i.getD l [],zZ,off (λ_ e=>nomatch e) ht,Y,λy D=>by rw[y1];exact x2 y D,(),λp H3 g3 e3 free=>q p _ (λy o ho=>?_) ?_]
  .by_cases D:y=c
   .subst D;rw[hc]at ho;cases ho;exact bY
   .rw[bX D];exact g3 _ _ (by rw[dX D];exact ho)
  .rw[bX (dj e3 free)];exact e3
theorem Lm{cd T:Ad}(F:DefAt K sV oo f fd .none (.ref cd))(hC:PySem.W.CodeHd base cd T)(bm:oA mg base)(hq:((sF:Str),(#[129,61,129,110]:Pos),T)∈dP)(kK:dC P w K mg base vD 11 [sA,sM] eK)(qI:dC P w K mg base "still" 1 [sB] fv)(kU:dC P w K mg base wJ 1 [vE,tG] eO)(qJ:Co P w K mg base sU 8 [vZ,vN,vK,sK] (cY P w K mg base) [.non]) (jD:mg "len"=none) (kQ:mg "sorted"=none):FnOk P w K mg base cG 13 f fd [sA,sM] iP:=by
 refine F.fnOk rT (λvs H Q E h=>?_) (λA ao s H vs Q E h hr=>?_)
 .obtain⟨m,a,ts,n,af,c,us,ag,rfl,_⟩:=h;rfl
 obtain⟨m,a,ts,n,af,c,us,ag,rfl,M,ff,lv,lp,hT,q⟩:=h;refine#[_,?_,(cq (cT (i:=2) rT.nd zZ Z0 (dv kK hr.m zZ (cE (bV (pv 0) (bV (pv 1) cA zZ) zZ)))) (cy (c8 (dM (KQ zZ) zZ kQ boot_sorted (ci (GJ qJ hr.m zZ (j:=2) zZ zZ zZ zZ (cE (bV (dv qI hr.m zZ (ci (dM gq zZ jD f6 (ci (cU d6 (pv 1) cD (λ_ _=>rfl)) ce)) ce)) (bV (dM gq zZ jD f6 (ci (pv 2) ce)) (bV (D1 (qual:=sF) zZ hC bm (λ_ _ _ _ _=>rfl) zZ zZ) cA zZ) zZ) zZ))) ce)))))];refine#[_,zZ,_,zZ,m,a,ts,n,af,c,us,ag,zZ,M,ff,lv,lp,λlm rs mk H1 g1 ap Tm Mk an=>?_];obtain⟨s',t',v',bs,ds,cs,h1,h2,h3,h4,h5,h6,h7,h8⟩:=id (lv.same g1);have l5:=h5.len;obtain⟨uU,few⟩:=lp.inU M ff;have n5:=M.n5;have nd:=Av M ff lp;have mU:∀t∈mk,t∈gU us n:=λt ht=>by
  obtain⟨k,l,k',x,wd,ar,e1,e2,e3,e4,e5,e6⟩:=Mk.mem t ht;exact Ps M ff lp e1 e2 e3 e4 e5 e6
 refine#[_,zZ,a,_,_,_,zZ,zZ,R4 h1,zZ,t',_,zZ,.inl (R3 h4),?_]
 try dsimp only
 rw[bW,l5];refine#[us.length,zZ,(),λst H2 g2 e2=>?_];have L:=g2 _ _ ap;have ab:=Tm.same g2;have T2:=(hT.same g1).same g2;refine#[_,zZ,lm,_,zZ,.inl (R3 L),?_]
 try dsimp only
 rw[bW,ab.len];have ah:∀(B:Hp) (D:Ad) (ws:TW) (as:As),Keeps H B->Tabs B->WordsAt B D ws as->Told (nX mk) mk.length (List.range us.length) ws->iR [.ref D] B Q:=λB D ws as k3 t3 W TT=>by
  have ai:∀p∈ws,p.1∈gU us n:=λp hp=>by
   obtain⟨r1,r2⟩:=TT.run p hp;rw[<-r2];refine pR (Ke nd uU) (λx hx l hl=>GW n5 uU hx ?_) p.2 r1;rw[dO,b7 hl];exact mU _ (jv hl)
  refine#[D,_,ws.map (·.1),zZ,W.dict,?_,λt ht e=>?_,?_,λl bs gs hl Tb pm up=>?_]
  .exact DV W.len
  .obtain⟨p,hp,rfl⟩:=cH.mp ht;have z:=(EQ (ai p hp)).1;rw[e]at z;have:=IK M ff lp
   simp at z;lia
  .refine dh (qv (U:=gU us n) TT.keys λx hx=>?_) (Jv n5);obtain⟨p,hp,rfl⟩:=cH.mp hx;exact ai p hp
  .have gl:=cn hl (.lst (bs.map V.ref));refine q l bs gs mk ws _ (k3.trans gl.keeps) (t3.same gl) ?_ bY (Tb.same gl) pm up Mk TT;cases y:L2.noT H l with
   |none=>rfl
   |some o=>
    have z:=k3 _ _ y;rw[hl]at z;cases z
 have go:∀(N G:Ad) (ct:Vl) (B:Hp) (aj:AV),H2 T=some (.tbl aj)->KeepsBut T H2 B->B T=some (.tbl (jE (#[129,61,129,110]:Pos) G))->B G=some (jy G sF)->∀(d:Arguments) (C:Expr) (g:Scope) (pm:Vl) (I:Ad),B N=some (gN N (fq sF d C g vR I pm (.ref G) ct))->
   ∀O,B I=none->(FnOk P w K mg base cG 5 N (fq sF d C g vR I pm (.ref G) ct) ["turn","number"] (dE (Same (bT B I (dU I lm O))) (gU us n) mk.length (nX mk)))->Binds K (fq sF d C g vR I pm (.ref G) ct) ["turn","number"] []->
   cY P w K mg base [.ref st,nv mk.length,.ref N,.non] (bT B I (dU I lm O)) (λr H4=>H4 I=some (dU I lm O)/\iR [r] (L2.drop H4 I) Q) E0:=λN G ct B aj ak kb h1 h2 d C g pm I h3 O Y hF hB=>by
  have J:=kb.keeps ak;have v:=cn Y (dU I lm O);refine#[st,N,_,_,List.range us.length,mk.length,gU us n,nX mk,zZ,v _ _ (J _ _ (nU e2)),v _ _ h3,Ke nd uU,λx hx l hl=>GW n5 uU hx ?_,Jv n5,(),hF,hB,λD ws as H4 g4 W nw TT=>#[g4 _ _ bY,ah _ D ws as (λb o hb=>?_) (T2.but hq ak (λb o nb hb=>?_) (.inr #[G,?_,?_])) #[W.len,?_,λj a r e1 e2=>?_] TT]]
  .rw[dO,b7 hl];exact mU _ (jv hl)
  .have z:=((g1.trans g2).keeps.trans J) b o hb;rw[dX (dj z Y)];exact g4 _ _ (v _ _ z)
  .have z:=kb b o nb hb;rw[dX (dj z Y)];exact g4 _ _ (v _ _ z)
  .rw[dX (dj h1 Y)];exact g4 _ _ (v _ _ h1)
  .rw[dX (dj h2 Y)];exact g4 _ _ (v _ _ h2)
  .rw[dX (nE W.dict (g4 _ _ bY))];exact W.dict
  .have z:=W.list j a r e1 e2;rw[dX (nE z (g4 _ _ bY))];exact z
 rcases T2 _ hq with u|⟨G,u,aa⟩
 .refine .inl #[u,λN G ct ae aa ne=>#[lm,zZ,λO Y=>?_]];obtain⟨J,aq,al⟩:=Dc (#[129,61,129,110]:Pos) sF u ae aa ne _;have v:=cn Y (dU (s.heap.objs.size+1) lm O);have am:=J.keeps u;obtain⟨F1,F2⟩:=JI zZ kU (v _ _ (am _ _ (nU L))) ((oB ab am).same v) mU few (v _ _ bY) bY (v _ _ al);exact go N G ct _ _ u J aq al _ _ _ _ _ bY O Y F1 F2
 .refine .inr #[G,u,aa,λN ct ae=>#[lm,zZ,λO Y=>?_]];have J:=λlo=>cn ae lo;have v:=cn Y (dU (s.heap.objs.size+1) lm O);obtain⟨F1,F2⟩:=JI zZ kU (v _ _ (J _ _ _ L)) ((ab.same (J _)).same v) mU few (v _ _ bY) bY (v _ _ (J _ _ _ aa));exact go N G ct _ _ u (λb o _ hb=>J _ _ _ hb) (J _ _ _ u) (J _ _ _ aa) _ _ _ _ _ bY O Y F1 F2
theorem OZ{a told:ig}(o:Ord b a told):(∀c∈told,c∈a)/\told.Nodup:=by
 induction o with
 |nil=>exact#[λ_ h=>h,AN]
 | @cons a told s h r d=>
  obtain⟨i1,i2⟩:=d;refine#[λc f=>?_,hX.mpr #[λm=>?_,i2]]
  .rcases cP.mp f with e|e
   .rw[e];exact(dm.mp (List.mem_of_head? h)).1
   .exact(dm.mp (i1 c e)).1
  .have:=f7 (dm.mp (i1 s m)).2;exact this rfl
theorem He{a told:ig}(o:Ord b a told):∀c∈a,c∈told:=by
 induction o with
 |nil=>exact λ_ h=>h
 | @cons a told s h r d=>
  intro c f;by_cases e:c=s
  .rw[e];exact dy ..
  .exact eM _ (d c (dm.mpr #[f,dF e]))
theorem Oe(g:FamOf b n a):(cM b (big a)).Pairwise λc d=>gh gl (c.headD []) (d.headD [])=true:=by
 unfold cM;rw[vb];refine Di ?_ (pK (ul.trans ul) g.up);intro x y i j h;have f:∀z,z∈(big a).filter (λx=>(cO b (big a) x).head? ==some x)->(cO b (big a) z).headD []=z:=λz k=>by
  have e:=eq_of_beq (dm.mp k).2;rw[List.headD_eq_head?_getD,e];rfl
 rw[f x i,f y j];exact h
theorem Cc(M:Mach H m ts n){x y:bS}(a:x∈dN n)(h:d8 ts x y=true):y.length<=x.length:=by
 obtain⟨word,hw,rfl⟩:=cb.mp h;have z:=u0 (C4 (oC M a hw)) λr b=>by
  obtain⟨c,d,e⟩:=(mw M a hw).mp b;exact cH.mpr #[c,d,e]
 rw[bW]at z;exact z
theorem M9(h:gh gl x y=true):y.length<=x.length:=by
 unfold gh su gl at h;split at h
 .lia
 .have:=f7 h;lia
theorem QP(h:gh gl x y=true)(e:x.length=y.length):dZ y x=false:=by
 cases z:dZ y x with
 |false=>rfl
 | true=>
  have b:gh gl y x=true:=by
   unfold gh su gl;rw[wB (by rw[e])];exact z
  have a:=(oO gl [x,y]).trans _ _ _ h b;rw[(oO gl [x,y]).irr]at a;cases a
theorem Gi{b:Type}{R:b->b->Prop}{a:List b}{s d:b}(up:a.Pairwise R)(h:a.head?=some s)(c:d∈a):d=s\/R s d:=by
 cases a with
 |nil=>cases h
 |cons x a=>
  injection h with h
  subst h
  rcases cP.mp c with e|e
  .exact .inl e
  .exact .inr ((we.mp up).1 d e)
structure Due(ts:LN)(rest:ig)(c:LN):Prop where
 most:∀d∈rest,(d.headD []).length<=(c.headD []).length
 free:∀d∈rest,d≠c->d8 ts (d.headD []) (c.headD [])=false
 first:∀d∈rest,(d.headD []).length=(c.headD []).length->(∀e∈rest,e≠d->(e.headD []).length=(d.headD []).length->d8 ts (e.headD []) (d.headD [])=false)->dZ (d.headD []) (c.headD [])=false
theorem OY(un:wh i g)(up:g.Pairwise λc d=>gh gl (c.headD []) (d.headD [])=true)(w:∀c∈g,∀d∈g,d8 i (c.headD []) (d.headD [])=true->(d.headD []).length<=(c.headD []).length)(h:(g.filter λc=> !cS i g c).head?=some s):Due i g s:=by
 obtain⟨E,fs⟩:=dm.mp (List.mem_of_head? h);have free:∀{c:LN},c∈g->(∀e∈g,e≠c->d8 i (e.headD []) (c.headD [])=false)->c∈g.filter λc=> !cS i g c:=λ{c} A f=>by
  refine dm.mpr #[A,?_];rw[Bool.not_eq_true',cS,Bu];intro e j;by_cases z:e=c
  .rw[e8 (λk=>k z),Cp];decide
  .rw[f e j z,Bool.and_false];decide
 have o:=pK (ul (p:=λc=> !cS i g c)) up;have most:∀d∈g,(d.headD []).length<=(s.headD []).length:=λd n=>by
  by_cases lt:(d.headD []).length<=(s.headD []).length
  .exact lt
  obtain⟨t,ht,x⟩:=CN (ts:=i) (cs:=g.filter λe=>decide ((d.headD []).length<=(e.headD []).length)) (λa B b C=>un a (dm.mp B).1 b (dm.mp C).1) _ d (dm.mpr #[n,dF (cg _)]) (cg _);obtain⟨y,u⟩:=dm.mp ht;have u:=f7 u;have v:=free y λe j q=>by
   cases r:d8 i (e.headD []) (t.headD [])with
   |false=>rfl
   |true=>
    have l:=w e j t y r;have m:e∈g.filter λe=>decide ((d.headD []).length<=(e.headD []).length):=dm.mpr #[j,dF ()]
    rw[cS,Bu]at x;exact wC (by rw[dF q,r];rfl) (x e m)
  rcases Gi o h v with z|z
  .rw[<-z];exact u
  .have:=M9 z;lia
 refine#[most,λd n q=>?_,λd n D f=>?_]
 .rw[Bool.not_eq_true',cS,Bu]at fs;have z:=fs d n;rw[dF q,zc]at z;exact wn.mpr z
 .have fd:d∈g.filter λc=> !cS i g c:=free n λe j q=>by
   cases r:d8 i (e.headD []) (d.headD [])with
   |false=>rfl
   |true=>
    have l:=w e j d n r;have l2:=most e j;have z:=f e j q ();rw[r]at z;cases z
  rcases Gi o h fd with z|z
  .rw[z];exact pP _
  .exact QP z D.symm
theorem LH{g told:ig}(o:Ord j g told)(un:wh j g)(up:g.Pairwise λc d=>gh gl (c.headD []) (d.headD [])=true)(n:∀c∈g,∀d∈g,d8 j (c.headD []) (d.headD [])=true->(d.headD []).length<=(c.headD []).length):∀(k:Nat) (c:LN),told[k]?=some c->Due j (told.drop k) c:=by
 induction o with
 |nil=>exact λk c e=>by simp at e
 | @cons g told s h r p=>
  intro k c e;cases k with
  |zero=>
   injection e with e
   subst e;have d:=OY un up n h;have all:=OZ (Ord.cons h r);have mem:∀d,d∈s::told↔d∈g:=λd=>#[all.1 d,He (Ord.cons h r) d]
   rw[List.drop_zero];exact#[λx i=>d.most x ((mem x).mp i),λx i=>d.free x ((mem x).mp i),λx i q f=>d.first x ((mem x).mp i) q λe t=>f e ((mem e).mpr t)]
  |succ k=>
   have u:told[k]?=some c:=by simpa using e
   rw[List.drop_succ_cons];exact p (λa l b m=>un a (dm.mp l).1 b (dm.mp m).1) (pK ul up) (λa l b m=>n a (dm.mp l).1 b (dm.mp m).1) k c u
theorem Ie(M:Mach H m ts n)(a:FamOf ts n d){c:LN}(b:c∈cM ts (big d)){x:bS}(e:x∈c):x.length=(c.headD []).length:=by
 obtain⟨_,_,f,call⟩:=gX b;obtain⟨g,h,i⟩:=call x e;have j:=Cc M (a.inU M (dm.mp f).1) (cb.mpr h);have l2:=Cc M (a.inU M (dm.mp g).1) (cb.mpr i);lia
theorem QC{x t:bS}(c:x∈dN n)(ht:t∈dN n)(s:sub t x=true)(d:t≠x):t.length<x.length:=by
 have f:∃r∈x,r∉t:=by
  apply Cq;intro no;refine d (Gn ht c s (cw.mpr λr a=>?_));apply Cq;exact λz=>no #[r,a,z]
 obtain⟨r,a,g⟩:=f;have z:=u0 (C4 ht) λy b=>(z5 λ(e:y=r)=>g (e▸b)).mpr (cw.mp s y b);rw[D6 a]at z;have:=B8 a;lia
theorem Kw{x:bS}(i:x∈big d):∃c∈cM ts (big d),x∈c:=by
 have self:=CD (ts:=ts) i;cases e:cO ts (big d) x with
 |nil=>rw[e]at self;cases self
 | cons y rest=>
  have j:y∈cO ts (big d) x:=by rw[e];exact dy ..
  obtain⟨k,f⟩:=dm.mp j;rw[mK]at f;have g:=cb.mp f.1;have h:=cb.mp f.2;have same:cO ts (big d) y=cO ts (big d) x:=by
   refine u7 λz _=>?_;rw[mv,mK,mK,cb,cb,cb,cb];exact#[λ⟨a,b⟩=>#[g.trans a,b.trans h],λ⟨a,b⟩=>#[h.trans a,b.trans g]]
  refine#[cO ts (big d) y,cH.mpr #[y,dm.mpr #[k,?_],zZ],by rw[same];exact self];rw[same,e];simp
theorem NS(M:Mach H m e n)(b:FamOf e n a)(f:LvP e a c j d){k:Nat}{x l:bS}(o:c[k]?=some x)(p:d[k]?=some l)(y):y∈(j.map λu=>cN (b8 e) u l)↔y∈jf a x:=by
 obtain⟨w,h⟩:=f.bij M b o p;obtain⟨_,_,q,call⟩:=gX f.cls;have r:=b.inU M (dm.mp q).1;have s:=b.inU M (dm.mp (call x (cF o)).1).1;constructor
 .intro g;obtain⟨u,i,rfl⟩:=cH.mp g;exact wX M b r h (by rw[<-f.tl];exact i)
 .intro g;have z:=wX M b s h.symm g;rw[<-f.tl]at z;obtain⟨t,A,v,_⟩:=(oX M b).mp g;exact cH.mpr #[_,z,h.symm.back M (b.inU M t) v]
theorem Nx{s c f t:LN}(M:Mach H m d n)(y:FamOf d n s)(J:LvP d s c f t){k k' l:Nat}{x q A:bS}(ex:c[k]?=some x)(ew:t[k]?=some q)(ll:l<d.length)(ey:c[k']?=some (b8 d x l))(L:j5 d f q A l o):o.Perm (List.range f.length):=by
 obtain⟨_,_,cx,call⟩:=gX J.cls;obtain⟨p,E⟩:=J.bij M y ex ew;obtain⟨xb,N,aa⟩:=call x (cF ex);obtain⟨yb,ae,O⟩:=call _ (cF ey);have xU:=y.inU M (dm.mp xb).1;have fU:=y.inU M (dm.mp cx).1;obtain⟨p2,b2⟩:=D2 M (w:=[l]) xU (λz hz=>by rw[cJ.mp hz];exact ll) zZ (O.trans N);have Q:=pZ M y (c.headD []);rw[<-J.tl]at Q;have T:f.Nodup:=Q.up.imp λ{a b} z e=>by
  subst e;rw[GD]at z;cases z
 obtain⟨lj,L⟩:=L;have back:∀u∈f,cN (b8 d) (cN (b8 d) (b8 d (cN (b8 d) u q) l) p2) p=u:=λu hu=>by
  obtain⟨h1,h2,h3⟩:=Q.mem u hu;have U:=y.inU M h1;have s1:sub (cN (b8 d) u q) x=true:=by
   have z:=yH M U fU E.lw h3;rw[E.to]at z;exact z
  have z:cN (b8 d) (b8 d (cN (b8 d) u q) l) p2=cN (b8 d) u q:=b2.back M (oC M U E.lw) s1;rw[z];exact E.back M U h3
 have r:∀i,i<o.length->∃u g,f[i]?=some u/\o[i]?=some g/\g<f.length/\∃B,f[g]?=some B/\cN (b8 d) B A=b8 d (cN (b8 d) u q) l:=λi G=>by
  obtain⟨u,C⟩:∃u,f[i]?=some u:=#[_,b7 ()];obtain⟨g,D⟩:∃g,o[i]?=some g:=#[_,b7 G];obtain⟨B,I,Y⟩:=L i u g C D;exact#[u,g,C,D,(cf.mp I).1,B,I,Y]
 have nd:o.Nodup:=by
  rw[Ga,oM];intro i j G hj ij e;obtain⟨u,a,C,ea,_,B,I,Y⟩:=r i G;obtain⟨v,b,ev,eb,_,v',g1,g2⟩:=r j hj;rw[b7 G]at ea;rw[b7 hj]at eb;have ab:a=b:=by
   have z1:=fK ea;have z2:=fK eb;rw[<-z1,<-z2];exact e
  subst ab;rw[I]at g1;cases g1;have uv:u=v:=by rw[<-back u (cF C),<-back v (cF ev),<-Y,<-g2]
  subst uv;have:=(jj () T).mp (C.trans ev.symm);lia
 have sb:∀a∈o,a<f.length:=λa ha=>by
  obtain⟨i,ei⟩:=fF.mp ha;obtain⟨_,g,_,D,lt,_⟩:=r i (cf.mp ei).1;rw[ei]at D;cases D;exact lt
 refine(List.perm_ext_iff_of_nodup nd List.nodup_range).mpr λa=>#[λh=>ft.mpr (sb a h),λh=>?_];by_cases z:a∈o
 .exact z
 .have le:=u0 nd λb hb=>(z5 λ(e:b=a)=>z (by rw[<-e];exact hb)).mpr (ft.mpr (sb b hb));rw[D6 h,lK]at le;have:=ft.mp h;lia
theorem LvH.keeps(h:LvH H a c e d)(g:Keeps H H'):LvH H' a c e d:=by
 obtain⟨s,t,v,bs,ds,f,i,j,l,m,n,o,p,q⟩:=h;exact#[s,t,v,bs,ds,f,g _ _ (nU i),g _ _ (nU j),oB l g,g _ _ (nU m),oB n g,g _ _ (nU o),p,λk b r u w=>g _ _ (nU (q k b r u w))]
theorem ow{H c:Hp}(g:Keeps H c)(n:L2.noT H l=none):Keeps H (bT c l o):=λb u a=>by
 rw[bX (λz=>by rw[z,n]at a;cases a)];exact g b u a
inductive Gen (S:bS->Prop) (N:Nat):bS->Prop
 |base:Gen S N (List.range N)
 |step {x m:bS}:Gen S N x->S m->Gen S N (eJ x m)
theorem NL:∀v x,(∀i∈v,i<a.length)->Gen (· ∈a) N x->Gen (· ∈a) N (cN (nX a) x v):=by
 intro v
 induction v with
 |nil=>exact λx _ h=>h
 |cons i v d=>
  intro x b h;have c:=b i (dy ..);refine d (nX a x i) (λl e=>b l (eM _ e)) ?_;show Gen _ _ (eJ x (a.getD i []));rw[dO,b7 c];exact .step h (jv c)
theorem P5(T:Told (nX a) a.length (List.range N) e)(t):t∈e.map (·.1)↔Gen (· ∈a) N t:=by
 constructor
 .intro h;obtain⟨p,b,rfl⟩:=cH.mp h;obtain⟨c,d⟩:=T.run p b;rw[<-d];exact NL p.2 _ c .base
 .intro h
  induction h with
  |base=>exact cH.mpr #[_,cF T.head,zZ]
  | @step x m _ j k=>
   obtain⟨i,f⟩:=rc j;have l:=(cf.mp f).1;obtain⟨p,b,rfl⟩:=cH.mp k;obtain⟨c,d⟩:=T.run p b;obtain⟨u,g,_⟩:=T.least _ (p.2++[i]) zZ λx n=>(cW.mp n).elim (c x) λz=>by rw[cJ.mp z];exact l
   have o:cN (nX a) (List.range N) (p.2++[i])=eJ p.1 m:=by
    have q:nX a p.1 i=eJ p.1 m:=by
     show eJ _ (a.getD i [])=_;rw[dO,f];rfl
    rw[<-q,<-d];unfold cN;rw[pq];rfl
   rw[o]at g;exact cH.mpr #[_,g,zZ]
theorem Mi(h:∀t,S t↔a t)(t):Gen S N t↔Gen a N t:=by
 have e:=funext λt=>propext (h t);rw[e]
def sm(d c g a:LN)(t:bS):Prop:=∃(k l e:Nat) (x f b:bS),c[k]?=some x/\a[k]?=some f/\l<d.length/\c[e]?=some (b8 d x l)/\a[e]?=some b/\j5 d g f b l t
theorem Qg{d c f a g:LN}(M:Mach H m b n)(h:FamOf b n d)(i:LvP b d c f a)(Mk:Makers b c f a g)(t:bS):t∈g↔sm b c f a t:=by
 refine#[Mk.mem t,?_];rintro⟨k,l,C,x,p,q,r,s,u,e,j,v⟩;obtain⟨k2,w,D,y,z,o,A⟩:=Mk.all k l x p r s u (cF e);have B:=(jj (cf.mp e).1 (i.nd h)).mp (e.trans z.symm);subst B;rw[j]at o;cases o;rw[Rm M h i e j v A];exact y
theorem KJ(h:∀r∈x,r<N):eJ x (List.range N)=x:=by
 unfold eJ;have:x.map (λr=>(List.range N).getD r 0)=x.map id:=sq λr a=>by
  rw[dO,mS (h r a)];rfl
 rw[this,List.map_id]
theorem NB(h:t.length=N):eJ (List.range N) t=t:=by
 subst h;refine nr λj=>?_;unfold eJ;rw[cz];by_cases z:j<t.length
 .rw[mS z,b7 z];show some (t.getD j 0)=_;rw[dO,b7 z];rfl
 .rw[jg (by simp;lia),List.getElem?_eq_none ()];rfl
theorem zq{t:bS}(h:t.Perm (List.range N)):t.length=N/\∀r∈t,r<N:=#[by rw[h.length_eq,lK],λr a=>ft.mp (h.mem_iff.mp a)]
theorem Na(a:∀m,S m->m.Perm (List.range N))(h:Gen S N t):t.Perm (List.range N):=by
 induction h with
 |base=>exact List.Perm.refl _
 | @step x m _ b c=>
  have z:=c.map λr=>m.getD r 0;exact z.trans ((List.Perm.of_eq (NB (zq (a m b)).1)).trans (a m b))
theorem Gh:∀n k g,g.Perm (List.range' k n)->gi g (List.range' k n)=none\/gi g (List.range' k n)=some false
 |0,k,g,h=>by
  rw[h.eq_nil];exact .inl rfl
 |n+1,k,[],h=>wC h.length_eq (by simp)
 | n+1,k,a::g,h=>by
  rw[List.range'_succ]at h|-;have b:=h.mem_iff.mp (dy ..);show(if a=k then gi g (List.range' (k+1) n)else some (decide (a<k)))=none\/(if a=k then gi g (List.range' (k+1) n)else some (decide (a<k)))=some false;by_cases e:a=k
  .subst e;rw[wB zZ];exact Gh n (a+1) g (List.perm_cons a |>.mp h)
  .rw[wA e];refine .inr (de some (e8 ?_))
   rcases cP.mp b with z|z
   .exact wC z e
   .have:=(List.mem_range'_1.mp z).1;lia
theorem Pn{a:LN}(pm:∀t∈a,t.Perm (List.range N))(up:a.Pairwise λx y=>dZ x y=true)(h:List.range N∈a):a[0]?=some (List.range N):=by
 cases a with
 |nil=>cases h
 | cons g a=>
  rcases cP.mp h with e|e
  .rw[e];rfl
  .have z:=(we.mp up).1 _ e;have p:=pm g (dy ..);rw[List.range_eq_range']at p z;have b:=p.length_eq;unfold dZ at z
   rcases Gh N 0 g p with y|y
   .rw[y]at z;have:=f7 z;lia
   .rw[y]at z;cases z
theorem GC:∀{a:TW},(a.map (·.1)).Nodup->(x,u)∈a->(x,v)∈a->u=v
 | [],_,h,_=>nomatch h
 | p::a,nd,d,b=>by
  obtain⟨c,e⟩:=hX.mp nd
  rcases cP.mp d with e1|e1
  .rcases cP.mp b with e2|e2
   .rw[<-e1]at e2;injection e2 with _ e2
    exact e2.symm
   .exact wC (cH.mpr #[_,e2,by rw[<-e1]]) c
  .rcases cP.mp b with e2|e2
   .exact wC (cH.mpr #[_,e1,by rw[<-e2]]) c
   .exact GC e e1 e2
def Wds(b c a:LN):Prop:=a.length=c.length/\∃d,Told (b8 b) b.length (c.headD []) d/\∀(k:Nat) (x e:bS),c[k]?=some x->a[k]?=some e->(x,e)∈d
theorem Wds.uniq(h:Wds i c e)(n:Wds i c d):e=d:=by
 obtain⟨r,s,T,a⟩:=h;obtain⟨l2,o,p,b⟩:=n;cases T.uniq p;refine nr λk=>?_;by_cases q:k<c.length
 .obtain⟨g,j⟩:∃g,e[k]?=some g:=#[_,b7 ()];obtain⟨f,l⟩:∃f,d[k]?=some f:=#[_,b7 ()];have m:=b7 q;rw[j,l,GC T.keys (a k _ g m j) (b k _ f m l)]
 .rw[jg (),jg ()]
theorem Ord.uniq{c told a:ig}(h:Ord b c told)(d:Ord b c a):told=a:=by
 induction h generalizing a with
 |nil=>
  cases d with
  |nil=>rfl
  |cons h r=>cases h
 | cons h r f=>
  cases d with
  |nil=>cases h
  |cons e g=>
   rw[h]at e;cases e;rw[f g]
theorem LevAt.lvw(h:LevAt H l p d (big d) D a c)(E:c∈cM p (big d)):∃e,LvH H a c (jf d (c.headD [])) e/\LvP p d c (jf d (c.headD [])) e/\Wds p c e:=by
 obtain⟨s,t,v,bs,G,u,i,y,I,h2,h3,h4,h5,J,L,M,N,w,O,Q,T,g,U,z⟩:=h;obtain⟨e,A,l2⟩:=DM (P:=λk f=>∃x b,c[k]?=some x/\u[k]?=some b/\(x,f)∈y.2.1/\H b=some (.lst (f.map nv))) λk Y=>by
  obtain⟨x,B⟩:∃x,c[k]?=some x:=#[_,b7 Y];obtain⟨b,C⟩:∃b,u[k]?=some b:=#[_,b7 ()];obtain⟨f,q,r⟩:=z k x b B C;exact#[f,x,b,B,C,q,r]
 have j:∀k x f,c[k]?=some x->e[k]?=some f->(x,f)∈y.2.1:=λk x f m o=>by
  obtain⟨x',b',q,_,z3,_⟩:=l2 k f o;rw[m]at q;cases q;exact z3
 refine#[e,#[s,t,v,bs,G,u,I,J,L,M,N,w,(),λk b f m o=>?_],#[E,zZ,A,λk x f m o=>g.run _ (j k x f m o)],A,y.2.1,g,j];obtain⟨x',b',_,r,_,z4⟩:=l2 k f o;rw[m]at r;cases r;exact z4
inductive gC(b:List V)(H:Hp)(Q:VK)(a:XK):Prop|mk:∀i:Int,b=[.int i]->Q (.bl true) H->gC b H Q a
theorem MK(F:Fun K vP vP FF f fd)(b:mg "isinstance"=none)(c:mg "int"=none)(d:mg "bool"=none):FnOk P w K mg base cG 1 f fd [sT] gC:=by
 refine F.ok MS (λe A a s H g Q E j h=>?_)
 obtain⟨i,rfl,q⟩:=h;refine#[_,(cy (c8 (v4 (dM tj zZ b mI (cE (bV (pv 0) (bV (rb zZ c boot_int) cA zZ) zZ))) (zI (Q6 (dM tj zZ b mI (cE (bV (pv 0) (bV (rb zZ d boot_bool) cA zZ) zZ)))))))),#[_,zZ,_,_,_,_,zZ,.int i,Op,_,zZ,fy ?_]];exact#[_,zZ,_,_,_,_,zZ,.int i,Mf,_,zZ,q]
structure Lv where
 c:LN
 us:LN
 wds:LN
 gs:LN
structure GrpOf(ts c us wds gs:LN):Prop where
 up:gs.Pairwise λx y=>dZ x y=true
 mem:∀t,t∈gs↔Gen (sm ts c us wds) us.length t
theorem GrpOf.uniq{d c e a f b:LN}(h:GrpOf d c e a f)(g:GrpOf d c e a b):f=b:=CQ pP By h.up g.up λt=>(h.mem t).trans (g.mem t).symm
theorem QZ{d c e a f g:LN}(M:Mach H m b n)(i:FamOf b n d)(j:LvP b d c e a)(pm:g.Perm (h.map (·.1)))(up:g.Pairwise (λx y=>dZ x y=true))(Mk:Makers b c e a f)(TT:Told (nX f) f.length (List.range e.length) h):GrpOf b c e a g:=
 #[up,λt=>by rw[pm.mem_iff,P5 TT,Mi (Qg M i j Mk)]]
structure LvOk(ts fam:LN)(L:Lv):Prop where
 p:LvP ts fam L.c L.us L.wds
 w:Wds ts L.c L.wds
 g:GrpOf ts L.c L.us L.wds L.gs
theorem LvOk.uniq(h:LvOk ts a L)(d:LvOk ts a b)(e:L.c=b.c):L=b:=by
 obtain⟨c,i,j,m⟩:=L;obtain⟨n,f,g,k⟩:=b;cases e;have l:=h.p.tl.trans d.p.tl.symm;cases l;cases h.w.uniq d.w;cases h.g.uniq d.g;rfl
structure RowOf(ts:LN)(n:Nat)(fam:LN)(Ls:List Lv):Prop where
 ff:FamOf ts n fam
 od:Ord ts (cM ts (big fam)) (Ls.map (·.c))
 few:Ls.length<=32
 ok:∀L∈Ls,LvOk ts fam L
theorem RowOf.uniq(h:RowOf j n c d)(g:RowOf j n a b):c=a/\d=b:=by
 cases h.ff.uniq g.ff;refine#[zZ,?_];have e:=h.od.uniq g.od;have len:d.length=b.length:=by rw[<-bW,e,bW]
 refine BL len λi k m=>(h.ok _ (jv k)).uniq (g.ok _ (jv m)) ?_;have z:=de (λl=>l[i]?) e;simpa[k,m]using z
theorem LvOk.isPm(M:Mach H m ts n)(a:FamOf ts n c)(ok:LvOk ts c L):∀t,sm ts L.c L.us L.wds t->t.Perm (List.range L.us.length):=λ_ ⟨_,_,_,_,_,_,b,d,e,f,_,g⟩=>Nx M a ok.p b d e f g
theorem LvOk.pm(M:Mach H m ts n)(a:FamOf ts n c)(ok:LvOk ts c L){t:bS}(h:t∈L.gs):t.Perm (List.range L.us.length):=Na (ok.isPm M a) ((ok.g.mem t).mp h)
theorem LvOk.nd(ok:LvOk ts c L):L.gs.Nodup:=ok.g.up.imp λ{a b} z e=>by
 subst e;rw[pP]at z;cases z
theorem LvOk.first(M:Mach H m ts n)(a:FamOf ts n c)(ok:LvOk ts c L):L.gs[0]?=some (List.range L.us.length):=Pn (λ_ ht=>ok.pm M a ht) ok.g.up ((ok.g.mem _).mpr .base)
noncomputable def fj(a:LN)(b:As):List (List cQ×V):=a3g (a.map λx=>(x,[])) b
theorem G'(h:b.length=a.length):(fj a b).length=a.length:=by
 unfold fj L2.a3g;rw[List.length_zipWith,bW,h,Nat.min_self]
theorem JY(h:c.length=b.length)(d:x∉b):jq (fj b c) (nk x) (.ref a)=fj (b++[x]) (c++[a]):=by
 unfold fj;rw[yy _ (t7 (by rw[zu];exact d)),dH];exact(Dd (p:=(x,[])) (by rw[bW,h])).symm
theorem Nw{b:LN}{c:As}{x:bS}{a:Ad}{k:Nat}(nd:b.Nodup)(d:b[k]?=some x)(e:c[k]?=some a):gn (fj b c) (nk x)=some (.ref a):=Cu (p:=(x,[])) (by rw[zu];exact nd) (by rw[cz,d];rfl) e
theorem PP(h:x∉a):gn (fj a b) (nk x)=none:=t7 (by rw[zu];exact h)
theorem ve{D b a:Ad}{c:LN}{d:As}{x:bS}{k:Nat}(nd:c.Nodup)(e:H D=some (.dT (fj c d)))(f:H b=some (.tup (x.map nv)))(g:c[k]?=some x)(h:d[k]?=some a):DGet H D (.ref b) (some (.ref a)):=
 .inr #[_,nk x,b,.inl e,zZ,by rw[g7];exact f,(Nw nd g h).symm]
theorem An{x:bS}(d:H D=some (.dT (fj a c)))(e:H b=some (.tup (x.map nv)))(h:x∉a):DGet H D (.ref b) none:=
 .inr #[_,nk x,b,.inl d,zZ,by rw[g7];exact e,(PP h).symm]
noncomputable def tl(a b:LN)(c:bS):LN:=b.map λu=>cN (b8 a) u c
noncomputable def TiledAs(H:Hp)(e f b:LN)(g:As):Prop:=∀(k:Nat) (c:bS) (a:Ad),b[k]?=some c->g[k]?=some a->∃d,H a=some (.lst (d.map .ref))/\TupsAt H d (tl e f c)
def TiledAt(H:Hp)(t:Ad)(d c e a:LN):Prop:=∃b,H t=some (.dT (fj c b))/\b.length=c.length/\TiledAs H d e a b
noncomputable def TurnL(H:Hp)(b c h d:LN)(x i:bS)(e:List V):Prop:=e.length=b.length/\∀(l:Nat) (v:V),e[l]?=some v->(b8 b x l∉c/\v=.non)\/∃(p:Ad) (f:bS) (g:Nat) (a:bS),v=.ref p/\H p=some (.tup (f.map nv))/\c[g]?=some (b8 b x l)/\d[g]?=some a/\j5 b h i a l f
noncomputable def TurnsAs(H:Hp)(f c g b:LN)(h:As):Prop:=∀(k:Nat) (x d:bS) (a:Ad),c[k]?=some x->b[k]?=some d->h[k]?=some a->∃e,H a=some (.lst e)/\TurnL H f c g b x d e
def TurnsAt(H:Hp)(t:Ad)(d c e a:LN):Prop:=∃b,H t=some (.dT (fj c b))/\b.length=c.length/\TurnsAs H d c e a b
noncomputable def Stays(f:HO->Bool)(H a:Hp):Prop:=∀b o,f o=false->H b=some o->a b=some o
noncomputable def xB:HO->Bool
 |.tbl _=>true
 |_=>false
noncomputable def Dq:HO->Bool
 |.tbl _=>true
 |.dT _=>true
 |_=>false
noncomputable def oW:HO->Bool
 |.ins _ _ _=>true
 |_=>false
noncomputable def C5:HO->Bool
 |.lst _=>true
 |_=>false
abbrev wc:=Stays Dq
abbrev zn:=Stays C5
theorem Stays.a{f:HO->Bool}(g:Stays f H H')(h:H b=some o)(d:f o=false:=by rfl):H' b=some o:=g b o d h
theorem nz(h:H a=some o)(d:xB o=false:=by rfl):L2.noT H a=some o:=qa h λb e=>by subst e;cases d
theorem DN{H a:Hp}(g:Keeps H a):Stays xB H a:=λb o d h=>g b o (nz h d)
theorem xg(g:Same H a):wc H a:=λb o _ h=>g b o h
theorem Stays.off{a:List (List cQ×V)}(h:H D=some (.dT a)):wc H (bT H D o):=λb u n c=>by
 rw[bX (io c h λe=>by rw[e]at n;cases n)];exact c
theorem Stays.offL(h:H D=some (.lst c)):zn H (bT H D o):=λb u n a=>by
 rw[bX (io a h λe=>by rw[e]at n;cases n)];exact a
theorem Stays.offI(h:H D=some (.ins C d fs)):Stays oW H (bT H D o):=λb u n a=>by
 rw[bX (io a h λe=>by rw[e]at n;cases n)];exact a
section
variable{f:HO->Bool}
theorem Stays.tups(g:Stays f H H')(T:TupsAt H bs j)(a:∀c,f (.tup c)=false:=by intro;rfl):TupsAt H' bs j:=#[T.len,λi b u d e=>g _ _ (a _) (T.is i b u d e)]
theorem TiledAs.lts(h:TiledAs H m j d c)(g:Stays f H H')(e:∀b,f (.lst b)=false:=by intro;rfl)(i:∀b,f (.tup b)=false:=by intro;rfl):TiledAs H' m j d c:=λk l a n o=>let⟨p,q,r⟩:=h k l a n o;#[p,g _ _ (e _) q,g.tups r i]
theorem TurnL.lts(h:TurnL H m c j d x b i)(g:Stays f H H')(k:∀n,f (.tup n)=false:=by intro;rfl):TurnL H' m c j d x b i:=#[h.1,λl v e=>(h.2 l v e).imp id λ⟨p,o,q,a,r,s,t⟩=>#[p,o,q,a,r,g _ _ (k _) s,t]]
theorem TurnsAs.lts(h:TurnsAs H m c j d e)(g:Stays f H H')(i:∀b,f (.lst b)=false:=by intro;rfl)(l:∀b,f (.tup b)=false:=by intro;rfl):TurnsAs H' m c j d e:=λk x n a o p q=>let⟨r,s,t⟩:=h k x n a o p q;#[r,g _ _ (i _) s,t.lts g l]
theorem TiledAt.keeps(h:TiledAt H t m c j d)(g:Keeps H H'):TiledAt H' t m c j d:=let⟨a,b,e,f⟩:=h;#[a,g _ _ (nz b),e,f.lts (DN g)]
theorem TurnsAt.keeps(h:TurnsAt H t m c j d)(g:Keeps H H'):TurnsAt H' t m c j d:=let⟨a,b,e,f⟩:=h;#[a,g _ _ (nz b),e,f.lts (DN g)]
end
noncomputable def zK(m g t u:Ad)(k:Nat):List (Str×V):=[(sA,.ref m),(sH,.ref g),(sJ,.ref t),(sO,.ref u),(sQ,nv k)]
theorem zx:(zK m g t u k).lookup (sA:Str)=some (.ref m):=by kernel_rfl
theorem xj:(zK m g t u k).lookup (sH:Str)=some (.ref g):=by kernel_rfl
theorem oJ:(zK m g t u k).lookup (sJ:Str)=some (.ref t):=by kernel_rfl
theorem xR:(zK m g t u k).lookup (sO:Str)=some (.ref u):=by kernel_rfl
def StepAt(C:Ad)(H:Hp)(q m:Ad)(a:LN)(L:Lv):Prop:=∃(c g t u:Ad) (b:As),H q=some (.ins C c (zK m g t u L.us.length))/\H g=some (.lst (b.map .ref))/\TupsAt H b L.gs/\TiledAt H t a L.c L.us L.wds/\TurnsAt H u a L.c L.us L.wds
theorem StepAt.keeps(h:StepAt C H q m a L)(k:Keeps H H'):StepAt C H' q m a L:=
 let⟨b,g,t,u,c,d,e,f,i,j⟩:=h;#[b,g,t,u,c,k _ _ (nz d),k _ _ (nz e),oB f k,i.keeps k,j.keeps k]
structure StepsAt(C:Ad)(H:Hp)(qs:As)(m:Ad)(ts:LN)(Ls:List Lv):Prop where
 len:qs.length=Ls.length
 is:∀(i:Nat) (q:Ad) (L:Lv),qs[i]?=some q->Ls[i]?=some L->StepAt C H q m ts L
theorem StepsAt.keeps(h:StepsAt C H a m b c)(k:Keeps H H'):StepsAt C H' a m b c:=#[h.len,λi q L d e=>(h.is i q L d e).keeps k]
noncomputable def rq(r s:Ad):List (Str×V):=[(sB,.ref r),(tN,.ref s)]
theorem EF:(rq r s).lookup (sB:Str)=some (.ref r):=by kernel_rfl
theorem Ae:(rq r s).lookup (tN:Str)=some (.ref s):=by kernel_rfl
def RowAt(b CR:Ad)(H:Hp)(p m:Ad)(c:LN)(n:Nat)(d:List Lv):Prop:=∃(e r s:Ad) (a:As),H p=some (.ins CR e (rq r s))/\H r=some (.tup ((List.range n).map nv))/\H s=some (.lst (a.map .ref))/\StepsAt b H a m c d
theorem RowAt.keeps{a CR:Ad}(h:RowAt a CR H p m b n c)(k:Keeps H H'):RowAt a CR H' p m b n c:=
 let⟨d,r,s,e,f,g,i,j⟩:=h;#[d,r,s,e,k _ _ (nz f),k _ _ (nz g),k _ _ (nz i),j.keeps k]
inductive gL(C:Ad)(j:List V)(H:Hp)(Q:VK)(i:XK):Prop|mk:∀(d:Hp) (p l m a:Ad) (e:LN) (n:Nat) (f c g b:LN),j=[.ref p,.ref m,.ref a]->Same d H->d p=none->H p=some (.ins C l [])->Mach d m e n->FamOf e n f->LvH d a c g b->LvP e f c g b->Tabs d->(∀k h,Keeps d h->Tabs h->GrpOf e c g b k->StepAt C h p m e #[c,g,b,k]->Q .non h)->gL C j H Q i
inductive eW(f CR:Ad)(g:List V)(H:Hp)(Q:VK)(c:XK):Prop|mk:∀(a:Hp) (p i m:Ad) (d:LN) (n:Nat),g=[.ref p,.ref m]->Same a H->a p=none->H p=some (.ins CR i [])->Mach a m d n->Tabs a->(∀e h b,Keeps a b->Tabs b->RowOf d n e h->RowAt f CR b p m d n h->Q .non b)->eW f CR g H Q c
theorem Tabs.offI(t:Tabs H)(h:H p=some (.ins C a fs)):Tabs (bT H p o):=λq d=>by
 have k:∀{b} {u},u≠ .ins C a fs->H b=some u->bT H p o b=some u:=λn c=>by
  rw[bX (io c h n)];exact c
 rcases t q d with t|⟨f,g,i⟩
 .exact .inl (k (λe=>nomatch e) t)
 .exact .inr #[f,k (λe=>nomatch e) g,k (λe=>nomatch e) i]
theorem Tabs.offD(t:Tabs H)(h:H D=some (.dT a)):Tabs (bT H D o):=t.most λb u n _ c=>by
 rw[bX (io c h λe=>n _ e)];exact c
theorem xx{H a:Hp}(g:Keeps H a)(n:H l=none):Keeps H (bT a l o):=ow g (IA n)
theorem Jm{H a:Hp}(g:Keeps H a)(n:a l=none):L2.noT H l=none:=by
 cases y:L2.noT H l with
 |none=>rfl
 |some o=>
  rw[g _ _ y]at n;cases n
theorem StepAt.off(h:StepAt C H q m b L)(c:H p=some (.ins i d fs))(n:fs.length≠5):StepAt C (bT H p o) q m b L:=by
 obtain⟨j,g,t,u,k,f,l,r,⟨s,v,w,x⟩,a,y,z,A⟩:=h;have lo:Stays oW H (bT H p o):=Stays.offI c;refine#[j,g,t,u,k,?_,lo.a l,lo.tups r,#[s,lo.a v,w,x.lts lo],a,lo.a y,z,A.lts lo];rw[bX (io f c λe=>by injection e with _ _ e;exact n (by rw[<-e];rfl))];exact f
theorem vw{b:Type}{P:Nat->b->Prop}{a:List b}{x:b}(h:∀k y,a[k]?=some y->P k y)(c:P a.length x)(k)(y)(e:(a++[x])[k]?=some y):P k y:=by
 by_cases d:k<a.length
 .rw[d7 d]at e;exact h k y e
 .have lk:=(cf.mp e).1;rw[di,zr]at lk;have f:k=a.length:=by lia
  subst f;rw[eC (cg _),m9]at e;cases e;exact c
theorem Qk(F:Fun K tQ "LevelParts.__init__" Ci f fd)(P3:OwnC K C [sA,sH,sJ,sO,sQ])(qN:dC P w K mg base sV 13 [sA,sM] iP)(jO:dC P w K mg base vH 7 [sA,sM,"k"] eU)(jU:dC P w K mg base vI 9 [sA,sM,"k",sG] fm)(rE:mg "enumerate"=none)(jB:mg "range"=none)(jD:mg "len"=none):FnOk P w K mg base cG 15 f fd [sC,sA,sM] (gL C):=by
 refine F.ok kZ (λaX A aN s H vs Q E hr h=>?_)
 obtain⟨H0,p,d,m,a,I,n,aw,c,Y,y,rfl,g0,np,hp,M,ff,lv,lp,hT,q⟩:=h;have hu:=hr.units;have ax:=iT hr;obtain⟨s',t',v',bs,ds,cs,h1,h2,h3,h4,h5,h6,h7,h8⟩:=id lv;have lb:=h3.len;have l5:=h5.len;obtain⟨uU,few⟩:=lp.inU M ff;obtain⟨rs,hm,aO,_⟩:=M.refs;have t4:=M.few;have nd:=lp.nd ff;have aY:c.length<=32:=by
  rw[(gX lp.cls).2.1];exact dh (j8 _ _) (dh (j8 _ _) (ff.few M))
 refine#[_,(cq (ss (pv 0) (pv 1) zZ) (cq (ss (pv 0) (dv qN hr.m zZ (cE (bV (pv 1) (bV (pv 2) cA zZ) zZ))) zZ) (cq (ss (pv 0) zb zZ) (cq (ss (pv 0) zb zZ) (cq (hK iX zZ (MP zZ rE (ci (cU d6 (pv 2) cD (λ_ _=>rfl)) ce)) (zU zZ (qu (fB (i:=3) kZ.nd zZ Z0) (qu (fB (i:=4) kZ.nd zZ Z') AD))) (cq (ra ax (gG (pv 0) zZ) (pv 4) (dv jO hr.m zZ (cE (bV (pv 1) (bV (pv 2) (bV (pv 3) cA zZ) zZ) zZ))) zZ) (cy (ra ax (gG (pv 0) zZ) (pv 4) (iu (CompSc.to (N:=[sC,sA,sM,"k",sB]) (osc:=cu Ci) (vs:=[sG]) {}) zZ zZ (mq zZ jB (ci (dM gq zZ jD f6 (ci (pv 1) ce)) ce)) (λ_ _ _ _=>hZ) (λ_ _ _ _=>(dv jU hr.m zZ (cE (bV (pv 2) (bV (pv 3) (bV (pv 4) (bV (pv 0) cA zZ) zZ) zZ) zZ))))) zZ)))) (cy (ss (pv 0) (dM gq zZ jD f6 (ci (cU d6 (pv 2) cD (λ_ _=>rfl)) ce)) zZ))))))),?_];refine#[_,zZ,_,zZ,p,C,d,_,zZ,hp,P3.cl,P3.no,by show 0<1000;decide,?_];have g1:Same H0 (bT H p (.ins C d (dA sA (.ref m) []))):=iA g0 np;have p1:bT H p (.ins C d (dA sA (.ref m) [])) p=some (.ins C d (dA sA (.ref m) [])):=bY;generalize bT H p (.ins C d (dA sA (.ref m) []))=H1 at g1 p1|-;refine#[_,zZ,_,zZ,m,a,I,n,aw,c,Y,y,zZ,M.same g1,ff,lv.same g1,lp,hT.same g1,λg gr gs mk ws H2 k2 T2 ng eg Tg pm up Mk TT=>?_];have G:=QZ M ff lp pm up Mk TT;have p2:=k2 _ _ (nz p1);refine#[_,zZ,p,C,d,_,zZ,p2,P3.cl,P3.no,by show 1<1000;decide,?_];have gp:g≠p:=nE eg p2;have k3:Keeps H0 (bT H2 p (.ins C d (dA sH (.ref g) (dA sA (.ref m) [])))):=xx (g1.keeps.trans k2) np;have T3:Tabs (bT H2 p (.ins C d (dA sH (.ref g) (dA sA (.ref m) [])))):=T2.offI p2;have p3:bT H2 p (.ins C d (dA sH (.ref g) (dA sA (.ref m) []))) p=some (.ins C d [(sA,.ref m),(sH,.ref g)]):=by rw[bY];exact de (λl=>some (HO.ins C d l)) (by kernel_rfl)
 have an:bT H2 p (.ins C d (dA sH (.ref g) (dA sA (.ref m) []))) g=some (.lst (gr.map .ref)):=by rw[bX gp];exact eg
 have ao:TupsAt (bT H2 p (.ins C d (dA sH (.ref g) (dA sA (.ref m) [])))) gr gs:=qA Tg p2 λ_ e=>nomatch e;generalize bT H2 p (.ins C d (dA sH (.ref g) (dA sA (.ref m) [])))=H3 at k3 T3 p3 an ao|-;intro t ht;have J:=cn ht (.dT []);have ay:p≠t:=dj p3 ht;have aP:=Jm k3 ht;refine#[_,zZ,p,C,d,_,zZ,J _ _ p3,P3.cl,P3.no,by show 2<1000;decide,?_];have k4:Keeps H0 (bT (bT H3 t (.dT [])) p (.ins C d (dA sJ (.ref t) [(sA,.ref m),(sH,.ref g)]))):=xx (k3.trans J.keeps) np;have T4:Tabs (bT (bT H3 t (.dT [])) p (.ins C d (dA sJ (.ref t) [(sA,.ref m),(sH,.ref g)]))):=(T3.same J).offI (J _ _ p3);have p4:bT (bT H3 t (.dT [])) p (.ins C d (dA sJ (.ref t) [(sA,.ref m),(sH,.ref g)])) p=some (.ins C d [(sA,.ref m),(sH,.ref g),(sJ,.ref t)]):=by rw[bY];exact de (λl=>some (HO.ins C d l)) (by kernel_rfl)
 have ap:bT (bT H3 t (.dT [])) p (.ins C d (dA sJ (.ref t) [(sA,.ref m),(sH,.ref g)])) g=some (.lst (gr.map .ref)):=by rw[bX gp];exact J _ _ an
 have aq:TupsAt (bT (bT H3 t (.dT [])) p (.ins C d (dA sJ (.ref t) [(sA,.ref m),(sH,.ref g)]))) gr gs:=qA (ao.same J) (J _ _ p3) λ_ e=>nomatch e;have aj:bT (bT H3 t (.dT [])) p (.ins C d (dA sJ (.ref t) [(sA,.ref m),(sH,.ref g)])) t=some (.dT []):=by rw[bX ay.symm];exact bY
 generalize bT (bT H3 t (.dT [])) p (.ins C d (dA sJ (.ref t) [(sA,.ref m),(sH,.ref g)]))=H4 at k4 T4 p4 ap aq aj|-;clear k3 T3 p3 an ao J ht k2 T2 p2 eg Tg g1 p1 g0 hp;intro u af;have J:=cn af (.dT []);have aQ:p≠u:=dj p4 af;have az:t≠u:=dj aj af;refine#[_,zZ,p,C,d,_,zZ,J _ _ p4,P3.cl,P3.no,by show 3<1000;decide,?_];have k5:Keeps H0 (bT (bT H4 u (.dT [])) p (.ins C d (dA sO (.ref u) [(sA,.ref m),(sH,.ref g),(sJ,.ref t)]))):=xx (k4.trans J.keeps) np;have T5:Tabs (bT (bT H4 u (.dT [])) p (.ins C d (dA sO (.ref u) [(sA,.ref m),(sH,.ref g),(sJ,.ref t)]))):=(T4.same J).offI (J _ _ p4);have p5:bT (bT H4 u (.dT [])) p (.ins C d (dA sO (.ref u) [(sA,.ref m),(sH,.ref g),(sJ,.ref t)])) p=some (.ins C d [(sA,.ref m),(sH,.ref g),(sJ,.ref t),(sO,.ref u)]):=by rw[bY];exact de (λl=>some (HO.ins C d l)) (by kernel_rfl)
 have aA:bT (bT H4 u (.dT [])) p (.ins C d (dA sO (.ref u) [(sA,.ref m),(sH,.ref g),(sJ,.ref t)])) g=some (.lst (gr.map .ref)):=by rw[bX gp];exact J _ _ ap
 have aB:TupsAt (bT (bT H4 u (.dT [])) p (.ins C d (dA sO (.ref u) [(sA,.ref m),(sH,.ref g),(sJ,.ref t)]))) gr gs:=qA (aq.same J) (J _ _ p4) λ_ e=>nomatch e;have aC:bT (bT H4 u (.dT [])) p (.ins C d (dA sO (.ref u) [(sA,.ref m),(sH,.ref g),(sJ,.ref t)])) t=some (.dT []):=by rw[bX ay.symm];exact J _ _ aj
 have aD:bT (bT H4 u (.dT [])) p (.ins C d (dA sO (.ref u) [(sA,.ref m),(sH,.ref g),(sJ,.ref t)])) u=some (.dT []):=by rw[bX aQ.symm];exact bY
 have aR:=Jm k4 af;generalize bT (bT H4 u (.dT [])) p (.ins C d (dA sO (.ref u) [(sA,.ref m),(sH,.ref g),(sJ,.ref t)]))=H5 at k5 T5 p5 aA aB aC aD|-;clear k4 T4 p4 ap aq aj J af
 let Pv:Nat->L2.St->Hp->Prop:=λi σ B=>Keeps H0 B/\Tabs B/\B p=some (.ins C d [(sA,.ref m),(sH,.ref g),(sJ,.ref t),(sO,.ref u)])/\B g=some (.lst (gr.map .ref))/\TupsAt B gr gs/\(∃z,B t=some (.dT (fj (c.take i) z))/\z.length=i/\TiledAs B I Y y z)/\(∃z,B u=some (.dT (fj (c.take i) z))/\z.length=i/\TurnsAs B I c Y y z)/\∃o3 o4,σ=[some (.ref p),some (.ref m),some (.ref a),o3,o4]
 have L:=λ{B:Hp} (k:Keeps H0 B)=>DN k;refine#[_,zZ,a,_,_,_,zZ,zZ,R4 ((L k5).a h1),zZ,s',_,zZ,R3 ((L k5).a h2),Ot (xs:=bs.map .ref) Pv #[k5,T5,p5,aA,aB,#[[],aC,zZ,λk D a _ e=>by simp at e],#[[],aD,zZ,λk x D a _ _ e=>by simp at e],_,_,zZ] (λi σ B _ p=>R3 ((L p.1).a h2)) (λi Tp v σ H6 hv nT pv=>?_) (λσ H6 pv=>?_)]
 .obtain⟨k6,T6,p6,ar,au,⟨z,ab,la,ta⟩,⟨O,ag,ae,tb⟩,o3,o4,rfl⟩:=pv;rw[cz]at hv;obtain⟨b,eb,rfl⟩:=dW.mp hv;have li:=(cf.mp eb).1;obtain⟨x,ex⟩:∃x,c[i]?=some x:=#[_,b7 ()];obtain⟨D,ew⟩:∃D,y[i]?=some D:=#[_,b7 (by rw[lp.len];lia)];have aS:=(lp.go i x D ex ew).1;have tk:c.take (i+1)=c.take i++[x]:=by rw[i8,ex];rfl
  have xn:x∉c.take i:=λh=>by
   obtain⟨j,ej⟩:=fF.mp h;have lj:=(cf.mp ej).1;rw[gk]at lj;rw[A4 ()]at ej;have:=(jj () nd).mp (ej.trans ex.symm)
   lia
  have lt:(c.take i).length=i:=by rw[gk];lia
  have kT:=cn nT (.tup [.int (i:Nat),.ref b]);have eT:bT H6 Tp (.tup [.int (i:Nat),.ref b]) Tp=some (.tup [.int (i:Nat),.ref b]):=bY;generalize bT H6 Tp (.tup [.int (i:Nat),.ref b])=H7 at kT eT|-;have k7:=k6.trans kT.keeps;refine#[Tp,_,zZ,R4 eT,zZ,_,_,zZ,_,_,zZ,zZ,?_];refine#[_,zZ,_,zZ,_,zZ,m,a,i,I,n,c,Y,y,D,zZ,M.keeps k7,LvH.keeps lv k7,ew,uU,few,aS,λl es H8 g8 el aE=>?_];have T:=kT.trans g8;have k8:=k6.trans T.keeps;have aF:=(L k8).a (h3.is i b x eb ex);refine#[_,zZ,p,C,d,_,_,zZ,T _ _ p6,P3.cl,P3.no,(by kernel_rfl),_,zZ,t,_,zZ,DPut.t (T _ _ ab) (by rw[g7];exact aF) (by rw[G' (),db];lia),?_];rw[JY () xn,<-tk];have ak:=T _ _ ab;have lo:wc H6 (bT H8 t (.dT (fj (c.take (i+1)) (z++[l])))):=λb o n hb=>Stays.off ak b o n (T _ _ hb);have av:wc H8 (bT H8 t (.dT (fj (c.take (i+1)) (z++[l])))):=Stays.off ak;have k9:Keeps H0 (bT H8 t (.dT (fj (c.take (i+1)) (z++[l])))):=ow k8 aP;have T9:Tabs (bT H8 t (.dT (fj (c.take (i+1)) (z++[l])))):=(T6.same T).offD ak;have aG:bT H8 t (.dT (fj (c.take (i+1)) (z++[l]))) t=some (.dT (fj (c.take (i+1)) (z++[l]))):=bY;have aH:bT H8 t (.dT (fj (c.take (i+1)) (z++[l]))) u=some (.dT (fj (c.take i) O)):=by rw[bX az.symm];exact T _ _ ag
  have aI:TiledAs (bT H8 t (.dT (fj (c.take (i+1)) (z++[l])))) I Y y (z++[l]):=λk r a' e1 e2=>vw (P:=λk a=>∀D,y[k]?=some D->∃es,bT H8 t (.dT (fj (c.take (i+1)) (z++[l]))) a=some (.lst (es.map .ref))/\TupsAt (bT H8 t (.dT (fj (c.take (i+1)) (z++[l])))) es (tl I Y D)) (λk a e D e'=>(ta.lts lo) k D a e' e) (λr e=>by
   rw[la,ew]at e;cases e;exact#[es,av.a el,av.tups aE]) k a' e2 r e1
  have p9:=lo.a p6;have aJ:=lo.a ar;have aK:=lo.tups au;have aL:=tb.lts lo;generalize bT H8 t (.dT (fj (c.take (i+1)) (z++[l])))=H9 at k9 T9 aG aH aI p9 aJ aK aL|-;clear lo av T g8 k8 aF ak kT eT k7 el aE;refine#[_,zZ,m,_,zZ,.inr (R4 ((L k9).a hm)),(I.length:Int),by rw[bW,aO],(),(),yI (λj ys B=>Same H9 B/\ys.length=j/\∀(l:Nat) (v:V),ys[l]?=some v->(b8 I x l∉c/\v=.non)\/∃(p:Ad) (js:bS) (k':Nat) (r:bS),v=.ref p/\B p=some (.tup (js.map nv))/\c[k']?=some (b8 I x l)/\y[k']?=some r/\j5 I Y D r l js) (by rw[iW];exact small ()) #[Same.refl _,zZ,λl v e=>by simp at e] (λj ys B _ pv=>Nat.le_of_eq pv.2.1) (λj ys B hj pv=>?_) (λys B pv sg aT=>?_)]
  .obtain⟨g,ly,al⟩:=pv;have e0:V.int (0+(j:Int))=nv j:=by show V.int (0+(j:Int))=V.int (j:Int);rw[uh]
   have aU:j<I.length:=by simpa using hj
   rw[e0];have ah:=k9.trans g.keeps;refine#[ie,jt #[_,zZ,_,zZ,_,zZ,_,zZ,m,a,i,j,I,n,aw,c,Y,y,x,D,zZ,M.keeps ah,ff,LvH.keeps lv ah,lp,ex,ew,aU,λno H2 g2=>?_,λk' r ey aV pp js H2 g2 ep aW=>?_]]
   .refine#[g.trans g2,by rw[di,ly];rfl,λl v e=>vw (P:=λl v=>(b8 I x l∉c/\v=V.non)\/∃(p:Ad) (js:bS) (k':Nat) (r:bS),v=.ref p/\H2 p=some (.tup (js.map nv))/\c[k']?=some (b8 I x l)/\y[k']?=some r/\j5 I Y D r l js) (λl v e=>(al l v e).imp id λ⟨p,js,k',r,z1,z2,z3⟩=>#[p,js,k',r,z1,g2 _ _ z2,z3]) (.inl #[by rw[ly];exact no,zZ]) l v e]
   .refine#[g.trans g2,by rw[di,ly];rfl,λl v e=>vw (P:=λl v=>(b8 I x l∉c/\v=V.non)\/∃(p:Ad) (js:bS) (k':Nat) (r:bS),v=.ref p/\H2 p=some (.tup (js.map nv))/\c[k']?=some (b8 I x l)/\y[k']?=some r/\j5 I Y D r l js) (λl v e=>(al l v e).imp id λ⟨p,js,k',r,z1,z2,z3⟩=>#[p,js,k',r,z1,g2 _ _ z2,z3]) (.inr #[pp,js,k',r,zZ,ep,by rw[ly];exact ey,aV,by rw[ly];exact aW]) l v e]
  .obtain⟨g,ly,al⟩:=pv;rw[iW]at ly;have ks:=cn aT (.lst ys);have es:bT B sg (.lst ys) sg=some (.lst ys):=bY;have U:=g.trans ks;have TL:TurnL (bT B sg (.lst ys)) I c Y y x D ys:=TurnL.lts #[ly,al] (xg ks);generalize bT B sg (.lst ys)=ai at ks es U TL|-;have ah:=k9.trans U.keeps;have aM:=(L ah).a (h3.is i b x eb ex);have aa:=U _ _ aH;refine#[_,zZ,p,C,d,_,_,zZ,U _ _ p9,P3.cl,P3.no,(by kernel_rfl),_,zZ,u,_,zZ,DPut.t aa (by rw[g7];exact aM) (by rw[G' (),db];lia),?_];rw[JY () xn,<-tk];have lo:wc H9 (bT ai u (.dT (fj (c.take (i+1)) (O++[sg])))):=λb o n hb=>Stays.off aa b o n (U _ _ hb)
   have am:wc ai (bT ai u (.dT (fj (c.take (i+1)) (O++[sg])))):=Stays.off aa;refine#[ow ah aR,(T9.same U).offD aa,lo.a p9,lo.a aJ,lo.tups aK,#[z++[l],by rw[bX az];exact U _ _ aG,by rw[di,la];rfl,aI.lts lo],#[O++[sg],bY,by rw[di,ae];rfl,λk x' r a' e1 e2 e3=>?_],_,_,zZ];refine vw (P:=λk a=>∀x D,c[k]?=some x->y[k]?=some D->∃vs,bT ai u (.dT (fj (c.take (i+1)) (O++[sg]))) a=some (.lst vs)/\TurnL (bT ai u (.dT (fj (c.take (i+1)) (O++[sg])))) I c Y y x D vs) (λk a e x D e1 e2=>(aL.lts lo) k x D a e1 e2 e) (λx' r e1 e2=>?_) k a' e3 x' r e1 e2;rw[ae,ex]at e1;rw[ae,ew]at e2;cases e1;cases e2;exact#[ys,am.a es,TL.lts am]
 .obtain⟨k6,T6,p6,ar,au,⟨z,ab,la,ta⟩,⟨O,ag,ae,tb⟩,o3,o4,rfl⟩:=pv;rw[bW,lb]at ab ag la ae;rw[gW]at ab ag;refine#[_,zZ,a,_,_,_,zZ,zZ,R4 ((L k6).a h1),zZ,t',_,zZ,.inl (R3 ((L k6).a h4)),_,zZ,p,C,d,_,zZ,p6,P3.cl,P3.no,by show 4<1000;decide,?_];rw[show((ds.map V.ref).length)=Y.length by rw[bW,l5]];have lo:Stays oW H6 (bT H6 p (.ins C d (dA sQ (nv Y.length) [(sA,.ref m),(sH,.ref g),(sJ,.ref t),(sO,.ref u)]))):=Stays.offI p6;refine q gs _ (xx k6 np) (T6.offI p6) G #[d,g,t,u,gr,?_,lo.a ar,lo.tups au,#[z,lo.a ab,la,ta.lts lo],O,lo.a ag,ae,tb.lts lo];rw[bY];exact de (λl=>some (HO.ins C d l)) (by kernel_rfl)
theorem OG{I CR T:Ad}(F:Fun K tQ "Row.__init__" zT f fd)(R1:OwnC K CR [sB,tN])(qX:yB P w K mg base "LevelParts" I 15 [sC,sA,sM] (gL I))(uC:dC P w K mg base "levels" 18 [sA] (gP T (#[57,40,57,93]:Pos)))(qI:dC P w K mg base "still" 1 [sB] fv)(jD:mg "len"=none):FnOk P w K mg base cG 20 f fd [sC,sA] (eW I CR):=by
 refine F.ok NU (λar A ag s H O Q E U h=>?_)
 obtain⟨H0,p,g,m,Y,n,rfl,g0,np,hp,M,hT,q⟩:=h;have hu:=U.units;have au:=iT U;obtain⟨rs,r0,hm,av,ah,ai,aj,_⟩:=M.at (l:=0) M.some1;have n5:=M.n5;refine#[_,(cq (ss (pv 0) (dv qI U.m zZ (ci (dM gq zZ jD f6 (ci (cU d6 (pv 1) cD (λ_ _=>rfl)) ce)) ce)) zZ) (cy (ss (pv 0) (iu (CompSc.to (N:=[sC,sA]) (osc:=cu zT) (vs:=[sM]) {}) zZ zZ (gY (dv uC U.m zZ (ci (pv 1) ce))) (λ_ _ _ _=>hZ) (λ_ _ _ _=>(CZ qX U.m zZ (cE (bV (pv 2) (bV (pv 0) cA zZ) zZ))))) zZ))),?_];refine#[_,zZ,m,_,_,_,zZ,zZ,R4 (g0 _ _ hm),ah,r0,_,zZ,.inr (R4 (g0 _ _ ai)),?_]
 try dsimp only
 rw[bW,aj];refine#[n,zZ,(),λr H1 g1 er=>?_];have p1:=g1 _ _ hp;have ak:=nE p1 er;refine#[_,zZ,p,CR,g,_,zZ,p1,R1.cl,R1.no,by decide,?_];have g2:Same H0 (bT H1 p (.ins CR g (dA sB (.ref r) []))):=iA (g0.trans g1) np;have p2:bT H1 p (.ins CR g (dA sB (.ref r) [])) p=some (.ins CR g [(sB,.ref r)]):=bY;have aa:bT H1 p (.ins CR g (dA sB (.ref r) [])) r=some (.tup ((List.range n).map nv)):=by rw[bX ak.symm];exact er
 generalize bT H1 p (.ins CR g (dA sB (.ref r) []))=H2 at g2 p2 aa|-;clear g1 er p1 g0 hp;refine#[_,zZ,m,Y,n,zZ,M.same g2,hT.same g2,λl as told a ys H3 k3 T3 nl el ff od sub al LL nw ap aw=>?_];have ab:=g2.keeps.trans k3;have la:=LL.len;refine#[l,zZ,#[_,R3 el],mG (xs:=as.map .ref) (λi O d=>Keeps H3 d/\Tabs d/\∃(k:As) (t:List Lv),O=k.map V.ref/\t.length=i/\t.map (·.c)=told.take i/\(∀L∈t,LvOk Y a L)/\StepsAt I d k m Y t) (by rw[bW];exact small ()) #[Keeps.refl _,T3,[],[],zZ,zZ,zZ,(λL h=>nomatch h),zZ,λi q L e=>by simp at e] (λi O d _ pv=>?_) (λi v O d hv pv=>?_) (λO d pv sg am=>?_)]
 .obtain⟨y,_,k,t,rfl,J,_,_,S⟩:=pv;exact#[R3 (y _ _ (nz el)),by rw[bW,S.len,J];exact cg _]
 .obtain⟨y,T4,k,t,rfl,J,eL,B,S⟩:=pv;rw[cz]at hv;obtain⟨lv,ae,rfl⟩:=dW.mp hv;have li:=(cf.mp ae).1;obtain⟨c,ec⟩:∃c,told[i]?=some c:=#[_,b7 ()];obtain⟨C,an,lp,wd⟩:=(LL.is i lv c ae ec).lvw (sub c (cF ec));have ao:=ab.trans y;refine#[ie,jt #[_,zZ,_,zZ,λx D nx aq ax=>?_]];have gx:Same d (bT (bT d D (.own x)) x (.ins I D [])):=λb o hb=>by
   rw[bX (dj hb nx),bX (dj hb aq)];exact hb
  refine#[d,x,D,m,lv,Y,n,a,c,_,C,zZ,gx,nx,bY,M.keeps ao,ff,LvH.keeps an y,lp,T4,λgs H5 k5 T5 G St=>#[zZ,y.trans k5,T5,k++[x],t++[#[c,jf a (c.headD []),C,gs]],by rw[dH];rfl,by rw[di,J];rfl,?_,λL hL=>?_,#[by rw[di,di,S.len];rfl,λj q' L e1 u=>?_]]]
  .rw[dH,eL,i8,ec];rfl
  .rcases cW.mp hL with z|z
   .exact B L z
   .rw[cJ.mp z];exact#[lp,wd,G]
  .refine vw (P:=λj q=>∀L,(t++[#[c,jf a (c.headD []),C,gs]])[j]?=some L->StepAt I H5 q m Y L) (λj q e L u=>?_) (λL u=>?_) j q' e1 L u
   .have lj:=(cf.mp e).1;rw[d7 (by rw[<-S.len];exact lj)]at u;exact(S.is j q L e u).keeps k5
   .rw[S.len,eC (cg _),m9]at u;cases u;exact St
 .obtain⟨y,T4,k,t,rfl,J,eL,B,S⟩:=pv;rw[bW]at J eL;rw[la,gW]at eL;have ks:=cn am (.lst (k.map V.ref));have af:=(k3.trans y).trans ks.keeps;have p5:=af _ _ (nz p2);refine#[_,zZ,p,CR,g,_,zZ,p5,R1.cl,R1.no,by show 1<1000;decide,?_];have lo:Stays oW (bT d sg (.lst (k.map V.ref))) (bT (bT d sg (.lst (k.map V.ref))) p (.ins CR g (dA tN (.ref sg) [(sB,.ref r)]))):=Stays.offI p5;refine q a t _ (xx ((ab.trans y).trans ks.keeps) np) ((T4.same ks).offI p5) #[ff,by rw[eL];exact od,by rw[J,la];exact al,B] #[g,r,sg,k,?_,lo.a (af _ _ (nz aa)),lo.a bY,S.len,λi q' L e1 u=>((S.is i q' L e1 u).keeps ks.keeps).off p5 (by show ¬1=5;decide)];rw[bY];exact de (λl=>some (HO.ins CR g l)) (by kernel_rfl)
noncomputable def lR(k:Nat)(L:Lv):List (Bool×Nat×Nat):=(if 1<L.gs.length then[(true,k,L.gs.length)]else[])++[(false,k,L.us.length)]
noncomputable def mz(a:List Lv):Nat->List (Bool×Nat×Nat)
 |0=>[]
 |i+1=>mz a i++(match a[i]? with|some L=>lR i L|none=>[])
noncomputable def og(a:List Lv):List (Bool×Nat×Nat):=mz a a.length
theorem N0(k)(L):(lR k L).length<=2:=by
 unfold lR;by_cases h:1<L.gs.length
 .rw[wB h];exact cg 2
 .rw[wA h];exact re 1
theorem Jo(a):∀i,(mz a i).length<=2 * i
 |0=>cg _
 | i+1=>by
  have z:=Jo a i;unfold mz;rw[di];cases e:a[i]? with
  |none=>
   simp only[List.length_nil];lia
  |some L=>
   have y:=N0 i L;lia
theorem DS(e:a[i]?=some L):mz a (i+1)=mz a i++lR i L:=by
 show mz a i++_=_;rw[e]
inductive l6(C:Ad)(b:List V)(H:Hp)(Q:VK)(a:XK):Prop|mk:∀(q m:Ad) (c:LN) (L:Lv),b=[.ref q]->StepAt C H q m c L->Q (.bl (decide (1<L.gs.length))) H->l6 C b H Q a
theorem Ri(F:Fun K wM "LevelParts.is_turning" Db f fd)(P3:OwnC K C [sA,sH,sJ,sO,sQ])(b:mg "len"=none):FnOk P w K mg base cG 1 f fd [sC] (l6 C):=by
 refine F.ok Qz (λc A a s H n Q E o h=>?_)
 obtain⟨q,m,p,L,rfl,⟨d,g,t,u,e,i,j,l,_⟩,k⟩:=h;refine#[_,(cy (c8 (tu xT (dM gq zZ b f6 (ci (gG (pv 0) zZ) ce)) cD (fS _)))),#[_,zZ,q,C,d,_,_,zZ,i,P3.cl,P3.no,xj,g,_,zZ,.inl (R3 j),_,_,zZ,zZ,?_]];rw[bW,l.len,show decide ((1:Int)<((L.gs.length:Nat):Int))=decide (1<L.gs.length)from decide_eq_decide.mpr ()];exact k
noncomputable def lA(a:List Lv)(i:Nat):Nat:=(mz a i).length
noncomputable def jk(b:List Lv)(a:bS)(i:Nat)(L:Lv):Nat×Nat:=if 1<L.gs.length then(a.getD (lA b i) 0,a.getD (lA b i+1) 0)else(0,a.getD (lA b i) 0)
noncomputable def oQ(b:List Lv)(a:bS):Nat->List (Nat×Nat)
 |0=>[]
 |i+1=>oQ b a i++(match b[i]? with|some L=>[jk b a i L]|none=>[])
noncomputable def ro(b:List Lv)(a:bS):List (Nat×Nat):=oQ b a b.length
structure RowIn(Ls:List Lv)(row:bS):Prop where
 len:row.length=(og Ls).length
 lt:∀(j:Nat) (p:Bool×Nat×Nat) (r:Nat),(og Ls)[j]?=some p->row[j]?=some r->r<p.2.2
theorem F0(e:b[i]?=some L):oQ b a (i+1)=oQ b a i++[jk b a i L]:=by
 show oQ b a i++_=_;rw[e]
theorem uq:∀{i},i<=b.length->(oQ b a i).length=i
 |0,_=>rfl
 |i+1,h=>by
  rw[F0 (b7 h),di,uq (fL h)];rfl
theorem xP{b:Type}{t:Nat->List b}(h:∀i,∃r,t (i+1)=t i++r):∀{i j},i<=j->∃r,t j=t i++r
 |i,0,a=>#[[],by rw[Nat.le_zero.mp a,hA]]
 | i,j+1,a=>by
  by_cases e:i=j+1
  .exact#[[],by rw[e,hA]]
  .obtain⟨r,z⟩:=xP h (show i<=j by lia);obtain⟨c,d⟩:=h j;exact#[r++c,by rw[d,z,fu]]
theorem GF(a)(h:i<=j):∃r,mz a j=mz a i++r:=xP (λi=>#[_,zZ]) h
theorem L7(b)(a)(h:i<=j):∃r,oQ b a j=oQ b a i++r:=xP (λi=>#[_,zZ]) h
theorem HE(e:a[i]?=some L):lA a (i+1)=lA a i+(if 1<L.gs.length then 2 else 1):=by
 unfold lA;rw[DS e,di];unfold lR;by_cases h:1<L.gs.length
 .rw[wB h,wB h];rfl
 .rw[wA h,wA h];rfl
theorem LX(e:b[i]?=some L):(ro b a)[i]?=some (jk b a i L):=by
 have c:=(cf.mp e).1;obtain⟨r,z⟩:=L7 b a (c);unfold ro;rw[z,F0 e,fu,eC (by rw[uq (fL c)];exact cg _),uq (fL c),m9];rfl
theorem Eu(e:a[i]?=some L)(b:(lR i L)[j]?=some p):(og a)[lA a i+j]?=some p:=by
 have c:=(cf.mp e).1;obtain⟨r,z⟩:=GF a (c);unfold og lA;rw[z,DS e,fu,eC (n' _ _),zz,d7 (cf.mp b).1];exact b
theorem Jf(e:a[i]?=some L):lA a i+(if 1<L.gs.length then 1 else 0)<(og a).length:=by
 have b:=(cf.mp e).1;obtain⟨r,z⟩:=GF a (b);have y:=HE e;unfold og;rw[z,di];unfold lA at y|-;by_cases h:1<L.gs.length
 .rw[wB h]at y|-;lia
 .rw[wA h]at y|-;lia
structure PairOk(L:Lv)(p:Nat×Nat):Prop where
 g:p.1<L.gs.length
 t:p.2<L.us.length
theorem cR{a:bS}(h:j<a.length):a[j]?=some (a.getD j 0):=by rw[dO,b7 h];rfl
theorem RowIn.pair(R:RowIn b a)(e:b[i]?=some L)(g0:0<L.gs.length):PairOk L (jk b a i L):=by
 have z:=Jf e;have len:=R.len;unfold jk;by_cases h:1<L.gs.length
 .rw[wB h]at z|-;have c:(lR i L)[0]?=some (true,i,L.gs.length):=by unfold lR;rw[wB h];rfl
  have d:(lR i L)[1]?=some (false,i,L.us.length):=by unfold lR;rw[wB h];rfl
  exact#[R.lt _ _ _ (Eu e c) (cR ()),R.lt _ _ _ (Eu e d) (cR ())]
 .rw[wA h]at z|-;have c:(lR i L)[0]?=some (false,i,L.us.length):=by unfold lR;rw[wA h];rfl
  exact#[g0,R.lt _ _ _ (Eu e c) (cR ())]
noncomputable def jJ(L:Lv)(p:Nat×Nat):Nat:=(L.gs.getD p.1 []).getD p.2 0
noncomputable def e7(a:LN)(L:Lv)(here:bS)(p:Nat×Nat):bS:=if here∈L.c then(tl a L.us (L.wds.getD (dS L.c here) [])).getD (jJ L p) []else here
noncomputable def j6(a:LN)(n:Nat)(b:List Lv)(prs:List (Nat×Nat)):Nat->List Nat
 |0=>List.range n
 |i+1=>match b[i]?,prs[i]? with
  |some L,some p=>e7 a L (j6 a n b prs i) p
  |_,_=>j6 a n b prs i
theorem J'(c:b[i]?=some L)(d:prs[i]?=some p):j6 a n b prs (i+1)=e7 a L (j6 a n b prs i) p:=by
 show(match b[i]?,prs[i]? with|some L,some p=>e7 a L (j6 a n b prs i) p|_,_=>j6 a n b prs i)=_;rw[c,d]
structure WOk(L:Lv)(p:Nat×Nat):Prop where
 nd:L.c.Nodup
 wl:L.wds.length=L.c.length
 g1:p.1<L.gs.length
 g2:p.2<(L.gs.getD p.1 []).length
 g3:jJ L p<L.us.length
theorem LvOk.g0(M:Mach H m ts n)(b:FamOf ts n a)(ok:LvOk ts a L):0<L.gs.length:=(cf.mp (ok.first M b)).1
theorem gR{a:LN}(h:k<a.length):a[k]?=some (a.getD k []):=by rw[dO,b7 h];rfl
theorem LvOk.wok(M:Mach H m ts n)(b:FamOf ts n a)(ok:LvOk ts a L){p:Nat×Nat}(po:PairOk L p):WOk L p:=by
 have pm:=ok.pm M b (cF (gR po.g));have l:(L.gs.getD p.1 []).length=L.us.length:=by rw[pm.length_eq,lK]
 refine#[ok.p.nd b,ok.p.len,po.g,by rw[l];exact po.t,(ft.mp (pm.mem_iff.mp (cF (cR (by rw[l];exact po.t)))))]
theorem LvOk.wthn_in(M:Mach H m ts n)(c:FamOf ts n a)(ok:LvOk ts a L){here:bS}(d:here∈L.c){p:Nat×Nat}(po:PairOk L p):e7 ts L here p∈jf a here:=by
 have w:=ok.wok M c po;obtain⟨l,e⟩:=j7 d;unfold e7 tl;rw[wB d,dO,cz];have f:=gR w.g3;rw[f];have h:=gR (by rw[w.wl];exact l);obtain⟨b,i⟩:=ok.p.bij M c e h;have g:=cF f;rw[ok.p.tl]at g;have:=wX M c (c.inU M (dm.mp (gX ok.p.cls).2.2.1).1) i g;rw[<-ok.p.tl]at this;exact this
theorem LvOk.wthn_fam(M:Mach H m ts n)(b:FamOf ts n a)(ok:LvOk ts a L){here:bS}(c:here∈a){p:Nat×Nat}(po:PairOk L p):e7 ts L here p∈a:=by
 by_cases h:here∈L.c
 .exact((oX M b).mp (ok.wthn_in M b h po)).1
 .unfold e7;rw[wA h];exact c
theorem BS(b:FamOf ts n a):List.range n∈a:=(b.mem _).mpr (.inl #[[],(λ_ h=>nomatch h),zZ])
theorem RowIn.po(M:Mach H m ts n)(R:RowOf ts n a c)(f:RowIn c b)(i:Nat)(L)(p:Nat×Nat)(d:c[i]?=some L)(e:(ro c b)[i]?=some p):PairOk L p:=by
 rw[LX d]at e;cases e;exact f.pair d ((R.ok L (cF d)).g0 M R.ff)
inductive fh(C:Ad)(c:List V)(H:Hp)(Q:VK)(b:XK):Prop|mk:∀(q h d m:Ad) (e:LN) (L:Lv) (here:bS) (p:Nat×Nat),c=[.ref q,.ref h,.ref d]->StepAt C H q m e L->H h=some (.tup (here.map nv))->H d=some (.tup [nv p.1,nv p.2])->WOk L p->(∀a,H a=some (.tup ((e7 e L here p).map nv))->Q (.ref a) H)->fh C c H Q b
theorem MX(F:Fun K vQ "LevelParts.within" DX f fd)(P3:OwnC K C [sA,sH,sJ,sO,sQ]):FnOk P w K mg base cG 1 f fd [sC,sY,tY] (fh C):=by
 refine F.ok K' (λY A x s H vs Q E B h=>?_)
 obtain⟨q,h,D,m,G,L,here,p,rfl,⟨l,g,t,u,gr,n,h2,I,⟨as,J,t2,t3⟩,_⟩,y,M,a,k⟩:=h;have hu:=B.units;have d:=iT B;refine#[_,(cq (fG (oY (xN d (pv 1) (gG (pv 0) zZ))) (cy (c8 (pv 1))) fJ) (cy (c8 (cU fH (mR d (gG (pv 0) zZ) (pv 1) (λ_ _=>rfl)) (cU d6 (cU fH (gG (pv 0) zZ) (cU d6 (pv 2) cD (λ_ _=>rfl)) (λ_ _=>rfl)) (cU d6 (pv 2) cD (λ_ _=>rfl)) (λ_ _=>rfl)) (λ_ _=>rfl))))),?_];by_cases c:here∈L.c
 .obtain⟨li,ei⟩:=j7 c;obtain⟨b,N⟩:∃b,as[dS L.c here]?=some b:=#[_,b7 ()];have ew:=gR (by rw[a.wl];exact li);obtain⟨es,e1,O⟩:=t3 _ _ _ ew N;have o:=ve a.nd J y ei N;have lg:=I.len;obtain⟨e,i⟩:∃e,gr[p.1]?=some e:=#[_,b7 (by rw[lg];exact a.g1)];have z:=I.is p.1 e _ i (gR a.g1);have T:(tl G L.us (L.wds.getD (dS L.c here) []))[jJ L p]?=some (e7 G L here p):=by
   unfold e7;rw[wB c];exact gR (by unfold tl;rw[List.length_map];exact a.g3)
  obtain⟨r,U⟩:∃r,es[jJ L p]?=some r:=#[_,b7 (by rw[O.len];exact(cf.mp T).1)];refine#[_,zZ,_,zZ,q,C,l,_,_,zZ,n,P3.cl,P3.no,oJ,t,_,zZ,o,_,zZ,eA ?_];refine#[_,zZ,q,C,l,_,_,zZ,n,P3.cl,P3.no,oJ,_,zZ,t,_,zZ,o,_,zZ,q,C,l,_,_,zZ,n,P3.cl,P3.no,xj,_,zZ,D,_,_,_,zZ,zZ,R4 M,zZ,g,_,_,_,zZ,zZ,R3 h2,iM (by rw[cz,i];rfl),_,zZ,D,_,_,_,zZ,zZ,R4 M,zZ,e,_,_,_,zZ,zZ,R4 z,tc a.g2,b,_,_,_,zZ,zZ,R3 e1,iM (j:=jJ L p) (by rw[cz,U];rfl),?_];exact k r (O.is _ r _ U T)
 .have o:=An J y c;refine#[_,zZ,_,zZ,q,C,l,_,_,zZ,n,P3.cl,P3.no,oJ,t,_,zZ,o,_,zZ,fy #[_,zZ,k h ?_]];unfold e7;rw[wA c];exact y
structure PairsAt(H:Hp)(as:As)(ps:List (Nat×Nat)):Prop where
 len:as.length=ps.length
 is:∀(i:Nat) (a:Ad) (p:Nat×Nat),as[i]?=some a->ps[i]?=some p->H a=some (.tup [nv p.1,nv p.2])
theorem PairsAt.st{f:HO->Bool}(h:PairsAt H c d)(g:Stays f H b)(e:∀xs,f (.tup xs)=false:=by intro;rfl):PairsAt b c d:=#[h.len,λi a p j k=>g _ _ (e _) (h.is i a p j k)]
theorem PairsAt.snoc(h:PairsAt H j g)(e:H a=some (.tup [nv p.1,nv p.2])):PairsAt H (j++[a]) (g++[p]):=by
 refine#[by rw[di,di,h.len];rfl,λi d b f c=>vw (P:=λi d=>∀b,(g++[p])[i]?=some b->H d=some (.tup [nv b.1,nv b.2])) (λi d f b c=>?_) (λb c=>?_) i d f b c]
 .rw[d7 (by rw[<-h.len];exact(cf.mp f).1)]at c;exact h.is i d b f c
 .rw[h.len,eC (cg _),m9]at c;cases c;exact e
inductive gJ(e CR:Ad)(f:List V)(H:Hp)(Q:VK)(d:XK):Prop|mk:∀(p g m:Ad) (i:LN) (n:Nat) (b:List Lv) (a:bS),f=[.ref p,.ref g]->RowAt e CR H p m i n b->b.length<=32->H g=some (.tup (a.map nv))->a.length=(og b).length->(∀l h c,Same H c->H l=none->c l=some (.lst (h.map .ref))->PairsAt c h (ro b a)->Q (.ref l) c)->gJ e CR f H Q d
theorem QY{M CR:Ad}(F:Fun K "paired" "Row.paired" CG f fd)(P3:OwnC K M [sA,sH,sJ,sO,sQ])(R1:OwnC K CR [sB,tN])(jF:gI P w K mg base M wM 1 [sC] (l6 M)):FnOk P w K mg base cG 3 f fd [sC,tI] (gJ M CR):=by
 refine F.ok jW (λag A aa s H vs Q E hr h=>?_)
 obtain⟨p,N,m,ts,n,j,d,rfl,⟨dx,r,st,qs,h1,h2,h3,S⟩,few,D,lr,q⟩:=h;have hu:=hr.units;refine#[_,(cq (cT (i:=2) jW.nd zZ Z' (gB ce)) (cq (cT (i:=3) jW.nd zZ Z' cD) (cq (hK iX zZ (gY (gG (pv 0) zZ)) (fB (i:=4) jW.nd zZ Z') (cq (cT (i:=5) jW.nd zZ Z' cD) (cq (sf (fG (iN (GB (pv 4) P3.cl jF hr.m)) (cq (cT (i:=5) jW.nd zZ Z' (cU d6 (pv 1) (pv 3) (λ_ _=>rfl))) (cy (Kd (i:=3) jW.nd zZ Z' cD Gw))) fJ)) (cq (iq (iZ iD lU lL me (pv 2) (ci (kS (cE (bV (pv 5) (bV (cU d6 (pv 1) (pv 3) (λ_ _=>rfl)) cA zZ) zZ))) ce))) (cy (Kd (i:=3) jW.nd zZ Z' cD Gw)))))) (cy (c8 (pv 2)))))),?_];refine#[by decide,λB x=>?_];have k0:=cn x (.lst []);have lq:=S.len
 let Pv:Nat->L2.St->Hp->Prop:=λi O o=>Same H o/\∃(y:As) (o4 o5:Option V),o B=some (.lst (y.map .ref))/\PairsAt o y (oQ j d i)/\O=[some (.ref p),some (.ref N),some (.ref B),some (nv (lA j i)),o4,o5]
 refine#[_,zZ,p,CR,dx,_,_,zZ,k0 _ _ h1,R1.cl,R1.no,Ae,st,zZ,#[_,R3 (k0 _ _ h3)],qr (xs:=qs.map .ref) Pv #[k0,[],_,_,bY,#[zZ,λi a p e=>by simp at e],zZ] (λi O o _ p=>R3 (p.1 _ _ h3)) (λi v O H1 hv pv=>?_) (λO H1 pv=>?_)]
 .obtain⟨C,y,o4,o5,G,l,rfl⟩:=pv;rw[cz]at hv;obtain⟨b,eb,rfl⟩:=dW.mp hv;have li:=(cf.mp eb).1;obtain⟨L,T⟩:∃L,j[i]?=some L:=#[_,b7 ()];have SA:=(S.is i b L eb T).keeps C.keeps;obtain⟨ab,g,t,u,gr,s1,s2,s3,s4⟩:=id SA;have pl:=Jf T;have pn:=HE T;have la:=l.len;rw[uq ()]at la;refine#[λI o=>o=H1/\I=[some (.ref p),some (.ref N),some (.ref B),some (nv (lA j i+if 1<L.gs.length then 1 else 0)),some (.ref b),some (nv (jk j d i L).1)],#[_,zZ,b,ab,_,zZ,s1,(by kernel_rfl),b,m,ts,L,zZ,SA,_,zZ,lH (λc=>?_) (λc=>?_)],λI o z=>?_]
  .have J:=f7 c;rw[wB J]at pl|-;refine#[_,zZ,_,zZ,N,_,_,_,zZ,zZ,R4 (C _ _ D),tc (k:=lA j i) (),?_];unfold jk;rw[wB J];exact#[_,zZ,_,_,zZ,zZ,zZ,zZ]
  .have J:=Ee (wn.mpr c);rw[wA J]at pl|-;unfold jk;rw[wA J];exact#[zZ,zZ]
  .obtain⟨rfl,rfl⟩:=z;have ae:lA j i+(if 1<L.gs.length then 1 else 0)<d.length:=by rw[lr];exact pl
   refine#[_,zZ,.inl #[zZ,_,R3 G],_,zZ,_,zZ,_,zZ,N,_,_,_,zZ,zZ,R4 (C _ _ D),tc ae,by show 2<=sizeLine;decide,λU af=>?_];have e2:(jk j d i L).2=d.getD (lA j i+if 1<L.gs.length then 1 else 0) 0:=by
    unfold jk;by_cases c:1<L.gs.length
    .rw[wB c,wB c]
    .rw[wA c,wA c];rfl
   rw[<-e2];have Y:=cn af (.tup [nv (jk j d i L).1,nv (jk j d i L).2]);refine#[B,_,_,zZ,zZ,Y _ _ G,by rw[bW,db];lia,_,zZ,_,_,zZ,zZ,?_];have lo:zn (bT o U (.tup [nv (jk j d i L).1,nv (jk j d i L).2])) (bT (bT o U (.tup [nv (jk j d i L).1,nv (jk j d i L).2])) B (.lst (y.map V.ref++[.ref U]))):=Stays.offL (Y _ _ G);refine#[iA (C.trans Y) x,y++[U],some (.ref b),some (nv (jk j d i L).1),by rw[bY,dH];rfl,?_,?_]
   .rw[F0 T];exact((l.st (xg Y)).st lo).snoc (lo.a bY)
   .rw[pn];by_cases c:1<L.gs.length
    .rw[wB c,wB c];rfl
    .rw[wA c,wA c];rfl
 .obtain⟨C,y,o4,o5,G,l,rfl⟩:=pv;rw[bW,lq]at l;exact#[_,zZ,q B y H1 C x G l]
def ue(a:List Lv)(i:Nat)(x:bS):Prop:=∀(j:Nat) (L:Lv),j<i->a[j]?=some L->x∉L.c
section
variable{b:List Lv}
theorem RowOf.due(M:Mach H m ts n)(R:RowOf ts n a b)(e:b[i]?=some L):Due ts ((b.map (·.c)).drop i) L.c:=by
 refine LH R.od (JQ ts _) (Oe R.ff) (λc f d g r=>Cc M (R.ff.inU M (dm.mp (gX f).2.2.1).1) r) i L.c (by rw[cz,e];rfl)
theorem RowOf.in_drop(h:i<=j)(e:b[j]?=some L):L.c∈(b.map (·.c)).drop i:=by
 refine cF (i:=j-i) ?_;rw[zy,cz,show i+(j-i)=j by lia,e];rfl
theorem RowOf.len_le(M:Mach H m ts n)(R:RowOf ts n a b){i j:Nat}(h:i<=j)(e:b[i]?=some L)(d:b[j]?=some c){x y:bS}(f:x∈L.c)(g:y∈c.c):y.length<=x.length:=by
 rw[Ie M R.ff (R.ok L (cF e)).p.cls f,Ie M R.ff (R.ok c (cF d)).p.cls g];exact(R.due M e).most _ (RowOf.in_drop h d)
theorem GZ(M:Mach H m ts n)(R:RowOf ts n a b)(e:b[i]?=some L){here:bS}(h:here∈a)(k:ue b i here)(po:PairOk L p):ue b (i+1) (e7 ts L here p):=by
 by_cases c:here∈L.c
 .have ok:=R.ok L (cF e);obtain⟨l,o,q,_⟩:=(oX M R.ff).mp (ok.wthn_in M R.ff c po);have lt:=QC (R.ff.inU M h) (R.ff.inU M l) q o;intro j g r d f;have:=R.len_le M (show j<=i by lia) d e f c;lia
 .have s:e7 ts L here p=here:=by unfold e7;rw[wA c]
  rw[s];intro j g r d f;by_cases z:j=i
  .subst z;rw[e]at d;cases d;exact c f
  .exact k j g () d f
noncomputable def eG(ts:LN)(L:Lv)(here:bS):LN:=tl ts L.us (L.wds.getD (dS L.c here) [])
theorem LvOk.tls_iff(M:Mach H m ts n)(b:FamOf ts n a)(ok:LvOk ts a L){here:bS}(c:here∈L.c)(y:bS):y∈eG ts L here↔y∈jf a here:=by
 obtain⟨d,e⟩:=j7 c;exact NS M b ok.p e (gR (by rw[ok.p.len];exact d)) y
theorem Ax(c:here∈L.c)(p:Nat×Nat):e7 ts L here p=(eG ts L here).getD (jJ L p) []:=by
 unfold e7;rw[wB c];rfl
theorem vp:(eG ts L here).length=L.us.length:=by unfold eG tl;rw[List.length_map]
noncomputable def iJ(b:LN)(a:bS):Nat:=(b.map (sub a)).idxOf true
theorem Cz{b:LN}(h:∃t∈b,sub a t=true):true∈b.map (sub a)/\iJ b a<b.length/\sub a (b.getD (iJ b a) [])=true:=by
 obtain⟨t,ht,st⟩:=h;have d:=cH.mpr #[t,ht,st];have c:iJ b a<(b.map (sub a)).length:=yu.mpr d;have l2:iJ b a<b.length:=by rw[bW]at c;exact c
 have z:(b.map (sub a))[iJ b a]?=some true:=by rw[b7 c];exact de some (Bg c)
 refine#[d,l2,?_];rw[cz,b7 l2]at z;rw[dO,b7 l2];exact fK z
theorem LvOk.has_tile(M:Mach H m ts n)(b:FamOf ts n a)(ok:LvOk ts a L){here u:bS}(c:here∈L.c)(d:u∈a)(e:u≠here)(s:sub u here=true):∃t∈eG ts L here,sub u t=true:=by
 obtain⟨t,ht,st⟩:=(pZ M b here).all u d e s;exact#[t,(ok.tls_iff M b c t).mpr ht,st]
theorem LvOk.big_len(ok:LvOk ts a L){here:bS}(c:here∈L.c):1<here.length/\here∈a:=by
 obtain⟨b,d⟩:=dm.mp ((gX ok.p.cls).2.2.2 here c).1;exact#[f7 d,b]
theorem LvOk.tile0(M:Mach H m ts n)(b:FamOf ts n a)(ok:LvOk ts a L)(h:j<L.us.length):jJ L (0,j)=j:=by
 unfold jJ;rw[dO (l:=L.gs),ok.first M b];show(List.range L.us.length).getD j 0=j;rw[dO,mS h];rfl
end
structure Al(ps:List (Bool×Nat×Nat))(rs:bS):Prop where
 len:rs.length=ps.length
 lt:∀(j:Nat) (p:Bool×Nat×Nat) (r:Nat),ps[j]?=some p->rs[j]?=some r->r<p.2.2
theorem Al.app{f a:List (Bool×Nat×Nat)}(h:Al f g)(i:Al a b):Al (f++a) (g++b):=by
 refine#[by rw[di,di,h.len,i.len],λj p r d e=>?_];by_cases c:j<f.length
 .rw[d7 c]at d;rw[d7 (by rw[h.len];exact c)]at e;exact h.lt j p r d e
 .rw[eC ()]at d;rw[eC (by rw[h.len];lia),h.len]at e;exact i.lt _ p r d e
theorem Al.one(h:r<p.2.2):Al [p] [r]:=#[zZ,λj c d a b=>by
 cases j with
 |zero=>cases a;cases b;exact h
 |succ j=>cases a]
noncomputable def oS(L:Lv)(p:Nat×Nat):bS:=(if 1<L.gs.length then[p.1]else[])++[p.2]
noncomputable def mT(a:List Lv)(prs:List (Nat×Nat)):Nat->List Nat
 |0=>[]
 |i+1=>mT a prs i++(match a[i]?,prs[i]? with|some L,some p=>oS L p|_,_=>[])
noncomputable def Bj(a:List Lv)(prs:List (Nat×Nat)):bS:=mT a prs a.length
theorem GO(b:a[i]?=some L)(c:prs[i]?=some p):mT a prs (i+1)=mT a prs i++oS L p:=by
 show mT a prs i++_=_;rw[b,c]
theorem QJ(po:PairOk L p):Al (lR i L) (oS L p):=by
 refine Al.app ?_ (Al.one po.t);by_cases c:1<L.gs.length
 .rw[wB c,wB c];exact Al.one po.g
 .rw[wA c,wA c];exact#[zZ,λj p r e=>by simp at e]
theorem J6(d:prs.length=a.length)(po:∀(i:Nat) L p,a[i]?=some L->prs[i]?=some p->PairOk L p):∀i,i<=a.length->Al (mz a i) (mT a prs i)
 |0,_=>#[zZ,λj p r e=>by simp[mz]at e]
 |i+1,h=>by
  have b:=b7 (h);have c:=b7 (show i<prs.length by lia);rw[DS b,GO b c];exact(J6 d po i (fL h)).app (QJ (po i _ _ b c))
theorem IY(b:prs.length=a.length)(po:∀(i:Nat) L p,a[i]?=some L->prs[i]?=some p->PairOk L p):RowIn a (Bj a prs):=let z:=J6 b po a.length (cg _);#[z.len,z.lt]
theorem CA(M:Mach H m a n){x:bS}(h:x∈dN n):x.length<=5:=dh (tv M.n5 h) M.n5
inductive gD(C:Ad)(d:List V)(H:Hp)(Q:VK)(b:XK):Prop|mk:∀(q h e m:Ad) (c:LN) (L:Lv) (here a:bS),d=[.ref q,.ref h,.ref e]->StepAt C H q m c L->H h=some (.tup (here.map nv))->H e=some (.tup (a.map nv))->here∈L.c->L.c.Nodup->L.wds.length=L.c.length->L.us.length<=32->a.length<=5->(∃t∈eG c L here,sub a t=true)->(∀f,Same H f->Q (nv (iJ (eG c L here) a)) f)->gD C d H Q b
inductive d9(d CR:Ad)(e:List V)(H:Hp)(Q:VK)(b:XK):Prop|mk:∀(p l m:Ad) (f:As) (g:LN) (n:Nat) (a:List Lv) (prs:List (Nat×Nat)),e=[.ref p,.ref l]->RowAt d CR H p m g n a->a.length<=32->H l=some (.lst (f.map .ref))->PairsAt H f prs->prs.length=a.length->(∀t c,Same H c->c t=some (.tup ((Bj a prs).map nv))->Q (.ref t) c)->d9 d CR e H Q b
theorem Qj(F:Fun K wN "LevelParts.least_tile" Cj f fd)(P3:OwnC K C [sA,sH,sJ,sO,sQ])(T:dC P w K mg base vX 1 [vE,tG] jp):FnOk P w K mg base cG 3 f fd [sC,sY,sB] (gD C):=by
 refine F.ok QQ (λU A o s H vs Q E r h=>?_)
 obtain⟨q,h,Y,m,j,L,here,a,rfl,⟨dx,g,t,u,gr,h1,h2,h3,⟨as,t1,t2,t3⟩,_⟩,hh,x,c,nd,wl,few,r5,ex,k⟩:=h;have hu:=r.units;have y:=iT r;refine#[_,(cy (c8 (iZ iD B6 Cd Rg (iu (CompSc.to (N:=[sC,sY,sB]) (osc:=cu Cj) {}) zZ zZ (gY (mR y (gG (pv 0) zZ) (pv 1) (λ_ _=>rfl))) (λ_ _ _ _=>hZ) (λ_ _ _ _=>(dv T r.m zZ (cE (bV (pv 3) (bV (pv 0) cA zZ) zZ))))) (ci oK ce)))),?_];obtain⟨li,ei⟩:=j7 c;obtain⟨b,B⟩:∃b,as[dS L.c here]?=some b:=#[_,b7 ()];have ew:=gR (by rw[wl];exact li);obtain⟨D,G,I⟩:=t3 _ _ _ ew B;have dg:=ve nd t1 hh ei B;have le:=I.len;have lt:(eG j L here).length=L.us.length:=vp;have e:D.length=L.us.length:=by rw[le];exact lt
 refine#[_,zZ,q,C,dx,_,_,zZ,h1,P3.cl,P3.no,oJ,_,zZ,t,_,zZ,dg,b,zZ,#[_,R3 G],mG (xs:=D.map .ref) (λi l n=>Same H n/\l=(((eG j L here).take i).map (sub a)).map V.bl) (by rw[bW];exact small ()) #[Same.refl _,zZ] (λi l n _ p=>?_) (λi v l n J p=>?_) (λl n p sg z=>?_)]
 .obtain⟨g,rfl⟩:=p;refine#[R3 (g _ _ G),?_];rw[bW,bW,gk];exact Nat.min_le_left _ _
 .obtain⟨g,rfl⟩:=p;rw[cz]at J;obtain⟨d,M,rfl⟩:=dW.mp J;obtain⟨u,O⟩:∃u,(eG j L here)[i]?=some u:=#[_,b7 (by rw[lt,<-e];exact(cf.mp M).1)];refine#[ie,jt #[_,zZ,_,zZ,Y,d,a,u,zZ,g _ _ x,g _ _ (I.is i d u M O),r5,λH2 g2=>#[g.trans g2,?_]]];rw[i8,O,dH,dH];rfl
 .obtain⟨g,rfl⟩:=p;rw[bW,e,<-lt,gW];obtain⟨m1,_,_⟩:=Cz ex;have ks:=cn z (.lst (((eG j L here).map (sub a)).map V.bl));refine#[.inl #[zZ,_,R3 bY],sg,_,zZ,zZ,R3 bY,m1,k _ (g.trans ks)]
theorem Ni{G CR:Ad}(F:Fun K "unpaired" "Row.unpaired" Dh f fd)(P3:OwnC K G [sA,sH,sJ,sO,sQ])(R1:OwnC K CR [sB,tN])(jF:gI P w K mg base G wM 1 [sC] (l6 G))(uJ:mg "zip"=none)(jC:mg "tuple"=none):FnOk P w K mg base cG 3 f fd [sC,tX] (d9 G CR):=by
 refine F.ok qF (λae A O s H vs Q E hr h=>?_)
 obtain⟨p,l,m,as,ts,n,e,prs,rfl,⟨dx,r,st,qs,h1,h2,h3,S⟩,few,el,PA,lp,q⟩:=h;have hu:=hr.units;have lq:=S.len;have la:=PA.len;refine#[_,(cq (cT (i:=2) qF.nd zZ Z' (gB ce)) (cq (hK iX zZ (IT zZ uJ (cE (bV (gG (pv 0) zZ) (bV (pv 1) cA zZ) zZ))) (zU zZ (qu (fB (i:=3) qF.nd zZ Z') (qu (fB (i:=4) qF.nd zZ Z') AD))) (cq (sf (fG (iN (GB (pv 3) P3.cl jF hr.m)) (cy (iq (iZ iD lU lL me (pv 2) (ci (cU d6 (pv 4) cD (λ_ _=>rfl)) ce)))) fJ)) (cy (iq (iZ iD lU lL me (pv 2) (ci (cU d6 (pv 4) cD (λ_ _=>rfl)) ce)))))) (cy (c8 (iC nC zZ jC j9 (ci (pv 2) ce)))))),?_];refine#[by decide,λj k=>?_];have I:=cn k (.lst [])
 let Pv:Nat->L2.St->Hp->Prop:=λi J o=>Same H o/\∃(T U:Option V),o j=some (.lst ((mT e prs i).map nv))/\(mT e prs i).length<=2 * i/\J=[some (.ref p),some (.ref l),some (.ref j),T,U]
 refine#[_,zZ,p,CR,dx,_,_,zZ,I _ _ h1,R1.cl,R1.no,Ae,_,zZ,st,l,_,_,zZ,R3 (I _ _ h3),R3 (I _ _ el),Hf (xs:=qs.map .ref) (ys:=as.map .ref) Pv #[I,_,_,bY,cg _,zZ] (λi J o p=>#[R3 (p.1 _ _ h3),R3 (p.1 _ _ el)]) (λi x y M J Y hx hy nT pv=>?_) (λJ Y pv=>?_)]
 .obtain⟨g1,T,U,N,l2,rfl⟩:=pv;rw[cz]at hx hy;obtain⟨b,eb,rfl⟩:=dW.mp hx;obtain⟨a,B,rfl⟩:=dW.mp hy;have li:=(cf.mp eb).1;obtain⟨L,eL⟩:∃L,e[i]?=some L:=#[_,b7 ()];obtain⟨d,v⟩:∃d,prs[i]?=some d:=#[_,b7 ()];have kT:=cn nT (.tup [.ref b,.ref a]);have eT:bT Y M (.tup [.ref b,.ref a]) M=some (.tup [.ref b,.ref a]):=bY;generalize bT Y M (.tup [.ref b,.ref a])=H2 at kT eT|-;have g2:=g1.trans kT;have f2:=kT _ _ N;have SA:=(S.is i b L eb eL).keeps g2.keeps;obtain⟨aa,g,t,u,gr,s1,s2⟩:=id SA;have ab:=g2 _ _ (PA.is i a d B v);refine#[M,_,zZ,R4 eT,zZ,_,_,zZ,_,_,zZ,zZ,?_];refine#[λC o=>Same H o/\o j=some (.lst ((mT e prs i++(if 1<L.gs.length then[d.1]else[])).map nv))/\C=[some (.ref p),some (.ref l),some (.ref j),some (.ref b),some (.ref a)],#[_,zZ,b,aa,_,zZ,s1,(by kernel_rfl),b,m,ts,L,zZ,SA,_,zZ,lH (λc=>?_) (λc=>?_)],λC o z=>?_]
  .have c1:=f7 c;rw[wB c1];refine#[_,zZ,.inl #[zZ,_,R3 f2],_,zZ,a,_,_,_,zZ,zZ,R4 ab,zZ,j,_,_,zZ,zZ,f2,by rw[bW,db];lia,?_];exact#[iA g2 k,by rw[bY,dH];rfl,zZ]
  .have c1:=Ee (wn.mpr c);rw[wA c1,hA];exact#[g2,f2,zZ]
  .obtain⟨g3,f3,rfl⟩:=z;have D:=g3 _ _ (PA.is i a d B v);have l3:(mT e prs i++(if 1<L.gs.length then[d.1]else[])).length<=2 * i+1:=by
    rw[di];by_cases h:1<L.gs.length
    .rw[wB h];exact Nat.add_le_add_right l2 1
    .rw[wA h];exact dh l2 (re _)
   refine#[_,zZ,.inl #[zZ,_,R3 f3],_,zZ,a,_,_,_,zZ,zZ,R4 D,zZ,j,_,_,zZ,zZ,f3,by rw[bW,db];lia,?_];have eu:mT e prs (i+1)=mT e prs i++(if 1<L.gs.length then[d.1]else[])++[d.2]:=by rw[GO eL v,fu];rfl
   refine#[iA g3 k,_,_,by rw[bY,eu,dH (l₂:=[d.2])];rfl,?_,zZ];rw[eu,di];exact dh (Nat.add_le_add_right l3 1) ()
 .obtain⟨g1,T,U,N,l2,rfl⟩:=pv;have lm:min (qs.map V.ref).length (as.map V.ref).length=e.length:=by rw[bW,bW,lq,la,lp,Nat.min_self]
  rw[lm]at N;refine#[_,zZ,j,_,zZ,.inl #[R3 N,λt ht=>?_]];exact q t _ (g1.trans (cn ht _)) bY
noncomputable def i9(a:LN)(L:Lv)(here:bS)(l:Nat):bS:=(eG a L here).map λu=>dS (eG a L (b8 a here l)) (b8 a u l)
noncomputable def fP(b:LN)(L:Lv)(here a:bS)(l:Nat):bS×Option Nat:=
 if a∈L.c then(if here∈L.c/\b8 b here l=a then(i9 b L here l,none)else(List.range L.us.length,some (iJ (eG b L a) (b8 b here l))))else(List.range L.us.length,none)
noncomputable def vo(L:Lv)(d:bS×Option Nat)(a:Nat):Nat:=L.gs.idxOf (eJ (L.gs.getD a []) d.1)
noncomputable def Gg(L:Lv)(d:bS×Option Nat)(a b:Nat):Nat:=match d.2 with
 |none=>b
 |some j=>(L.gs.getD a []).idxOf j
noncomputable def mE(L:Lv)(d:bS×Option Nat)(p:Nat×Nat):Nat×Nat:=(vo L d p.1,Gg L d p.1 p.2)
section
variable{ts:LN}{f:List Lv}{L:Lv}
theorem AM(a:l<ts.length):∀z∈[l],z<ts.length:=λz b=>by rw[cJ.mp b];exact a
theorem LvOk.tls_nd(M:Mach H m ts n)(f:FamOf ts n d)(ok:LvOk ts d L){here:bS}(c:here∈L.c):(eG ts L here).Nodup:=by
 obtain⟨j,k⟩:=j7 c;obtain⟨p,g⟩:=ok.p.bij M f k (gR (by rw[ok.p.len];exact j));unfold eG tl;rw[List.Nodup,vb];refine Di (λ{a b} h i l e=>l ?_) (Av M f ok.p);rw[ok.p.tl]at h i;obtain⟨o,_,a3,_⟩:=(oX M f).mp h;obtain⟨q,_,r,_⟩:=(oX M f).mp i;rw[<-g.back M (f.inU M o) a3,<-g.back M (f.inU M q) r,e]
theorem xJ{j:Nat}{u:bS}(e:L.us[j]?=some u):(eG ts L here)[j]?=some (cN (b8 ts) u (L.wds.getD (dS L.c here) [])):=by
 unfold eG tl;rw[cz,e];rfl
theorem LvOk.trn_eq(M:Mach H m ts n)(e:FamOf ts n d)(ok:LvOk ts d L)(f:b8 ts here l∈L.c)(g:j5 ts L.us (L.wds.getD (dS L.c here) []) (L.wds.getD (dS L.c (b8 ts here l)) []) l a):a=i9 ts L here l:=by
 obtain⟨p,h⟩:=g;refine nr λj=>?_;by_cases i:j<L.us.length
 .have b:=b7 i;have c:=b7 (show j<a.length by lia);obtain⟨q,k,o⟩:=h j _ _ b c;unfold i9;rw[cz,xJ b,c];exact de some (Aa (ok.tls_nd M e f) (by rw[xJ k,o])).symm
 .have l2:(i9 ts L here l).length=L.us.length:=by unfold i9;rw[List.length_map,vp]
  rw[jg (),jg ()]
theorem LvOk.trn_by(M:Mach H m ts n)(e:FamOf ts n d)(ok:LvOk ts d L){here:bS}(f:l<ts.length)(g:here∈L.c)(h:b8 ts here l∈L.c):j5 ts L.us (L.wds.getD (dS L.c here) []) (L.wds.getD (dS L.c (b8 ts here l)) []) l (i9 ts L here l):=by
 obtain⟨i,k⟩:=j7 g;obtain⟨l2,o⟩:=j7 h;have p:=gR (show dS L.c here<L.wds.length by rw[ok.p.len];exact i);have q:=gR (show dS L.c (b8 ts here l)<L.wds.length by rw[ok.p.len];exact l2);refine#[by unfold i9;rw[List.length_map,vp],λj u r c a=>?_];unfold i9 at a;rw[cz,xJ c]at a;have a:dS (eG ts L (b8 ts here l)) (b8 ts (cN (b8 ts) u (L.wds.getD (dS L.c here) [])) l)=r:=fK a;have s:b8 ts (cN (b8 ts) u (L.wds.getD (dS L.c here) [])) l∈eG ts L (b8 ts here l):=Iv M e ok.p k p f o q (cF c);obtain⟨x,b⟩:=j7 s;rw[a]at b;unfold eG tl at b;rw[cz]at b;obtain⟨t,v,w⟩:=dW.mp b;exact#[t,v,w]
theorem LvOk.trn_gs(M:Mach H m ts n)(e:FamOf ts n d)(ok:LvOk ts d L){here:bS}(a:l<ts.length)(b:here∈L.c)(c:b8 ts here l∈L.c){g:bS}(f:g∈L.gs):eJ g (i9 ts L here l)∈L.gs:=by
 obtain⟨h,i⟩:=j7 b;obtain⟨l2,j⟩:=j7 c;exact(ok.g.mem _).mpr (.step ((ok.g.mem g).mp f) #[_,l,_,here,_,_,i,gR (by rw[ok.p.len];exact h),a,j,gR (by rw[ok.p.len];exact l2),ok.trn_by M e a b c])
theorem HM(M:Mach H m ts n)(a:FamOf ts n d){x:bS}(b:x∈d)(c:l<ts.length):b8 ts x l∈d:=C8 M a b (AM c)
theorem Cn{a:LN}{g:bS}(h:g∈a):a.idxOf g<a.length/\a.getD (a.idxOf g) []=g:=by
 have l:=yu.mpr h;refine#[l,?_];rw[dO,b7 l];exact Bg l
theorem NV{a:bS}(h:g∈a):a.idxOf g<a.length/\a.getD (a.idxOf g) 0=g:=by
 have l:=yu.mpr h;refine#[l,?_];rw[dO,b7 l];exact Bg l
theorem LvOk.still(M:Mach H m ts n)(b:FamOf ts n d)(ok:LvOk ts d L)(h:a<L.gs.length):eJ (L.gs.getD a []) (List.range L.us.length)=L.gs.getD a []:=KJ λr c=>ft.mp ((ok.pm M b (cF (gR h))).mem_iff.mp c)
theorem LvOk.idx_still(M:Mach H m ts n)(b:FamOf ts n d)(ok:LvOk ts d L)(h:a<L.gs.length):L.gs.idxOf (eJ (L.gs.getD a []) (List.range L.us.length))=a:=by
 rw[ok.still M b h];obtain⟨l,e⟩:=Cn (cF (gR h));exact(jj l ok.nd).mp ((gR l).trans (by rw[e];exact(gR h).symm))
theorem No(M:Mach H m ts n)(R:RowOf ts n d f)(e:f[i]?=some L){here:bS}(r:l<ts.length)(h:here∈d)(s:ue f i here)(k:b8 ts here l∈L.c):here∈L.c:=by
 have ok:=R.ok L (cF e);have o:Rch ts here (b8 ts here l):=#[[l],AM r,zZ];have x:=Cc M (R.ff.inU M h) (cb.mpr o);have y:=(ok.big_len k).1;obtain⟨t,a,b⟩:=Kw (dm.mpr #[h,dF (show 1<here.length by lia)]);obtain⟨c,u,rfl⟩:=cH.mp (He R.od t a);obtain⟨j,p⟩:=fF.mp u;by_cases g:j<i
 .exact wC b (s j c g p)
 .by_cases q:c.c=L.c
  .rw[<-q];exact b
  .have z:=(R.due M e).free c.c (RowOf.in_drop () p) q;have v:=((gX a).2.2.2 here b).2.1;have w:=((gX ok.p.cls).2.2.2 _ k).2.2;rw[cb.mpr ((v.trans o).trans w)]at z;cases z
theorem JN(M:Mach H m ts n)(R:RowOf ts n d f)(e:f[i]?=some L){here a:bS}(b:l<ts.length)(c:here∈d)(h:ue f i here)(s:sub (b8 ts here l) a=true)(g:a∈L.c)(no: ¬(here∈L.c/\b8 ts here l=a)):∃t∈eG ts L a,sub (b8 ts here l) t=true:=by
 refine(R.ok L (cF e)).has_tile M R.ff g (HM M R.ff c b) (λz=>no #[(No M R e b c h (by rw[z];exact g)),z]) s
theorem LvOk.wthn_sub(M:Mach H m ts n)(a:FamOf ts n d)(ok:LvOk ts d L){p:Nat×Nat}(po:PairOk L p):sub (e7 ts L here p) here=true:=by
 by_cases c:here∈L.c
 .exact((oX M a).mp (ok.wthn_in M a c po)).2.2.1
 .unfold e7;rw[wA c];exact cw.mpr λr b=>b
theorem Dr(M:Mach H m ts n)(R:RowOf ts n d f)(e:f[i]?=some L){here a:bS}(po:PairOk L p)(o:l<ts.length)(t:here∈d)(B:ue f i here)(tf:a∈d)(s:sub (b8 ts here l) a=true):
  PairOk L (mE L (fP ts L here a l) p)/\sub (b8 ts (e7 ts L here p) l) (e7 ts L a (mE L (fP ts L here a l) p))=true/\eJ (L.gs.getD p.1 []) (fP ts L here a l).1∈L.gs/\(∀j,(fP ts L here a l).2=some j->j∈L.gs.getD p.1 []):=by
 have ok:=R.ok L (cF e);have C:=gR po.g;have mg:=cF C;have pm:=ok.pm M R.ff mg;have gl:(L.gs.getD p.1 []).length=L.us.length:=by rw[pm.length_eq,lK]
 have D:=ok.wthn_fam M R.ff t po;have mono:=yH M (R.ff.inU M D) (R.ff.inU M t) (AM o) (ok.wthn_sub M R.ff po);by_cases b:a∈L.c
 .by_cases c:here∈L.c/\b8 ts here l=a
  .obtain⟨c,u⟩:=c;have h:fP ts L here a l=(i9 ts L here l,none):=by unfold fP;rw[wB b,wB #[c,u]]
   rw[h];have k:b8 ts here l∈L.c:=by rw[u];exact b
   have v:=ok.trn_gs M R.ff o c k mg;obtain⟨i1,i2⟩:=Cn v;refine#[#[i1,po.t],?_,v,λj z=>nomatch z];have g:jJ L (mE L (i9 ts L here l,none) p)=(i9 ts L here l).getD (jJ L p) 0:=by
    show(L.gs.getD (L.gs.idxOf (eJ (L.gs.getD p.1 []) (i9 ts L here l))) []).getD p.2 0=_;rw[i2];unfold eJ;rw[dO,cz,cR (by rw[gl];exact po.t)];rfl
   have w:=ok.wok M R.ff po;obtain⟨E,G⟩:=ok.trn_by M R.ff o c k;have x:=gR w.g3;have I:=cR (by rw[E];exact w.g3);obtain⟨J,N,O⟩:=G _ _ _ x I;have Q:e7 ts L here p=cN (b8 ts) (L.us.getD (jJ L p) []) (L.wds.getD (dS L.c here) []):=by rw[Ax c,dO,xJ x];rfl
   have a2:e7 ts L a (mE L (i9 ts L here l,none) p)=cN (b8 ts) J (L.wds.getD (dS L.c (b8 ts here l)) []):=by rw[Ax b,g,dO,xJ N,u];rfl
   rw[Q,a2,O];exact cw.mpr λr T=>T
  .have h:fP ts L here a l=(List.range L.us.length,some (iJ (eG ts L a) (b8 ts here l))):=by unfold fP;rw[wB b,wA c]
   rw[h];obtain⟨_,l2,st⟩:=Cz (JN M R e o t B s b c);rw[vp]at l2;have y:=pm.mem_iff.mpr (ft.mpr l2);obtain⟨A,U⟩:=NV y;have q:vo L (List.range L.us.length,some (iJ (eG ts L a) (b8 ts here l))) p.1=p.1:=ok.idx_still M R.ff po.g;refine#[#[by show vo L _ p.1<_;rw[q];exact po.g,by rw[gl]at A;exact A],?_,by rw[ok.still M R.ff po.g];exact mg,λj z=>by cases z;exact y];have g:jJ L (mE L (List.range L.us.length,some (iJ (eG ts L a) (b8 ts here l))) p)=iJ (eG ts L a) (b8 ts here l):=by
    show(L.gs.getD (vo L _ p.1) []).getD ((L.gs.getD p.1 []).idxOf _) 0=_;rw[q,U]
   rw[Ax b,g];exact EI mono st
 .have h:fP ts L here a l=(List.range L.us.length,none):=by unfold fP;rw[wA b]
  rw[h];have q:=ok.idx_still M R.ff po.g;have Y:mE L (List.range L.us.length,none) p=p:=Prod.ext q rfl;rw[Y];refine#[po,?_,by rw[ok.still M R.ff po.g];exact mg,λj z=>nomatch z];have ew:e7 ts L a p=a:=by unfold e7;rw[wA b]
  rw[ew];exact EI mono s
end
noncomputable def lX(a:LN)(n:Nat)(b:List Lv)(prs:List (Nat×Nat))(l:Nat):Nat->List Nat
 |0=>List.range n
 |i+1=>match b[i]?,prs[i]? with
  |some L,some p=>e7 a L (lX a n b prs l i) (mE L (fP a L (j6 a n b prs i) (lX a n b prs l i) l) p)
  |_,_=>lX a n b prs l i
noncomputable def oh(a:LN)(n:Nat)(b:List Lv)(prs:List (Nat×Nat))(l:Nat):Nat->List (Nat×Nat)
 |0=>[]
 |i+1=>oh a n b prs l i++(match b[i]?,prs[i]? with
  |some L,some p=>[mE L (fP a L (j6 a n b prs i) (lX a n b prs l i) l) p]
  |_,_=>[])
noncomputable def gj(c:LN)(n:Nat)(a:List Lv)(b:bS)(l:Nat):bS:=Bj a (oh c n a (ro a b) l a.length)
theorem JP(a:Ls[i]?=some L)(b:prs[i]?=some p):lX ts n Ls prs l (i+1)=e7 ts L (lX ts n Ls prs l i) (mE L (fP ts L (j6 ts n Ls prs i) (lX ts n Ls prs l i) l) p):=by
 show(match Ls[i]?,prs[i]? with|some L,some p=>_|_,_=>_)=_;rw[a,b]
theorem FH(a:Ls[i]?=some L)(b:prs[i]?=some p):oh ts n Ls prs l (i+1)=oh ts n Ls prs l i++[mE L (fP ts L (j6 ts n Ls prs i) (lX ts n Ls prs l i) l) p]:=by
 show oh ts n Ls prs l i++_=_;rw[a,b]
theorem vc(a:prs.length=Ls.length):∀{i},i<=Ls.length->(oh ts n Ls prs l i).length=i
 |0,_=>rfl
 |i+1,h=>by
  rw[FH (b7 h) (b7 (show i<prs.length by lia)),di,vc a (fL h)];rfl
theorem OU(b:prs.length=Ls.length)(c:Ls[i]?=some L)(d:prs[i]?=some p):(oh ts n Ls prs l Ls.length)[i]?=some (mE L (fP ts L (j6 ts n Ls prs i) (lX ts n Ls prs l i) l) p):=by
 have a:=(cf.mp c).1;obtain⟨r,z⟩:=xP (t:=oh ts n Ls prs l) (λi=>#[_,zZ]) (a);rw[z,FH c d,fu,eC (by rw[vc b (fL a)];exact cg _),vc b (fL a),m9];rfl
structure Both(ts fam:LN)(Ls:List Lv)(l i:Nat)(here there:bS):Prop where
 hf:here∈fam
 hp:ue Ls i here
 tf:there∈fam
 tp:ue Ls i there
 s:sub (b8 ts here l) there=true
theorem FY(M:Mach H m ts n)(R:RowOf ts n fam Ls)(k:prs.length=Ls.length)(po:∀(i:Nat) L p,Ls[i]?=some L->prs[i]?=some p->PairOk L p)(c:l<ts.length):∀i,i<=Ls.length->Both ts fam Ls l i (j6 ts n Ls prs i) (lX ts n Ls prs l i)
 |0,_=>by
  refine#[BS R.ff,λj L d=>wC d (m7 j),BS R.ff,λj L d=>wC d (m7 j),(cw.mpr λr o=>ft.mpr ((bZ.mp (R.ff.inU M (HM M R.ff (BS R.ff) c))).2 r o))]
 |i+1,h=>by
  have b:=FY M R k po c i (fL h);have a:=b7 (h);have e:=b7 (show i<prs.length by lia);have f:=po i _ _ a e;obtain⟨g,q,_,_⟩:=Dr M R a f c b.hf b.hp b.tf b.s;have ok:=R.ok _ (cF a);rw[J' a e,JP a e];exact#[ok.wthn_fam M R.ff b.hf f,GZ M R a b.hf b.hp f,ok.wthn_fam M R.ff b.tf g,GZ M R a b.tf b.tp g,q]
theorem Q7(M:Mach H m ts n)(R:RowOf ts n fam Ls)(c:prs.length=Ls.length)(po:∀(i:Nat) L p,Ls[i]?=some L->prs[i]?=some p->PairOk L p)(d:l<ts.length)(i:Nat)(L)(q:Nat×Nat)(a:Ls[i]?=some L)(e:(oh ts n Ls prs l Ls.length)[i]?=some q):PairOk L q:=by
 have g:=(cf.mp a).1;have f:=b7 (show i<prs.length by lia);rw[OU c a f]at e;cases e;have b:=FY M R c po d i (fL g);exact(Dr M R a (po i _ _ a f) d b.hf b.hp b.tf b.s).1
theorem Bo(M:Mach H m ts n)(R:RowOf ts n fam Ls)(b:RowIn Ls a)(c:l<ts.length):RowIn Ls (gj ts n Ls a l):=IY (vc (uq (cg _)) (cg _)) (Q7 M R (uq (cg _)) (b.po M R) c)
noncomputable def zN(x:bS):Zs:=x.map λr=>((r:Nat):Int)
theorem QA:i∈zN x↔ ∃r∈x,((r:Nat):Int)=i:=cH
theorem si:((r:Nat):Int)∈zN x↔r∈x:=by
 rw[QA];exact#[λ⟨a,h,e⟩=>by rwa[<-zw e],λh=>#[r,h,zZ]]
theorem IL:∀{x},(zN x).idxOf ((r:Nat):Int)=x.idxOf r
 | []=>rfl
 | a::x=>by
  show(((a:Nat):Int)::zN x).idxOf ((r:Nat):Int)=_;rw[BN,BN,IL];have e:(((a:Nat):Int)==((r:Nat):Int))=(a==r):=by
   rw[mv,mj,mj];exact#[λh=>by lia,λh=>by lia]
  rw[e]
def DeedAt(H:Hp)(r:Ad)(d:bS×Option Nat):Prop:=∃(a:Ad) (v:V),H r=some (.tup [.ref a,v])/\H a=some (.tup (d.1.map nv))/\v=(match d.2 with|none=> .non|some j=>nv j)
theorem DeedAt.same(h:DeedAt H r d)(g:Same H H'):DeedAt H' r d:=let⟨a,v,b,c,e⟩:=h;#[a,v,g _ _ b,g _ _ c,e]
inductive lE(C:Ad)(K:R6)(f:List V)(H:Hp)(Q:VK)(d:XK):Prop|mk:∀(q h t m:Ad) (b:LN) (n:Nat) (c:LN) (L:Lv) (here a:bS) (l:Nat),f=[.ref q,.ref h,.ref t,nv l]->StepAt C H q m b L->Mach H m b n->FamOf b n c->LvOk b c L->H h=some (.tup (here.map nv))->H t=some (.tup (a.map nv))->here∈c->l<b.length->((a∈L.c-> ¬(here∈L.c/\b8 b here l=a)->∃t∈eG b L a,sub (b8 b here l) t=true))->(∀r e,Same H e->DeedAt e r (fP b L here a l)->Q (.ref r) e)->lE C K f H Q d
inductive fR(C:Ad)(c:List V)(H:Hp)(Q:VK)(b:XK):Prop|mk:∀(q e m:Ad) (g:LN) (L:Lv) (d:bS×Option Nat) (a:Nat),c=[.ref q,.ref e,nv a]->StepAt C H q m g L->DeedAt H e d->a<L.gs.length->(∀x∈L.gs.getD a [],x<d.1.length)->(L.gs.getD a []).length<=1000->eJ (L.gs.getD a []) d.1∈L.gs->(∀f,Same H f->Q (nv (vo L d a)) f)->fR C c H Q b
inductive fO(C:Ad)(e:List V)(H:Hp)(Q:VK)(c:XK):Prop|mk:∀(q f m:Ad) (g:LN) (L:Lv) (d:bS×Option Nat) (a b:Nat),e=[.ref q,.ref f,nv a,nv b]->StepAt C H q m g L->DeedAt H f d->a<L.gs.length->((∀j,d.2=some j->j∈L.gs.getD a []))->Q (nv (Gg L d a b)) H->fO C e H Q c
inductive iK(C:Ad)(c:List V)(H:Hp)(Q:VK)(a:XK):Prop|mk:∀(q e f m:Ad) (g:LN) (L:Lv) (d:bS×Option Nat) (p:Nat×Nat),c=[.ref q,.ref e,.ref f]->StepAt C H q m g L->DeedAt H e d->H f=some (.tup [nv p.1,nv p.2])->p.1<L.gs.length->(∀x∈L.gs.getD p.1 [],x<d.1.length)->(L.gs.getD p.1 []).length<=1000->eJ (L.gs.getD p.1 []) d.1∈L.gs->((∀j,d.2=some j->j∈L.gs.getD p.1 []))->(∀t b,Same H b->b t=some (.tup [nv (mE L d p).1,nv (mE L d p).2])->Q (.ref t) b)->iK C c H Q a
theorem KR{a:LN}{g:bS}:∀i,i<a.idxOf g->a[i]? ≠some g:=λi b e=>by
 have y:=List.not_of_lt_findIdx b;obtain⟨d,c⟩:=cf.mp e;rw[c,qm]at y;cases y
theorem N1(F:Fun K "deed_of" "LevelParts.deed_of" EA f fd)(P3:OwnC K C [sA,sH,sJ,sO,sQ])(jL:dC P w K mg base vC 3 [sA,sB,tO] (dt K))(jG:gI P w K mg base C wN 3 [sC,sY,sB] (gD C)):FnOk P w K mg base cG 5 f fd [sC,sY,wF,sG] (lE C K):=by
 refine F.ok kJ (λal A aa s H vs Q E Y h=>?_)
 obtain⟨q,h,th,m,c,n,am,L,here,a,l,rfl,SA,M,I,ok,hh,ht,hf,hl,ext,k⟩:=h;have hu:=Y.units;have y:=iT Y;obtain⟨p,g,t,u,gr,x,h2,h3,⟨as,t1,t2,t3⟩,ab,u1,u2,u3⟩:=id SA;have nd:=ok.p.nd I;have e0:=ok.first M I;obtain⟨g0,J⟩:∃g0,gr[0]?=some g0:=#[_,b7 (by rw[h3.len];exact(cf.mp e0).1)];have B:=h3.is 0 g0 _ J e0;have hU:=I.inU M hf;have x5:=CA M hU;have xn:=(bZ.mp hU).2;refine#[_,(cq (cT (i:=4) kJ.nd zZ Z' (cU fH (gG (pv 0) zZ) cD (λ_ _=>rfl))) (cq (fG (oY (xN y (pv 2) (gG (pv 0) zZ))) (cy (c8 (kS (cE (bV (pv 4) (bV qf cA zZ) zZ))))) fJ) (cq (cT (i:=5) kJ.nd zZ Z' (dv jL Y.m zZ (cE (bV (gG (pv 0) zZ) (bV (pv 1) (bV (gB (ci (pv 3) ce)) cA zZ) zZ) zZ)))) (cq (fG (PW.pt (wr (oY (zC y (pv 1) (gG (pv 0) zZ))) (wQ (hG (DR hu) (pv 5) (pv 2) (fS _))))) (cy (c8 (kS (cE (bV (cU fH (mR y (gG (pv 0) zZ) (pv 1) (λ_ _=>rfl)) (pv 3) (λ_ _=>rfl)) (bV qf cA zZ) zZ))))) fJ) (cy (c8 (kS (cE (bV (pv 4) (bV (jh (pv 0) P3.cl jG Y.m (cE (bV (pv 2) (bV (pv 5) cA zZ) zZ))) cA zZ) zZ))))))))),?_];refine#[_,zZ,q,C,p,_,_,zZ,x,P3.cl,P3.no,xj,g,_,_,_,zZ,zZ,R3 h2,(iM (j:=0) (v:= .ref g0) (by rw[cz,J];rfl):ja _ ((0:Nat):Int)=_),?_];by_cases e:a∈L.c
 .obtain⟨li,ei⟩:=j7 e;obtain⟨b,eb⟩:∃b,as[dS L.c a]?=some b:=#[_,b7 ()];refine#[_,zZ,_,zZ,q,C,p,_,_,zZ,x,P3.cl,P3.no,oJ,t,_,zZ,ve nd t1 ht ei eb,_,zZ,eA ?_];refine#[_,zZ,q,C,p,_,_,zZ,x,P3.cl,P3.no,zx,_,zZ,_,zZ,by show 1<=sizeLine;decide,λp1 ae=>?_];have kp:=cn ae (.lst [nv l]);refine#[m,h,p1,c,n,here,[l],zZ,M.same kp,R4 (kp _ _ hh),x5,xn,R3 bY,AM hl,λen H2 N e2=>?_];have g2:=kp.trans N;have D:=e2;clear e2 N kp;by_cases O:here∈L.c
  .obtain⟨lh,eh⟩:=j7 O;obtain⟨bh,af⟩:∃b,as[dS L.c here]?=some b:=#[_,b7 ()];refine#[_,zZ,_,zZ,q,C,p,_,_,zZ,g2 _ _ x,P3.cl,P3.no,oJ,t,_,zZ,ve nd (g2 _ _ t1) (g2 _ _ hh) eh af,_,zZ,fy ?_];refine#[_,zZ,_,zZ,en,th,0,_,_,zZ,zZ,i7 (R4 D),i7 (R4 (g2 _ _ ht)),by decide,λcc hc=>#[_,zZ,?_]];have ag:cc=decide (b8 c here l=a):=by
    rw[mv,xY,<-df];exact hc
   subst ag;by_cases G:b8 c here l=a
   .rw[dF G];refine fy ?_;obtain⟨b2,T⟩:∃b,ab[dS L.c here]?=some b:=#[_,b7 ()];have ew:=gR (show dS L.c here<L.wds.length by rw[ok.p.len];exact lh);obtain⟨vs,v1,v2,v3⟩:=u3 _ _ _ _ eh ew T;obtain⟨v,ev⟩:∃v,vs[l]?=some v:=#[_,b7 ()]
    rcases v3 l v ev with⟨no,_⟩|⟨pj,js,k',ah,rfl,ep,ek,ai,tb⟩
    .exact wC (by rw[G];exact e) no
    have aj:=(Aa nd ek).symm;subst aj;have ak:ah=L.wds.getD (dS L.c (b8 c here l)) []:=by rw[dO,ai];rfl
    subst ak;have ej:=ok.trn_eq M I (by rw[G];exact e) tb;subst ej;refine#[_,zZ,q,C,p,_,_,zZ,g2 _ _ x,P3.cl,P3.no,xR,_,zZ,u,_,zZ,ve nd (g2 _ _ u1) (g2 _ _ hh) eh T,_,zZ,b2,_,_,_,zZ,zZ,R3 (g2 _ _ v1),iM ev,by show 2<=sizeLine;decide,λr d=>?_];have o:=cn d (.tup [.ref pj,.non]);refine k r _ (g2.trans o) #[pj,.non,bY,?_,?_]
    .rw[o _ _ (g2 _ _ ep)];unfold fP;rw[wB e,wB #[O,G]]
    .unfold fP;rw[wB e,wB #[O,G]]
   .rw[e8 G];refine eA ?_;have no: ¬(here∈L.c/\b8 c here l=a):=λz=>G z.2
    have ed:fP c L here a l=(List.range L.us.length,some (iJ (eG c L a) (b8 c here l))):=by unfold fP;rw[wB e,wA no]
    refine#[_,zZ,_,zZ,q,p,_,zZ,g2 _ _ x,(by kernel_rfl),_,zZ,_,zZ,q,th,en,m,c,L,a,b8 c here l,zZ,SA.keeps g2.keeps,g2 _ _ ht,D,e,nd,ok.p.len,(ok.p.inU M I).2,CA M (yJ M hU hl),ext e no,λH3 U=>#[by show 2<=sizeLine;decide,λr d=>?_]];have o:=cn d (.tup [.ref g0,nv (iJ (eG c L a) (b8 c here l))]);rw[ed]at k;exact k r _ ((g2.trans U).trans o) #[g0,_,bY,o _ _ ((g2.trans U) _ _ B),zZ]
  .refine#[_,zZ,_,zZ,q,C,p,_,_,zZ,g2 _ _ x,P3.cl,P3.no,oJ,t,_,zZ,An (g2 _ _ t1) (g2 _ _ hh) O,_,zZ,eA (eA ?_)]
   .have no: ¬(here∈L.c/\b8 c here l=a):=λz=>O z.1;have ed:fP c L here a l=(List.range L.us.length,some (iJ (eG c L a) (b8 c here l))):=by unfold fP;rw[wB e,wA no]
    refine#[_,zZ,_,zZ,q,p,_,zZ,g2 _ _ x,(by kernel_rfl),_,zZ,_,zZ,q,th,en,m,c,L,a,b8 c here l,zZ,SA.keeps g2.keeps,g2 _ _ ht,D,e,nd,ok.p.len,(ok.p.inU M I).2,CA M (yJ M hU hl),ext e no,λH3 U=>#[by show 2<=sizeLine;decide,λr d=>?_]];have o:=cn d (.tup [.ref g0,nv (iJ (eG c L a) (b8 c here l))]);rw[ed]at k;exact k r _ ((g2.trans U).trans o) #[g0,_,bY,o _ _ ((g2.trans U) _ _ B),zZ]
 .refine#[_,zZ,_,zZ,q,C,p,_,_,zZ,x,P3.cl,P3.no,oJ,t,_,zZ,An t1 ht e,_,zZ,fy ?_];refine#[_,zZ,by show 2<=sizeLine;decide,λr d=>?_];have o:=cn d (.tup [.ref g0,.non]);refine k r _ o #[g0,.non,bY,?_,?_]
  .rw[o _ _ B];unfold fP;rw[wA e]
  .unfold fP;rw[wA e]
theorem NX(F:Fun K "turned" "LevelParts.turned" FJ f fd)(P3:OwnC K C [sA,sH,sJ,sO,sQ])(G:dC P w K mg base wJ 1 [vE,tG] eO):FnOk P w K mg base cG 3 f fd [sC,tZ,tV] (fR C):=by
 refine F.ok K5 (λI A n s H vs Q E x h=>?_)
 obtain⟨q,J,m,ts,L,d,a,rfl,⟨y,g,t,u,M,z,o,l,_⟩,⟨N,v,O,T,_⟩,B,lt,U,mem,k⟩:=h;have Y:=x.units;obtain⟨b,c⟩:∃b,M[a]?=some b:=#[_,b7 (by rw[l.len];exact B)];have p:=l.is a b _ c (gR B);refine#[_,(cy (c8 (iZ iD B6 Cd (DG Y) (gG (pv 0) zZ) (ci (dv G x.m zZ (cE (bV (cU fH (gG (pv 0) zZ) (pv 2) (λ_ _=>rfl)) (bV (cU d6 (pv 1) cD (λ_ _=>rfl)) cA zZ) zZ))) ce)))),?_];refine#[_,zZ,q,C,y,_,_,zZ,z,P3.cl,P3.no,xj,.inl #[zZ,_,R3 o],_,zZ,q,C,y,_,_,zZ,z,P3.cl,P3.no,xj,_,zZ,g,_,_,_,zZ,zZ,R3 o,iM (by rw[cz,c];rfl),_,zZ,J,_,_,_,zZ,zZ,R4 O,zZ,b,N,_,_,zZ,p,T,lt,U,λr H2 g2 e2=>?_];obtain⟨D,_⟩:=Cn mem;refine#[g,_,1,.tup (gV (eJ (L.gs.getD a []) d.1)),L.gs.map λu=>Dt.tup (gV u),_,L.gs.idxOf (eJ (L.gs.getD a []) d.1),zZ,zZ,R3 (g2 _ _ o),by rw[bW,bW,l.len],i7 (R4 e2),Bx (l.same g2),by decide,fW.mpr (by rw[b7 D];exact de some (Bg D)),λi hi e=>KR i hi (fW.mp e),(k H2 g2)]
theorem Qc(F:Fun K "brought" "LevelParts.brought" DF f fd)(P3:OwnC K C [sA,sH,sJ,sO,sQ]):FnOk P w K mg base cG 1 f fd [sC,tZ,tV,"bringing"] (fO C):=by
 refine F.ok P' (λx A l s H M Q E y h=>?_)
 obtain⟨q,n,m,N,L,⟨O,z⟩,a,b,rfl,⟨B,g,t,u,D,G,I,p,_⟩,⟨T,v,o,U,rfl⟩,r,mem,k⟩:=h;have Y:=y.units;obtain⟨c,d⟩:∃c,D[a]?=some c:=#[_,b7 (by rw[p.len];exact r)];have e:=p.is a c _ d (gR r);refine#[_,(cq (fG (hG KH (cU d6 (pv 1) cD (λ_ _=>rfl)) qf (fS _)) (cy (c8 (pv 3))) fJ) (cy (c8 (La PySem.F.slot_tuple_index PySem.F.type_tuple_index KN (cU fH (gG (pv 0) zZ) (pv 2) (λ_ _=>rfl)) (ci (cU d6 (pv 1) cD (λ_ _=>rfl)) ce))))),?_];cases z with
 |none=>
  exact#[_,zZ,n,_,_,_,zZ,zZ,R4 o,zZ,zZ,_,zZ,fy #[_,zZ,k]]
 |some j=>
  refine#[_,zZ,n,_,_,_,zZ,zZ,R4 o,zZ,zZ,_,zZ,eA ?_];refine#[_,zZ,q,C,B,_,_,zZ,G,P3.cl,P3.no,xj,_,zZ,g,_,_,_,zZ,zZ,R3 I,iM (by rw[cz,d];rfl),?_];have J:(L.gs.getD a []).map nv=(zN (L.gs.getD a [])).map V.int:=by unfold zN;rw[List.map_map];rfl
  have i:=e;rw[J]at i;refine#[#[c,_,zZ,e],_,zZ,n,_,_,_,zZ,zZ,R4 o,zZ,c,zN (L.gs.getD a []),_,zZ,zZ,R4 i,si.mpr (mem j zZ),?_];rw[IL];exact k
theorem Nk(F:Fun K "pair_behind" "LevelParts.pair_behind" CK f fd)(P3:OwnC K C [sA,sH,sJ,sO,sQ])(z:gI P w K mg base C "turned" 3 [sC,tZ,tV] (fR C))(B:gI P w K mg base C "brought" 1 [sC,tZ,tV,"bringing"] (fO C)):FnOk P w K mg base cG 5 f fd [sC,tZ,tY] (iK C):=by
 refine F.ok Qs (λD A a s H J Q E j h=>?_)
 obtain⟨q,l,b,m,n,L,d,p,rfl,c,o,e,v,lt,G,mem,I,k⟩:=h;obtain⟨x,g,t,u,M,y,_⟩:=id c;refine#[_,(cy (c8 (kS (cE (bV (jh (pv 0) P3.cl z j.m (cE (bV (pv 1) (bV (cU d6 (pv 2) cD (λ_ _=>rfl)) cA zZ) zZ))) (bV (jh (pv 0) P3.cl B j.m (cE (bV (pv 1) (bV (cU d6 (pv 2) cD (λ_ _=>rfl)) (bV (cU d6 (pv 2) cD (λ_ _=>rfl)) cA zZ) zZ) zZ))) cA zZ) zZ))))),#[_,zZ,q,x,_,zZ,y,(by kernel_rfl),_,zZ,_,zZ,b,_,_,_,zZ,zZ,R4 e,zZ,q,l,m,n,L,d,p.1,zZ,c,o,v,lt,G,mem,λN g2=>?_]];refine#[_,zZ,q,x,_,zZ,g2 _ _ y,(by kernel_rfl),_,zZ,_,zZ,b,_,_,_,zZ,zZ,R4 (g2 _ _ e),zZ,_,zZ,b,_,_,_,zZ,zZ,R4 (g2 _ _ e),zZ,q,l,m,n,L,d,p.1,p.2,zZ,c.keeps g2.keeps,o.same g2,v,I,by show 2<=sizeLine;decide,λr i=>k r _ (g2.trans (cn i _)) bY]
inductive gK(f CR:Ad)(g:List V)(H:Hp)(Q:VK)(d:XK):Prop|mk:∀(p l m:Ad) (j:As) (b:LN) (n:Nat) (e:LN) (a:List Lv) (prs:List (Nat×Nat)) (lt k:Nat),g=[.ref p,.ref l,nv lt]->RowAt f CR H p m b n a->Mach H m b n->RowOf b n e a->H l=some (.lst (j.map .ref))->PairsAt H j (prs.take k)->prs.length=a.length->k<=a.length->((∀(i:Nat) (L:Lv) (p:Nat×Nat),a[i]?=some L->prs[i]?=some p->PairOk L p))->lt<b.length->(∀r h t o q c,Same H c->c r=some (.tup [.ref h,.ref t,.ref o])->c h=some (.tup ((j6 b n a prs k).map nv))->c t=some (.tup ((lX b n a prs lt k).map nv))->c o=some (.lst (q.map .ref))->PairsAt c q (oh b n a prs lt k)->Q (.ref r) c)->gK f CR g H Q d
inductive eV(g CR:Ad)(h:List V)(H:Hp)(Q:VK)(d:XK):Prop|mk:∀(p i m:Ad) (b:LN) (n:Nat) (e:LN) (c:List Lv) (a:bS) (lt:Nat),h=[.ref p,.ref i,nv lt]->RowAt g CR H p m b n c->Mach H m b n->RowOf b n e c->H i=some (.tup (a.map nv))->RowIn c a->lt<b.length->(∀t f,Same H f->f t=some (.tup ((gj b n c a lt).map nv))->Q (.ref t) f)->eV g CR h H Q d
theorem Nj{C CR:Ad}(F:Fun K "walked" "Row.walked" CF f fd)(P3:OwnC K C [sA,sH,sJ,sO,sQ])(R1:OwnC K CR [sB,tN])(jZ:gI P w K mg base C "deed_of" 5 [sC,sY,wF,sG] (lE C K))(jR:gI P w K mg base C "pair_behind" 5 [sC,tZ,tY] (iK C))(jI:gI P w K mg base C vQ 1 [sC,sY,tY] (fh C))(uJ:mg "zip"=none):FnOk P w K mg base cG 7 f fd [sC,tX,sG] (gK C CR):=by
 refine F.ok jP (λao A ai s H vs Q E hr h=>?_)
 obtain⟨p,l,m,as,c,n,aj,D,prs,lt,k,rfl,RA,M,R,el,PA,hl,kl,po,ll,q⟩:=h;have hu:=hr.units;obtain⟨dx,r,st,qs,h1,h2,h3,S⟩:=id RA;have lq:=S.len;have ap:=R.few;have la:as.length=k:=by rw[PA.len,gk];lia
 refine#[_,(cq (cT (i:=3) jP.nd zZ Z' (gG (pv 0) zZ)) (cq (cT (i:=4) jP.nd zZ Z' (gG (pv 0) zZ)) (cq (cT (i:=5) jP.nd zZ Z' (gB ce)) (cq (hK iX zZ (IT zZ uJ (cE (bV (gG (pv 0) zZ) (bV (pv 1) cA zZ) zZ))) (zU zZ (qu (fB (i:=6) jP.nd zZ Z') (qu (fB (i:=7) jP.nd zZ Z') AD))) (cq (cT (i:=8) jP.nd zZ Z' (jh (pv 6) P3.cl jR hr.m (cE (bV (jh (pv 6) P3.cl jZ hr.m (cE (bV (pv 3) (bV (pv 4) (bV (pv 2) cA zZ) zZ) zZ))) (bV (pv 7) cA zZ) zZ)))) (cq (cT (i:=3) jP.nd zZ Z' (jh (pv 6) P3.cl jI hr.m (cE (bV (pv 3) (bV (pv 7) cA zZ) zZ)))) (cq (cT (i:=4) jP.nd zZ Z' (jh (pv 6) P3.cl jI hr.m (cE (bV (pv 4) (bV (pv 8) cA zZ) zZ)))) (cy (iq (iZ iD lU lL me (pv 5) (ci (pv 8) ce)))))))) (cy (c8 (kS (cE (bV (pv 3) (bV (pv 4) (bV (pv 5) cA zZ) zZ) zZ))))))))),?_];refine#[_,zZ,p,CR,dx,_,_,zZ,h1,R1.cl,R1.no,EF,?_];refine#[_,zZ,p,CR,dx,_,_,zZ,h1,R1.cl,R1.no,EF,?_];refine#[by show 0<=sizeLine;decide,λT aa=>?_];have U:=cn aa (.lst [])
 let Pv:Nat->L2.St->Hp->Prop:=λi σ Y=>Same H Y/\∃(h t:Ad) (N:As) (o6 o7 o8:Option V),Y h=some (.tup ((j6 c n D prs i).map nv))/\Y t=some (.tup ((lX c n D prs lt i).map nv))/\Y T=some (.lst (N.map .ref))/\PairsAt Y N (oh c n D prs lt i)/\σ=[some (.ref p),some (.ref l),some (nv lt),some (.ref h),some (.ref t),some (.ref T),o6,o7,o8]
 refine#[_,zZ,p,CR,dx,_,_,zZ,U _ _ h1,R1.cl,R1.no,Ae,_,zZ,st,l,_,_,zZ,R3 (U _ _ h3),R3 (U _ _ el),Hf (xs:=qs.map .ref) (ys:=as.map .ref) Pv #[U,r,r,[],_,_,_,U _ _ h2,U _ _ h2,bY,#[zZ,λi a p e=>by simp at e],zZ] (λi σ Y p=>#[R3 (p.1 _ _ h3),R3 (p.1 _ _ el)]) (λi x y Tp σ H1 hx hy nT pv=>?_) (λσ H1 pv=>?_)]
 .obtain⟨g1,h,t,N,o6,o7,o8,eh,et,ef,d,rfl⟩:=pv;rw[cz]at hx hy;obtain⟨b,eb,rfl⟩:=dW.mp hx;obtain⟨G,ab,rfl⟩:=dW.mp hy;have li:=(cf.mp eb).1;have lk:=(cf.mp ab).1;obtain⟨L,I⟩:∃L,D[i]?=some L:=#[_,b7 ()];obtain⟨o,j⟩:∃o,prs[i]?=some o:=#[_,b7 ()];have ok:=R.ok L (cF I);have J:=FY M R hl po ll i ();have pk:=po i L o I j;obtain⟨n1,n2,n3,n4⟩:=Dr M R I pk ll J.hf J.hp J.tf J.s;have le:=d.len;rw[vc hl ()]at le;have kT:=cn nT (.tup [.ref b,.ref G]);have eT:bT H1 Tp (.tup [.ref b,.ref G]) Tp=some (.tup [.ref b,.ref G]):=bY;generalize bT H1 Tp (.tup [.ref b,.ref G])=H2 at kT eT|-;have g2:=g1.trans kT;have SA:=(S.is i b L eb I).keeps g2.keeps;obtain⟨v,g,tt,u,gr,s1,_⟩:=id SA;have ae:=PA.is i G o ab (by rw[A4 ()];exact j);have pm:=ok.pm M R.ff (cF (gR pk.g));have gl:(L.gs.getD o.1 []).length=L.us.length:=by rw[pm.length_eq,lK]
  have few:=(ok.p.inU M R.ff).2;refine#[Tp,_,zZ,R4 eT,zZ,_,_,zZ,_,_,zZ,zZ,?_];refine#[_,zZ,b,v,_,zZ,s1,(by kernel_rfl),_,zZ,b,v,_,zZ,s1,(by kernel_rfl),_,zZ,_,zZ,_,zZ,b,h,t,m,c,n,aj,L,_,_,lt,zZ,SA,M.same g2,R.ff,ok,kT _ _ eh,kT _ _ et,J.hf,ll,λct no=>JN M R I ll J.hf J.hp J.s ct no,λda H3 z DA=>?_];have g3:=kT.trans z;have ak:=g1.trans g3;have af:=SA.keeps z.keeps;have dl:∀x∈L.gs.getD o.1 [],x<(fP c L (j6 c n D prs i) (lX c n D prs lt i) lt).1.length:=λx hx=>by
   have xl:x<L.us.length:=ft.mp (pm.mem_iff.mp hx);have ed:(fP c L (j6 c n D prs i) (lX c n D prs lt i) lt).1.length=L.us.length:=by
    unfold fP;split
    .split
     .show(i9 _ _ _ _).length=_;unfold i9;rw[bW,vp]
     .exact lK
    .exact lK
   rw[ed];exact xl
  refine#[_,zZ,b,da,G,m,c,L,_,o,zZ,af,DA,ak _ _ ae,pk.g,dl,(),n3,n4,λen H4 B e4=>?_];have g4:=g3.trans B;have ag:=g1.trans g4;have ah:=af.keeps B.keeps;refine#[_,zZ,b,v,_,zZ,(z.trans B) _ _ s1,(by kernel_rfl),_,zZ,_,zZ,b,h,G,m,c,L,_,o,zZ,ah,g4 _ _ eh,ag _ _ ae,ok.wok M R.ff pk,λh' al=>?_];refine#[_,zZ,b,v,_,zZ,(z.trans B) _ _ s1,(by kernel_rfl),_,zZ,_,zZ,b,t,en,m,c,L,_,_,zZ,ah,g4 _ _ et,e4,ok.wok M R.ff n1,λt' am=>?_];have O:=g4 _ _ ef;refine#[_,zZ,.inl #[zZ,_,R3 O],_,zZ,T,_,_,zZ,zZ,O,by rw[bW,db];lia,?_];have lo:zn H4 (bT H4 T (.lst (N.map V.ref++[.ref en]))):=Stays.offL O;refine#[iA ag aa,h',t',N++[en],_,_,_,?_,?_,by rw[bY,dH];rfl,?_,zZ]
  .rw[J' I j];exact lo.a al
  .rw[JP I j];exact lo.a am
  .rw[FH I j];exact((d.st (xg g4)).st lo).snoc (lo.a e4)
 .obtain⟨g1,h,t,N,o6,o7,o8,eh,et,ef,d,rfl⟩:=pv;have lm:min (qs.map V.ref).length (as.map V.ref).length=k:=by rw[bW,bW,lq,la];lia
  rw[lm]at eh et d;refine#[_,zZ,_,zZ,_,zZ,by show 3<=sizeLine;decide,λrr an=>?_];have kr:=cn an (.tup [.ref h,.ref t,.ref T]);exact q rr h t T N _ (g1.trans kr) bY (kr _ _ eh) (kr _ _ et) (kr _ _ ef) (d.st (xg kr))
theorem Oj{c CR:Ad}(F:Fun K "moved" "Row.moved" Ec f fd)(R1:OwnC K CR [sB,tN])(z:gI P w K mg base CR "paired" 3 [sC,tI] (gJ c CR))(B:gI P w K mg base CR "walked" 7 [sC,tX,sG] (gK c CR))(C:gI P w K mg base CR "unpaired" 3 [sC,tX] (d9 c CR)):FnOk P w K mg base cG 9 f fd [sC,tI,sG] (eV c CR):=by
 refine F.ok Lg (λD A g s H vs Q E i h=>?_)
 obtain⟨p,G,m,j,n,k,a,b,lt,rfl,d,M,R,o,y,I,q⟩:=h;obtain⟨u,r,st,qs,v,_⟩:=id d;have x:(ro a b).length=a.length:=uq (cg _);refine#[_,(cy (c8 (jh (pv 0) R1.cl C i.m (ci (cU d6 (jh (pv 0) R1.cl B i.m (cE (bV (jh (pv 0) R1.cl z i.m (ci (pv 1) ce)) (bV (pv 2) cA zZ) zZ))) cD (λ_ _=>rfl)) ce)))),#[_,zZ,p,u,_,zZ,v,(by kernel_rfl),_,zZ,p,u,_,zZ,v,(by kernel_rfl),_,zZ,p,u,_,zZ,v,(by kernel_rfl),_,zZ,p,G,m,j,n,a,b,zZ,d,R.few,o,y.len,λl J H1 e nl L PA=>?_]];refine#[_,zZ,p,l,m,J,j,n,k,a,ro a b,lt,a.length,zZ,d.keeps e.keeps,M.same e,R,L,by rw[<-x,gW];exact PA,x,cg _,y.po M R,I,λN h t O T H2 g2 U eh et Y PE=>#[N,_,_,_,zZ,zZ,R4 U,zZ,p,O,m,T,j,n,a,_,zZ,d.keeps (e.trans g2).keeps,R.few,Y,PE,vc x (cg _),λtt H3 g3 e3=>?_]];exact q tt H3 ((e.trans g2).trans g3) e3
noncomputable def mZ(a:LN)(L:Lv)(here:bS)(room:Nat):Nat×Nat:=if here∈L.c then(0,iJ (eG a L here) [room])else(0,0)
noncomputable def ir(a:LN)(n:Nat)(b:List Lv)(room:Nat):Nat->List Nat
 |0=>List.range n
 |i+1=>match b[i]? with
  |some L=>e7 a L (ir a n b room i) (mZ a L (ir a n b room i) room)
  |none=>ir a n b room i
theorem CL(e:b[i]?=some L):ir a n b room (i+1)=e7 a L (ir a n b room i) (mZ a L (ir a n b room i) room):=by
 show(match b[i]? with|some L=>_|none=>_)=_;rw[e]
noncomputable def oG(a:LN)(n:Nat)(b:List Lv)(room:Nat):Nat->List (Nat×Nat)
 |0=>[]
 |i+1=>oG a n b room i++(match b[i]? with|some L=>[mZ a L (ir a n b room i) room]|none=>[])
theorem Br(e:b[i]?=some L):oG a n b room (i+1)=oG a n b room i++[mZ a L (ir a n b room i) room]:=by
 show oG a n b room i++_=_;rw[e]
theorem v7:∀{i},i<=a.length->(oG b n a room i).length=i
 |0,_=>rfl
 |i+1,h=>by
  rw[Br (b7 h),di,v7 (fL h)];rfl
theorem Mc(e:a[i]?=some L):(oG b n a room a.length)[i]?=some (mZ b L (ir b n a room i) room):=by
 have c:=(cf.mp e).1;obtain⟨r,z⟩:=xP (t:=oG b n a room) (λi=>#[_,zZ]) (c);rw[z,Br e,fu,eC (by rw[v7 (fL c)];exact cg _),v7 (fL c),m9];rfl
noncomputable def jd(b:LN)(n:Nat)(a:List Lv)(room:Nat):bS:=Bj a (oG b n a room a.length)
theorem LvOk.rof(M:Mach H m ts n)(a:FamOf ts n b)(ok:LvOk ts b L){here:bS}(d:room∈here)(g:here∈b):PairOk L (mZ ts L here room)/\room∈e7 ts L here (mZ ts L here room)/\(here∈L.c->∃t∈eG ts L here,sub [room] t=true):=by
 have g0:=ok.g0 M a;have i:=IK M a ok.p;have j:=(bZ.mp (a.inU M g)).2 room d;unfold mZ;by_cases c:here∈L.c
 .rw[wB c];have k:[room]≠here:=λe=>by
   have:=(ok.big_len c).1;rw[<-e]at this;exact wC this (iG 1)
  have f:=ok.has_tile M a c ((a.mem _).mpr (.inr #[room,j,zZ])) k (cw.mpr λr h=>by rw[cJ.mp h];exact d);obtain⟨_,l2,s⟩:=Cz f;rw[vp]at l2;refine#[#[g0,l2],?_,λ_=>f];rw[Ax c,ok.tile0 M a l2];exact cw.mp s room (cJ.mpr zZ)
 .rw[wA c];refine#[#[g0,i],?_,λh=>wC h c];unfold e7;rw[wA c];exact d
theorem EL(M:Mach H m ts n)(R:RowOf ts n b a)(c:room<n):∀i,room∈ir ts n a room i/\ir ts n a room i∈b
 |0=>#[ft.mpr c,BS R.ff]
 | i+1=>by
  obtain⟨i1,i2⟩:=EL M R c i;cases e:a[i]? with
  | none=>
   have z:ir ts n a room (i+1)=ir ts n a room i:=by
    show(match a[i]? with|some L=>_|none=>_)=_;rw[e]
   rw[z];exact#[i1,i2]
  |some L=>
   have ok:=R.ok L (cF e);obtain⟨d,f,_⟩:=ok.rof M R.ff i1 i2;rw[CL e];exact#[f,ok.wthn_fam M R.ff i2 d]
theorem Po(M:Mach H m ts n)(R:RowOf ts n b a)(f:room<n)(i:Nat)(L)(p:Nat×Nat)(d:a[i]?=some L)(e:(oG ts n a room a.length)[i]?=some p):PairOk L p/\p.1=0:=by
 rw[Mc d]at e;cases e;obtain⟨i1,i2⟩:=EL M R f i;refine#[((R.ok L (cF d)).rof M R.ff i1 i2).1,?_];unfold mZ;by_cases c:ir ts n a room i∈L.c
 .rw[wB c]
 .rw[wA c]
theorem BC(M:Mach H m ts n)(R:RowOf ts n b a)(c:room<n):RowIn a (jd ts n a room):=IY (v7 (cg _)) λi L p d e=>(Po M R c i L p d e).1
inductive gv(f CR:Ad)(g:List V)(H:Hp)(Q:VK)(b:XK):Prop|mk:∀(p m:Ad) (a:LN) (n:Nat) (c:LN) (d:List Lv) (room:Nat),g=[.ref p,nv room]->RowAt f CR H p m a n d->Mach H m a n->RowOf a n c d->room<n->(∀t e,Same H e->e t=some (.tup ((jd a n d room).map nv))->Q (.ref t) e)->gv f CR g H Q b
theorem Mq{B CR:Ad}(F:Fun K "row_of" "Row.row_of" Fa f fd)(P3:OwnC K B [sA,sH,sJ,sO,sQ])(R1:OwnC K CR [sB,tN])(jG:gI P w K mg base B wN 3 [sC,sY,sB] (gD B))(jI:gI P w K mg base B vQ 1 [sC,sY,tY] (fh B))(jV:gI P w K mg base CR "unpaired" 3 [sC,tX] (d9 B CR)):FnOk P w K mg base cG 5 f fd [sC,sX] (gv B CR):=by
 refine F.ok qB (λai A aa s H vs Q E hr h=>?_)
 obtain⟨p,m,o,n,aj,C,room,rfl,RA,M,R,ab,q⟩:=h;have hu:=hr.units;have ae:=iT hr;obtain⟨dx,r,st,qs,h1,h2,h3,S⟩:=id RA;have lq:=S.len;have ak:=R.few;refine#[_,(cq (cT (i:=2) qB.nd zZ Z' (gG (pv 0) zZ)) (cq (cT (i:=3) qB.nd zZ Z' (gB ce)) (cq (hK iX zZ (gY (gG (pv 0) zZ)) (fB (i:=4) qB.nd zZ Z') (cq (cT (i:=5) qB.nd zZ Z' (kS (cE (bV cD (bV (Nm (oY (zC ae (pv 2) (gG (pv 4) zZ))) (jh (pv 4) P3.cl jG hr.m (cE (bV (pv 2) (bV (kS (ci (pv 1) ce)) cA zZ) zZ))) cD) cA zZ) zZ)))) (cq (cT (i:=2) qB.nd zZ Z' (jh (pv 4) P3.cl jI hr.m (cE (bV (pv 2) (bV (pv 5) cA zZ) zZ)))) (cy (iq (iZ iD lU lL me (pv 3) (ci (pv 5) ce))))))) (cy (c8 (jh (pv 0) R1.cl jV hr.m (ci (pv 3) ce))))))),?_];refine#[_,zZ,p,CR,dx,_,_,zZ,h1,R1.cl,R1.no,EF,?_];refine#[by show 0<=sizeLine;decide,λG I=>?_];have k0:=cn I (.lst [])
 let Pv:Nat->L2.St->Hp->Prop:=λi σ H'=>Same H H'/\∃(h:Ad) (D:As) (o4 o5:Option V),H' h=some (.tup ((ir o n C room i).map nv))/\H' G=some (.lst (D.map .ref))/\PairsAt H' D (oG o n C room i)/\σ=[some (.ref p),some (nv room),some (.ref h),some (.ref G),o4,o5]
 refine#[_,zZ,p,CR,dx,_,_,zZ,k0 _ _ h1,R1.cl,R1.no,Ae,st,zZ,#[_,R3 (k0 _ _ h3)],qr (xs:=qs.map .ref) Pv #[k0,r,[],_,_,k0 _ _ h2,bY,#[zZ,λi a p e=>by simp at e],zZ] (λi σ H' _ p=>R3 (p.1 _ _ h3)) (λi v σ H1 hv pv=>?_) (λσ H1 pv=>?_)]
 .obtain⟨J,h,D,o4,o5,eh,ef,x,rfl⟩:=pv;rw[cz]at hv;obtain⟨b,eb,rfl⟩:=dW.mp hv;have li:=(cf.mp eb).1;obtain⟨L,eL⟩:∃L,C[i]?=some L:=#[_,b7 ()];have ok:=R.ok L (cF eL);obtain⟨i1,i2⟩:=EL M R ab i;obtain⟨po,_,ext⟩:=ok.rof M R.ff i1 i2;have SA:=(S.is i b L eb eL).keeps J.keeps;obtain⟨z,g,t,u,gr,s1,s2,s3,⟨af,t1,t2,t3⟩,_⟩:=id SA;have la:=x.len;rw[v7 ()]at la;have nd:=ok.p.nd R.ff;obtain⟨d,j⟩:∃d,d=mZ o L (ir o n C room i) room:=#[_,zZ];rw[<-j]at po;have wk:=ok.wok M R.ff po;by_cases c:ir o n C room i∈L.c
  .have dg:∃a,DGet H1 t (.ref h) (some (.ref a)):=by
    obtain⟨l1,l2⟩:=j7 c;obtain⟨a,ea⟩:∃a,af[dS L.c (ir o n C room i)]?=some a:=#[_,b7 ()];exact#[a,ve nd t1 eh l2 ea]
   obtain⟨a,dg⟩:=dg;refine#[_,zZ,_,zZ,b,B,z,_,_,zZ,s1,P3.cl,P3.no,oJ,t,_,zZ,dg,_,zZ,fy ?_];refine#[_,zZ,b,z,_,zZ,s1,(by kernel_rfl),_,zZ,_,zZ,by show 1<=sizeLine;decide,λsg ag=>?_];have k1:=cn ag (.tup [nv room]);refine#[b,h,sg,m,o,L,_,[room],zZ,SA.keeps k1.keeps,k1 _ _ eh,bY,c,nd,ok.p.len,(ok.p.inU M R.ff).2,by show 1<=5;decide,ext c,λH2 ah=>?_];have g2:=k1.trans ah;have N:d=(0,iJ (eG o L (ir o n C room i)) [room]):=by rw[j];unfold mZ;rw[wB c]
   refine#[by show 2<=sizeLine;decide,λy O=>?_];have kp:=cn O (.tup [nv d.1,nv d.2]);have T:bT H2 y (.tup [nv d.1,nv d.2]) y=some (.tup [nv d.1,nv d.2]):=bY;have k:=g2.trans kp;rw[show(HO.tup [V.int 0,nv (iJ (eG o L (ir o n C room i)) [room])])=HO.tup [nv d.1,nv d.2] by rw[N];rfl];generalize bT H2 y (.tup [nv d.1,nv d.2])=H3 at kp T k|-;have U:=SA.keeps k.keeps;refine#[_,zZ,b,z,_,zZ,k _ _ s1,(by kernel_rfl),_,zZ,_,zZ,b,h,y,m,o,L,_,d,zZ,U,k _ _ eh,T,wk,λa' Y=>?_];have l:=k _ _ ef;refine#[_,zZ,.inl #[zZ,_,R3 l],_,zZ,G,_,_,zZ,zZ,l,by rw[bW,db];lia,?_];have lo:zn H3 (bT H3 G (.lst (D.map V.ref++[.ref y]))):=Stays.offL l;refine#[iA (J.trans k) I,a',D++[y],_,_,?_,by rw[bY,dH];rfl,?_,zZ]
   .rw[CL eL,<-j];exact lo.a Y
   .rw[Br eL,<-j];exact((x.st (xg k)).st lo).snoc (lo.a T)
  .refine#[_,zZ,_,zZ,b,B,z,_,_,zZ,s1,P3.cl,P3.no,oJ,t,_,zZ,An t1 eh c,_,zZ,eA ?_];have g2:Same H1 H1:=Same.refl _;have N:d=(0,0):=by rw[j];unfold mZ;rw[wA c]
   refine#[by show 2<=sizeLine;decide,λy O=>?_];have kp:=cn O (.tup [nv d.1,nv d.2]);have T:bT H1 y (.tup [nv d.1,nv d.2]) y=some (.tup [nv d.1,nv d.2]):=bY;have k:=g2.trans kp;rw[show(HO.tup [V.int 0,V.int 0])=HO.tup [nv d.1,nv d.2] by rw[N];rfl];generalize bT H1 y (.tup [nv d.1,nv d.2])=H3 at kp T k|-;have U:=SA.keeps k.keeps;refine#[_,zZ,b,z,_,zZ,k _ _ s1,(by kernel_rfl),_,zZ,_,zZ,b,h,y,m,o,L,_,d,zZ,U,k _ _ eh,T,wk,λa' Y=>?_];have l:=k _ _ ef;refine#[_,zZ,.inl #[zZ,_,R3 l],_,zZ,G,_,_,zZ,zZ,l,by rw[bW,db];lia,?_];have lo:zn H3 (bT H3 G (.lst (D.map V.ref++[.ref y]))):=Stays.offL l;refine#[iA (J.trans k) I,a',D++[y],_,_,?_,by rw[bY,dH];rfl,?_,zZ]
   .rw[CL eL,<-j];exact lo.a Y
   .rw[Br eL,<-j];exact((x.st (xg k)).st lo).snoc (lo.a T)
 .obtain⟨J,h,D,o4,o5,eh,ef,x,rfl⟩:=pv;rw[bW,lq]at x;refine#[_,zZ,p,dx,_,zZ,J _ _ h1,(by kernel_rfl),_,zZ,p,G,m,D,o,n,C,_,zZ,RA.keeps J.keeps,R.few,ef,x,v7 (cg _),λt H2 g2 e2=>?_];exact q t H2 (J.trans g2) e2
def xQ(K:R6)(D:Ad):Prop:=∃a b sl,K.lookup D=some #[.type "type",a,.cls b,sl]
def Under(K:R6)(C:Ad)(v:Vl)(b:Bool):Prop:=∃c d a sl,K.lookup C=some #[c,d,.cls a,sl]/\a.mro.isEmpty=false/\a.mro.contains v=b
section
variable{C D:Ad}
theorem Under.sub(u:Under K C v b):PySem.W.subIn K (.ref C) v=some b:=by
 obtain⟨c,h,a,sl,d,f,g⟩:=u;have e:PySem.W.clsIn K C=some a:=by
  unfold PySem.W.clsIn;rw[d]
 show PySem.W.mroIn K C v=some b;unfold PySem.W.mroIn;rw[e];show(if a.mro.isEmpty=true then none else some (a.mro.contains v))=some b;rw[wA (by rw[f];decide),g]
theorem b4a(a:(Value.ref C==Value.ref D)=false)(c:xQ K D)(u:Under K C (.ref D) b):PySem.W.kitOne K (.ref C) (.ref D)=some b:=by
 obtain⟨g,d,sl,h⟩:=c;have e:PySem.W.clsIn K D=some d:=by
  unfold PySem.W.clsIn;rw[h]
 have f:PySem.W.typeIn K (.ref D)=some (.type "type"):=by
  show(K.lookup D).map (·.cls)=_;rw[h];rfl
 unfold PySem.W.kitOne;rw[wA (by rw[a];decide)];show(if((PySem.W.clsIn K D).isSome&&PySem.W.typeIn K (.ref D)==some (.type "type"))=true then PySem.W.subIn K (.ref C) (.ref D)else none)=some b;rw[e,f,wB (by rw[qm];rfl),u.sub]
theorem d5n(m:PySem.W.kitMeta T=true)(u:Under K C (.type T) b):PySem.W.kitOne K (.ref C) (.type T)=some b:=by
 unfold PySem.W.kitOne;rw[wA (λz=>wC (mj.mp z) (by intro y;cases y))];show(if PySem.W.kitMeta T=true then PySem.W.subIn K (.ref C) (.type T)else none)=some b;rw[wB m,u.sub]
end
theorem Ea:(dP[2]'(by decide))∈dP:=jv _
abbrev mJ:Str:=tT
noncomputable def yX:HO->Bool
 |.tbl _=>true
 |.ext _=>true
 |_=>false
theorem Kk(f:H c=some (.ext a)):Stays yX H (L2.drop H c):=λb o d h=>by
 rw[dX (io h f λe=>by rw[e]at d;cases d)];exact h
theorem RowAt.st{b CR:Ad}(h:RowAt b CR H p m d n e)(g:Stays yX H c):RowAt b CR c p m d n e:=
 let⟨a,r,s,j,k,l,o,f⟩:=h;#[a,r,s,j,g.a k,g.a l,g.a o,f.len,λi q L v w=>let⟨a,y,t,u,x,z,A,B,⟨C,D,E,G⟩,⟨bs,I,J,M⟩⟩:=f.is i q L v w;#[a,y,t,u,x,g.a z,g.a A,g.tups B,#[C,g.a D,E,G.lts g],#[bs,g.a I,J,M.lts g]]]
noncomputable def rz:Nat->Nat->List bS
 |0,_=>[[]]
 |k+1,b=>(List.range b).flatMap λi=>(rz k b).map (i:: ·)
theorem Ho:∀{x},(∀i∈x,i<b)->x∈rz x.length b
 | [],_=>cJ.mpr rfl
 |i::x,h=>List.mem_flatMap.mpr #[i,ft.mpr (h i (dy ..)),cH.mpr #[x,Ho λj a=>h j (eM _ a),zZ]]
noncomputable def gb (a:List Lv):LN:=(rz (og a).length (((og a).map (·.2.2)).foldl max 0)).filter λx=>@decide (RowIn a x) (Classical.propDecidable _)
theorem Gk:∀(l:bS) b,b<=l.foldl max b/\∀a∈l,a<=l.foldl max b
 | [],b=>#[cg _,λa h=>nomatch h]
 | c::l,b=>by
  obtain⟨d,f⟩:=Gk l (max b c);have g:=Nat.le_max_left b c;have i:=Nat.le_max_right b c;refine#[dh g d,λa h=>?_]
  rcases cP.mp h with e|e
  .rw[e];exact dh i d
  .exact f a e
theorem ck{x:bS}:x∈gb a↔RowIn a x:=by
 unfold gb;rw[dm,@decide_eq_true_iff _ (Classical.propDecidable _)];refine#[λh=>h.2,λh=>#[?_,h]];rw[<-h.len];refine Ho λi d=>?_;obtain⟨j,b⟩:=rc d;obtain⟨p,c⟩:∃p,(og a)[j]?=some p:=#[_,b7 (by rw[<-h.len];exact(cf.mp b).1)];exact eB (h.lt j p i c b) ((Gk _ 0).2 _ (cH.mpr #[p,cF c,zZ]))
noncomputable def mO(g:bS->Nat->List Nat)(L:Nat)(a:LN):LN:=(List.range L).map λl=>a.map λx=>a.idxOf (g x l)
noncomputable def gZ(k:Nat)(a:LN):List (List cQ×V):=(a.zipIdx k).map λp=>(nk p.1,nv p.2)
theorem IN:gZ 0 (a++[x])=gZ 0 a++[(nk x,nv a.length)]:=by
 unfold gZ;rw[List.zipIdx_append,dH,pO];rfl
theorem vm:∀{xs} {k},(gZ k xs).map (·.1)=xs.map nk
 | [],_=>rfl
 |x::xs,k=>de (nk x:: ·) (vm)
theorem z6:∀{a} {k} {x},x∈a->gn (gZ k a) (nk x)=some (nv (k+a.idxOf x))
 | y::a,k,x,h=>by
  by_cases e:y=x
  .subst e;rw[List.idxOf_cons_self];exact yS rfl
  .have z:=z6 (k:=k+1) ((cP.mp h).resolve_left λz=>e z.symm);rw[BN,beq_false_of_ne e,cond_false,show k+(a.idxOf x+1)=k+1+a.idxOf x by lia];exact(v5 λz=>e (w6 z)).trans z
theorem Ez(h:x∉a):gn (gZ k a) (nk x)=none:=by
 cases z:gn (gZ k a) (nk x)with
 |none=>rfl
 |some v=>
  have y:=AG (nk x) (gZ k a);rw[z]at y;obtain⟨d,e,f⟩:=zg.mp y;have b:=cH.mpr #[d,e,f7 f];rw[vm]at b;obtain⟨i,c,g⟩:=cH.mp b;rw[w6 g]at c;exact wC c h
theorem FR:(gZ 0 a).length=a.length:=by
 have:=de List.length (vm (xs:=a) (k:=0));rw[bW,bW]at this;exact this
theorem Bv{H H':Hp}(k:Keeps H H')(h:H' d=none):L2.noT H d=none:=by
 cases y:L2.noT H d with
 |none=>rfl
 |some o=>
  have z:=k _ _ y;rw[h]at z;cases z
theorem Ep(t:Tabs H)(h:H d=some (.dT a)):Tabs (bT H d o):=t.most λb u f _ c=>by
 rw[bX (io c h λe=>f _ e)];exact c
inductive dr(C:Ad)(f:List V)(H:Hp)(Q:VK)(E:XK):Prop|mk:∀(m:Ad) (b:LN) (n room most:Nat),f=[.ref m,nv room,nv most]->Mach H m b n->room<n->most<=400->Tabs H->((∀p l t bs g e c d a,Keeps H a->Tabs a->RowOf b n e c->Told (gj b n c) b.length (jd b n c room) d->d.length<=most->L2.noT H l=none->a p=some (.tup [.ref l,.ref t])->a l=some (.lst (bs.map .ref))->TupsAt a bs (d.map (·.1))->a t=some (.tup (g.map .ref))->TupsAt a g (mO (gj b n c) b.length (d.map (·.1)))->Q (.ref p) a))->(∀e c (d:TW) a h,Keeps H a->Tabs a->RowOf b n e c->a h=some (.xd [(sK,nv most)])->(d.map (·.1)).Nodup->(∀p∈d,(∀l∈p.2,l<b.length)/\cN (gj b n c) (jd b n c room) p.2=p.1)->most<d.length->E (.ref C) (some h) a)->dr C f H Q E
section
variable{f C B CR:Ad}
theorem G2{G c p m z:Ad}{C:LN}{f:Expr}{rest:List Stmt}(e:fc mV=s0:: .Assign J (.Call fx [a1,a2,.Lambda a f d lp,a4] kw cp) rp::rest)(R1:OwnC K CR [sB,tN]) (jM:gI P w K mg base CR "moved" 9 [sC,tI,sG] (eV B CR)) (M:Mach v m i n) (R:RowOf i n C j) (RA:RowAt B CR v p m i n j) (h1:v G=some (gN G (fq mJ a f d tI c pm (.ref z) I))) (h2:v c=some (dU c p Y)) (h3:v z=some (jy z mJ)):
  FnOk P w K mg base cG 11 G (fq mJ a f d tI c pm (.ref z) I) [sB,sG] (dE (Same v) (gb j) i.length (gj i n j))/\Binds K (fq mJ a f d tI c pm (.ref z) I) [sB,sG] []:=by
 cases e;refine#[Fz (m:=p) (oc:=Y) #[zZ,zZ,zZ,by decide+kernel,by decide+kernel,zZ,by decide+kernel] (λvs H Q E h=>?_) (λvs H Q E h=>?_) (λA L s H vs Q E hr h=>?_),.all λus N=>match us,N with| [_,_],_=>rfl]
 .obtain⟨t,x,l,rfl,_⟩:=h;rfl
 .obtain⟨t,x,l,rfl,g,_⟩:=h;exact#[g _ _ h1,g _ _ h2,g _ _ h3]
 .obtain⟨t,x,l,rfl,g,ht,hx,N,q⟩:=h;refine#[_,(jh (pv 2) R1.cl jM hr.m (cE (bV (pv 0) (bV (pv 1) cA zZ) zZ))),?_];have D:=g _ _ h2;have RD:=(RA.st λb o _ h=>g b o h).st (Kk D);have O:(L2.drop H c) t=some (.tup (x.map nv)):=by rw[dX (nE ht D)];exact ht
  obtain⟨dx,r,st,qs,r1,_⟩:=id RD;refine#[_,zZ,p,dx,_,zZ,r1,(by kernel_rfl),_,zZ,_,zZ,p,t,m,i,n,C,j,x,l,zZ,RD,(M.same g).drop D,R,O,ck.mp hx,N,λu H3 g3 e3 free=>q u _ (λy o T=>?_) ?_]
  .by_cases U:y=c
   .subst U;rw[D]at T;cases T;exact bY
   .rw[bX U];exact g3 _ _ (by rw[dX U];exact T)
  .rw[bX (dj e3 free)];exact e3
theorem Md{R:V->Hp->Prop}{R':XK}{f:Arguments}(e:fc mV=s0:: .Assign ai (.Call fx [a1,a2,.Lambda f i g lp,a4] kw cp) rp::aj)(R1:OwnC K CR [sB,tN]) (jM:gI P w K mg base CR "moved" 9 [sC,tI,sG] (eV B CR)) (Y:Mach y m q n) (RO:RowOf q n ah A) (RA:RowAt B CR y p m q n A) (rn:room<n) (hp:y sa=some (.tup ((jd q n A room).map nv))) (O:most<=400) (hq:(mJ,(#[239,52,239,98]:Pos),T)∈dP) (hT:Tabs y) (aa:σ[3]?=some (some (.ref p))) (N:σ[2]?=some (some (nv most)))(rest:∀D G as L,Keeps y L->Tabs L->WordsAt L D G as->L2.noT y D=none->Told (gj q n A) q.length (jd q n A room) G->G.length<=most->R (.ref D) L)(Q:∀(G:TW) L dx,Keeps y L->Tabs L->L dx=some (.xd [(sK,nv most)])->(G.map (·.1)).Nodup->(∀p∈G,(∀l∈p.2,l<q.length)/\cN (gj q n A) (jd q n A room) p.2=p.1)->most<G.length->R' (.ref C) (some dx) L):
  ik (yg T mJ f i g tI c pm (#[239,52,239,98]:Pos)) (ik (cX 2) f8) σ y λxs h=>∃m1,σ[3]?=some (some (.ref m1))/\∀k,h c=none->dJ P w K mg base C (.ref sa:: .int (q.length:Int)::xs++[]) (bT h c (dU c m1 k)) (λr h=>h c=some (dU c m1 k)/\R r (L2.drop h c)) (λv d h=>h c=some (dU c m1 k)/\R' v d (L2.drop h c)):=by
 have go:∀E t M J ab,y T=some (.tbl ab)->KeepsBut T y J->J T=some (.tbl (jE (#[239,52,239,98]:Pos) t))->J t=some (jy t mJ)->J E=some (gN E (fq mJ f i g tI c pm (.ref t) M))->
   ∀k,J c=none->(FnOk P w K mg base cG 11 E (fq mJ f i g tI c pm (.ref t) M) [sB,sG] (dE (Same (bT J c (dU c p k))) (gb A) q.length (gj q n A)))->Binds K (fq mJ f i g tI c pm (.ref t) M) [sB,sG] []->
   dJ P w K mg base C [.ref sa,nv q.length,.ref E,nv most] (bT J c (dU c p k)) (λr h=>h c=some (dU c p k)/\R r (L2.drop h c)) (λv d h=>h c=some (dU c p k)/\R' v d (L2.drop h c)):=λE t M J ab ae kb t1 t2 t3 k H hF hB=>by
  have u:=kb.keeps ae;have s:=cn H (dU c p k);have kp:∀{h},Same (bT J c (dU c p k)) h->Keeps y (L2.drop h c):=λg2 b o hb=>by
   have z:=u b o hb;rw[dX (dj z H)];exact g2 _ _ (s _ _ z)
  have tb:∀{h},Same (bT J c (dU c p k)) h->Tabs (L2.drop h c):=λg2=>hT.but hq ae (λb o nb hb=>by
   have z:=kb b o nb hb;rw[dX (dj z H)];exact g2 _ _ (s _ _ z))<|.inr #[t,by
   rw[dX (dj t1 H)];exact g2 _ _ (s _ _ t1),by
   rw[dX (dj t2 H)];exact g2 _ _ (s _ _ t2)]
  refine#[sa,E,_,_,jd q n A room,q.length,gb A,gj q n A,most,zZ,s _ _ (u _ _ (nU hp)),s _ _ t3,ck.mpr (BC Y RO rn),λx hx l hl=>ck.mpr (Bo Y RO (ck.mp hx) hl),?_,O,hF,hB,λD G as h g2 W nw TT le=>#[g2 _ _ bY,rest D G as _ (kp g2) (tb g2) #[W.len,?_,λj a r e1 e2=>?_] (Bv (u.trans s.keeps) (nw D (dy ..))) TT le],λG h dx g2 _ af kn run lt=>#[g2 _ _ bY,Q G _ dx (kp g2) (tb g2) (by rw[dX (nE af (g2 _ _ bY))];exact af) kn run lt]]
  .have:=Y.few;lia
  .rw[dX (nE W.dict (g2 _ _ bY))];exact W.dict
  .have z:=W.list j a r e1 e2;rw[dX (nE z (g2 _ _ bY))];exact z
 rcases hT _ hq with hT|⟨t,hT,I⟩
 .refine .inl #[hT,λE t M U I ne=>#[_,N,p,aa,λk H=>?_]];obtain⟨u,ak,ag⟩:=Dc (#[239,52,239,98]:Pos) mJ hT U I ne (gN E (fq mJ f i g tI c pm (.ref t) M));have s:=cn H (dU c p k);obtain⟨F1,F2⟩:=G2 e R1 jM ((Y.keeps (u.keeps hT)).same s) RO ((RA.keeps (u.keeps hT)).keeps s.keeps) (s _ _ bY) bY (s _ _ ag);exact go E t M _ _ hT u ak ag bY k H F1 F2
 .refine .inr #[t,hT,I,λE M U=>#[_,N,p,aa,λk H=>?_]];have u:=λlo=>cn U lo;have s:=cn H (dU c p k);obtain⟨F1,F2⟩:=G2 e R1 jM ((Y.same (u _)).same s) RO ((RA.keeps (u _).keeps).keeps s.keeps) (s _ _ bY) bY (s _ _ (u _ _ _ I));exact go E t M _ _ hT (λb o _ hb=>u _ _ _ hb) (u _ _ _ hT) (u _ _ _ I) bY k H F1 F2
theorem Nt{cd T:Ad}(F:DefAt K sW mV f G ak (.ref cd))(hC:PySem.W.CodeHd base cd T)(bm:oA mg base)(hq:(mJ,(#[239,52,239,98]:Pos),T)∈dP)(R1:OwnC K CR [sB,tN])(uK:yB P w K mg base "Row" CR 20 [sC,sA] (eW B CR))(kE:gI P w K mg base CR "row_of" 5 [sC,sX] (gv B CR))(jM:gI P w K mg base CR "moved" 9 [sC,tI,sG] (eV B CR))(qJ:CalleeDX P w K mg base sU 14 [vZ,vN,vK,sK] (dJ P w K mg base C) []) (jD:mg "len"=none) (jB:mg "range"=none) (jC:mg "tuple"=none) (qC:mg "list"=none):FnOk P w K mg base (CX1 P w) 22 f G [sA,sX,sK] (dr C):=by
 refine F.fnOkX kX (λvs H Q E h=>?_) (λA al s H vs Q E h hr=>?_)
 .obtain⟨m,v,n,room,most,rfl,_⟩:=h;rfl
 obtain⟨m,v,n,room,most,rfl,M,rn,aa,hT,q,qE⟩:=h;have af:=iT hr;refine#[_,?_,(cq (cT (i:=3) kX.nd zZ Z0 (CZ uK hr.m zZ (ci (pv 0) ce))) (cq (cT (i:=4) kX.nd zZ Z' (Pq qJ hr.m xG zZ (j:=3) zZ zZ zZ zZ (cE (bV (jh (pv 3) R1.cl kE hr.m (ci (pv 1) ce)) (bV (dM gq zZ jD f6 (ci (pv 0) ce)) (bV (D1 (qual:=tT) zZ hC bm (λ_ _ _ _ _=>rfl) zZ zZ) (bV (pv 2) cA zZ) zZ) zZ) zZ)))) (cq (cT (i:=5) kX.nd zZ Z0 zb) (cq (hK tr zZ (AA (pv 4)) (fB (i:=6) kX.nd zZ Z') (cy (ra af (pv 5) (pv 6) (dM IQ zZ jD f6 (ci (pv 5) ce)) zZ))) (cq (LS (CompSc1.to (N:=[sA,sX,sK,tI,sP,"numbers",sB,sO]) (osc:=cu mV) (vs:=[sG]) (x:=sG) #[zZ,by decide+kernel,by decide+kernel,by decide+kernel,by decide+kernel,by decide+kernel,by decide+kernel,by decide+kernel]) zZ kX.nd (j:=7) zZ zZ (mq zZ jB (ci (dM gq zZ jD f6 (ci (pv 0) ce)) ce)) (λ_ _ _ _=>hZ) (λ_ _ _ _=>(iC (CallR.k (K:=K) BE nC zZ) zZ jC j9 (ci (iu (CompSc.toN (N:=[sG,sA,sX,sK,tI,sP,"numbers",sB,sO]) (vs:=[sB]) zZ zZ (by decide+kernel) (by decide+kernel) (by decide+kernel) (by decide+kernel) (by decide+kernel) (by kernel_rfl)) zZ zZ (AA (pv 6)) (λ_ _ _ _=>hZ) (λ_ _ _ _=>(mR af (pv 7) (jh (pv 5) R1.cl jM hr.m (cE (bV (pv 0) (bV (pv 1) cA zZ) zZ))) (λ_ _=>rfl)))) ce)))) (cy (c8 (kS (cE (bV (iC (PU zZ) zZ qC yx (ci (pv 5) ce)) (bV (iC nC zZ jC j9 (ci (pv 7) ce)) cA zZ) zZ))))))))))];refine#[_,zZ,λx dx nx am aC=>?_];have gx:Same H (bT (bT H dx (.own x)) x (.ins CR dx [])):=λb o hb=>by
  rw[bX (dj hb nx),bX (dj hb am)];exact hb
 refine#[H,x,dx,m,v,n,zZ,gx,nx,bY,M,hT,λY J H4 k4 T4 RO RA=>#[zZ,?_]];obtain⟨an,r,st,qs,r1,_⟩:=id RA;have M4:=M.keeps k4;refine#[_,zZ,x,an,_,zZ,r1,(by kernel_rfl),_,zZ,x,m,v,n,Y,J,room,zZ,RA,M4,RO,rn,λsa H5 g5 e5=>?_];have M5:=M4.same g5;have ag:=RA.keeps g5.keeps;have k5:=k4.trans g5.keeps;obtain⟨rs,hm,ao,_⟩:=M5.refs;refine#[_,zZ,m,_,zZ,.inr (R4 hm),?_]
 try dsimp only
 rw[bW,ao];refine Md (R:=λr H3=>ge 4 r _ H3 _) zZ R1 jM M5 RO ag rn e5 aa hq (T4.same g5) zZ zZ (λD ws as H6 k6 T6 W nD TT le=>?_) (λws H6 dx k6 T6 ap kn run lt=>qE Y J ws H6 dx (k5.trans k6) T6 RO ap kn run lt);clear hm;obtain⟨d,k⟩:∃d,ws.map (·.1)=d:=#[_,zZ];have aD:d.length=ws.length:=by rw[<-k,bW]
 have aq:d.Nodup:=k▸TT.keys;have inR:∀y∈d,RowIn J y/\∀l,l<v.length->gj v n J y l∈d:=λy hy=>by
  rw[<-k]at hy;obtain⟨r,hr,rfl⟩:=cH.mp hy;obtain⟨r1,r2⟩:=TT.run r hr;refine#[ck.mp ?_,λl hl=>?_]
  .rw[<-r2];exact pR (ck.mpr (BC M RO rn)) (λx hx l hl=>ck.mpr (Bo M RO (ck.mp hx) hl)) r.2 r1
  .obtain⟨u,h1,_⟩:=TT.all r hr l hl;rw[<-k];exact cH.mpr #[_,h1,zZ]
 intro I ab;have ah:=Bv k6 ab;have kn:=cn ab (.dT []);have dD:D≠I:=dj W.dict ab;have L:(a3g ws as).map (·.1)=d.map nk:=by rw[<-k];exact DV W.len
 refine#[_,zZ,D,a3g ws as,d,zZ,L,.inl (kn _ _ W.dict),λo H7 fz=>?_];have ar:H7=bT (bT H6 I (.dT [])) D (.frz o (.dT (a3g ws as))):=by
  rcases fz with⟨e,_⟩|⟨_,e⟩
  .rw[kn _ _ W.dict]at e;cases e
  .exact e
 subst ar
 let Pv:Nat->L2.St->Hp->Prop:=λi σ g=>Keeps H5 g/\Tabs g/\g D=some (.frz o (.dT (a3g ws as)))/\g I=some (.dT (gZ 0 (d.take i)))/\∃o6,σ=[some (.ref m),some (nv room),some (nv most),some (.ref x),some (.ref D),some (.ref I),o6,none]
 refine HL L Pv #[ow (k6.trans kn.keeps) nD,Ep (T6.same kn) (kn _ _ W.dict),bY,by rw[bX dD.symm,bY];rfl,none,zZ] (λi σ g _ p=>p.2.2.1) (λi a t σ g et ha p=>?_) (λσ g p=>?_)
 .obtain⟨k7,T7,eD,en,o6,rfl⟩:=p;have il:=(cf.mp et).1;have fr:t∉d.take i:=λz=>by
   obtain⟨j,ej⟩:=rc z;rw[Cs]at ej;split at ej
   .next hj=>exact wC ((jj () aq).mp (ej.trans et.symm)) ()
   .cases ej
  have lt:(d.take i).length=i:=by rw[gk];lia
  refine#[_,zZ,I,_,zZ,en,_,zZ,_,zZ,I,_,zZ,DPut.t en (by rw[g7];exact ha) (by rw[FR,lt,db];lia),ow k7 ah,Ep T7 en,by rw[bX dD];exact eD,?_,_,zZ];rw[bY,yy _ (Ez fr),i8,et,Option.toList_some,IN,FR]
 obtain⟨k7,T7,eD,en,o6,rfl⟩:=p;rw[gW]at en;have M7:=M5.keeps k7;obtain⟨aE,au,ai,_⟩:=M7.refs;have aA:=M.few;have aB:d.length<=400:=by lia
 let Pc:Nat->List V->Hp->Prop:=λi ys g=>Keeps H5 g/\Tabs g/\((i=0/\g I=some (.dT (gZ 0 d)))\/∃o,g I=some (.frz o (.dT (gZ 0 d))))/\∃U:As,ys=U.map V.ref/\U.length=i/\∀(j:Nat) (c:Ad),U[j]?=some c->g c=some (.tup ((d.map λy=>d.idxOf (gj v n J y j)).map nv))
 refine#[_,zZ,m,_,zZ,.inr (R4 au),((v.length:Nat):Int),by rw[bW,ai],(),(),yI Pc (by rw[iW];exact small ()) #[k7,T7,.inl #[zZ,en],[],zZ,zZ,λj c e=>by simp at e] (λi ys g _ p=>?_) (λj ys g hj p=>?_) (λys g p tl av=>?_)]
 .obtain⟨_,_,_,U,rfl,e,_⟩:=p;rw[bW];lia
 .obtain⟨k8,T8,ed,U,rfl,lc,O⟩:=p;have jl:j<v.length:=by simpa using hj
  refine#[ie,jt #[_,zZ,I,_,d,zZ,vm,ed.imp (λz=>z.2) id,λo2 H9 fz=>?_]];obtain⟨k9,T9,ae,kt⟩:Keeps H5 H9/\Tabs H9/\H9 I=some (.frz o2 (.dT (gZ 0 d)))/\∀c xs,g c=some (.tup xs)->H9 c=some (.tup xs):=by
   rcases fz with⟨e,rfl⟩|⟨e,rfl⟩
   .exact#[k8,T8,e,λ_ _ z=>z]
   .exact#[ow k8 ah,Ep T8 e,bY,λc xs z=>by rw[bX (io z e λq=>nomatch q)];exact z]
  refine IP vm (λi ys H3=>Same H9 H3/\ys=((d.take i).map λy=>d.idxOf (gj v n J y j)).map nv) (by rw[db];lia) #[Same.refl _,zZ] (λi ys H3 _ p=>#[p.1 _ _ ae,by rw[p.2,bW,bW,gk];lia]) (λi a t ys H3 et ha p=>?_) (λys H3 p c1 aw=>?_)
  .obtain⟨g3,rfl⟩:=p;have kx:=k9.trans g3.keeps;have aj:=ag.keeps kx;obtain⟨ax,r3,aF,aG,x3,_⟩:=id aj;obtain⟨t1,t2⟩:=inR t (cF et);refine#[ie,jt #[_,zZ,_,zZ,x,ax,_,zZ,x3,(by kernel_rfl),_,zZ,_,zZ,x,a,m,v,n,Y,J,t,j,by rw[uh];rfl,aj,M5.keeps kx,RO,ha,t1,jl,λu H4 g4 e4=>#[I,nv (d.idxOf (gj v n J t j)),zZ,.inr #[_,_,u,.inr #[_,g4 _ _ (g3 _ _ ae)],zZ,by rw[g7];exact e4,by rw[z6 (t2 j jl),pO]],g3.trans g4,?_]]];rw[i8,et,Option.toList_some,dH,dH];rfl
  .obtain⟨g3,rfl⟩:=p;rw[gW];have kc:=cn aw (.lst ((d.map λy=>d.idxOf (gj v n J y j)).map nv));refine#[c1,_,zZ,.inl #[R3 bY,λt2 ay=>?_]];have kk:=(g3.trans kc).trans (cn ay (.tup ((d.map λy=>d.idxOf (gj v n J y j)).map nv)));refine#[k9.trans kk.keeps,T9.same kk,.inr #[_,kk _ _ ae],U++[t2],by rw[dH];rfl,by simp[lc],λi c ei=>?_];by_cases hi:i<j
   .rw[d7 ()]at ei;exact kk _ _ (kt _ _ (O i c ei))
   .have ij:i=j:=by
     have:=(cf.mp ei).1;rw[di,lc]at this;have:i<j+1:=this
     lia
    subst ij;rw[eC (),lc,m9]at ei;cases ei;exact bY
 obtain⟨k8,T8,ed,U,rfl,lc,O⟩:=p;rw[iW]at lc ed;have az:=M.some1;obtain⟨o2,ed⟩:=ed.resolve_left λz=>by lia
 have kl:=cn av (.lst (U.map V.ref));refine#[_,zZ,I,o2,_,d,zZ,kl _ _ ed,vm,by rw[db];lia,λl bs hl Tb=>?_];have k2:=cn hl (.lst (bs.map V.ref));refine#[_,zZ,tl,_,zZ,.inl #[R3 (k2 _ _ bY),λt nt=>#[by show 2<=sizeLine;decide,λp np=>?_]]];have k3:=(cn nt (.tup (U.map V.ref))).trans (cn np (.tup [.ref l,.ref t]));have k4:=(kl.trans k2).trans k3;refine q p l t bs U Y J ws _ ((k5.trans k8).trans k4.keeps) (T8.same k4) RO TT le (Bv ((k5.trans k8).trans kl.keeps) hl) bY (k3 _ _ bY) (by rw[k];exact Tb.same (k2.trans k3)) (cn np _ _ _ bY) #[?_,λi c u ec eu=>?_]
 .unfold mO;rw[bW,lK,lc]
 .have il:=(cf.mp ec).1;unfold mO at eu;rw[cz,mS (),k]at eu;cases eu;exact k4 _ _ (O i c ec)
end
structure RAt(H0 H:Hp)(wa gl Dk:Ad)(bs gs:As)(ks:LN)(F:Nat->List Nat):Prop where
 kp:Keeps H0 H
 tb:Tabs H
 lst:H wa=some (.lst (bs.map .ref))
 tp:TupsAt H bs ks
 kn:H Dk=some (.dT (gZ 0 ks))
 go:H gl=some (.lst (gs.map .ref))
 each:∀(l:Nat) (a:Ad),gs[l]?=some a->H a=some (.lst ((F l).map nv))
 nd:(wa::gl::gs).Nodup
 nw:∀b∈wa::gl::Dk::gs,L2.noT H0 b=none
section
variable{d gl f:Ad}
theorem RAt.same(h:RAt m H d gl f bs k j F)(g:Same H H'):RAt m H' d gl f bs k j F:=#[h.kp.trans g.keeps,h.tb.same g,g _ _ h.lst,h.tp.same g,g _ _ h.kn,g _ _ h.go,λl a e=>g _ _ (h.each l a e),h.nd,h.nw]
theorem RAt.put{x:bS}(h:RAt m H d gl f bs k j F)(ht:H n=some (.tup (x.map nv))):RAt m (bT (bT H f (.dT (gZ 0 (j++[x])))) d (.lst (bs.map .ref++[.ref n]))) d gl f (bs++[n]) k (j++[x]) F:=by
 have off:∀{b} {u},(∀p,u≠ .dT p)->b≠d->H b=some u->bT (bT H f (.dT (gZ 0 (j++[x])))) d (.lst (bs.map .ref++[.ref n])) b=some u:=λq r c=>by
  rw[bX r,bX (io c h.kn λe=>q _ e)];exact c
 have g:∀{b} {s},H b=some (.tup s)->bT (bT H f (.dT (gZ 0 (j++[x])))) d (.lst (bs.map .ref++[.ref n])) b=some (.tup s):=λc=>off (λ_ e=>nomatch e) (nE c h.lst) c;have t:=(nE h.lst h.kn).symm;have nd:=hX.mp h.nd;have o:∀b∈gl::k,b≠d:=λb c z=>nd.1 (z▸c);refine#[ow (ow h.kp (h.nw f (by simp))) (h.nw d (by simp)),h.tb.most λb u q r c=>off q (io c h.lst λe=>r _ e) c,by rw[bY,List.map_append];rfl,(v9 #[h.tp.len,λi b u v w=>g (h.tp.is i b u v w)] (g ht)),by rw[bX t,bY],off (λ_ e=>nomatch e) (o gl (List.mem_cons_self ..)) h.go,λl a e=>off (λ_ e=>nomatch e) (o a (List.mem_cons_of_mem _ (List.mem_of_getElem? e))) (h.each l a e),h.nd,h.nw]
theorem RAt.app{l v:Nat}{a:Ad}(h:RAt m H d gl f bs k j F)(o:k[l]?=some a):RAt m (bT H a (.lst ((F l).map nv++[nv v]))) d gl f bs k j (λg=>if g=l then F l++[v]else F g):=by
 have t:=h.each l a o;have q:=cF o;have nd:=hX.mp h.nd;have n:=hX.mp nd.2;have off:∀{b} {u},(∀w,u≠ .lst w)->H b=some u->bT H a (.lst ((F l).map nv++[nv v])) b=some u:=λr p=>by
  rw[bX (io p t λe=>r _ e)];exact p
 refine#[ow h.kp (h.nw a (by simp[q])),h.tb.most λb u r x p=>off x p,?_,#[h.tp.len,λi b u y A=>off (λ_ e=>nomatch e) (h.tp.is i b u y A)],off (λ_ e=>nomatch e) h.kn,?_,λg s e=>?_,h.nd,h.nw]
 .rw[bX λz:d=a=>nd.1 (z▸eM _ q)];exact h.lst
 .rw[bX λz:gl=a=>n.1 (z▸q)];exact h.go
 .by_cases c:g=l
  .subst c;rw[o]at e;cases e;rw[bY,wB zZ,dH];rfl
  .rw[wA c,bX λz=>c ((jj (cf.mp e).1 n.2).mp (by rw[e,z,o]))];exact h.each g s e
end
theorem Ed{a:Type}{l r:List a}{i:Nat}{x:a}(h:l[i]?=some x):(l++r)[i]?=some x:=by
 rw[d7 (cf.mp h).1];exact h
theorem Jk:∀{a:LN} {v:Nat} {y:bS},a.Nodup->a[v]?=some y->a.idxOf y=v
 |k::a,0,y,_,e=>by
  cases e;exact List.idxOf_cons_self
 |k::a,v+1,y,nd,e=>by
  have e:=e;have b:k≠y:=λz=>(hX.mp nd).1 (z▸cF e);rw[BN,beq_false_of_ne b,cond_false,Jk (hX.mp nd).2 e]
def Fp(g:bS->Nat->List Nat)(L:Nat)(a:LN)(F:Nat->List Nat)(i j:Nat):Prop:=∀l,l<L->(F l).length=(if l<j then i+1 else i)/\∀(b v:Nat),(F l)[b]?=some v->∃x,a[b]?=some x/\a[v]?=some (g x l)
theorem Fp.more(h:Fp g L a F i j)(x:bS):Fp g L (a++[x]) F i j:=λl b=>#[(h l b).1,λc v e=>let⟨y,d,f⟩:=(h l b).2 c v e;#[y,Ed d,Ed f]]
theorem Fp.put{x:bS}(h:Fp g L b F i j)(r:j<L)(m:b[i]?=some x)(n:b[v]?=some (g x j)):Fp g L b (λf=>if f=j then F j++[v]else F f) i (j+1):=λl o=>by
 obtain⟨a,k⟩:=h l o;by_cases c:l=j
 .subst c;dsimp only;rw[wA (iG _)]at a;rw[wB zZ,wB (),di,a];refine#[zZ,λd p e=>?_];by_cases z:d<i
  .rw[d7 ()]at e;exact k d p e
  .have q:d=i:=by
    have:=(cf.mp e).1;rw[di,a]at this;have:d<i+1:=this
    lia
   subst q;rw[eC (),a,m9]at e;cases e;exact#[x,m,n]
 .dsimp only;rw[wA c];refine#[?_,k];rw[a];by_cases z:l<j
  .rw[wB z,wB ()]
  .rw[wA z,wA ()]
theorem Fp.next(h:Fp g L b F i L):Fp g L b F (i+1) 0:=λl a=>#[by rw[(h l a).1,wB a,wA (m7 _)],(h l a).2]
theorem Fp.done(h:Fp g L a F a.length 0)(nd:a.Nodup)(c:l<L):F l=a.map λx=>a.idxOf (g x l):=by
 obtain⟨b,d⟩:=h l c;rw[wA (m7 _)]at b;refine nr λi=>?_;rw[cz];cases e:(F l)[i]? with
 |none=>rw[jg (by rw[<-b];exact DW.mp e)];rfl
 |some v=>
  obtain⟨x,f,j⟩:=d i v e;rw[f,Option.map_some,Jk nd j]
section
variable{f C I CR:Ad}
theorem Hi{n gl:Ad}{h:As}{F:Nat->List Nat}(x:m[4]?=some (some (.ref n)))(y:m[6]?=some (some (.ref gl)))(s:H gl=some (.lst (h.map .ref)))(j:∀(l:Nat) (a:Ad),h[l]?=some a->H a=some (.lst ((F l).map nv)))(few:h.length<=4)(q:∀p t (b:As) d,Same H d->d p=some (.tup [.ref n,.ref t])->d t=some (.tup (b.map .ref))->b.length=h.length->(∀(l:Nat) (c:Ad),b[l]?=some c->d c=some (.tup ((F l).map nv)))->r.rt (.ref p) d):
  sE (zt (ik (cX 4) (ik (Bq (BE K) (ik (t9 [tK] (FC K (cX 6)) (ge 0) vx (Bq (BE K) (ik (cX 0) f8))) f8)) f8))) r m H:=by
 refine#[_,x,_,y,gl,zZ,#[_,R3 s],mG (xs:=h.map V.ref) (λi k d=>Same H d/\∃b,k=b.map V.ref/\b.length=i/\∀l c,b[l]?=some c->d c=some (.tup ((F l).map nv))) (by rw[bW];exact small ()) #[Same.refl _,[],zZ,zZ,λl c e=>by simp at e] (λi k d _ p=>?_) (λi v k d u p=>?_) (λk d p tl o=>?_)]
 .obtain⟨g,b,rfl,e,_⟩:=p;exact#[R3 (g _ _ s),by rw[bW];lia]
 .obtain⟨g,b,rfl,f,ok⟩:=p;rw[cz]at u;obtain⟨a,z,rfl⟩:=dW.mp u;refine#[ie,jt #[_,zZ,a,_,zZ,.inl #[R3 (g _ _ (j i a z)),λc w=>#[g.trans (cn w _),b++[c],by rw[dH];rfl,by simp[f],λl A e=>?_]]]];by_cases G:l<i
  .rw[d7 ()]at e;exact cn w _ _ _ (ok l A e)
  .have B:l=i:=by
    have:=(cf.mp e).1;rw[di,f]at this;have:l<i+1:=this
    lia
   subst B;rw[eC (),f,m9]at e;cases e;exact bY
 obtain⟨g,b,rfl,f,ok⟩:=p;rw[bW]at f;have C:=cn o (.lst (b.map V.ref));refine#[tl,_,zZ,.inl #[R3 bY,λt D=>#[by show 2<=sizeLine;decide,λp E=>?_]]];have k2:=cn E (.tup [.ref n,.ref t]);have k3:=(C.trans (cn D (.tup (b.map V.ref)))).trans k2;exact q p t b _ (g.trans k3) bY (k2 _ _ bY) f λl c e=>k3 _ _ (ok l c e)
inductive lB(C:Ad)(b:List V)(H:Hp)(Q:VK)(a:XK):Prop|mk:∀(e:Ad) (d:Option Ad),b=[.ref e]->H e=some (.ext (mD e C d))->Q (.bl true) H->lB C b H Q a
inductive lz(g:List V)(H:Hp)(Q:VK)(e:XK):Prop|mk:∀(m:Ad) (a:LN) (n room most:Nat),g=[.ref m,nv room,nv most]->Mach H m a n->room<n->most<=400->Tabs H->(∀p h t bs i f c (d:TW) b,Keeps H b->Tabs b->RowOf a n f c->(d.map (·.1)).Nodup->(∀p∈d,(∀l∈p.2,l<a.length)/\cN (gj a n c) (jd a n c room) p.2=p.1)->b p=some (.tup [.ref h,.ref t])->b h=some (.lst (bs.map .ref))->TupsAt b bs (d.map (·.1))->b t=some (.tup (i.map .ref))->(d.length<=most->Told (gj a n c) a.length (jd a n c room) d/\TupsAt b i (mO (gj a n c) a.length (d.map (·.1))))->Q (.ref p) b)->lz g H Q e
theorem Oz(F:Fun K "_law_rows" "_law_rows" yP f G)(R1:OwnC K CR [sB,tN])(uK:yB P w K mg base "Row" CR 20 [sC,sA] (eW I CR))(kE:gI P w K mg base CR "row_of" 5 [sC,sX] (gv I CR))(jM:gI P w K mg base CR "moved" 9 [sC,tI,sG] (eV I CR))(jD:mg "len"=none)(jB:mg "range"=none)(jC:mg "tuple"=none):FnOk P w K mg base cG 22 f G [sN,sZ,tE] lz:=by
 refine F.ok kA (λaR A az s H vs Q E hr h=>?_)
 obtain⟨m,D,n,room,most,rfl,M,rn,aA,hT,q⟩:=h;have hu:=hr.units;have ai:=iT hr;refine#[_,(cq (cT (i:=3) kA.nd zZ Z' (CZ uK hr.m zZ (ci (pv 0) ce))) (cq (cT (i:=4) kA.nd zZ Z' (gB (ci (jh (pv 3) R1.cl kE hr.m (ci (pv 1) ce)) ce))) (cq (cT (i:=5) kA.nd zZ Z' (EH ai (cU fH (pv 4) cD (λ_ _=>rfl)) cD)) (cq (AU (CompSc.to (N:=[sN,sZ,tE,"_law_line","_law_rows_here","_law_known","_law_goes",tL,"_law_letter","_law_there"]) (osc:=cu yP) (vs:=[tK]) {}) zZ zZ kA.nd (j:=6) zZ zZ (wP (pv 0)) (λ_ _ _ _=>hZ) (λ_ _ _ _=>(gB ce))) (cq (cT (i:=7) kA.nd zZ Z' cD) (cq (Aw iX (PW.pt (wr (hG Hr (pv 7) (dM gq zZ jD f6 (ci (pv 4) ce)) (fS _)) (wQ (hG yk (dM gq zZ jD f6 (ci (pv 4) ce)) (pv 2) (fS _))))) (cq (hK iX zZ (mq zZ jB (ci (dM gq zZ jD f6 (ci (pv 0) ce)) ce)) (fB (i:=8) kA.nd zZ Z') (cq (cT (i:=9) kA.nd zZ Z' (jh (pv 3) R1.cl jM hr.m (cE (bV (cU fH (pv 4) (pv 7) (λ_ _=>rfl)) (bV (pv 8) cA zZ) zZ)))) (cq (sf (fG (oY (xN ai (pv 9) (pv 5))) (cq (ra ai (pv 5) (pv 9) (dM gq zZ jD f6 (ci (pv 4) ce)) zZ) (cy (iq (iZ iD lU lL me (pv 4) (ci (pv 9) ce))))) fJ)) (cy (iq (iZ iD lU lL me (cU fH (pv 6) (pv 8) (λ_ _=>rfl)) (ci (mR ai (pv 5) (pv 9) (λ_ _=>rfl)) ce))))))) (cy (cT (i:=7) kA.nd zZ Z' (dQ nZ (pv 7) cD))))) (cy (c8 (kS (cE (bV (pv 4) (bV (iC nC zZ jC j9 (ci (iu (CompSc.to (N:=[sN,sZ,tE,"_law_line","_law_rows_here","_law_known","_law_goes",tL,"_law_letter","_law_there"]) (osc:=cu yP) (vs:=[tK]) {}) zZ zZ (gY (pv 6)) (λ_ _ _ _=>hZ) (λ_ _ _ _=>(iC (CallR.k (K:=K) BE nC zZ) zZ jC j9 (ci (pv 0) ce)))) ce)) cA zZ) zZ))))))))))),?_];refine#[_,zZ,λx dx nx aB aS=>?_];have gx:Same H (bT (bT H dx (.own x)) x (.ins CR dx [])):=λb o hb=>by
  rw[bX (dj hb nx),bX (dj hb aB)];exact hb
 refine#[H,x,dx,m,D,n,zZ,gx,nx,bY,M,hT,λao Ls H4 k4 T4 RO RA=>#[zZ,?_]];obtain⟨aC,r,st,qs,r1,_⟩:=id RA;have M4:=M.keeps k4;refine#[_,zZ,x,aC,_,zZ,r1,(by kernel_rfl),_,zZ,x,m,D,n,ao,Ls,room,zZ,RA,M4,RO,rn,λsa H5 g5 e5=>#[by show 1<=sizeLine;decide,λL aq=>?_]];have M5:=M4.same g5;have aD:=RA.keeps g5.keeps;have k5:=k4.trans g5.keeps;have T5:=T4.same g5;have kw:=cn aq (.lst [.ref sa]);have aj:bT H5 L (.lst [.ref sa]) L=some (.lst ([sa].map .ref)):=bY;generalize bT H5 L (.lst [.ref sa])=H6 at kw aj|-;intro Dk ak;have kD:=cn ak (.dT []);refine#[_,zZ,L,_,_,_,zZ,zZ,R3 (kD _ _ aj),zZ,bY,sa,nk (jd D n Ls room),zZ,by rw[g7];exact(kw.trans kD) _ _ e5,?_];rw[Gr];have kd:=cn ak (.dT [(nk (jd D n Ls room),.int 0)]);have eD:bT H6 Dk (.dT [(nk (jd D n Ls room),.int 0)]) Dk=some (.dT (gZ 0 [jd D n Ls room])):=bY;have g6:=kw.trans kd;have aa:=kd _ _ aj;have aE:=kw.free ak;have wD:L≠Dk:=dj aj ak;generalize bT H6 Dk (.dT [(nk (jd D n Ls room),.int 0)])=H7 at kd eD g6 aa|-;have M7:=M5.same g6;obtain⟨rs,hm,aF,_⟩:=M7.refs;have aP:=M.few;have aG:=M.some1;refine#[_,zZ,m,zZ,#[_,R4 hm],Hg (xs:=rs.map V.ref) (λi ys O=>Same H7 O/\∃Y:As,ys=Y.map V.ref/\Y.length=i/\Y.Nodup/\(∀a∈Y,H7 a=none/\O a=some (.lst []))) (by rw[bW];exact small ()) #[Same.refl _,[],zZ,zZ,AN,λa h=>nomatch h] (λi ys O _ p=>?_) (λi v ys O hv p=>?_) (λys O p gl ag=>?_)]
 .obtain⟨g,Y,rfl,e,_⟩:=p;exact#[R4 (g _ _ hm),by rw[bW];lia]
 .obtain⟨g,Y,rfl,lg,nd,ab⟩:=p;refine#[ie,jt #[by show 0<=sizeLine;decide,λa na=>#[g.trans (cn na _),Y++[a],by rw[dH];rfl,by simp[lg],List.nodup_append.mpr #[nd,by simp,λb hb c hc z=>?_],λb hb=>?_]]]
  .rw[cJ.mp hc]at z;have:=(ab b hb).2;rw[z,na]at this;cases this
  .rcases cW.mp hb with z|z
   .exact#[(ab b z).1,cn na _ _ _ (ab b z).2]
   .rw[cJ.mp z];exact#[g.free na,bY]
 obtain⟨g8,Y,rfl,lg,ar,J⟩:=p;rw[bW,aF]at lg;have kg:=cn ag (.lst (Y.map V.ref));have g9:=(g6.trans g8).trans kg;have R0:RAt H5 (bT O gl (.lst (Y.map V.ref))) L gl Dk [sa] Y [jd D n Ls room] (λ_=>[]):=by
  refine#[g9.keeps,T5.same g9,(g8.trans kg) _ _ aa,#[zZ,λi b u e1 e2=>?_],(g8.trans kg) _ _ eD,bY,λl a e=>kg _ _ (J a (cF e)).2,?_,λb hb=>Bv (H':=H5) (Same.refl _).keeps ?_]
  .cases i with
   |zero=>
    cases e1;cases e2;exact g9 _ _ e5
   |succ i=>simp at e1
  .refine hX.mpr #[λz=>?_,hX.mpr #[λz=>?_,ar]]
   .rcases cP.mp z with z|z
    .exact dj (g8 _ _ aa) ag z
    .have:=(J L z).1;rw[aa]at this;cases this
   .have:=(J gl z).2;rw[ag]at this;cases this
  .rcases cP.mp hb with z|z
   .rw[z];exact aq
   .rcases cP.mp z with z|z
    .rw[z];exact(g6.trans g8).free ag
    .rcases cP.mp z with z|z
     .rw[z];exact aE
     .exact g6.free (J b z).1
 generalize bT O gl (.lst (Y.map V.ref))=H9 at R0|-;clear J ar ag kg g9 g8 hm M7 aa eD kd g6;obtain⟨g,eg⟩:∃g,gj D n Ls=g:=#[_,zZ];obtain⟨x0,al⟩:∃x0,jd D n Ls room=x0:=#[_,zZ];have hU:∀y∈gb Ls,∀l,l<D.length->g y l∈gb Ls:=λy hy l hl=>ck.mpr (eg▸Bo M RO (ck.mp hy) hl);have h0:x0∈gb Ls:=ck.mpr (al▸BC M RO rn);have inU:∀{C:TW} {i j:Nat},Que g D.length x0 C i j->∀r∈C,RowIn Ls r.1:=λB r hr=>by
  obtain⟨r1,r2⟩:=B.run r hr;rw[<-r2];exact ck.mp (pR h0 hU r.2 r1)
 have done:∀{C:TW} {i:Nat} {bs:As} {F:Nat->List Nat} {O:Hp},Que g D.length x0 C i 0->RAt H5 O L gl Dk bs Y (C.map (·.1)) F->Fp g D.length (C.map (·.1)) F i 0->(C.length<=most->i=C.length)->∀p t (cs:As) H2,Same O H2->H2 p=some (.tup [.ref L,.ref t])->H2 t=some (.tup (cs.map .ref))->cs.length=Y.length->(∀(l:Nat) (c:Ad),cs[l]?=some c->H2 c=some (.tup ((F l).map nv)))->Q (.ref p) H2:=λ{C i bs F O} B R Fi fin p t cs H2 g2 ep et lc ab=>by
  refine q p L t bs cs ao Ls C H2 (k5.trans (R.kp.trans g2.keeps)) (R.tb.same g2) RO B.keys (by rw[eg,al];exact B.run) ep (g2 _ _ R.lst) (R.tp.same g2) et λle=>?_;have ei:=fin le;subst ei;rw[eg,al];refine#[B.told (cg _),by unfold mO;rw[List.length_map,List.length_range,lc,lg],λl c u ec eu=>?_];have ll:l<D.length:=by rw[<-lg,<-lc];exact(cf.mp ec).1
  unfold mO at eu;rw[cz,mS ll]at eu;cases eu;rw[<-bW (f:=(·.1)) (as:=C)]at Fi;rw[ab l c ec,Fi.done B.keys ll]
 rw[al]at R0
 let Wv:Nat->L2.St->Hp->Prop:=λk σ O=>∃(i:Nat) (C:TW) (bs:As) (F:Nat->List Nat) (o8 o9:Option V),Que g D.length x0 C i 0/\RAt H5 O L gl Dk bs Y (C.map (·.1)) F/\Fp g D.length (C.map (·.1)) F i 0/\k+i=405/\i<=C.length/\C.length<=404/\σ=[some (.ref m),some (nv room),some (nv most),some (.ref x),some (.ref L),some (.ref Dk),some (.ref gl),some (nv i),o8,o9]
 refine#[Wv,#[405,0,[(x0,[])],_,_,none,none,Que.start,R0,λl hl=>#[zZ,λi' v e=>by simp at e],zZ,Nat.zero_le _,by show 1<=404;decide,zZ],λk σ aT P=>?_];obtain⟨i,C,bs,F,o8,o9,B,R,Fi,hk,hi,aQ,rfl⟩:=P;have lb:bs.length=C.length:=by rw[R.tp.len,bW]
 refine#[_,zZ,_,zZ,L,_,zZ,.inl (R3 R.lst),_,_,zZ,zZ,_,zZ,lH (λc=>?_) (λc=>?_)]
 .have c1:i<C.length:=by
   have:=f7 c;rw[bW,lb]at this;lia
  refine#[_,zZ,L,_,zZ,.inl (R3 R.lst),_,zZ,_,_,zZ,zZ,_,zZ,lH (λc'=>?_) (λc'=>?_)]
  .refine#[λah O=>∃m',m'<k/\Wv m' ah O,λah O h=>h,?_];have c2:C.length<=most:=by
    have:=f7 c';rw[bW,lb]at this;lia
   obtain⟨r,er⟩:∃r,C[i]?=some r:=#[_,b7 c1];let Pj:Nat->L2.St->Hp->Prop:=λj σ O=>∃(d:TW) (bs:As) (F:Nat->List Nat) (o8 o9:Option V),Que g D.length x0 d i j/\d[i]?=some r/\RAt H5 O L gl Dk bs Y (d.map (·.1)) F/\Fp g D.length (d.map (·.1)) F i j/\d.length<=C.length+j/\σ=[some (.ref m),some (nv room),some (nv most),some (.ref x),some (.ref L),some (.ref Dk),some (.ref gl),some (nv i),o8,o9]
   obtain⟨aU,aH,au,_⟩:=(M5.keeps R.kp).refs;refine#[_,zZ,m,_,zZ,.inr (R4 aH),(D.length:Int),by rw[bW,au],(),(),ug Pj #[C,bs,F,o8,o9,B,er,R,Fi,cg _,zZ] (λj σ aI hj p=>?_) (λσ aI p=>?_)]
   .obtain⟨d,bs,F,o8,o9,B,er,R,Fi,le,rfl⟩:=p;have am:j<D.length:=by simpa using hj
    have zj:V.int ((0:Int)+((j:Nat):Int))=nv j:=by show V.int (0+(j:Int))=V.int (j:Int);rw[uh]
    rw[zj];have li:=(cf.mp er).1;have lb:bs.length=d.length:=by rw[R.tp.len,bW]
    have ek:(d.map (·.1))[i]?=some r.1:=by rw[cz,er];rfl
    obtain⟨bi,av⟩:∃b,bs[i]?=some b:=#[_,b7 ()];have aJ:=R.tp.is i bi r.1 av ek;have aw:=aD.keeps R.kp;obtain⟨aK,r2,aV,aW,x2,_⟩:=id aw;refine#[_,zZ,x,aK,_,zZ,x2,(by kernel_rfl),_,zZ,_,zZ,L,_,_,_,zZ,zZ,R3 R.lst,iM (j:=i) (v:= .ref bi) (by rw[cz,av];rfl),_,zZ,x,bi,m,D,n,ao,Ls,r.1,j,zZ,aw,M5.keeps R.kp,RO,aJ,inU B r (cF er),am,λth aL aM ae=>?_];rw[eg]at ae;have af:=R.same aM;refine#[λah O=>∃(T:TW) (ap:As),Que g D.length x0 T i (j+1)/\T[i]?=some r/\RAt H5 O L gl Dk ap Y (T.map (·.1)) F/\Fp g D.length (T.map (·.1)) F i j/\T.length<=C.length+(j+1)/\g r.1 j∈T.map (·.1)/\O th=some (.tup ((g r.1 j).map nv))/\ah=[some (.ref m),some (nv room),some (nv most),some (.ref x),some (.ref L),some (.ref Dk),some (.ref gl),some (nv i),some (nv j),some (.ref th)],?_,λah aX z=>?_]
    .refine#[_,zZ,_,zZ,Dk,_,zZ,DGet.t af.kn (by rw[g7];exact ae),_,zZ,?_];by_cases U:g r.1 j∈d.map (·.1)
     .rw[z6 U];exact eA #[d,bs,B.old er U,er,af,Fi,(),U,ae,zZ]
     .rw[Ez U];refine fy #[_,zZ,L,_,zZ,.inl (R3 af.lst),_,zZ,_,zZ,Dk,_,zZ,DPut.t af.kn (by rw[g7];exact ae) (by rw[FR,bW,db];lia),?_];rw[yy _ (Ez U),bW,lb,<-bW (f:=(·.1)) (as:=d),show V.int (((d.map (·.1)).length:Nat):Int)=nv (d.map (·.1)).length from rfl,<-IN];have aN:=af.put ae;have lw:bT aL Dk (.dT (gZ 0 (d.map (·.1)++[g r.1 j]))) L=some (.lst (bs.map .ref)):=by rw[bX wD];exact af.lst
      refine#[_,zZ,.inl #[zZ,_,R3 lw],_,zZ,L,_,_,zZ,zZ,lw,by rw[bW,db];lia,d++[(g r.1 j,r.2++[j])],bs++[th],B.new er am U,Ed er,by rw[dH];exact aN,by rw[dH];exact Fi.more _,by rw[di];show d.length+1<=_;lia,by rw[dH];exact dY _ (cJ.mpr zZ),?_,zZ];rw[bX (nE ae af.lst),bX (nE ae af.kn)];exact ae
    obtain⟨T,ap,B2,ax,R2,F2,aO,U,ay,rfl⟩:=z;obtain⟨ga,an⟩:∃a,Y[j]?=some a:=#[_,b7 ()];have ev:=z6 (k:=0) U;rw[pO]at ev;obtain⟨i1,i2⟩:=Cn U;have hv:(T.map (·.1))[(T.map (·.1)).idxOf (g r.1 j)]?=some (g r.1 j):=by
     rw[b7 i1];rw[dO,b7 i1]at i2;exact de some i2
    have lF:(F j).length=i:=by have:=(F2 j am).1;rwa[wA (iG _)]at this
    refine#[_,zZ,_,zZ,gl,_,_,V.ref ga,zZ,zZ,R3 R2.go,iM (j:=j) (v:=V.ref ga) (by rw[cz,an];rfl),.inl #[zZ,_,R3 (R2.each j ga an)],_,zZ,_,zZ,Dk,_,zZ,ev▸DGet.t R2.kn (by rw[g7];exact ay),ga,_,_,zZ,zZ,R2.each j ga an,by rw[bW,lF,db];lia,?_];exact#[T,ap,_,_,_,B2,ax,R2.app an,F2.put am (by rw[cz,ax];rfl) hv,aO,zZ]
   .obtain⟨d,bs,F,o8,o9,B,er,R,Fi,le,rfl⟩:=p;have li:=(cf.mp er).1;rw[iW]at B Fi le;exact#[_,zZ,_,_,zZ,zZ,k-1,(),i+1,d,bs,F,_,_,B.next er,R,Fi.next,(),(),(),zZ]
  .refine Hi zZ zZ R.go R.each () (done B R Fi λle=>wC (dF ?_) c');rw[bW,lb];lia
 .have c1: ¬i<C.length:=λz=>c (by rw[bW,lb];exact dF ());exact eA (Hi zZ zZ R.go R.each () (done B R Fi λ_=>by lia))
theorem MH:bootBuiltins "ValueError"=some (.type "ValueError"):=by decide+kernel
theorem Pw{j l a m n o:Ad}(F:Fun K tR tR vl f G)(b:mg "isinstance"=none)(r:mg "ValueError"=none)(t:mg "HallError"=some (.ref j)) (u:mg "NoMachine"=some (.ref l)) (x:mg "NoText"=some (.ref m)) (y:mg "NoRow"=some (.ref n)) (B:mg "NoName"=some (.ref o)) (c:ErrM K a j)(C:PySem.W.kitOne K (.ref a) (.type "ValueError")=some true) (k2:PySem.W.kitOne K (.ref a) (.ref l)=some false) (k3:PySem.W.kitOne K (.ref a) (.ref m)=some false)(I:PySem.W.kitOne K (.ref a) (.ref n)=some false) (J:PySem.W.kitOne K (.ref a) (.ref o)=some false) (L:PySem.W.kitOne K (.ref a) (.ref j)=some true):FnOkH P w K mg base 1 f G [wI] (lB a):=by
 refine F.okH O1 (λM H Q E h=>?_) (λN A p s H M Q E O h=>?_)
 .obtain⟨e,d,rfl,_⟩:=h;rfl
 obtain⟨e,d,rfl,g,q⟩:=h;refine#[_,(cq (fG (PW.pt (pG (iN (dM vt zZ b mI (cE (bV (pv 0) (bV (xF (v:= .ref l) zZ u zZ) cA zZ) zZ)))) (pG (iN (dM vt zZ b mI (cE (bV (pv 0) (bV (xF (v:= .ref m) zZ x zZ) cA zZ) zZ)))) (pG (iN (dM vt zZ b mI (cE (bV (pv 0) (bV (xF (v:= .ref n) zZ y zZ) cA zZ) zZ)))) (wY (iN (dM vt zZ b mI (cE (bV (pv 0) (bV (xF (v:= .ref o) zZ B zZ) cA zZ) zZ))))))))) (cy (c8 oK)) fJ) (cy (c8 (v4 (dM vt zZ b mI (cE (bV (pv 0) (bV (xF (v:= .ref j) zZ t zZ) cA zZ) zZ))) (zI (dM vt zZ b mI (cE (bV (pv 0) (bV (rb zZ r MH) cA zZ) zZ)))))))),?_];have i:∀{D} k,RelV (.ref D) k->k=.ref D:=λk z=>by cases z;rfl
 refine#[_,zZ,e,_,_,_,_,_,_,zZ,#[zZ,i],g,c,k2,_,zZ,eA #[_,zZ,e,_,_,_,_,_,_,zZ,#[zZ,i],g,c,k3,_,zZ,eA #[_,zZ,e,_,_,_,_,_,_,zZ,#[zZ,i],g,c,I,_,zZ,eA #[_,zZ,e,_,_,_,_,_,_,zZ,#[zZ,i],g,c,J,_,zZ,eA ?_]]]];exact#[_,zZ,e,_,_,_,_,_,_,zZ,#[zZ,i],g,c,L,_,zZ,fy #[_,zZ,e,_,_,_,_,_,_,zZ,#[zZ,λk z=>by cases z;rfl],g,c,C,q]]
inductive fN(f:List V)(H:Hp)(Q:VK)(b:XK):Prop|mk:∀(m:Ad) (a:LN) (n room most:Nat),f=[.ref m,nv room,nv most]->Mach H m a n->room<n->most<=400->Tabs H->((∀c d g,RowOf a n c d->Told (gj a n d) a.length (jd a n d room) g->most<g.length))->(∀e,Keeps H e->Tabs e->Q (.bl true) e)->fN f H Q b
theorem N7(F:Fun K vT vT FA f G)(Y:CalleeDX P w K mg base sW 22 [sA,sX,sK] (dr C) [])(kF:dC P w K mg base vP 1 [sT] gC)(a:C3 P w K mg base tR 1 [wI] (lB C))(rM:mg "TooMany"=some (.ref C))(L:ki K C D)(gE:GetE K C sK):FnOk P w K mg base cG 24 f G [sN,sZ,tE] fN:=by
 refine F.ok qH (λaa A u s H vs Q E r h=>?_)
 obtain⟨m,ts,n,room,most,rfl,M,rn,g,hT,x,q⟩:=h;have hu:=r.units;refine#[_,(cq (cT (i:=3) qH.nd zZ Z' qf) (cq (QB (i:=4) zZ zZ zZ qH.nd zZ zZ zZ rM (L9 (O4 Y r.m zZ (cE (bV (pv 0) (bV (pv 1) (bV (pv 2) cA zZ) zZ) zZ)))) (λ_=>(cy (cT (i:=3) qH.nd zZ Z' (kS (cE (bV (OI (K:=K) zZ (pv 4)) (bV (Me a ((r.held.mark _).mono (by decide)) zZ (ci (pv 4) ce)) cA zZ) zZ))))))) (cy (c8 (v4 (tu D9 (pv 3) qf (fS _)) (v4 (dv kF r.m zZ (ci (cU d6 (pv 3) cD (λ_ _=>rfl)) ce)) (zI (tu (QR hu) (pv 3) (kS (cE (bV (pv 2) (bV oK cA zZ) zZ))) (fS _))))))))),?_];refine#[λv d j=>v=.ref C/\Keeps H j/\Tabs j/\∃b,d=some b/\j b=some (.xd [(sK,nv most)]),#[_,zZ,_,zZ,_,zZ,m,ts,n,room,most,zZ,M,rn,g,hT,λp l t bs cs k N O H' _ _ RO TT le _ _ _ _ _ _=>wC (x k N O RO TT) (),λk N O H' b y B _ c _ _ _=>#[zZ,y,B,b,zZ,c]],λC' d j e=>?_];obtain⟨e1,y,B,b,rfl,c⟩:=e;cases e1;refine#[Qa L,λe T=>?_];have o:bT j e (.ext (mD e C (some b))) b=some (.xd [(sK,nv most)]):=by rw[bX (dj c T)];exact c
 have ke:=cn T (.ext (mD e C (some b)));refine#[_,zZ,e,C,D,b,(most:Int),zZ,bY,o,L,gE,_,zZ,e,_,zZ,bY,by show 2<=sizeLine;decide,λI J=>?_];have k2:=cn J (.tup [.int (most:Int),.bl true]);refine#[_,zZ,zZ,_,zZ,?_];rw[e8 λz=>nomatch z];refine fy #[_,zZ,I,_,_,_,zZ,zZ,R4 bY,zZ,(most:Int),zZ,_,zZ,fy #[_,zZ,_,zZ,by show 2<=sizeLine;decide,λt2 U=>#[I,t2,(most:Int),true,zZ,zZ,R4 (cn U _ _ _ bY),R4 bY,?_]]];have k3:=(ke.trans k2).trans (cn U (.tup [.int (most:Int),.bl true]));exact q _ (y.trans k3.keeps) (B.same k3)
theorem IV{f g:Dt}(h:H p=some (.tup [c,e]))(j:Rep K H n f c)(k:Rep K H n g e):Rep K H (n+1) (.tup [f,g]) (.ref p):= .tup (R4 h) zZ λi d v a b=>by
 match i,a,b with
 |0,a,b=>
  cases a;cases b;exact j
 |1,a,b=>
  cases a;cases b;exact k
theorem JH(f:H l=some (.tup (bs.map .ref)))(T:TupsAt H bs a):Rep K H 2 (.tup (a.map λu=> .tup (gV u))) (.ref l):= .tup (R4 f) (by rw[bW,bW,T.len]) λi d v c e=>by
 rw[cz]at c e;obtain⟨u,g,rfl⟩:=dW.mp c;obtain⟨b,h,rfl⟩:=dW.mp e;exact i7 (R4 (T.is i b u h g))
theorem Mv:PySem.W.kitOne K (.type "list") (.type "list")=some true:=zZ
theorem dz:PySem.W.kitOne K (.type "tuple") (.type "tuple")=some true:=zZ
inductive gu(f:List V)(H:Hp)(Q:VK)(e:XK):Prop|mk:∀(p l t g h i:Ad) (bs j a b:As) (c d:LN),f=[.ref p,.ref g]->c.length<=400->d.length<=4->H p=some (.tup [.ref l,.ref t])->H l=some (.lst (bs.map .ref))->TupsAt H bs c->H t=some (.tup (j.map .ref))->TupsAt H j d->(∀u∈c,u.length<=400)->(∀u∈d,u.length<=400)->H g=some (.tup [.ref h,.ref i])->H h=some (.lst (a.map .ref))->TupsAt H a c->H i=some (.tup (b.map .ref))->TupsAt H b d->(∀k,Same H k->Q (.bl true) k)->gu f H Q e
theorem Rn(F:Fun K vY vY zB f G)(kF:dC P w K mg base vP 1 [sT] gC)(y:mg "isinstance"=none)(D:mg "tuple"=none)(qC:mg "list"=none)(jD:mg "len"=none)(uB:mg "all"=none):FnOk P w K mg base cG 3 f G [sT,vF] gu:=by
 refine F.ok rZ (λai A M s H m Q E hr h=>?_)
 obtain⟨p,l,t,p',l',t',bs,a,aj,ak,us,gs,rfl,ah,g4,e,O,T,ht,I,U,Y,aa,ab,ae,af,ag,q⟩:=h;have hu:=hr.units;refine#[_,(cq (fG (PW.pt (pG (mQ (iN (dM tj zZ y mI (cE (bV (pv 0) (bV (rb zZ D j9) cA zZ) zZ))))) (pG (hG yC (dM gq zZ jD f6 (ci (pv 0) ce)) cD (fS _)) (wY (mQ (iN (dM tj zZ y mI (cE (bV (cU d6 (pv 0) cD (λ_ _=>rfl)) (bV (rb zZ qC yx) cA zZ) zZ))))))))) (cy (c8 oK)) fJ) (cq (fG (PW.pt (pG (mQ (iN (dM tj zZ y mI (cE (bV (cU d6 (pv 0) cD (λ_ _=>rfl)) (bV (rb zZ D j9) cA zZ) zZ))))) (wY (mQ (iN (dM (Ef zZ) zZ uB boot_all (ci (iu (CompSc.to (N:=[sT,vF,"_law_row"]) (osc:=cu zB) (vs:=[tK]) {}) zZ zZ (wP (cU d6 (pv 0) cD (λ_ _=>rfl))) (λ_ _ _ _=>hZ) (λ_ _ _ _=>(dM (CallR.k (K:=K) uu tj zZ) zZ y mI (cE (bV (pv 0) (bV (rb zZ D j9) cA zZ) zZ))))) ce))))))) (cy (c8 oK)) fJ) (cq (hK iX zZ (gY (dQ zO (iC Ny zZ qC yx (ci (cU d6 (pv 0) cD (λ_ _=>rfl)) ce)) (cU d6 (pv 0) cD (λ_ _=>rfl)))) (fB (i:=2) rZ.nd zZ Z') (cy (fG (PW.pt (pG (mQ (iN (dM tj zZ y mI (cE (bV (pv 2) (bV (rb zZ D j9) cA zZ) zZ))))) (wY (mQ (iN (dM (Ef zZ) zZ uB boot_all (ci (iu (CompSc.to (N:=[sT,vF,"_law_row"]) (osc:=cu zB) (vs:=["_law_one"]) {}) zZ zZ (wP (pv 2)) (λ_ _ _ _=>hZ) (λ_ _ _ _=>(dv kF hr.m zZ (ci (pv 0) ce)))) ce))))))) (cy (c8 oK)) fJ))) (cy (c8 (tu (DR hu) (pv 0) (pv 1) (fS _))))))),?_];have B:∀{m:List V},m.map (λ_=>V.bl true)=(m.map λ_=>true).map V.bl:=λ{m}=>by rw[i0];rfl
 have j:∀{m:List V},(m.map λ_=>true).all id=true:=λ{m}=>by
  rw[BA,rj];exact λ_ _=>rfl
 have lc:=I.len;have lb:=T.len;refine#[_,zZ,_,_,_,_,zZ,.tup e,dz,_,zZ,eA #[_,zZ,p,_,zZ,.inr (R4 e),zZ,_,zZ,xK zZ #[_,zZ,p,_,_,_,zZ,zZ,R4 e,zZ,_,_,_,_,zZ,.lst O,Mv,_,zZ,eA ?_]]];refine#[_,zZ,p,_,_,_,zZ,zZ,R4 e,zZ,_,_,_,_,zZ,.tup ht,dz,_,zZ,eA #[_,zZ,p,_,_,_,zZ,zZ,R4 e,zZ,t,zZ,#[_,R4 ht],yO (f:=λ_=> .bl true) (small (by rw[bW];lia)) (R4 ht) (λv Q r q=>?_) (λl1 n1=>?_)]]
 .obtain⟨c,hc,rfl⟩:=cH.mp r;obtain⟨i,ei⟩:=rc hc;have il:=(cf.mp ei).1;exact#[_,zZ,_,_,_,_,zZ,.tup (I.is i c gs[i] ei (b7 ())),dz,q]
 rw[B];have x:=cn n1 (.lst (((a.map V.ref).map λ_=>true).map V.bl));refine#[l1,_,zZ,R3 bY,?_];rw[j];refine#[_,zZ,eA ?_];generalize bT H l1 (.lst (((a.map V.ref).map λ_=>true).map V.bl))=H1 at x|-;refine#[_,zZ,p,_,_,_,zZ,zZ,R4 (x _ _ e),zZ,t,_,zZ,.inr (R4 (x _ _ ht)),λl2 n2=>?_];have k2:=cn n2 (.lst (a.map V.ref));refine#[_,zZ,p,_,_,_,zZ,zZ,R4 ((x.trans k2) _ _ e),zZ,l2,l,_,_,zZ,zZ,R3 bY,R3 ((x.trans k2) _ _ O),by rw[bW,bW,db];lia,λl3 n3=>?_];rw[<-dH];have k3:=(x.trans k2).trans (cn n3 (.lst ((a++bs).map V.ref)));have e3:bT (bT H1 l2 (.lst (a.map V.ref))) l3 (.lst ((a++bs).map V.ref)) l3=some (.lst ((a++bs).map V.ref)):=bY;generalize bT (bT H1 l2 (.lst (a.map V.ref))) l3 (.lst ((a++bs).map V.ref))=H3 at k3 e3|-;refine#[l3,zZ,#[_,R3 e3],qr (xs:=(a++bs).map V.ref) (λi J L=>Same H3 L/\∃o,J=[some (.ref p),some (.ref p'),o]) #[Same.refl _,none,zZ] (λi J L _ z=>R3 (z.1 _ _ e3)) (λi v J L r z=>?_) (λJ L z=>?_)]
 .obtain⟨g,o,rfl⟩:=z;rw[cz]at r;obtain⟨b,C,rfl⟩:=dW.mp r;obtain⟨u,n,lu⟩:∃u:bS,H b=some (.tup (u.map nv))/\u.length<=400:=by
   have il:=(cf.mp C).1;rw[di]at il;by_cases hi:i<a.length
   .rw[d7 hi]at C;exact#[_,I.is i b gs[i] C (b7 ()),Y _ (jv _)]
   .rw[eC ()]at C;exact#[_,T.is (i-a.length) b us[i-a.length] C (b7 ()),U _ (jv _)]
  have n:=g _ _ (k3 _ _ n);refine#[_,zZ,_,_,_,_,zZ,.tup n,dz,_,zZ,eA #[_,zZ,b,zZ,#[_,R4 n],yO (f:=λ_=> .bl true) (small (by rw[bW];lia)) (R4 n) (λv Q r q=>?_) (λl4 n4=>?_)]]
  .obtain⟨k,_,rfl⟩:=cH.mp r;exact#[_,zZ,(k:Int),zZ,q]
  rw[B];refine#[l4,_,zZ,R3 bY,?_];rw[j];exact#[_,zZ,eA #[g.trans (cn n4 _),_,zZ]]
 obtain⟨g,o,rfl⟩:=z;have d:=k3.trans g;refine#[_,zZ,_,zZ,p,p',2,_,_,zZ,zZ,IV (d _ _ e) (JT (d _ _ O) (T.same d)) (JH (d _ _ ht) (I.same d)),IV (d _ _ aa) (JT (d _ _ ab) (ae.same d)) (JH (d _ _ af) (ag.same d)),by decide,λb n=>?_];rw[n.mpr zZ];exact q _ d
theorem Kc{f:bS->Nat->List Nat}{a b:TW}(T:Told f L c b)(e:(a.map (·.1)).Nodup)(run:∀p∈a,(∀l∈p.2,l<L)/\cN f c p.2=p.1):a.length<=b.length:=by
 rw[<-bW,<-bW (f:=(·.1)) (as:=b)];refine qv e λx g=>?_;obtain⟨p,h,rfl⟩:=cH.mp g;obtain⟨i,j⟩:=run p h;obtain⟨u,d,_⟩:=T.least _ p.2 zZ i;rw[j]at d;exact cH.mpr #[_,d,zZ]
inductive jw(K:R6)(c:List V)(H:Hp)(Q:VK)(b:XK):Prop|mk:∀(a:Ad) (d:Zs),c=[.ref a]->SqL K H a (d.map V.int)->d.length<=63->Tabs H->(∀e,Q (.bl true) e)->jw K c H Q b
set_option maxHeartbeats 4000000 in
theorem Kh(F:Fun K "law" "law" v8 f G)(qL:dC P w K mg base vS 3 [sL,wH] (fZ K))(jH:dC P w K mg base vG 1 [sL,tL] (fg K))(rG:dC P w K mg base "_law_rows" 22 [sN,sZ,tE] lz)(kW:dC P w K mg base vT 24 [sN,sZ,tE] fN)(jX:dC P w K mg base vY 3 [sT,vF] gu)(kL:CalleeDX P w K mg base sW 22 [sA,sX,sK] (dr C) []) (g:CalleeDX P w K mg base sW 22 [sA,sX,sK] (dr C) [nv 400]) (jD:mg "len"=none):FnOk P w K mg base cG 26 f G [sL] (jw K):=by
 refine F.ok uA (λaG A au s H vs Q E v h=>?_)
 obtain⟨a,ns,rfl,hS,aH,hT,q⟩:=h;have hu:=v.units;have aI:=iT v;refine#[_,(Qu (n9 (nJ (cT (i:=1) uA.nd zZ Z' (dv qL v.m zZ (cE (bV (pv 0) (bV cD cA zZ) zZ))))) (n9 (nJ (cT (i:=2) uA.nd zZ Z' (dQ jx (dv jH v.m zZ (cE (bV (pv 0) (bV cD cA zZ) zZ))) (dM gq zZ jD f6 (ci (cU d6 (pv 1) cD (λ_ _=>rfl)) ce))))) (n9 (Rc (i:=3) uA.nd zZ Z' (Iq nZ (se cD) (Iq jx (se (dQ u6 (dv jH v.m zZ (cE (bV (pv 0) (bV cD cA zZ) zZ))) cD)) (yY fH (OM (BD (se cD) (BD (se cD) (BD (se cD) (BD (se cD) cA zZ) zZ) zZ) zZ)) (se (dQ jx (dv jH v.m zZ (cE (bV (pv 0) (bV cD cA zZ) zZ))) cD)) (λ_ _=>rfl)))) zZ (by first|exact .inl rfl|exact .inr rfl|assumption)) (n9 (nJ (cT (i:=4) uA.nd zZ Z' (dv rG v.m zZ (cE (bV (pv 1) (bV (pv 2) (bV (pv 3) cA zZ) zZ) zZ))))) (n9 (nJ (cT (i:=5) uA.nd zZ Z' (dM gq zZ jD f6 (ci (cU d6 (pv 4) cD (λ_ _=>rfl)) ce)))) (n9 (nJ (fG (hG xT (pv 5) (pv 3) (fS _)) (cy (c8 (dv kW v.m zZ (cE (bV (pv 1) (bV (pv 2) (bV (pv 3) cA zZ) zZ) zZ))))) fJ)) (n9 (nJ (fG (PW.pt (pG (mQ (iN (dv jX v.m zZ (cE (bV (At kL v.m z7 zZ (cE (bV (pv 1) (bV (pv 2) (bV (pv 3) cA zZ) zZ) zZ))) (bV (pv 4) cA zZ) zZ))))) (wY (mQ (iN (dv jX v.m zZ (cE (bV (At kL v.m z7 zZ (cE (bV (pv 1) (bV (pv 2) (bV (pv 5) cA zZ) zZ) zZ))) (bV (pv 4) cA zZ) zZ)))))))) (cy (c8 oK)) fJ)) (n9 (nJ (sf (fG (PW.pt (wr (hG xT (pv 5) cD (fS _)) (wQ (mQ (iN (dv kW v.m zZ (cE (bV (pv 1) (bV (pv 2) (bV (dQ HX (pv 5) cD) cA zZ) zZ) zZ)))))))) (cy (c8 oK)) fJ))) (n9 (nJ (cT (i:=6) uA.nd zZ Z' (At g v.m z7 zZ (cE (bV (pv 1) (bV (pv 2) cA zZ) zZ))))) (n9 (nJ (fG (mQ (iN (dv jX v.m zZ (cE (bV (pv 6) (bV (pv 4) cA zZ) zZ))))) (cy (c8 oK)) fJ)) (n9 (nJ (iq (Jc iD PySem.F.slot_list_clear PySem.F.type_list_clear N5 (cU d6 (pv 6) cD (λ_ _=>rfl))))) (Ma (nJ (c8 (dv jX v.m zZ (cE (bV (At g v.m z7 zZ (cE (bV (pv 1) (bV (pv 2) cA zZ) zZ))) (bV (pv 4) cA zZ) zZ)))))))))))))))))),?_];refine#[_,zZ,a,ns,2,zZ,by decide,hS,λm ts n H1 g1 M=>?_];have av:=M.some1;have few:=M.few;have n1:=M.n1;obtain⟨aJ,r0,b1,_,b3,b4,b5,_⟩:=M.at (l:=0) ();have ag:=g1.seq hS;refine#[_,zZ,a,ns,0,zZ,by decide,ag,λc0=>#[_,zZ,m,_,_,_,zZ,zZ,R4 b1,b3,r0,_,zZ,.inr (R4 b4),?_]]
 try dsimp only
 rw[bW,b5];obtain⟨er,rn⟩:=tD c0 n1;refine#[_,_,zZ,zZ,(by show(0:Int)<((n:Nat):Int);lia),?_]
 try dsimp only
 rw[er];generalize(c0%(n:Int)).toNat=room at rn|-;refine#[_,zZ,a,ns,1,zZ,by decide,ag,λc1=>#[_,_,zZ,zZ,#[by decide,by decide],by show 4<=sizeLine;decide,λl4 n4=>?_]];have k4:=cn n4 (.lst [.int 60,.int 60,.int 60,.int 120]);refine#[_,zZ,a,ns,1,zZ,by decide,k4.seq ag,λc2=>#[_,_,zZ,zZ,(by decide:(0:Int)<4),?_]];obtain⟨j,ej,j4⟩:∃j:Nat,c2%4=(j:Int)/\j<4:=#[(c2%4).toNat,(),()];obtain⟨b,eb,aw,aE⟩:∃b:Nat,[V.int 60,.int 60,.int 60,.int 120][j]?=some (nv b)/\1<=b/\b<=120:=by
  match j,j4 with
  |0,_=>exact#[60,zZ,by decide,by decide]
  |1,_=>exact#[60,zZ,by decide,by decide]
  |2,_=>exact#[60,zZ,by decide,by decide]
  |3,_=>exact#[120,zZ,by decide,by decide]
 obtain⟨eq,q1⟩:=tD (c1/4) aw
 try dsimp only
 rw[ej];refine#[l4,_,_,_,zZ,zZ,R3 bY,iM eb,_,_,zZ,zZ,(by show(0:Int)<((b:Nat):Int);lia),?_]
 try dsimp only
 rw[eq];generalize(c1/4%(b:Int)).toNat=r at q1|-;obtain⟨most,em,aF⟩:∃most:Nat,V.int (1+((r:Nat):Int))=nv most/\most<=120:=#[1+r,by show V.int _=V.int _;congr 1,()];refine#[_,_,zZ,zZ,?_]
 try dsimp only
 rw[em];have M2:=M.same k4;have T2:=(hT.same g1).same k4;generalize bT H1 l4 (.lst [.int 60,.int 60,.int 60,.int 120])=H2 at M2 T2|-;refine#[_,zZ,_,zZ,_,zZ,m,ts,n,room,most,zZ,M2,rn,(),T2,λp wa t bs cs aK Ls I H3 k3 T3 RO kn run ep ak Tb et fin=>?_];have M3:=M2.keeps k3;have lb:bs.length=I.length:=by rw[Tb.len,bW]
 refine#[_,zZ,p,_,_,_,zZ,zZ,R4 ep,zZ,wa,_,zZ,.inl (R3 ak),?_]
 try dsimp only
 rw[bW,lb];refine#[_,zZ,_,zZ,_,_,zZ,zZ,_,zZ,lH (λc=>?_) (λc=>?_)]
 .have c:=f7 c;refine#[_,zZ,_,zZ,_,zZ,m,ts,n,room,most,zZ,M3,rn,(),T3,λaa ah ai J ab=>?_,λH' _ _=>q _];obtain⟨rfl,rfl⟩:=RO.uniq J;have:=Kc ab kn run;lia
 have le:I.length<=most:=by
  have:=λz=>c (dF z);lia
 obtain⟨TT,Tc⟩:=fin le;have ae:∀(mo:Nat) (H':Hp) (Q':VK) (E':XK),Keeps H3 H'->Tabs H'->I.length<=mo->mo<=400->(∀p' l' t' B D d,Keeps H3 d->Tabs d->L2.noT H3 l'=none->d p'=some (.tup [.ref l',.ref t'])->d l'=some (.lst (B.map .ref))->TupsAt d B (I.map (·.1))->d t'=some (.tup (D.map .ref))->TupsAt d D (mO (gj ts n Ls) ts.length (I.map (·.1)))->Q' (.ref p') d)->dr C [.ref m,nv room,nv mo] H' Q' E':=λmo H' Q' E' k T lm al q'=>by
  refine#[m,ts,n,room,mo,zZ,M3.keeps k,rn,al,T,λp' l' t' B D aa ah ai d k' T' J ab aL nl L N U Y h5=>?_,λaa ah ai d dx k' T' J aM ax am lt=>?_]
  .obtain⟨rfl,rfl⟩:=RO.uniq J;cases TT.uniq ab;refine q' p' l' t' B D d (k.trans k') T' ?_ L N U Y h5;cases y:L2.noT H3 l' with
   |none=>rfl
   |some o=>
    have z:=qa (k _ _ y) (uz y).2;rw[nl]at z;cases z
  .obtain⟨rfl,rfl⟩:=RO.uniq J;exact wC (Kc TT ax am) ()
 have O:(∀u∈I.map (·.1),u.length<=400)/\∀u∈mO (gj ts n Ls) ts.length (I.map (·.1)),u.length<=400:=by
  refine#[λu hu=>?_,λu hu=>?_]
  .obtain⟨r,v,rfl⟩:=cH.mp hu;obtain⟨r1,r2⟩:=run r v;have ri:RowIn Ls r.1:=by
    rw[<-r2];exact ck.mp (pR (ck.mpr (BC M RO rn)) (λx hx l hl=>ck.mpr (Bo M RO (ck.mp hx) hl)) r.2 r1)
   rw[ri.len];have z:(og Ls).length<=2 * Ls.length:=Jo Ls Ls.length;have:=RO.few
   lia
  .unfold mO at hu;obtain⟨l,_,rfl⟩:=cH.mp hu;rw[bW,bW];lia
 have due:∀{p' l' t':Ad} {B D:As} {d:Hp} {Q':VK} {E':XK},Keeps H3 d->Tabs d->d p'=some (.tup [.ref l',.ref t'])->d l'=some (.lst (B.map .ref))->TupsAt d B (I.map (·.1))->d t'=some (.tup (D.map .ref))->TupsAt d D (mO (gj ts n Ls) ts.length (I.map (·.1)))->(∀H4,Same d H4->Q' (.bl true) H4)->gu [.ref p',.ref p] d Q' E':=λ{p' l' t' B D d Q' E'} k T L N U Y h5 q'=>
  #[p',l',t',p,wa,t,B,D,bs,cs,I.map (·.1),mO (gj ts n Ls) ts.length (I.map (·.1)),zZ,by rw[bW];lia,by unfold mO;rw[List.length_map,List.length_range];lia,L,N,U,Y,h5,O.1,O.2,k _ _ (nz ep),k _ _ (nz ak),oB Tb k,k _ _ (nz et),oB Tc k,q']
 refine#[_,zZ,_,zZ,_,zZ,?_];dsimp only[f8];refine ae most H3 _ _ (Same.refl _).keeps T3 le () λp1 l1 t1 an ao H5 k5 T5 _ L N U Y h5=>#[_,zZ,?_];dsimp only[f8];refine due k5 T5 L N U Y h5 λH6 g6=>#[_,zZ,eA ?_];clear L N U Y h5;refine#[_,zZ,_,zZ,_,zZ,?_];dsimp only[f8];refine ae I.length H6 _ _ (k5.trans g6.keeps) (T5.same g6) (cg _) () λp1 l1 t1 an ao H7 k7 T7 _ L N U Y h5=>#[_,zZ,?_];dsimp only[f8];refine due k7 T7 L N U Y h5 λH8 g8=>#[_,zZ,eA ?_];clear L N U Y h5;have k8:=k7.trans g8.keeps;have T8:=T7.same g8;refine#[λap H'=>Keeps H3 H'/\Tabs H'/\ap=[some (.ref a),some (.ref m),some (nv room),some (nv most),some (.ref p),some (nv I.length),none],?_,λap H9 z=>?_]
 .refine#[_,zZ,_,_,zZ,zZ,_,zZ,lH (λc=>?_) (λc=>eA #[k8,T8,zZ])];have c:=f7 c;have e1:V.int ((I.length:Int)-1)=nv (I.length-1):=by show V.int _=V.int _;congr 1;lia
  refine#[_,zZ,_,zZ,_,zZ,_,_,zZ,zZ,?_]
  try dsimp only
  rw[e1];refine#[m,ts,n,room,I.length-1,zZ,M3.keeps k8,rn,(),T8,λaa ah ai J ab=>?_,λH' k' T'=>#[_,zZ,eA #[k8.trans k',T',zZ]]];obtain⟨rfl,rfl⟩:=RO.uniq J;cases TT.uniq ab;lia
 obtain⟨k9,T9,rfl⟩:=z;refine#[_,zZ,_,zZ,?_];dsimp only[f8];refine ae 400 H9 _ _ k9 T9 () (cg _) λp1 l1 t1 an ao aN aq ar ay L N U Y h5=>?_;refine#[_,zZ,_,zZ,?_];dsimp only[f8];refine due aq ar L N U Y h5 λas af=>#[_,zZ,eA ?_];have az:=ar.same af;have aj:=af _ _ N;refine#[_,zZ,p1,_,_,_,zZ,zZ,R4 (af _ _ L),zZ,.inl #[zZ,_,R3 aj],l1,_,zZ,zZ,aj,?_];have aA:Keeps H3 (bT as l1 (.lst [])):=ow (aq.trans af.keeps) ay;have aB:Tabs (bT as l1 (.lst [])):=az.most λb u _ n2 hb=>by
  rw[bX (io hb aj λe=>n2 _ e)];exact hb
 refine#[_,zZ,_,zZ,?_];dsimp only[f8];refine ae 400 _ _ _ aA aB () (cg _) λp2 l2 t2 aO aP aQ aC aD _ L N U Y h5=>#[_,zZ,?_];dsimp only[f8];exact due aC aD L N U Y h5 λaR _=>q _
end
theorem Af{b:Type}{P:List b->Prop}(h:∀a,P [a]):∀c,c.length=1->P c
 | [a],_=>h a
theorem nG{c:Type}{P:List c->Prop}(h:∀a b,P [a,b]):∀d,d.length=2->P d
 | [a,b],_=>h a b
theorem va{c:Type}{P:List c->Prop}(h:∀a b a2,P [a,b,a2]):∀d,d.length=3->P d
 | [a,b,a2],_=>h a b a2
theorem wS{c:Type}{P:List c->Prop}(h:∀a b a2 a3,P [a,b,a2,a3]):∀d,d.length=4->P d
 | [a,b,a2,a3],_=>h a b a2 a3
theorem ER{d:Type}{P:List d->Prop}(h:∀a b a2 a3 c,P [a,b,a2,a3,c]):∀e,e.length=5->P e
 | [a,b,a2,a3,c],_=>h a b a2 a3 c
abbrev Rw(K:R6)(x:Str)(st:Stmt)(f:Ad)(fd:Fd):Prop:=PySem.W.nsIn K mainGlobals x=some (some (.ref f))/\Fun K x x st f fd
abbrev Rx(K:R6)(x:Str)(st:Stmt):Prop:=∃f fd,Rw K x st f fd
theorem fM{st:Stmt}(P)(w)(base)(X:K.In h)(G:h.Ns mainGlobals mg)(r:Rx K x st)(o:∀{f fd},Fun K x x st f fd->FnOk P w K mg base cG k f fd b g)(i:∀(kV c pm:Vl) (j:Option Ad) (d l:Vl) (e:Vs),e.length=b.length->bindArgs (PySem.W.fnOf x x (iy st) (fc st) (cu st) .none kV c pm j d l) #[e,[]]=pure (b.zip e):=by first|exact λ_ _ _ _ _ _=>Af λ_=>rfl|exact λ_ _ _ _ _ _=>nG λ_ _=>rfl|exact λ_ _ _ _ _ _=>va λ_ _ _=>rfl|exact λ_ _ _ _ _ _=>wS λ_ _ _ _=>rfl|exact λ_ _ _ _ _ _=>ER λ_ _ _ _ _=>rfl):dC P w K mg base x k b g:=let⟨f,fd,a,F⟩:=r;#[f,fd,o F,PySem.W.mg_of X G a,F.kp,F.binds i]
abbrev ka(K:R6)(C:Ad)(m q:Str)(st:Stmt):Prop:=∃f fd,CW K C m q st f fd
theorem m8{st:Stmt}(P)(w)(mg)(base)(r:ka K C x y st)(o:∀{f fd},Fun K x y st f fd->FnOk P w K mg base cG k f fd c h)(i:∀(kV d pm:Vl) (j:Option Ad) (e l:Vl) (g:Vs),g.length=c.length->bindArgs (PySem.W.fnOf x y (iy st) (fc st) (cu st) .none kV d pm j e l) #[g,[]]=pure (c.zip g):=by first|exact λ_ _ _ _ _ _=>Af λ_=>rfl|exact λ_ _ _ _ _ _=>nG λ_ _=>rfl|exact λ_ _ _ _ _ _=>va λ_ _ _=>rfl|exact λ_ _ _ _ _ _=>wS λ_ _ _ _=>rfl|exact λ_ _ _ _ _ _=>ER λ_ _ _ _ _=>rfl):gI P w K mg base C x k c h:=let⟨f,fd,a,b,F⟩:=r;#[f,fd,o F,#[a,b,F.kp],F.binds i]
theorem Hx{C:Ad}{st:Stmt}(P)(w)(base)(X:K.In h)(G:h.Ns mainGlobals mg)(n:PySem.W.nsIn K mainGlobals z=some (some (.ref C)))(m:PySem.W.makesIn K C=true)(j:PySem.W.keepIn K (.ref C)=true)(r:ka K C tQ x st)(o:∀{f fd},Fun K tQ x st f fd->FnOk P w K mg base cG k f fd c i)(l:∀(kV d pm:Vl) (p:Option Ad) (e q:Vl) (g:Vs),g.length=c.length->bindArgs (PySem.W.fnOf tQ x (iy st) (fc st) (cu st) .none kV d pm p e q) #[g,[]]=pure (c.zip g):=by first|exact λ_ _ _ _ _ _=>Af λ_=>rfl|exact λ_ _ _ _ _ _=>nG λ_ _=>rfl|exact λ_ _ _ _ _ _=>va λ_ _ _=>rfl|exact λ_ _ _ _ _ _=>wS λ_ _ _ _=>rfl|exact λ_ _ _ _ _ _=>ER λ_ _ _ _ _=>rfl):yB P w K mg base z C k c i:=let⟨f,fd,a,b,F⟩:=r;#[f,fd,o F,#[m,a,b,j],PySem.W.mg_of X G n,F.binds l]
set_option maxHeartbeats 0 in
theorem e2v{l:W.OpenLaw}{w:World}{K:R6}{h:Heap}{mg:SV}{fa f2 f3 f9 E H ak aY I p y k m:Ad}{aZ:Fd}(X:K.In h)(G:h.Ns mainGlobals mg)(a0:mg "law"=some (.ref fa)){a1 a4 a5 au a6 av aw O ax Q ay az:Option Ad} {a7 a8 ba aA aB aC:Array (Option Vl)} {bb bc bd be aD bf bg aE aF aG J aH bh aI aJ aK aL aM T U Y aa aN ab ae af ag aO aP aQ aR ah aS:Vl} {aT:Obj} {bi:Nat} {ai:Obj} {aU:Nat} {aj:Tok}(a2:W.nsIn K mainGlobals tH=some (some (.ref f2))) (l2:K.lookup f2=some #[bb,a1,.func (W.fnOf tH tH (iy vk) (fc vk) (cu vk) .none bc bd be a4 aD bf),a7]) (c2:W.codeIn K aD tH=true) (k2:W.keepIn K (.ref f2)=true)(a3:W.nsIn K mainGlobals sU=some (some (.ref f3))) (l3:K.lookup f3=some #[bg,a5,.func (W.fnOf sU sU (iy oI) (fc oI) (cu oI) (.ref I) aE aF aG au J aH),a8]) (c3:W.codeIn K J sU=true) (k3:W.keepIn K (.ref f3)=true)(lD3:K.lookup I=some aT) (qD3:aT.data=.seq ([.none]:Vs).toArray bi)(r4:Rx K "led" tz)(r5:Rx K "place_of" EB)(r6:Rx K "in_order" CC)(r7:Rx K vX AX)(r8:Rx K vC Au)(a9:W.nsIn K mainGlobals sS=some (some (.ref f9))) (l9:K.lookup f9=some #[bh,a6,.func (W.fnOf sS sS (iy oE) (fc oE) (cu oE) .none aI aJ aK av (.ref y) aL),ba]) (c9:W.codeIn K (.ref y) sS=true) (k9:W.keepIn K (.ref f9)=true)(hd9:W.codeHdIn K y 149=true)(bj:Rx K "still" D4)(bk:Rx K wJ AF)(bl:Rx K "pictures" Fw)(bm:Rx K "family" ww)(bn:Rx K wK z9)(bo:Rx K sJ yG)(bp:Rx K vO EU)(bq:Rx K wL Bh)(br:Rx K vM Dv)(bs:Rx K "is_led_to" z8)(bt:Rx K vJ x9)(bu:Rx K "levels" Ap)(bv:Rx K "tile" Et)(bw:Rx K vH B9)(bx:Rx K vI Aj)(bz:Rx K vD C7)(a26:W.nsIn K mainGlobals sV=some (some (.ref E))) (l26:K.lookup E=some #[aM,aw,.func (W.fnOf sV sV (iy oo) (fc oo) (cu oo) .none T U Y O (.ref k) aa),aA]) (c26:W.codeIn K (.ref k) sV=true) (k26:W.keepIn K (.ref E)=true)(hd26:W.codeHdIn K k 248=true)(a27:W.nsIn K mainGlobals sW=some (some (.ref H))) (l27:K.lookup H=some #[aN,ax,.func (W.fnOf sW sW (iy mV) (fc mV) (cu mV) (.ref p) ab ae af Q (.ref m) ag),aB]) (c27:W.codeIn K (.ref m) sW=true) (k27:W.keepIn K (.ref H)=true)(lD27:K.lookup p=some ai) (qD27:ai.data=.seq ([.int 400 aj]:Vs).toArray aU)(hd27:W.codeHdIn K m 404=true)(bA:Rx K vG CB)(bB:Rx K vP FF)(bC:Rx K "_law_turn" xq)(bD:Rx K vS DY)(bE:Rx K "_law_rows" yP)(a33:W.nsIn K mainGlobals tR=some (some (.ref ak))) (l33:K.lookup ak=some #[aO,ay,.func (W.fnOf tR tR (iy vl) (fc vl) (cu vl) .none aP aQ aR az ah aS),aC]) (c33:W.codeIn K ah tR=true) (k33:W.keepIn K (.ref ak)=true)(bF:Rx K vT FA)(bG:Rx K vY zB)(aV:Rw K "law" v8 aY aZ){u jQ kN qR rK qS:Ad} (n_TooMany:W.nsIn K mainGlobals "TooMany"=some (some (.ref u))) (n_HallError:W.nsIn K mainGlobals "HallError"=some (some (.ref jQ))) (n_NoMachine:W.nsIn K mainGlobals "NoMachine"=some (some (.ref kN))) (n_NoText:W.nsIn K mainGlobals "NoText"=some (some (.ref qR))) (n_NoRow:W.nsIn K mainGlobals "NoRow"=some (some (.ref rK))) (n_NoName:W.nsIn K mainGlobals "NoName"=some (some (.ref qS))){x:Ad} (n_LevelParts:W.nsIn K mainGlobals "LevelParts"=some (some (.ref x))) (P3:OwnC K x [sA,sH,sJ,sO,sQ]) (mk_LevelParts:W.makesIn K x=true) (kp_LevelParts:W.keepIn K (.ref x)=true){C:Ad} (n_Row:W.nsIn K mainGlobals "Row"=some (some (.ref C))) (R1:OwnC K C [sB,tN]) (mk_Row:W.makesIn K C=true) (kp_Row:W.keepIn K (.ref C)=true)(rB:ka K x tQ "LevelParts.__init__" Ci)(qT:ka K x wM "LevelParts.is_turning" Db)(rN:ka K x vQ "LevelParts.within" DX)(qU:ka K x wN "LevelParts.least_tile" Cj)(rH:ka K x "deed_of" "LevelParts.deed_of" EA)(rO:ka K x "turned" "LevelParts.turned" FJ)(rJ:ka K x "brought" "LevelParts.brought" DF)(qO:ka K x "pair_behind" "LevelParts.pair_behind" CK)(uF:ka K C tQ "Row.__init__" zT)(uN:ka K C "paired" "Row.paired" CG)(uG:ka K C "unpaired" "Row.unpaired" Dh)(uO:ka K C "walked" "Row.walked" CF)(uR:ka K C "moved" "Row.moved" Ec)(uP:ka K C "row_of" "Row.row_of" Fa){fI:Ad} {bH bJ:Option Ad} {bK:Array (Option Vl)} {bL bM bN bO aW bP:Vl} (lI:K.lookup fI=some #[bL,bH,.func (W.fnOf tQ vW (iy vU) (fc vU) (cu vU) .none bM bN bO bJ aW bP),bK]) (cI:W.codeIn K aW vW=true) (kI:W.keepIn K (.ref fI)=true)(eI:MkE K u jQ fI) (bI:BaseI K jQ) (sI:SetE K u sK)(gE:GetE K u sK)(g2:W.findIn K (.ref u) "__class__"=some (some (.builtin "object.__class__")))(i1:W.kitOne K (.ref u) (.type "ValueError")=some true)(i2:W.kitOne K (.ref u) (.ref kN)=some false)(i3:W.kitOne K (.ref u) (.ref qR)=some false)(i4:W.kitOne K (.ref u) (.ref rK)=some false)(i5:W.kitOne K (.ref u) (.ref qS)=some false)(i6:W.kitOne K (.ref u) (.ref jQ)=some true)(al:W.nsIn K mainGlobals "len"=some none) (z:W.nsIn K mainGlobals "range"=some none) (A:W.nsIn K mainGlobals "tuple"=some none) (L:W.nsIn K mainGlobals "list"=some none) (t:W.nsIn K mainGlobals "sorted"=some none) (am:W.nsIn K mainGlobals "set"=some none) (ao:W.nsIn K mainGlobals "all"=some none) (ap:W.nsIn K mainGlobals "any"=some none) (i:W.nsIn K mainGlobals "enumerate"=some none) (aq:W.nsIn K mainGlobals "zip"=some none) (d:W.nsIn K mainGlobals "isinstance"=some none) (ar:W.nsIn K mainGlobals "int"=some none) (M:W.nsIn K mainGlobals "bool"=some none) (f:W.nsIn K mainGlobals "ValueError"=some none):
  ∃fd:Fd,(∀(s:Sh) (v:Vl),BindsTo s fd #[[v],[]] [(sL,v)])/\∀base:Heap,K.In base->base.Ns mainGlobals mg->oA mg base->FnOk l.prog w K mg base cG 26 fa fd [sL] (jw K):=by
 have e:=a0.symm.trans (jz X G aV.1);cases e;have F2:=b4r (st:=vk) l2 c2 k2;have F3:DefAt K sU oI f3 (W.fnOf sU sU (iy oI) (fc oI) (cu oI) (.ref I) aE aF aG au J aH) (.ref I) J:=#[c3,#[_,_,_,_,_,zZ],_,_,_,l3];have F9:DefAt K sS oE f9 (W.fnOf sS sS (iy oE) (fc oE) (cu oE) .none aI aJ aK av (.ref y) aL) .none (.ref y):=#[c9,#[_,_,_,_,_,zZ],_,_,_,l9];have bQ:DefAt K sV oo E (W.fnOf sV sV (iy oo) (fc oo) (cu oo) .none T U Y O (.ref k) aa) .none (.ref k):=#[c26,#[_,_,_,_,_,zZ],_,_,_,l26];have bR:DefAt K sW mV H (W.fnOf sW sW (iy mV) (fc mV) (cu mV) (.ref p) ab ae af Q (.ref m) ag) (.ref p) (.ref m):=#[c27,#[_,_,_,_,_,zZ],_,_,_,l27];have aX:=b4r (st:=vl) l33 c33 k33;have n:=mh X G al;have B:=mh X G z;have D:=mh X G A;have qC:=mh X G L;have kQ:=mh X G t;have vA:=mh X G am;have uB:=mh X G ao;have uI:=mh X G ap;have rE:=mh X G i;have uJ:=mh X G aq;have jA:=mh X G d;have vB:=mh X G ar;have uV:=mh X G M;have rA:=mh X G f;have rM:=jz X G n_TooMany;have kM:=jz X G n_HallError;have rF:=jz X G n_NoMachine;have uD:=jz X G n_NoText;have uM:=jz X G n_NoRow;have uE:=jz X G n_NoName;have rL:=aV.2;obtain⟨_,_,kV,dc,pm,an,cv,ct,_,rfl,_,_⟩:=id rL.ex;refine#[W.fnOf "law" "law" (iy v8) (fc v8) (cu v8) .none kV dc pm an cv ct,λs v=> .of_eq zZ,λbase KB _ as=>?_];have rX:=W.codeHd_of_K KB hd9;have uH:=W.codeHd_of_K KB hd26;have uS:=W.codeHd_of_K KB hd27;have g:C3 l.prog w K mg base tR _ _ _:=#[_,_,Pw (P:=l.prog) (w:=w) (base:=base) aX jA rA kM rF uD uM uE #[eI.cls,gE.ga,gE.gt,g2] i1 i2 i3 i4 i5 i6,jz X G a33,k33,aX.binds (ps:=[wI]) λ_ _ _ _ _ _=>Af (λ_=>rfl)];have jH:=fM l.prog w base X G bA λF=>LP F n;have rC:=fM l.prog w base X G bC λF=>K8 F B D qC;have qL:=fM l.prog w base X G bD λF=>OQ F jH rC B D;have uZ:=fM l.prog w base X G r4 λF=>PR F;have rQ:=fM l.prog w base X G r5 λF=>Kv F n;have rS:=fM l.prog w base X G r6 λF=>K6 F rQ kQ;have jL:=fM l.prog w base X G r8 λF=>MD F uZ D kQ vA;have FI:=b4r (st:=vU) lI cI kI;have rW:D0 l.prog w K mg base "TooMany" _ _ _ u:=#[_,_,_,eI,QH (P:=l.prog) (w:=w) (mg:=mg) (base:=base) FI eI bI sI kM,FI.binds (ps:=[sC,sK]) λ_ _ _ _ _ _=>nG (λ_ _=>rfl),rM];have jN:B4 l.prog w K mg base tH _ _ _:=#[_,_,Py (P:=l.prog) (w:=w) (base:=base) F2 rW n,jz X G a2,k2,F2.binds (ps:=[wG,sK]) λ_ _ _ _ _ _=>nG (λ_ _=>rfl)];have c:=QI (P:=l.prog) (w:=w) (base:=base) F3 jN B;have qJ:CalleeDX l.prog w K mg base sU _ _ _ []:=#[_,_,[],c,jz X G a3,k3,(λs q KX r=>by have N:q.length=4:=(by simpa using r);clear r;revert q;exact wS (λ_ _ _ _=>BindsTo.of_defaults zZ (KX _ _ lD3) qD3 zZ zZ)),.nil];have a:CalleeDX l.prog w K mg base sU _ _ _ [.non]:=#[_,_,[.none],c,jz X G a3,k3,(λs q KX r=>by have N:q.length=3:=(by simpa using r);clear r;revert q;exact va (λ_ _ _=>BindsTo.of_defaults zZ (KX _ _ lD3) qD3 zZ zZ)),.cons zZ .nil];have o:=O' (P:=l.prog) (w:=w) (base:=base) F3 jN B;have uW:CalleeDX l.prog w K mg base sU _ _ _ []:=#[_,_,[],o,jz X G a3,k3,(λs q KX r=>by have N:q.length=4:=(by simpa using r);clear r;revert q;exact wS (λ_ _ _ _=>BindsTo.of_defaults zZ (KX _ _ lD3) qD3 zZ zZ)),.nil];have jT:dC l.prog w K mg base sS _ _ _:=#[_,_,MV (P:=l.prog) (w:=w) (base:=base) F9 rX as DD jL (a.calm<|JJ) n,jz X G a9,k9,.all (nG (λ_ _=>rfl))];have qI:=fM l.prog w base X G bj λF=>Lp F D B;have kU:=fM l.prog w base X G bk λF=>N8 F D;have rR:=fM l.prog w base X G bl λF=>Ov F qI jT n qC;have qQ:=fM l.prog w base X G bm λF=>NP F rR rS n B;have kB:=fM l.prog w base X G r7 λF=>Ol F uB;have qV:=fM l.prog w base X G bn λF=>QV F kB uI;have uL:=fM l.prog w base X G bo λF=>Of F qQ kB qV;have qG:=fM l.prog w base X G bp λF=>Km F qQ jT n;have qW:=fM l.prog w base X G bq λF=>Ro F;have qD:=fM l.prog w base X G br λF=>OL F qW;have rD:=fM l.prog w base X G bs λF=>OO F uI;have kR:=fM l.prog w base X G bt λF=>K9 F rD;have uC:=fM l.prog w base X G bu λF=>Ku F qG qD kR uL;have uT:=fM l.prog w base X G bv λF=>NG F jL;have jO:=fM l.prog w base X G bw λF=>Mx F uT n B;have jU:=fM l.prog w base X G bx λF=>LA F jL jO D;have kK:=fM l.prog w base X G bz λF=>Oa F jU n B;have qN:dC l.prog w K mg base sV _ _ _:=#[_,_,Lm (P:=l.prog) (w:=w) (base:=base) bQ uH as EC kK qI kU (a.calm<|JJ) n kQ,jz X G a26,k26,.all (nG (λ_ _=>rfl))];have qX:=Hx l.prog w base X G n_LevelParts mk_LevelParts kp_LevelParts rB λF=>Qk F P3 qN jO jU rE B n;have jF:=m8 l.prog w mg base qT λF=>Ri F P3 n;have jI:=m8 l.prog w mg base rN λF=>MX F P3;have jG:=m8 l.prog w mg base qU λF=>Qj F P3 kB;have jZ:=m8 l.prog w mg base rH λF=>N1 F P3 jL jG;have kG:=m8 l.prog w mg base rO λF=>NX F P3 kU;have jY:=m8 l.prog w mg base rJ λF=>Qc F P3;have jR:=m8 l.prog w mg base qO λF=>Nk F P3 kG jY;have uK:=Hx l.prog w base X G n_Row mk_Row kp_Row uF λF=>OG F R1 qX uC qI n;have qY:=m8 l.prog w mg base uN λF=>QY F P3 R1 jF;have jV:=m8 l.prog w mg base uG λF=>Ni F P3 R1 jF uJ D;have qZ:=m8 l.prog w mg base uO λF=>Nj F P3 R1 jZ jR jI uJ;have jM:=m8 l.prog w mg base uR λF=>Oj F R1 qY qZ jV;have kE:=m8 l.prog w mg base uP λF=>Mq F P3 R1 jG jI jV;have b:=Nt (P:=l.prog) (w:=w) (base:=base) bR uS as Ea R1 uK kE jM uW n B D qC;have kL:CalleeDX l.prog w K mg base sW _ _ _ []:=#[_,_,[],b,jz X G a27,k27,(λs q KX r=>by have N:q.length=3:=(by simpa using r);clear r;revert q;exact va (λ_ _ _=>BindsTo.of_defaults zZ (KX _ _ lD27) qD27 zZ zZ)),.nil];have j:CalleeDX l.prog w K mg base sW _ _ _ [.int 400]:=#[_,_,[.int 400 aj],b,jz X G a27,k27,(λs q KX r=>by have N:q.length=2:=(by simpa using r);clear r;revert q;exact nG (λ_ _=>BindsTo.of_defaults zZ (KX _ _ lD27) qD27 zZ zZ)),.cons #[_,zZ] .nil];have kF:=fM l.prog w base X G bB λF=>MK F jA vB uV;have rG:=fM l.prog w base X G bE λF=>Oz F R1 uK kE jM n B D;have kW:=fM l.prog w base X G bF λF=>N7 F kL kF g rM eI.cls gE;have jX:=fM l.prog w base X G bG λF=>Rn F kF jA D qC n uB;exact Kh (P:=l.prog) (w:=w) (base:=base) rL qL jH rG kW jX kL j n
noncomputable def d5p:As:=[149,248,404]
theorem walk{l:PySem.W.OpenLaw}{q:Pg}{b:Ss}{j:SV->Heap->Prop}{g:World->Heap->Prop}{d:DefRec}{K:Params->R6}(m:l.most=some 63)(i:d.params.defaults=[])(o:∀(w:World) (h:Heap),g w h->(K w.params).In h) (hT:∀w:World,∀t∈d5p,(K w.params).lookup t=none/\((∃y c,PySem.W.tabIn (K w.params) y=some (c,t)/\∃e,(recsOf q).find? (λr=>r.name==y)=some e)\/((∃c,PySem.W.codeHdIn (K w.params) c t=true)/\∀h,g w h->h.get? t=some (PySem.W.tabObj #v[]))))(F:∀(w:World) (mg:SV) (fa:Ad) (h:Heap),(K w.params).In h->h.Ns mainGlobals mg->mg d.name=some (.ref fa)->
   ∃fd:Fd,(∀(s:Sh) (u:Vl),BindsTo s fd #[[u],[]] [(sL,u)])/\∀base:Heap,(K w.params).In base->base.Ns mainGlobals mg->oA mg base->FnOk l.prog w (K w.params) mg base cG 26 fa fd [sL] (jw (K w.params))):
  PySem.W.WalkO q b j g l.row.toRowW d [] (λf p=>PySem.call f p):=
 L2.d0b (n:=63) (k:=26) (x:=sL) (tabs:=d5p) (sp:=λw=>jw (K w.params)) m (by decide) i #[zZ,by decide,by decide] o hT F λw H a v z ht A=>#[a,v,zZ,A,z,(λq B=> .inl (ht _ ((show dP.map (·.2.2)=d5p from rfl)▸List.mem_map_of_mem B))),λ_=>rfl]
end My
namespace PySem.W.Fast
def tw15091530043114122694:=Nat
theorem te15091530043114122694 : True := ⟨⟩
def tw17872461482808177068:=Nat
def tw13602985418984097198:=Nat
def tw9016691326779701167:=Nat
def tw10052536591343544146:=Nat
def tw13098509790215600705:=Nat
def tw5406343720659280837:=Nat
def tw1075127649832893485:=Nat
def tw8003082681896966756:=Nat
def tw9210478299581838574:=Nat
def tw6972280250942097861:=Nat
def tw3910337536444170472:=Nat
def tw17742821828386696594:=Nat
def tw1279334439220241972:=Nat
def tw12400176092855628022:=Nat
def tw9899845718651824254:=Nat
def tw16204897639500127475:=Nat
def tw14438520509266663013:=Nat
def tw10069524008157715181:=Nat
def tw15877072344846155401:=Nat
def tw1226596628760594504:=Nat
def tw7794388155093804066:=Nat
def tw8407255399692127093:=Nat
def tw14523711994104991080:=Nat
def tw14304987429890902878:=Nat
def tw7734515029309308339:=Nat
def tw3183629563484050454:=Nat
def tw14350094089682075055:=Nat
def tw11650640315725688300:=Nat
def tw13637767487281256509:=Nat
def tw446888120084064365:=Nat
def tw16056741338207090682:=Nat
def tw17378121018484541018:=Nat
def tw13831981891264867406:=Nat
def tw17768187211732594170:=Nat
def tw1961806418246087745:=Nat
def tw11351840297993857700:=Nat
def tw15675310193369542235:=Nat
def tw2270354652344606333:=Nat
def tw16260768355602042408:=Nat
def tw1807500908772928301:=Nat
def tw4123259403248691497:=Nat
def tw1951440523255658531:=Nat
def tw2017374958561833835:=Nat
def tw18277892550713310163:=Nat
def tw11155927674699768253:=Nat
def tw4349773835989279575:=Nat
def tw16738725315227398742:=Nat
def tw10567107784128477499:=Nat
def tw16836733910332238255:=Nat
def tw17572557998032301728:=Nat
def tw15908658585623973168:=Nat
def tw10603196345074489887:=Nat
def tw15564173164907456922:=Nat
def tw4123438299299839600:=Nat
def tw7491895762522574378:=Nat
def tw16241810675680554570:=Nat
def tw16694324930675619358:=Nat
def tw9692594228824732136:=Nat
def tw16901595205603832057:=Nat
def tw14805678691058315690:=Nat
def tw5178757100398557539:=Nat
def tw12843375965901605024:=Nat
def tw12094614437156769189:=Nat
def tw9445221011965451907:=Nat
def tw6111781049342623835:=Nat
def tw9450147548609632595:=Nat
def tw9594775717374640396:=Nat
def tw14459145318176140568:=Nat
def tw14445729671472665717:=Nat
def tw16680806162687310299:=Nat
def tw13446494238098165848:=Nat
def tw962423837114850975:=Nat
def tw13988691495992878091:=Nat
def tw10916810195870632914:=Nat
def tw12362068828109621734:=Nat
def tw9696573756093652359:=Nat
def tw4450095441623322496:=Nat
def tw1958913022993384980:=Nat
def tw6439723150831468090:=Nat
def tw3784406900849866358:=Nat
def tw3617488923327104102:=Nat
def tw18177139283626744258:=Nat
def tw563357872239554954:=Nat
def tw5258400945954770849:=Nat
def tw2563778400067527826:=Nat
def tw12395303841250980971:=Nat
def tw13583937852585129768:=Nat
def tw4518358450697489219:=Nat
def tw6663390136109919414:=Nat
def tw10728016309708976519:=Nat
def tw15986172183337427685:=Nat
def tw2310728332274964458:=Nat
def tw5976677849723313276:=Nat
def tw13380617139913196299:=Nat
def tw13333493929768446473:=Nat
def tw14523757177513868426:=Nat
def tw3455279594322257325:=Nat
def tw12287725723958150110:=Nat
def tw1245273978055845319:=Nat
def tw13200383320590066873:=Nat
def tw11426952516892515949:=Nat
def tw17834374007381544084:=Nat
def tw6584762456858730410:=Nat
def tw11762393297037469804:=Nat
def tw1438388221603313702:=Nat
def tw1095331628486969913:=Nat
def tw17901411257761344972:=Nat
def tw1922525697781639680:=Nat
def tw1599814321105396673:=Nat
def tw15397485708782752426:=Nat
def tw15847026858058580065:=Nat
def tw400868675242623755:=Nat
def tw10775712740433082183:=Nat
def tw16979001905067050440:=Nat
def tw14827733316876566184:=Nat
def tw8360310814974225873:=Nat
def tw12546722129108264251:=Nat
def tw1071099186853741917:=Nat
def tw4368847482320779200:=Nat
def tw14435947632057659528:=Nat
def tw15716831510538858130:=Nat
def tw4293015210349932228:=Nat
def tw11494060952482958585:=Nat
def tw11051161423178325958:=Nat
def tw8266971299866711555:=Nat
def tw12345769523887598385:=Nat
def tw5128844109256268488:=Nat
def tw9952461730813388037:=Nat
def tw17782547247573820509:=Nat
def tw1889290823097600175:=Nat
def tw9472263595660957703:=Nat
def tw13105847842269326957:=Nat
def tw17551106101870939398:=Nat
def tw6793119486000841127:=Nat
def tw8102124405011616724:=Nat
def tw564043154713766398:=Nat
def tw6720920552367892562:=Nat
def tw4557987543692461515:=Nat
def tw12172607478000398791:=Nat
def tw4581796203499337531:=Nat
def tw17361827429114141555:=Nat
def tw12085384952551008524:=Nat
def tw9023508166919487022:=Nat
def tw4418827276667883847:=Nat
def tw14866159952411235143:=Nat
def tw7819424502046394469:=Nat
def tw737799680878837975:=Nat
def tw15144206935699889080:=Nat
def tw17932208217964985390:=Nat
def tw17923265075765242018:=Nat
def tw17194140797417537853:=Nat
def tw11242710955077706617:=Nat
def tw17757317744433321563:=Nat
def tw5277567168386126050:=Nat
def tw597127957611928996:=Nat
def tw17147462960457241959:=Nat
def tw8577109581715916110:=Nat
def tw17050268186878677813:=Nat
def tw17739052220453306328:=Nat
def tw18015587530529443515:=Nat
def tw10255229043624126224:=Nat
def tw10755439378582301549:=Nat
def tw2360335261424802688:=Nat
def tw17304788803702694380:=Nat
def tw16667823218918090968:=Nat
def tw6140204088697453894:=Nat
def tw10284514368073560067:=Nat
def tw7087022423876583645:=Nat
def tw12144434787418360446:=Nat
def tw3104830125120453985:=Nat
def tw17142548537517631302:=Nat
def tw12873862574134929191:=Nat
def tw10013240819530168670:=Nat
def tw9974176846812678869:=Nat
def tw5943166593244325701:=Nat
def tw17609574133429440579:=Nat
def tw16263954712017035675:=Nat
def tw17720602874018727272:=Nat
def tw10149092082670938999:=Nat
def tw8955881783568041936:=Nat
def tw8777428116023074663:=Nat
def tw4688528289297671251:=Nat
def tw9273133642080331717:=Nat
def tw7498195320002774162:=Nat
def tw14012726225871728652:=Nat
def tw12524636442094964134:=Nat
def tw6470428497888355876:=Nat
def tw8446378414160103166:=Nat
def tw12777154289601048438:=Nat
def tw2452974784249348267:=Nat
def tw17358963120773280581:=Nat
def tw2698410522665492448:=Nat
def tw12168461925028380409:=Nat
def tw14890395431134736274:=Nat
def tw7220710312467995859:=Nat
def tw5765891710672811275:=Nat
def tw8958707071079489299:=Nat
def tw14465487299198472208:=Nat
def tw17011186098514435986:=Nat
def tw1132416158658437962:=Nat
def tw6849107724911454651:=Nat
def tw5626543538927508045:=Nat
def tw13288989446809761449:=Nat
def tw7002634904190162267:=Nat
def tw17296680257341890342:=Nat
def tw14815687049890010123:=Nat
def tw8225218998853950396:=Nat
def tw11796140497825404208:=Nat
def tw10046326520121846107:=Nat
def tw5593581221190562087:=Nat
def tw13640849035474863943:=Nat
def tw17458468117299538973:=Nat
def tw12207835281919823561:=Nat
def tw14646090587397948606:=Nat
def tw278289826490074492:=Nat
def tw5942214237600550161:=Nat
def tw17909673484791185955:=Nat
def tw15361091692420972520:=Nat
def tw12427363840844344178:=Nat
def tw10816541033405754259:=Nat
def tw6990596843645239761:=Nat
def tw8052379109012348141:=Nat
def tw1054276793776838926:=Nat
def tw18147787360673562604:=Nat
def tw2633036139313356082:=Nat
def tw5547290054317757938:=Nat
def tw7215939087470074397:=Nat
def tw4762261123859520902:=Nat
def tw7703819791547045212:=Nat
def tw12224706732360601607:=Nat
def tw3109162717948782213:=Nat
def tw82623199996669153:=Nat
def tw15646635625254208559:=Nat
def tw5352071148384597474:=Nat
def tw16286143423068238151:=Nat
def tw17263076323830071498:=Nat
def tw9756525617311196818:=Nat
def tw17303073269056703427:=Nat
def tw13179665654986991081:=Nat
def tw4713406124119055368:=Nat
def tw4071230564855179234:=Nat
def tw495536052921083601:=Nat
def tw1393328869718000824:=Nat
def tw15098437116210601610:=Nat
def tw5018562281059044063:=Nat
def tw5061231628335838150:=Nat
def tw3672323073341604885:=Nat
def tw6124569371183637610:=Nat
def tw10623307996660414284:=Nat
def tw16316870627671292379:=Nat
def tw8674229937497149960:=Nat
def tw9383276422801453051:=Nat
def tw280618915499290346:=Nat
def tw7437902903914341325:=Nat
def tw17876427047960810226:=Nat
def tw4014603784695070240:=Nat
def tw15169260983995857474:=Nat
def tw18050551696122753730:=Nat
def tw599540349434399894:=Nat
def tw8863472756768523501:=Nat
def tw8668902533502816589:=Nat
def tw1040778721560331670:=Nat
def tw12782882526748405030:=Nat
def tw2486462937602357615:=Nat
def tw9498512276428110500:=Nat
def tw10121615141741405800:=Nat
def tw427536345340922349:=Nat
def tw16503525422520072490:=Nat
def tw12469058105100470906:=Nat
def tw13324716537442440555:=Nat
def tw17393136909361333640:=Nat
def tw5845197893711419000:=Nat
def tw8653473608845973971:=Nat
def tw9694019450617371802:=Nat
def tw5346962028552300569:=Nat
def tw12944015558528552186:=Nat
def tw13743636213099676322:=Nat
def tw15913585237829294679:=Nat
def tw17876483125679023208:=Nat
def tw15079324223880220553:=Nat
def tw17848822648931917414:=Nat
def tw2965907318741246468:=Nat
def tw18344559898328972547:=Nat
def tw10174684795194342275:=Nat
def tw9804621843802724091:=Nat
def tw9673755504580134360:=Nat
def tw6626952090810705029:=Nat
def tw6910160924653420964:=Nat
def tw1586380545645512543:=Nat
def tw12084825500147254952:=Nat
def tw1823232149329626126:=Nat
def tw11315002764317955379:=Nat
def tw4522181165072232447:=Nat
def tw6847682576649857209:=Nat
def tw3799496031942665800:=Nat
def tw7528824695918646392:=Nat
def tw12493925571994346798:=Nat
def tw6333953147410182231:=Nat
def tw11310809791316639887:=Nat
def tw1127739279272574756:=Nat
def tw11011635989843926011:=Nat
def tw10685946572400577599:=Nat
def tw10809274387855883522:=Nat
def tw11006711089718097393:=Nat
def tw7245206867265547634:=Nat
def tw11618747534872665137:=Nat
def tw2122192910542524456:=Nat
def tw16179323314473715778:=Nat
def tw7725589029463740467:=Nat
def tw11535924587535927422:=Nat
def tw17828008864513554519:=Nat
def tw9040546246514983644:=Nat
def tw5790644816677227406:=Nat
def tw19444930303847957:=Nat
def tw16834924199520216083:=Nat
def tw17988407581627582253:=Nat
def tw7884259805687464410:=Nat
def tw6171673547158186662:=Nat
def tw10063526064288779056:=Nat
def tw7310022006225843739:=Nat
def tw5369966152657005601:=Nat
def tw3825435483177002091:=Nat
def tw18358730007826670639:=Nat
def tw4114903078211983268:=Nat
def tw8955908918913293813:=Nat
def tw9324859060443220617:=Nat
def tw6418707953298160974:=Nat
def tw18412448181504418624:=Nat
def tw16254834649907726180:=Nat
def tw4601272285817798538:=Nat
def tw15781802398759133691:=Nat
def tw17115548698558986070:=Nat
def tw12900705560342517348:=Nat
def tw4847330513655056803:=Nat
def tw132016527105695112:=Nat
def tw4639354281205236189:=Nat
def tw308932537215125235:=Nat
def tw11170915698895460592:=Nat
def tw9841950781919330868:=Nat
def tw15338686151309930566:=Nat
def tw6540633240112141102:=Nat
def tw17121719045812461183:=Nat
def tw14039121421840703107:=Nat
def tw13422378238354480666:=Nat
def tw18087601159157336166:=Nat
def tw2023911149121920085:=Nat
def tw15658103525808993254:=Nat
def tw6084661329664158045:=Nat
def tw1824865058122232594:=Nat
def tw6724969767336150795:=Nat
def tw15732540282171889281:=Nat
def tw16326483737508997250:=Nat
def tw1912696484194035057:=Nat
def tw6213729611526685543:=Nat
def tw2528546116900876438:=Nat
def tw16287291929133237211:=Nat
def tw16444677070415474616:=Nat
def tw4501136010410749920:=Nat
def tw11542949164650784250:=Nat
def tw4344883279673145062:=Nat
def tw712294261612396694:=Nat
def tw11000258034163474946:=Nat
def tw873361130504958082:=Nat
def tw6883952268822460436:=Nat
def tw14912160895648695507:=Nat
def tw5141999656599849604:=Nat
def tw13070385693808097315:=Nat
def tw343655970218520522:=Nat
def tw9274945717861311317:=Nat
def tw7393322072057278845:=Nat
def tw4333331086433362016:=Nat
def tw8803430071964787373:=Nat
def tw14116748614587364346:=Nat
def tw15967649384310962363:=Nat
def tw2112780625892516765:=Nat
def tw5302996749213229532:=Nat
def tw8654717484874903164:=Nat
def tw9180386557775172017:=Nat
def tw4134206530128778320:=Nat
def tw6850847084153573878:=Nat
def tw7310429495911600730:=Nat
def tw8263241510378347285:=Nat
def tw13950683040555185607:=Nat
def tw16674474357484714425:=Nat
def tw4370886211510689684:=Nat
def tw11280292612759137139:=Nat
def tw12979359956574508508:=Nat
def tw14402176753519015919:=Nat
def tw5829186119552415739:=Nat
def tw9149614096951072389:=Nat
def tw13748642987934890516:=Nat
def tw454997787843355018:=Nat
def tw4257630223475481195:=Nat
def tw3417373449198848498:=Nat
def tw14865987599733189766:=Nat
def tw3657871914009695744:=Nat
def tw4488470350758466341:=Nat
def tw11534433047847041624:=Nat
def tw4665399618381345654:=Nat
def tw14285967696066684057:=Nat
def tw18132809429075147827:=Nat
def tw13909430038001542917:=Nat
def tw14036758049995189284:=Nat
def tw12836934444057547386:=Nat
def tw6518293469803009924:=Nat
def tw13816546156522934253:=Nat
def tw11427063395268318840:=Nat
def tw8380339101478507318:=Nat
def tw16399939829515957128:=Nat
def tw16349779412666405502:=Nat
def tw7051347279314781711:=Nat
def tw6339316477150695762:=Nat
def tw1815373123913139936:=Nat
def tw9444176246585817098:=Nat
def tw16304638279744694437:=Nat
def tw13582638397185875044:=Nat
def tw18378103215908677825:=Nat
def tw7154330109069118534:=Nat
def tw16909182899346270635:=Nat
def tw13629249283220322038:=Nat
def tw2624415923948529017:=Nat
def tw1562198527481291425:=Nat
def tw9946895695165932059:=Nat
def tw12255738274167717731:=Nat
def tw4421831902788452808:=Nat
def tw8540897037566230061:=Nat
def tw9022095450543093017:=Nat
def tw3805634735377437023:=Nat
def tw12808391958417388642:=Nat
def tw9636450793077105083:=Nat
def tw12449386281877065302:=Nat
def tw7351704378253202796:=Nat
def tw10312575091396478155:=Nat
def tw1760499735906473769:=Nat
def tw5373586592951978541:=Nat
end PySem.W.Fast
open PySem PySem.W PyProof.Rows
set_option maxRecDepth 100000 in
set_option maxHeartbeats 0 in
theorem PySem.Challenge.cw_cascade_k70_rows_put_together_holds : PySem.Challenge.rw_cascade_k70_rows_put_together.Holds := by
 w_on; o_law; k_head; (case hw => w_witness2)
 k_fill
 refine' My.walk (l := PySem.Challenge.rw_cascade_k70_rows_put_together) rfl rfl (fun w h Y => PySem.W.km_in_of Y) ?hT ?F
 case hT =>
  intro w t ht
  simp only [My.d5p, List.mem_cons, List.not_mem_nil, or_false] at ht
  rcases ht with rfl | rfl | rfl
  ·exact ⟨by kernel_rfl, .inl ⟨"sets_reached", 153, by kernel_rfl, _, rfl⟩⟩
  ·exact ⟨by kernel_rfl, .inl ⟨"level_group", 252, by kernel_rfl, _, rfl⟩⟩
  ·exact ⟨by kernel_rfl, .inr ⟨⟨406, by kernel_rfl⟩, fun h Y => PySem.W.km_tabs_of Y _ (by simp)⟩⟩
 case F =>
  intro w mg fa h KX G hmg
  refine' My.e2v KX G hmg ?a2 ?l2 ?c2 ?k2 ?a3 ?l3 ?c3 ?k3 ?lD3 ?qD3 ?_ ?_ ?_ ?_ ?_ ?a9 ?l9 ?c9 ?k9 ?hd9 ?_ ?_ ?_ ?_ ?_ ?_ ?_ ?_ ?_ ?_ ?_ ?_ ?_ ?_ ?_ ?_ ?a26 ?l26 ?c26 ?k26 ?hd26 ?a27 ?l27 ?c27 ?k27 ?lD27 ?qD27 ?hd27 ?_ ?_ ?_ ?_ ?_ ?a33 ?l33 ?c33 ?k33 ?_ ?_ ?_ ?n_TooMany ?n_HallError ?n_NoMachine ?n_NoText ?n_NoRow ?n_NoName ?n_LevelParts ?P3 ?mk_LevelParts ?kp_LevelParts ?n_Row ?R1 ?mk_Row ?kp_Row ?_ ?_ ?_ ?_ ?_ ?_ ?_ ?_ ?_ ?_ ?_ ?_ ?_ ?_ ?lI ?cI ?kI ?eI ?bI ?sI ?gE ?g2 ?i1 ?i2 ?i3 ?i4 ?i5 ?i6 ?_ ?_ ?_ ?_ ?_ ?_ ?_ ?_ ?_ ?_ ?_ ?_ ?_ ?_
  (case a2 => k_is); (case l2 => k_is); (case c2 => k_is); (case k2 => k_is)
  (case a3 => k_is); (case l3 => k_is); (case c3 => k_is); (case k3 => k_is)
  (case lD3 => k_is); (case qD3 => rfl)
  (case a9 => k_is); (case l9 => k_is); (case c9 => k_is); (case k9 => k_is)
  (case hd9 => kernel_rfl)
  (case a26 => k_is); (case l26 => k_is); (case c26 => k_is); (case k26 => k_is)
  (case hd26 => kernel_rfl)
  (case a27 => k_is); (case l27 => k_is); (case c27 => k_is); (case k27 => k_is)
  (case lD27 => k_is); (case qD27 => rfl)
  (case hd27 => kernel_rfl)
  (case a33 => k_is); (case l33 => k_is); (case c33 => k_is); (case k33 => k_is)
  (case n_TooMany => k_is)
  (case n_HallError => k_is)
  (case n_NoMachine => k_is)
  (case n_NoText => k_is)
  (case n_NoRow => k_is)
  (case n_NoName => k_is)
  (case eI => exact ⟨⟨(by show PySem.W.excIn _ _ L2.veMro "ValueError.__new__" = true; k_exc), _, _, _, _, _, _, _, _, _, _, _, _, _, _, by k_is⟩, by k_is, by k_is, by k_is⟩)
  (case lI => k_is); (case cI => k_is); (case kI => k_is)
  (case bI => exact ⟨by k_is, by k_is, by k_is⟩)
  (case sI => exact ⟨by k_is, by k_is⟩)
  (case n_LevelParts => k_is); (case P3 => exact ⟨⟨by k_is, by k_is, by k_is, by k_is⟩, (.cons (by k_is) (.cons (by k_is) (.cons (by k_is) (.cons (by k_is) (.cons (by k_is) .nil)))))⟩); (case mk_LevelParts => k_is); (case kp_LevelParts => k_is)
  (case n_Row => k_is); (case R1 => exact ⟨⟨by k_is, by k_is, by k_is, by k_is⟩, (.cons (by k_is) (.cons (by k_is) .nil))⟩); (case mk_Row => k_is); (case kp_Row => k_is)
  any_goals (refine' ⟨_, _, ?a, ?i, L2.b4r ?l ?c ?k⟩; (case a => k_is); (case i => k_is); (case l => k_is); (case c => k_is); (case k => k_is))
  (case gE => exact ⟨by k_is, by k_is, by k_is⟩)
  (case g2 => k_is)
  (case i1 => exact My.d5n (by decide +kernel) ⟨_, _, _, _, by k_is, by rfl, by rfl⟩)
  (case i2 => exact My.b4a (by decide) ⟨_, _, _, by k_is⟩ ⟨_, _, _, _, by k_is, by rfl, by rfl⟩)
  (case i3 => exact My.b4a (by decide) ⟨_, _, _, by k_is⟩ ⟨_, _, _, _, by k_is, by rfl, by rfl⟩)
  (case i4 => exact My.b4a (by decide) ⟨_, _, _, by k_is⟩ ⟨_, _, _, _, by k_is, by rfl, by rfl⟩)
  (case i5 => exact My.b4a (by decide) ⟨_, _, _, by k_is⟩ ⟨_, _, _, _, by k_is, by rfl, by rfl⟩)
  (case i6 => exact My.b4a (by decide) ⟨_, _, _, by k_is⟩ ⟨_, _, _, _, by k_is, by rfl, by rfl⟩)
  any_goals (refine' ⟨_, _, ?a, L2.b4r ?l ?c ?k⟩; (case a => k_is); (case l => k_is); (case c => k_is); (case k => k_is))
  any_goals (refine' ⟨?a, L2.b4r ?l ?c ?k⟩; (case a => k_is); (case l => k_is); (case c => k_is); (case k => k_is))
  any_goals k_is

