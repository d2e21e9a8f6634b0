import PyProof.Rows.All
import Wide.All
import OpenK.AllK
import Wide.FinOn
import Lean
import PyProof.EqAt
import PyProof.EqKinds
import PyProof.TupleCall
import PyProof.NeKinds
import PySem.Challenge.RW_cascade_k92_whole_no_turn_no_turning_par
set_option maxHeartbeats 2000000
set_option Elab.async false
set_option compiler.extract_closed false
set_option linter.all false
set_option maxRecDepth 100000
local macro_rules|`(())=>`(by lia)
def cA:=@List.getElem?_eq_getElem
def cK:=@List.getElem?_eq_some_iff
def cu:=@List.length_map
def cr:=@PySem.wpAny_bind
def cY:=@List.mem_singleton
def c8:=@List.mem_of_getElem?
def cV:=@List.getElem?_map
def dC:=@PySem.Heap.get?_push_of_some
def cF:=@PySem.wpAny_pure
def eE:=@List.getD_eq_getElem?_getD
def cT:=@List.mem_map
def dh:=@List.mem_append
def cQ:=@Nat.le_refl
def d9:=@Array.length_toList
def dX:=@List.mem_cons_self
def fu:=@List.getElem?_append_left
def eW:=@Option.map_eq_some_iff
def eh:=@List.length_append
def fV:=@List.getElem?_append_right
def eO:=@List.mem_cons_of_mem
def dm:=@PySem.Heap.lt_size
def dL:=@List.mem_cons
def dy:=@Nat.le_trans
def d8:=@List.mem_filter
def dW:=@decide_eq_true
def fq:=@PySem.Heap.get?_push_size
def dA:=@PySem.sizeLine_eq
def e9:=@List.size_toArray
def cW:=@PyProof.Rows.wpS_bind
def gf:=@List.mem_append_right
def gy:=@List.mem_iff_getElem?
def fJ:=@Nat.lt_of_lt_of_le
def eV:=@List.map_append
def c7:=@PyProof.Rows.wpS_pure
def eB:=@Nat.ne_of_lt
def hJ:=@List.getElem?_eq_none
def hV:=@List.contains_iff_mem
def f':=@List.append_assoc
def gC:=@Bool.false_ne_true
def iz:=@List.length_filter_le
def gK:=@of_decide_eq_true
def fZ:=@decide_eq_false
def dw:=@congrArg
def je:=@PySem.Heap.get?_update_other
def iJ:=@List.pairwise_append
def f8:=@List.mem_range
def ig:=@List.getElem?_inj
def hG:=@List.length_take
def gS:=@List.append_nil
def ik:=@List.take_length
def mB:=@Array.getElem?_eq_getElem
def iy:=@Int.toNat_natCast
def gY:=@Option.some.inj
def i9:=@List.map_congr_left
def lF:=@Array.getElem?_toList
def iD:=@List.getElem_mem
def mG:=@PySem.F.plainAttrs_list
def lK:=@List.getElem?_range
def lU:=@List.getElem?_of_mem
def qi:=@Nat.exists_eq_add_one_of_ne_zero
def nV:=@Array.getElem?_eq_some_iff
def n7:=@Array.perm_iff_toList_perm
def h9:=@List.map_cons
def ou:=@Classical.byContradiction
def fL:=@PySem.wpAny_mono
def i4:=@PySem.PassesOwn.never
def j3:=@PySem.wpAny_loadPart_at
def oz:=@PySem.F.slot_list_append
def n':=@PySem.F.type_list_append
def jt:=@Bool.and_eq_true
def jx:=@PySem.wpAny_call_entry
def hK:=@List.map_map
def pc:=@List.pairwise_iff_getElem
def lM:=@PySem.wpAny_newObj_type
def lP:=@List.take_add_one
def l6:=@List.ext_getElem?
def jz:=@List.length_cons
def jw:=@List.nodup_cons
def pS:=@Array.getD_eq_getD_getElem?
def mW:=@Array.toList_append
def iS:=@PySem.wpAny_holding
def g7:=@Nat.zero_le
def md:=@List.length_range
def kh:=@Bool.eq_iff_iff
def pP:=@List.length_eq_zero_iff
def n9:=@List.take_append_drop
def oS:=@List.pairwise_singleton
def nI:=@List.length_reverse
def tD:=@PySem.F.slot_dict_keyiterator_next
def fG:=@PySem.boot_len
def eJ:=@Ne.symm
def pD:=@PySem.Heap.get?_update_self
def pd:=@List.length_singleton
def vb:=@List.Nodup.length_le_of_subset
def oh:=@beq_eq_false_iff_ne
def pY:=@PySem.wpAny_callSpecial?_slot
def mN:=@Nat.lt_succ_self
def mO:=@List.lookup_cons
def mL:=@List.mem_reverse
def nB:=@List.foldl_append
def py:=@List.mem_append_left
def i':=@PyProof.Rows.wpS_forRange
def n6:=@PySem.wpAny_Call_Name_kw
def oo:=@PySem.wpAny_setField_rec
def jp:=@Nat.le_of_lt
def oZ:=@PySem.mem_of_lookup
def mQ:=@Nat.not_lt_zero
def oH:=@Nat.add_sub_cancel'
def nq:=@PySem.W.kia_one
def mv:=@Nat.lt_irrefl
def we:=@PySem.F.slot_dict_itemiterator_next
def tz:=@Classical.choose_spec
def pW:=@List.filter_append
def mH:=@Nat.ne_of_gt
def mJ:=@PySem.codeAny_mono
def oO:=@Nat.le_add_right
def xJ:=@Nat.sub_lt_left_of_lt_add
def yt:=@PySem.wpAny_typeNameOfWhole_itemiter
def vj:=@List.Pairwise.sublist
def pK:=@Array.size_push
def mq:=@PySem.wpAny_field
def zO:=@PySem.wpAny_typeNameOfWhole_keyiter
def qu:=@List.getElem_map
def ut:=@PySem.lookup_relabel_local
def uq:=@PySem.Around.under_plainId
def vo:=@List.mem_of_mem_take
def Ag:=@PySem.F.slot_dict_keyiterator_iter
def nh:=@PySem.W.mg_none_of
def tq:=@PySem.wpAny_truthy_bool
def td:=@PySem.wpAny_dictEntries
def t7:=@PySem.wpAny_setState_of
def vm:=@PySem.W.hideAll_get
def u7:=@PySem.wpAny_isSubtype_exc
def v9:=@List.length_pos_of_mem
def wY:=@List.filter_eq_nil_iff
def tF:=@List.cons_append
def rh:=@List.all_eq_true
def pq:=@PySem.Paired.length
def vN:=@PySem.W.callWith_K
def wr:=@List.Perm.append_left
def ot:=@Int.zero_add
def yr:=@PySem.Calls.call_function_entry
def Ai:=@List.drop_eq_getElem_cons
def Ab:=@List.extract_eq_take_drop
def sh:=@PySem.wpAny_execs_nil
def sr:=@PySem.wpAny_passesOwn
def vi:=@List.take_sublist
def si:=@List.length_set
def t8:=@PySem.codeAny_builtin
def vw:=@Array.toList_push
def uy:=@PySem.wpAny_pyIter_slot
def uh:=@PySem.PassesOwn.leaving
def uw:=@List.filter_congr
def oN:=@Nat.sub_self
def xM:=@List.filterMap_cons
def wK:=@Nat.add_le_add_left
def qv:=@PySem.wpAny_attempt
def xr:=@PySem.F.plain_extend_loop
def jr:=@PyProof.Rows.wpS_mono
def A1:=@Nat.add_sub_cancel_left
def vL:=@beq_self_eq_true
def Bb:=@List.take_of_length_le
def Bp:=@List.Perm.append_right
def v3:=@Nat.lt_of_le_of_lt
def w9:=@List.contains_cons
def wI:=@PySem.F.store_ValueError
def xC:=@Nat.lt_of_le_of_ne
def CA:=@List.countP_eq_length_filter
def Dh:=@PyProof.Rows.callWith_type1
def pO:=@Nat.le_succ
def qg:=@PySem.F.called_set
def vc:=@PySem.wpAny_dictEpoch
def u3:=@Nat.min_eq_left
def y4:=@List.perm_append_comm
def AF:=@List.getElem?_reverse
def oF:=@PySem.wpAny_call
def oE:=@PyProof.Rows.wpS_modify
def Ah:=@PySem.W.hideAll_none
def zd:=@PySem.Heap.get?_none_of_le
def zi:=@PySem.codeAny_call_builtin
def A4:=@Array.toList_extract
def AQ:=@List.reverse_reverse
def Am:=@Array.toList_reverse
def vK:=@PySem.Heap.size_push
def uj:=@PySem.wpAny_fieldsOf
def D2:=@List.getElem?_eq_none_iff
def ww:=@List.length_drop
def xF:=@PySem.wpAny_askSetting
def A9:=@PySem.wpAny_raiseNew_none
def zy:=@List.toList_toArray
def zz:=@Nat.add_lt_add_left
def pk:=@beq_iff_eq
def rz:=@Nat.le_of_eq
def BJ:=@List.getElem?_take_of_lt
def pE:=@PySem.wpAny_rule
def oI:=@PyProof.Rows.boot_tuple
def vS:=@PySem.wpAny_standAt
def Av:=@PyProof.Rows.slot_tuple_getitem
def uz:=@List.any_cons
def yV:=@PySem.tupleKind_room_in1
def vd:=@PySem.plainId_quiet
def DD:=@PyProof.Rows.F.plain_set_update_loop
def vk:=@PySem.wpAny_newList
def yR:=@List.pairwise_cons
def zx:=@List.getElem?_drop
def vW:=@PyProof.Rows.get?_update_seq
def ui:=@PyProof.Rows.listUpdate_at
def zq:=@decide_eq_true_iff
def CO:=@PySem.F.slot_list_index
def DE:=@PySem.F.type_list_index
def kS:=@PySem.W.mg_of
def D3:=@PySem.wpAny_isOneOf_itemiter
def DH:=@Array.getElem?_eq_none
def yu:=@PySem.wpAny_pyIter_list
def ES:=@PySem.plainObj_wpAny_Assign_Attribute
def tj:=@List.map_id
def yC:=@List.pairwise_map
def zf:=@List.nodup_append
def Hb:=@PySem.F.args_dict_itemiterator_next_1
def zV:=@Nat.le_of_lt_succ
def AK:=@Array.size_append
def Ek:=@List.length_replicate
def IE:=@PyProof.Rows.callWith_builtin1
def Gj:=@PySem.F.entry_dict_itemiterator_next
def Fs:=@PySem.F.args_dict_keyiterator_next_1
def Fo:=@PySem.F.args_dict_keyiterator_iter_1
def Dq:=@Array.mem_of_getElem?
def uv:=@Nat.zero_add
def zn:=@PySem.wpAny_execs_cons
def zb:=@Nat.le_of_not_lt
def Bm:=@List.ext_getElem
def zN:=@List.any_eq_true
def Hv:=@PySem.F.entry_dict_keyiterator_next
def GA:=@PySem.F.entry_dict_keyiterator_iter
def z9:=@Array.toList_map
def Bk:=@List.countP_cons
def Bu:=@List.getElem?_set_ne
def Ce:=@Array.mem_toList_iff
def Bt:=@Nat.le_sub_of_add_le
def DN:=@List.mem_of_mem_drop
def Eo:=@List.mem_erase_of_ne
def Hh:=@List.dropLast_concat_getLast
def BC:=@PySem.W.plainGet_of
def yA:=@List.of_mem_zip
def Bi:=@Option.map_some
def A5:=@List.range_succ
def Ax:=@PySem.size_of_entries
def Dn:=@PySem.Heap.get?_update_ne
def AW:=@PyProof.Rows.entry_list_sort
def A':=@PySem.wpAny_updateSeq
def mS:=@PyProof.Rows.wpS_get
def EG:=@List.map_eq_nil_iff
def EC:=@List.filter_sublist
def IM:=@PySem.Calls.Name_function_global
def GP:=@Array.toList_setIfInBounds
def CD:=@PySem.W.of_hideAll
def EK:=@List.mem_filterMap
def x4:=@Nat.add_zero
def BM:=@PySem.Code.quiet_builtin
def xH:=@List.any_map
def BY:=@Array.Perm.mem_iff
def xI:=@Int.lt_trans
def Df:=@List.getElem?_take
def AS:=@PyProof.Rows.slot_list_sort
def yD:=@List.take_succ
def CK:=@Option.isSome_map
def Ci:=@Nat.lt_succ_of_lt
def AM:=@Int.ofNat.inj
def zT:=@Bool.true_and
def Bq:=@PySem.W.codeHd_of_K
def zM:=@List.map_nil
def Dd:=@List.length_nil
def zR:=@Nat.lt_trans
def Ct:=@PySem.wpAny_loadPart'
def yW:=@PySem.wpAny_typeOf
def z5:=@List.all_map
def Cv:=@PySem.codeAny_of_tree
def Eg:=@List.nil_append
def Eh:=@PySem.wpAny_ite_split
def z6:=@PyProof.Rows.plain_sorted
def Bg:=@PyProof.Rows.entry_sorted
def vq:=@ite_congr
def Cs:=@Array.Perm.refl
def v6:=@PySem.intKind_is
def sE:=@PyProof.Rows.wpS_lift
def yG:=@PySem.wpAny_of_eq
def zU:=@PyProof.Rows.kind_sorted
def zG:=@PyProof.Rows.seqEpoch_at
def A2:=@PyProof.Rows.boot_sorted
section
open PySem
abbrev im:=List (List (List Nat))
abbrev LN:=List (List Nat)
abbrev cn:=List Nat
abbrev VP:=Value -> Shared -> Prop
abbrev AO:=List (Addr × Obj)
abbrev SV:=Str -> Option Value
abbrev As:=List Addr
abbrev Vs:=List Value
abbrev AV:=Array Value
abbrev Zs:=List Int
abbrev Ss:=List Str
abbrev Sh:=Shared
abbrev Vl:=Value
abbrev Pg:=Program
abbrev Fd:=FuncData
abbrev Ar:=Around
end
def wA:=@if_neg
def wB:=@if_pos
abbrev wC:=@absurd
abbrev wE:=@False.elim
open PySem in
abbrev Ad:=Addr
abbrev zZ:=@rfl
abbrev P3:=PySem.W.Frag
theorem Z'{α:Sort _}{a:α}{q:Prop}:a=a∨q:=.inl rfl
theorem Z0{α:Sort _}{a:α}{q:Prop}:q∨a=a:=.inr rfl
local macro_rules|`(#[$x,*])=>`(⟨$x,*⟩)
local macro_rules|`(#v[$x,*])=>`(List.toArray [$x,*])
namespace L2
open PySem PySem.Spec PyProof.Rows
abbrev dq:=Sum Int Str
def vu:dq->Vl->Bool
 |.inl k,v=>Value.isInt k v
 |.inr x,v=>Value.isStrOf x v
def C3(w:World):dq->Int
 |.inl k=>hashInt k
 |.inr x=>hashStr w x
theorem pB:∀{k:dq} {v:Vl},vu k v=true->(∃i t,k=Sum.inl i/\v=Value.int i t)\/(∃x t,k=Sum.inr x/\v=Value.str x t)
 |.inl i,v,h=>by
  obtain⟨t,e⟩:=Value.isInt_shape (k:=i) (v:=v) h;exact .inl #[i,t,zZ,e]
 |.inr x,v,h=>by
  obtain⟨t,e⟩:=Value.isStrOf_shape (x:=x) (v:=v) h;exact .inr #[x,t,zZ,e]
def Nq(i:Int)(t:Tok):vu (.inl i) (.int i t)=true:=by simp[vu,Value.isInt]
def OF(x:Str)(t:Tok):vu (.inr x) (.str x t)=true:=by simp[vu,Value.isStrOf]
def PB(a b:Int):decide ((Sum.inl a:dq)=Sum.inl b)=(a==b):=by
 by_cases e:a=b
 .subst e;simp
 .have h: ¬(Sum.inl a:dq)=Sum.inl b:=λq=>e (Sum.inl.inj q);rw[fZ h];exact(oh.mpr e).symm
def MQ(a b:Str):decide ((Sum.inr a:dq)=Sum.inr b)=decide (a=b):=by
 by_cases e:a=b
 .subst e;simp
 .have h: ¬(Sum.inr a:dq)=Sum.inr b:=λq=>e (Sum.inr.inj q);rw[fZ h,fZ e]
def Lk(a:Int)(b:Str):decide ((Sum.inl a:dq)=Sum.inr b)=false:=fZ (λq=>nomatch q)
def Lz(a:Str)(b:Int):decide ((Sum.inr a:dq)=Sum.inl b)=false:=fZ (λq=>nomatch q)
def lO(c:Pg)(w:World):PySem.KeyKind c w dq where
 is:=vu
 hash:=C3 w
 inj:=λv a b l g=>by
  rcases pB l with⟨i,t,rfl,rfl⟩|⟨x,t,rfl,rfl⟩
  .rcases pB g with⟨j,u,rfl,e⟩|⟨y,u,rfl,e⟩
   .injection e with d _;rw[d]
   .exact nomatch e
  .rcases pB g with⟨j,u,rfl,e⟩|⟨y,u,rfl,e⟩
   .exact nomatch e
   .injection e with d _;rw[d]
 byValue:=λk v h=>by
  rcases pB h with⟨i,t,rfl,rfl⟩|⟨x,t,rfl,rfl⟩<;>rfl
 pyHash:=λf h=>by
  rcases pB f with⟨i,t,rfl,rfl⟩|⟨x,t,rfl,rfl⟩
  .exact wpAny_pyHash_int h
  .exact wpAny_pyHash_str h
 eqBool:=λm f h=>by
  rcases pB m with⟨i,t,rfl,rfl⟩|⟨x,t,rfl,rfl⟩
  .rcases pB f with⟨j,u,rfl,rfl⟩|⟨y,u,rfl,rfl⟩
   .rw[PB]at h;exact wpAny_eqBool_int h
   .rw[Lk]at h;exact SeqAt.EqAt.int_str i t y u _ _ _ _ h
  .rcases pB f with⟨j,u,rfl,rfl⟩|⟨y,u,rfl,rfl⟩
   .rw[Lz]at h;exact SeqAt.EqAt.str_int x t j u _ _ _ _ h
   .rw[MQ]at h;exact wpAny_eqBool_str h
 «strs»:=λk x t v h=>by
  rcases pB h with⟨i,u,rfl,e⟩|⟨y,u,rfl,e⟩
  .exact nomatch e
  .injection e with d _
   subst d;cases v<;>rfl
def J3(a:Pg)(w:World)(i:Int)(t:Tok):(lO a w).is (.inl i) (.int i t)=true:=Nq i t
def K7(a:Pg)(w:World)(x:Str)(t:Tok):(lO a w).is (.inr x) (.str x t)=true:=OF x t
inductive V where
 |non|bl (b:Bool)|int (i:Int)|str (x:Str)|byt (b:Array UInt8)|flt (b:UInt64)|ref (a:Ad)|ty (n:String)
 deriving DecidableEq
def RelV:V->Vl->Prop
 |.non,u=>u=Value.none
 |.bl b,u=>u=Value.bool b
 |.int i,u=>∃t,u=Value.int i t
 |.str x,u=>∃t,u=Value.str x t
 |.byt b,u=>∃t,u=Value.bytes b t
 |.flt b,u=>∃t,u=Value.float b t
 |.ref a,u=>u=Value.ref a
 |.ty n,u=>u=Value.type n
abbrev Vals:List V->List Vl->Prop:=Paired RelV
def Vals.length{xs:List V}{a:Vs}(r:Vals xs a):xs.length=a.length:=pq r
theorem Vals.get:∀{a:List V} {b:Vs} {i:Nat} {x:V},Vals a b->a[i]?=some x->∃u,b[i]?=some u/\RelV x u
 |_,_,_,_,.nil,e=>by simp at e
 |_,_,0,_,.cons r _,e=>by simp at e;subst e;exact#[_,zZ,r]
 |_,_,i+1,x,.cons _ t,e=>by
  obtain⟨u,c,d⟩:=Vals.get (i:=i) (x:=x) t (by simpa using e);exact#[u,by simpa using c,d]
theorem Vals.set{x:V}{u:Vl}(r:RelV x u):∀{a:List V} {b:Vs} (i:Nat),Vals a b->Vals (a.set i x) (b.set i u)
 |_,_,_,.nil=> .nil
 |_,_,0,.cons _ t=> .cons r t
 |_,_,i+1,.cons q t=> .cons q (Vals.set r i t)
theorem Vals.append:∀{a b:List V} {c d:Vs},Vals a c->Vals b d->Vals (a++b) (c++d)
 |_,_,_,_,.nil,s=>s
 |_,_,_,_,.cons r t,s=> .cons r (Vals.append t s)
def RelO:Option V->Option Vl->Prop
 |some v,some u=>RelV v u
 |none,none=>True
 |_,_=>False
def KV{a:Type}:List (a×V)->List (a×Vl)->Prop:=Paired λ(p:a×V) (q:a×Vl)=>p.1=q.1/\RelV p.2 q.2
def kV:dq->V
 |.inl i=> .int i
 |.inr x=> .str x
inductive HO where
 |lst (xs:List V)
 |tup (xs:List V)
 |dK (kvs:List (dq×V))|dT (kvs:List (List dq×V))
 |set (S:Int->Bool) (n:Nat)
 |ins (C dx:Ad) (fs:List (Str×V))
 |own (x:Ad)
 |xd (fs:List (Str×V))
 |met (f x:Ad)
 |rng (lo hi:Int)
 |frz (o:Obj) (u:HO)
 |tbl (ps:AV)
 |ext (φ:Heap->Prop)
abbrev Hp:=Ad->Option HO
def cq(H:Hp)(a:Ad)(o:HO):Hp:=λb=>if b=a then some o else H b
def cw{H:Hp}{a:Ad}{o:HO}:cq H a o a=some o:=by unfold cq;rw[wB zZ]
def cz{H:Hp}{a b:Ad}{o:HO}(h:b≠a):cq H a o b=H b:=by unfold cq;rw[wA h]
def Ee{H:Hp}{a:Ad}{o u:HO}:cq (cq H a o) a u=cq H a u:=by
 funext b;unfold cq;split<;>rfl
def i5{H:Hp}{a b:Ad}{o u:HO}(h:H a=some o)(c:H b=some u)(d:o≠u):a≠b:=by
 intro e;subst e;rw[h]at c;exact d (gY c)
def Gn:HO->Nat
 |.lst _=>0
 |.tup _=>1
 |.dK _=>2
 |.dT _=>3
 |.tbl _=>4
 |.ext _=>5
 |.rng _ _=>6
 |.frz _ _=>7
 |_=>8
def nE{H:Hp}{a b:Ad}{o u:HO}(h:H a=some o)(k:H b=some u)(d:(Gn o==Gn u)=false:=by rfl):a≠b:=i5 h k λe=>by rw[e,vL]at d;cases d
def dH{H:Hp}{a b:Ad}{o:HO}(h:H a=some o)(c:H b=none):a≠b:=by
 intro e;subst e;rw[h]at c;cases c
def TupD(h:Heap)(a:Ad)(b:AV):Prop:=∃o,h.get? a=some o/\o.cls=.type "tuple"/\∃n,o.data=.seq b n/\o.dict=none
def TupD.is{h:Heap}{a:Ad}{b:AV}(p:TupD h a b):IsTup h a b:=let⟨o,e,c,n,d,_⟩:=p;#[o,e,c,n,d]
def TupD.new(h:Heap)(a:AV):TupD (h.push {cls:= .type "tuple",data:= .seq a}) h.objs.size a:=#[_,fq _ zZ,zZ,_,zZ,zZ]
section
variable(P:Pg)(w:World)
def ObjOk(H:Hp)(h:Heap)(a:Ad):HO->Prop
 |.lst d=>d.length<=sizeLine/\∃(b:Vs) (n:Nat),Vals d b/\h.get? a=some {cls:= .type "list",data:= .seq b.toArray n}
 |.tup d=>d.length<=sizeLine/\∃b:Vs,Vals d b/\TupD h a b.toArray
 |.dK c=>c.length<=sizeLine/\(a==sysModules)=false/\∃j,KV c j/\h.DictOf (lO P w) a j
 |.dT c=>c.length<=sizeLine/\(a==sysModules)=false/\∃d:List (List dq×Ad×Vl),
   Paired (λ(p:List dq×V) (q:List dq×Ad×Vl)=>p.1=q.1/\H q.2.1=some (.tup (p.1.map kV))/\RelV p.2 q.2.2) c d/\
   ∃o k r,h.get? a=some o/\o.ExactDict/\o.data=.dict k r/\k.toList=d.map (entryOfKey (tupleKind (lO P w)))/\(d.map (·.1)).Nodup
 |.set S n=>h.SetOf (intKind P w) a S n
 |.ins C g fs=>H g=some (.own a)/\fs.length<=1000/\g≠a/\h.get? a=some (PySem.W.instObj C g)/\
   ∃e,h.Ns1 g e/\(∀f,RelO (fs.lookup f) (e f))/\PySem.Within e (fs.map (·.1))
 |.own _=>∃o,h.get? a=some o
 |.xd fs=>∃e,h.Ns1 a e/\∀f,RelO (fs.lookup f) (e f)
 |.rng lo s=>∃t u v,h.get? a=some {cls:= .type "range",data:= .fields #v[.int lo t,.int s u,.int 1 v]}
 |.frz o u=>h.get? a=some o/\ObjOk H h a u
 |.tbl y=>h.get? a=some {cls:= .none,data:= .fields y}
 |.met f x=>h.get? a=some (PySem.W.methodObj (.ref f) (.ref x))
 |.ext i=>i h/\(∃o,h.get? a=some o)/\∀l m:Heap,i l->(∀o,l.get? a=some o->m.get? a=some o)->i m
def HOk(H:Hp)(h:Heap):Prop:=∀a o,H a=some o->ObjOk P w H h a o
end
section
variable{P:Pg}{w:World}{H H':Hp}{h h':Heap}{a:Ad}{o:HO}
def ObjOk.lt(x:ObjOk P w H h a o):a<h.objs.size:=by
 cases o with
 |lst xs=>obtain⟨_,_,_,_,e⟩:=x;exact dm e
 |tup xs=>obtain⟨_,_,_,p⟩:=x;exact p.is.lt
 |dK b=>obtain⟨_,_,_,_,o,_,_,e,_⟩:=x;exact dm e
 |dT b=>obtain⟨_,_,_,_,o,_,_,e,_⟩:=x;exact dm e
 |set S n=>obtain⟨o,_,_,_,e,_⟩:=x;exact dm e
 |ins C c fs=>obtain⟨_,_,_,e,_⟩:=x;exact dm e
 |own y=>obtain⟨_,e⟩:=x;exact dm e
 |xd fs=>obtain⟨_,⟨_,_,_,e,_⟩,_⟩:=x;exact dm e
 |rng lo d=>obtain⟨_,_,_,e⟩:=x;exact dm e
 |frz g u=>obtain⟨e,_⟩:=x;exact dm e
 |tbl i=>exact dm (show h.get? a=some _ from x)
 |met f y=>exact dm (show h.get? a=some _ from x)
 |ext j=>obtain⟨_,⟨_,e⟩,_⟩:=x;exact dm e
theorem Paired.mapP{e g:Type}{F G:e->g->Prop}:∀{c:List e} {d:List g},Paired F c d->(∀a b,F a b->G a b)->Paired G c d
 |_,_,.nil,_=> .nil
 |_,_,.cons r t,f=> .cons (f _ _ r) (Paired.mapP t f)
def ObjOk.stay(x:ObjOk P w H h a o)(k:∀b u,(b=a\/H b=some (.own a))->h.get? b=some u->h'.get? b=some u)(E:∀b,H b=some (.own a)->H' b=some (.own a)) (ht:∀b m,H b=some (.tup m)->H' b=some (.tup m)):ObjOk P w H' h' a o:=by
 induction o with
 |lst m=>obtain⟨z,l,n,r,e⟩:=x;exact#[z,l,n,r,k _ _ (.inl zZ) e]
 |tup m=>obtain⟨z,l,r,g,e,c⟩:=x;exact#[z,l,r,g,k _ _ (.inl zZ) e,c]
 |dK s=>obtain⟨z,y,G,r,g,i,j,e,c⟩:=x;exact#[z,y,G,r,g,i,j,k _ _ (.inl zZ) e,c]
 |dT s=>
  obtain⟨z,y,m,r,g,i,j,e,c⟩:=x;exact#[z,y,m,Paired.mapP r λp q z=>#[z.1,ht _ _ z.2.1,z.2.2],g,i,j,k _ _ (.inl zZ) e,c]
 |set S n=>obtain⟨g,i,j,t,e,c⟩:=x;exact#[g,i,j,t,k _ _ (.inl zZ) e,c]
 |ins C L fs=>
  obtain⟨d,z,ne,e,A,⟨B,i,j,I,c⟩,r⟩:=x;exact#[E _ d,z,ne,k _ _ (.inl zZ) e,A,#[B,i,j,k _ _ (.inr d) I,c],r]
 |own y=>obtain⟨g,e⟩:=x;exact#[g,k _ _ (.inl zZ) e]
 |xd fs=>obtain⟨A,⟨B,i,j,e,c⟩,r⟩:=x;exact#[A,#[B,i,j,k _ _ (.inl zZ) e,c],r]
 |rng lo M=>obtain⟨t,u,v,e⟩:=x;exact#[t,u,v,k _ _ (.inl zZ) e]
 |frz g u J=>obtain⟨e,q⟩:=x;exact#[k _ _ (.inl zZ) e,J q]
 |tbl D=>
  have e:h.get? a=some {cls:= .none,data:= .fields D}:=x;show h'.get? a=some {cls:= .none,data:= .fields D};exact k a _ (.inl zZ) e
 |met f y=>
  have e:h.get? a=some (PySem.W.methodObj (.ref f) (.ref y)):=x;show h'.get? a=some (PySem.W.methodObj (.ref f) (.ref y));exact k a _ (.inl zZ) e
 |ext N=>obtain⟨p,⟨o,e⟩,st⟩:=x;exact#[st _ _ p λo q=>k _ _ (.inl zZ) q,#[o,k _ _ (.inl zZ) e],st]
def HOk.lt(x:HOk P w H h)(e:H a=some o):a<h.objs.size:=(x a o e).lt
def HOk.fresh(x:HOk P w H h)(e:h.objs.size<=a):H a=none:=by
 cases q:H a with
 |none=>rfl
 |some u=>exact wC (fJ (x.lt q) e) (mv _)
def HOk.kept(x:HOk P w H h)(k:∀b u,h.get? b=some u->h'.get? b=some u):HOk P w H h':=λa o e=>
 (x a o e).stay (λb u _ q=>k b u q) (λ_ q=>q) λ_ _ q=>q
def HOk.laid(x:HOk P w H h)(k:∀b u,h.get? b=some u->h'.get? b=some u)(g:h.objs.size<=a)(new:ObjOk P w (cq H a o) h' a o):HOk P w (cq H a o) h':=λb u e=>by
 have d:=x.fresh g;by_cases f:b=a
 .subst f;rw[cw]at e;cases e;exact new
 .rw[cz f]at e;exact(x b u e).stay (λc v _ q=>k c v q) (λc q=>by rw[cz (dH q d)];exact q) λc i q=>by rw[cz (dH q d)];exact q
end
def Rd(H:Hp)(a:Ad)(u:HO):Prop:=H a=some u\/∃o,H a=some (.frz o u)
def Rd.ok{P:Pg}{w:World}{H:Hp}{h:Heap}{a:Ad}{u:HO}(r:Rd H a u)(x:HOk P w H h):ObjOk P w H h a u:=by
 rcases r with r|⟨o,r⟩
 .exact x a u r
 .obtain⟨_,q⟩:=x a _ r;exact q
def xX:Option HO->Prop
 |some (.lst _)=>True
 |some (.dK _)=>True
 |some (.dT _)=>True
 |some (.set _ _)=>True
 |some (.ins _ _ _)=>True
 |some (.ext _)=>True
 |_=>False
section
variable{P:Pg}{w:World}{H:Hp}{h h':Heap}{x e:Ad}{a:HO}
def HOk.write(ok:HOk P w H h)(i:xX (H x))(n:e=x\/H e=some (.own x))(k:∀b u,b≠e->h.get? b=some u->h'.get? b=some u)(m:∃u,h'.get? e=some u)(new:ObjOk P w (cq H x a) h' x a):HOk P w (cq H x a) h':=λb u q=>by
 have f:∀c y,H c=some (.own y)->c≠x:=λc y r z=>by subst z;rw[r]at i;exact i
 have g:∀c j,H c=some (.tup j)->c≠x:=λc j r z=>by subst z;rw[r]at i;exact i
 by_cases l:b=x
 .subst l;rw[cw]at q;cases q;exact new
 .rw[cz l]at q;by_cases d:b=e
  .have o:H b=some (.own x):=by
    rcases n with z|z
    .exact wC (d.trans z) l
    .rw[d];exact z
   rw[q]at o;cases o;obtain⟨v,p⟩:=m;exact#[v,by rw[d];exact p]
  .refine(ok b u q).stay (λc v hc r=>k c v ?_ r) (λc r=>by rw[cz (f c b r)];exact r) λc j r=>by rw[cz (g c j r)];exact r
   rcases hc with rfl|hc
   .exact d
   .rintro rfl
    rcases n with z|z
    .exact f c b hc z
    .rw[hc]at z;cases z;exact l rfl
end
structure Un(fs ex:As)(H H':Hp)(h h':Heap):Prop where
 keep:∀b o,h.get? b=some o->H b=none->b∉fs->b∉ex->h'.get? b=some o
 slot:∀b o,h.get? b=some o->H b=none->b∈fs->b∉ex->∃sl,h'.get? b=some {o with slots:=sl}
 free:∀b o,h.get? b=some o->H b=none->b∉ex->H' b=none
 there:∀b o,h.get? b=some o->b∉ex->∃o',h'.get? b=some o'
 tups:∀b xs,H b=some (.tup xs)->H' b=some (.tup xs)
 frzs:∀b o u,H b=some (.frz o u)->H' b=some (.frz o u)
 tbls:∀b ps,H b=some (.tbl ps)->∃more,H' b=some (.tbl (ps++more))
section
variable{fs i c g:As}{H f l:Hp}{h d j h':Heap}{a x e:Ad}{o:HO}
def Un.any(u:Un fs c H f h d){b:Ad}{ob:Obj}(q:h.get? b=some ob)(n:H b=none)(a:b∉c):∃sl,d.get? b=some {ob with slots:=sl}:=by
 by_cases e:b∈fs
 .exact u.slot b ob q n e a
 .exact#[ob.slots,u.keep b ob q n e a]
def Un.kept(k:∀b u,h.get? b=some u->h'.get? b=some u):Un fs c H H h h':=
 #[λb a q _ _ _=>k b a q,λb a q _ _ _=>#[a.slots,k b a q],λ_ _ _ n _=>n,λb a q _=>#[a,k b a q],λ_ _ q=>q,λ_ _ _ q=>q,λ_ d q=>#[#v[],by rw[q];simp]]
def Un.refl:Un fs c H H h h:=Un.kept λ_ _ q=>q
def Un.laid(k:∀b u,h.get? b=some u->h'.get? b=some u)(e:h.objs.size<=a)(d:H a=none):Un fs c H (cq H a o) h h' where
 keep:=λb u q _ _ _=>k b u q
 slot:=λb u q _ _ _=>#[u.slots,k b u q]
 free:=λb u q n _=>by rw[cz (eB (fJ (dm q) e))];exact n
 there:=λb u q _=>#[u,k b u q]
 tups:=λb f q=>by rw[cz (dH q d)];exact q
 frzs:=λb u f q=>by rw[cz (dH q d)];exact q
 tbls:=λb g q=>#[#v[],by rw[cz (dH q d),q];simp]
def Un.write(d:xX (H x))(l:e=x\/H e=some (.own x))(k:∀b u,b≠e->h.get? b=some u->h'.get? b=some u)(f:∃u,h'.get? e=some u):Un fs c H (cq H x o) h h':=by
 have i:∀b,H b=none->b≠x:=λb n z=>by subst z;rw[n]at d;exact d
 have j:∀b,H b=none->b≠e:=λb n z=>by
  subst z
  rcases l with r|r
  .exact i b n r
  .rw[n]at r;cases r
 have g:∀b u,H b=some u-> ¬xX (some u)->b≠x:=λb u q m z=>by subst z;rw[q]at d;exact m d
 refine#[λb u q n _ _=>k b u (j b n) q,λb u q n _ _=>#[u.slots,k b u (j b n) q],λb u q n _=>by rw[cz (i b n)];exact n,λb u q _=>?_,
  λb p q=>by rw[cz (g b _ q λz=>z)];exact q,λb u p q=>by rw[cz (g b _ q λz=>z)];exact q,λb s q=>#[#v[],by rw[cz (g b _ q λz=>z),q];simp]]
 by_cases a:b=e
 .subst a;exact f
 .exact#[u,k b u a q]
end
def Be(h:Heap)(H:Hp):As:=(List.range h.objs.size).filter λa=>(H a).isSome
def pz(h:Heap)(H:Hp):Heap:=PySem.W.hideAll h (Be h H)
def Nk(h:Heap)(H:Hp):(pz h H).objs.size=h.objs.size:=PySem.W.hideAll_size _ _
def Dl{h:Heap}{H:Hp}{b:Ad}{o:Obj}(e:h.get? b=some o)(n:H b=none):(pz h H).get? b=some o:=
 vm _ e λa=>by
  have q:(H b).isSome=true:=(d8.mp a).2;rw[n]at q;simp at q
def OR{h:Heap}{H:Hp}{b:Ad}{o:Obj}(e:(pz h H).get? b=some o):h.get? b=some o/\H b=none:=by
 have a:h.get? b=some o:=CD (Be h H) e;refine#[a,?_];cases q:H b with
 |none=>rfl
 |some x=>
  have c:b∈Be h H:=d8.mpr #[f8.mpr (dm a),by simp[q]];have z:(pz h H).get? b=none:=Ah (Be h H) c;rw[z]at e;cases e
def J2(g h:Heap)(L:Ad):AO:=(List.range h.objs.size).filterMap λa=>if a=L\/(g.get? a).isSome=true then none else(h.get? a).map λo=>(a,o)
def rest(g h:Heap)(L d:Ad):AO:=(J2 g h L).filter λp=>decide (p.1≠d)
structure Mod(K:P3)(mg:SV)(base:Heap):Prop where
 kin:K.In base
 glob:base.Ns mainGlobals mg
 blt:∃mb,base.Ns builtinsNs mb/\∀x:Str,x≠"__name__"->mb x=bootBuiltins x
 nolimit:base.NoLimit
structure Cx where
 prog:Pg
 w:World
 K:P3
 mg:SV
 base:Heap
 A:Ar
 N:Ss
 s₀:Sh
 H₀:Hp
 env:Env
 outer:List Env
 stack:List Env
 ex:As
 fn:Str->Bool
 calm:Bool
 pn:AO
 xe:VP
def dD(l:List Env):As:=l.filterMap (·.frame)
abbrev Cx.fs(X:Cx):As:=dD X.outer
def C7(a:Scope)(x:Str):Prop:=a.names.lookup x=some .local\/a.names.lookup x=some .cell\/a.names.lookup x=some .free
def zp(a:Scope)(x:Str):Prop:=a.names.lookup x=some .local\/a.names.lookup x=some .cell
def Dj(a:Env)(h:Heap)(m:SV)(x:Str)(u:Vl):Prop:=
 (a.kindOf x=some .local/\m x=some u)\/((a.kindOf x=some .cell\/a.kindOf x=some .free)/\∃c,a.cells.lookup x=some c/\h.IsCell c (some u))
structure Cx.Ok(X:Cx):Prop where
 mod:Mod X.K X.mg X.base
 kind:X.env.scope.kind=.function
 glob:X.env.globals=mainGlobals
 blt:X.env.builtins=builtinsNs
 above:X.s₀.heap.objs.size<=X.env.locals
 inj:∀x y c,X.env.cells.lookup x=some c->X.env.cells.lookup y=some c->x=y
 has:∀x,(X.env.kindOf x=some .cell\/X.env.kindOf x=some .free)->∃c,X.env.cells.lookup x=some c
 cab:∀x c,X.fn x=true->X.env.cells.lookup x=some c->X.s₀.heap.objs.size<=c
 hd:X.calm=true->X.A.handled=none
 frames:X.A.frames=some X.stack
 stk:X.stack=X.outer\/(X.stack=X.env::X.outer/\X.env.frame=some X.env.locals)
 exf:∀b∈X.ex,b≠X.env.locals/\∀x c,X.env.cells.lookup x=some c->c≠b
 bs:∀b o,X.base.get? b=some o->X.s₀.heap.get? b=some o/\X.H₀ b=none
 bsz:X.base.objs.size<=X.s₀.heap.objs.size
 noex:∀b o,X.base.get? b=some o->b∉X.ex
 exfs:∀b∈X.ex,b∉X.fs
 funs:X.s₀.heap.FunFrames X.base X.outer
 frf:∀b∈X.fs,X.H₀ b=none
structure Inv(X:Cx)(za:AO)(σ:List (Option V))(H:Hp)(s:Sh):Prop where
 ok:X.Ok
 os:s.os=X.s₀.os
 bare:AllBare s.gens
 base:Un X.fs X.ex X.H₀ H X.s₀.heap s.heap
 loc:∃m,s.heap.Ns X.env.locals m/\∀(i:Nat) (x:Str) (v:V),X.N[i]?=some x->σ[i]?=some (some v)->C7 X.env.scope x->∃u,RelV v u/\Dj X.env s.heap m x u
 cell:∀x c,X.env.cells.lookup x=some c->∃v,s.heap.IsCell c v
 free:H X.env.locals=none
 freeC:∀x c,X.env.cells.lookup x=some c->H c=none
 pin:∀p∈X.pn++za,s.heap.get? p.1=some p.2/\H p.1=none/\p.1≠X.env.locals/\p.1∉X.fs/\∀v,p.2.data≠ .cell v
 hok:HOk X.prog X.w H s.heap
 len:σ.length=X.N.length
section
variable{X:Cx}{f:AO}{g:List (Option V)}{H H':Hp}{s:Sh}{h':Heap}
def Cx.Ok.nofr(ok:X.Ok){b:Ad}{o:Obj}(e:X.base.get? b=some o):b∉X.fs:=λa=>by
 have:=(ok.funs.mem a).1;rw[e]at this;cases this
def Inv.bs(I:Inv X f g H s):∀b o,X.base.get? b=some o->s.heap.get? b=some o/\H b=none:=λb o e=>
 #[I.base.keep b o (I.ok.bs b o e).1 (I.ok.bs b o e).2 (I.ok.nofr e) (I.ok.noex b o e),I.base.free b o (I.ok.bs b o e).1 (I.ok.bs b o e).2 (I.ok.noex b o e)]
def Inv.bk(I:Inv X f g H s):∀b o,X.base.get? b=some o->s.heap.get? b=some o:=λb o e=>(I.bs b o e).1
def Inv.mod(I:Inv X f g H s):Mod X.K X.mg X.base:=I.ok.mod
def Inv.kIn(I:Inv X f g H s):X.K.In s.heap:=I.ok.mod.kin.keeps I.bk
def Inv.lt(I:Inv X f g H s):X.env.locals<s.heap.objs.size:=let⟨_,a,_⟩:=I.loc;a.lt
def Inv.sz(I:Inv X f g H s):X.s₀.heap.objs.size<=s.heap.objs.size:=dy I.ok.above (jp I.lt)
def Inv.nofs(I:Inv X f g H s){a:Ad}(h:s.heap.objs.size<=a):a∉X.fs:=λb=>by
 obtain⟨_,o,c,_⟩:=I.ok.funs.mem b;exact wC (fJ (dm c) (dy I.sz h)) (mv _)
def Inv.cne(I:Inv X f g H s):∀x c,X.env.cells.lookup x=some c->c≠X.env.locals:=λx c e z=>by
 obtain⟨v,o,d,h⟩:=I.cell x c e;obtain⟨m,⟨i,j,k,a,b,_⟩,_⟩:=I.loc;rw[z,a]at d;cases d;rw[b]at h;cases h
def Inv.funs(I:Inv X f g H s):s.heap.FunFrames X.base X.outer:=by
 have all:∀(l:List Env),(∀b∈dD l,b∈X.fs)->X.s₀.heap.FunFrames X.base l->s.heap.FunFrames X.base l:=by
  intro l
  induction l with
  |nil=>intro _ _;trivial
  |cons i r j=>
   intro h k;obtain⟨m,⟨L,o,a,n,p,q⟩,t⟩:=k;have c:L∈X.fs:=h L (by unfold dD;rw[List.filterMap_cons,a];exact List.mem_cons_self);obtain⟨sl,e⟩:=I.base.slot L o p (I.ok.frf L c) c λz=>I.ok.exfs L z c
   exact#[m,#[L,_,a,n,e,q],j (λb d=>h b (by unfold dD;rw[List.filterMap_cons,a];exact List.mem_cons_of_mem _ d)) t]
 exact all X.outer (λ_ d=>d) I.ok.funs
def Inv.stack(I:Inv X f g H s):s.heap.FunFrames X.base X.stack:=by
 rcases I.ok.stk with e|⟨e,a⟩
 .rw[e];exact I.funs
 .rw[e];obtain⟨m,b,_⟩:=I.loc;refine .cons (by rw[I.ok.kind];decide) a b ?_ I.funs;exact zd (dy I.ok.bsz I.ok.above)
def Inv.stkSub(I:Inv X f g H s):∀b∈dD X.stack,b∈X.env.locals::X.fs:=λb a=>by
 rcases I.ok.stk with e|⟨e,c⟩
 .rw[e]at a;exact eO _ a
 .rw[e]at a;unfold dD at a;rw[xM,c]at a;exact a
def Inv.stkFree(I:Inv X f g H s):∀b∈dD X.stack,H b=none:=λb hb=>by
 rcases dL.mp (I.stkSub b hb)with e|hb
 .rw[e];exact I.free
 .obtain⟨_,o,a,_⟩:=I.ok.funs.mem hb;exact I.base.free b o a (I.ok.frf b hb) λz=>I.ok.exfs b z hb
def Inv.step{g':Array GenState}{t':Nat}{d':Drawn}{ch:As}(I:Inv X f g H s)(h:∀b∈ch,(b∈X.ex\/X.s₀.heap.objs.size<=b)/\b≠X.env.locals/\(∀x c,X.env.cells.lookup x=some c->c≠b)/\∀p∈X.pn++f,p.1≠b)(keep:∀b o,b≠X.env.locals->b∉X.fs->b∉ch->s.heap.get? b=some o->H b=none->h'.get? b=some o)(A:∀b o,b≠X.env.locals->b∈X.fs->b∉ch->s.heap.get? b=some o->H b=none->∃sl,h'.get? b=some {o with slots:=sl}) (free:∀b o,b∉ch->s.heap.get? b=some o->H b=none->H' b=none)
  (C:∀b o,b∉ch->s.heap.get? b=some o->∃G,h'.get? b=some G)
  (tups:∀b B,H b=some (.tup B)->H' b=some (.tup B)) (J:∀b o u,H b=some (.frz o u)->H' b=some (.frz o u)) (L:∀b O,H b=some (.tbl O)->∃more,H' b=some (.tbl (O++more)))
  (ns:∀m,s.heap.Ns X.env.locals m->h'.Ns X.env.locals m) (Q:HOk X.prog X.w H' h') (hg:AllBare g'):
  Inv X f g H' {s with heap:=h',gens:=g',drawn:=d',toks:=t'}:=by
 have M:∀b o,X.s₀.heap.get? b=some o->b≠X.env.locals:=λb o e=>eB (fJ (dm e) I.ok.above);have w:∀b o,X.s₀.heap.get? b=some o->b∉X.ex->b∉ch:=λb o e a D=>by
  rcases (h b D).1 with z|z
  .exact a z
  .exact wC (fJ (dm e) z) (mv _)
 have j:∀x c,X.env.cells.lookup x=some c->∀v,s.heap.IsCell c v->h'.IsCell c v:=λx c e v ⟨o,E,T⟩=>by
  have t:c∉ch:=λz=>(h c z).2.2.1 x c e rfl;by_cases Y:c∈X.fs
  .obtain⟨sl,q⟩:=A c o (I.cne x c e) Y t E (I.freeC x c e);exact#[_,q,T]
  .exact#[o,keep c o (I.cne x c e) Y t E (I.freeC x c e),T]
 refine#[I.ok,I.os,hg,#[λb o e n D a=>?_,λb o e n D a=>?_,λb o e n a=>?_,λb o e a=>?_,λb B e=>tups b B (I.base.tups b B e),λb o B e=>J b o B (I.base.frzs b o B e),λb O e=>?_],?_,λx c e=>?_,?_,λx c e=>?_,λp hp=>?_,Q,I.len]
 .exact keep b o (M b o e) D (w b o e a) (I.base.keep b o e n D a) (I.base.free b o e n a)
 .obtain⟨sl,y⟩:=I.base.slot b o e n D a;obtain⟨U,N⟩:=A b _ (M b o e) D (w b o e a) y (I.base.free b o e n a);exact#[U,N]
 .obtain⟨G,y⟩:=I.base.there b o e a;exact free b G (w b o e a) y (I.base.free b o e n a)
 .obtain⟨G,y⟩:=I.base.there b o e a;exact C b G (w b o e a) y
 .obtain⟨m1,y⟩:=I.base.tbls b O e;obtain⟨m2,N⟩:=L b _ y;exact#[m1++m2,by rw[N,Array.append_assoc]]
 .obtain⟨m,hn,hl⟩:=I.loc;refine#[m,ns m hn,λi x v y N e3=>?_];obtain⟨u,r,l⟩:=hl i x v y N e3;refine#[u,r,?_]
  rcases l with l|⟨k,c,e,z⟩
  .exact .inl l
  .exact .inr #[k,c,e,j x c e _ z]
 .obtain⟨v,z⟩:=I.cell x c e;exact#[v,j x c e v z]
 .obtain⟨m,⟨o,_,_,E,_⟩,_⟩:=I.loc;exact free _ o (λz=>(h _ z).2.1 zZ) E I.free
 .obtain⟨v,o,E,T⟩:=I.cell x c e;exact free c o (λz=>(h c z).2.2.1 x c e zZ) E (I.freeC x c e)
 .obtain⟨e,n,ne,nf,d⟩:=I.pin p hp;have t:p.1∉ch:=λz=>(h p.1 z).2.2.2 p hp rfl;exact#[keep p.1 p.2 ne nf t e n,free p.1 p.2 t e n,ne,nf,d]
def Inv.un{t':Nat}(I:Inv X f g H s)(u:Un X.fs [] H H' s.heap h')(c:HOk X.prog X.w H' h'):Inv X f g H' {s with heap:=h',toks:=t'}:=by
 obtain⟨m,⟨o,q,t,j,r⟩,_⟩:=id I.loc;obtain⟨sl,k⟩:=u.any j I.free (by simp);exact I.step (g':=s.gens) (d':=s.drawn) (ch:=[]) (λ_ z=>nomatch z) (λb o _ d _ e n=>u.keep b o e n d (by simp)) (λb o _ d _ e n=>u.slot b o e n d (by simp)) (λb o _ e n=>u.free b o e n (by simp)) (λb o _ e=>u.there b o e (by simp)) u.tups u.frzs u.tbls (λv l=>by
  obtain⟨w,h,i,a,p⟩:=l;rw[j]at a;cases a;exact#[_,h,i,k,p]) c I.bare
def Inv.call{g':Array GenState}{t':Nat}{d':Drawn}{ch:As}(I:Inv X f g H s)(u:Un (dD X.stack) ch H H' s.heap h')(i:HOk X.prog X.w H' h')(t:AllBare g')(d:∀b∈ch,(b∈X.ex\/X.s₀.heap.objs.size<=b)/\b≠X.env.locals/\(∀x c,X.env.cells.lookup x=some c->c≠b)/\∀p∈X.pn++f,p.1≠b):
  Inv X f g H' {s with heap:=h',gens:=g',drawn:=d',toks:=t'}:=by
 obtain⟨m,⟨o,A,B,q,r⟩,_⟩:=id I.loc;obtain⟨sl,j⟩:=u.any q I.free λz=>(d _ z).2.1 rfl;exact I.step (ch:=ch) d (λb o j v a e n=>u.keep b o e n (λz=>(dL.mp (I.stkSub b z)).elim j v) a) (λb o _ _ a e n=>u.any e n a) (λb o a e n=>u.free b o e n a) (λb o a e=>u.there b o e a) u.tups u.frzs u.tbls (λC w=>by
  obtain⟨D,k,l,h,y⟩:=w;rw[q]at h;cases h;exact#[_,k,l,j,y]) i t
def Inv.turned{t':Nat}{it:Ad}(I:Inv X f g H s)(k:∀b o,b≠it->s.heap.get? b=some o->h'.get? b=some o)(i:H it=none)(h:it≠X.env.locals)(j:it∈X.ex\/X.s₀.heap.objs.size<=it) (l:∀x c,X.env.cells.lookup x=some c->c≠it) (t:∀p∈X.pn++f,p.1≠it):Inv X f g H {s with heap:=h',toks:=t'}:=by
 have d:∀b u,H b=some u->b≠it:=λb u e z=>by rw[z,i]at e;cases e
 refine I.step (g':=s.gens) (d':=s.drawn) (ch:=[it]) (λb w=>?_) (λb o _ _ a e _=>k b o (λz=>a (by simp[z])) e) (λb o _ _ a e _=>#[o.slots,k b o (λz=>a (by simp[z])) e]) (λ_ _ _ _ n=>n)
  (λb o a e=>#[o,k b o (λz=>a (by simp[z])) e]) (λ_ _ e=>e) (λ_ _ _ e=>e) (λb D e=>#[#v[],by rw[e];simp]) (λm y=>?_) (λb u e=>?_) I.bare
 .have e:b=it:=by simpa using w
  subst e;exact#[j,h,l,t]
 .obtain⟨o,A,B,C,r⟩:=y;exact#[o,A,B,k _ o (eJ h) C,r]
 .refine(I.hok b u e).stay (λc v a q=>k c v ?_ q) (λ_ q=>q) λ_ _ q=>q
  rcases a with z|z
  .rw[z];exact d b u e
  .exact d c _ z
def Inv.tok(I:Inv X f g H s)(t:Nat):Inv X f g H {s with toks:=t}:=I.un (h':=s.heap) (t':=t) Un.refl I.hok
def Inv.kept{t':Nat}(I:Inv X f g H s)(k:∀b u,s.heap.get? b=some u->h'.get? b=some u):Inv X f g H {s with heap:=h',toks:=t'}:=I.un (Un.kept k) (I.hok.kept k)
def Inv.laid{a:Ad}{o:HO}{t':Nat}(I:Inv X f g H s)(k:∀b u,s.heap.get? b=some u->h'.get? b=some u)(c:s.heap.objs.size<=a)(new:ObjOk X.prog X.w (cq H a o) h' a o):
  Inv X f g (cq H a o) {s with heap:=h',toks:=t'}:=I.un (Un.laid k c (I.hok.fresh c)) (I.hok.laid k c new)
def Inv.write{x e:Ad}{o:HO}{t':Nat}(I:Inv X f g H s)(c:xX (H x))(d:e=x\/H e=some (.own x))(k:∀b u,b≠e->s.heap.get? b=some u->h'.get? b=some u)(a:∃u,h'.get? e=some u)(new:ObjOk X.prog X.w (cq H x o) h' x o):Inv X f g (cq H x o) {s with heap:=h',toks:=t'}:=I.un (Un.write c d k a) (I.hok.write c d k a new)
def Inv.weak{a:List (Option V)}(I:Inv X f g H s)(c:a.length=g.length)(w:∀(i:Nat) v,a[i]?=some (some v)->g[i]?=some (some v)):Inv X f a H s:=
 #[I.ok,I.os,I.bare,I.base,let⟨m,d,b⟩:=I.loc;#[m,d,λi x v e h j=>b i x v e (w i v h) j],I.cell,I.free,I.freeC,I.pin,I.hok,c.trans I.len]
def Inv.pins_of{a:AO}(I:Inv X f g H s)(h:∀p∈a,s.heap.get? p.1=some p.2/\H p.1=none/\p.1≠X.env.locals/\p.1∉X.fs/\∀v,p.2.data≠ .cell v):Inv X a g H s:=
 #[I.ok,I.os,I.bare,I.base,I.loc,I.cell,I.free,I.freeC,λp b=>(dh.mp b).elim (λz=>I.pin p (py _ z)) (h p),I.hok,I.len]
def D5{N:Ss}(c:N.Nodup){i j:Nat}{x:Str}(a:N[i]?=some x)(b:N[j]?=some x):i=j:=by
 obtain⟨f,d⟩:=cK.mp a;obtain⟨g,e⟩:=cK.mp b;exact(List.getElem_inj c).mp (d.trans e.symm)
def Fx{M:Model}{A:Ar}{E:VP}{i:Nat}{x:Str}{v:V}{u:Vl}{Q:Unit->Sh->Prop}(I:Inv X f g H s)(hN:X.N.Nodup)(O:X.N[i]?=some x)(B:zp X.env.scope x)(r:RelV v u)(h:∀s',Inv X f (g.set i (some v)) H s'->(∃a,Heap.SameBut a s.heap s'.heap/\(a=X.env.locals\/X.env.cells.lookup x=some a))->Q ⟨⟩ s') (hf:X.fn x=true\/X.env.scope.names.lookup x=some .local:=by first|exact .inl rfl|exact .inr rfl|assumption):wpAny M A (storeName X.env x u) Q E s:=by
 obtain⟨m,hn,hl⟩:=id I.loc;have T:(X.env.scope.kind== .class || (X.env.scope.kind== .module&&X.env.locals != X.env.globals))=false:=by rw[I.ok.kind];rfl
 have G:i<g.length:=by rw[I.len];exact(cK.mp O).1
 have cne:=I.cne;have t:∀{a:Ad} {h':Heap},(∃o,s.heap.get? a=some o/\H a=none)->Heap.SameBut a s.heap h'->HOk X.prog X.w H h':=λ{a h'} ha l b ob e=>by
  obtain⟨_,_,C⟩:=ha;refine(I.hok b ob e).stay (λc w' hc q=>(l.2 c ?_).trans q) (λ_ q=>q) λ_ _ q=>q;rintro rfl
  rcases hc with rfl|hc
  .rw[C]at e;cases e
  .rw[C]at hc;cases hc
 rcases B with hk|hk
 .refine wpAny_storeName_local hk hn (λh' ae l=>?_) T;obtain⟨oL,_,_,af,_⟩:=id hn;refine h _ #[I.ok,I.os,I.bare,#[λb o e n J B=>?_,λb o e n J B=>?_,I.base.free,λb o e B=>?_,I.base.tups,I.base.frzs,I.base.tbls],#[_,ae,λj y v' w D e3=>?_],λy c e=>?_,I.free,I.freeC,λp hp=>?_,t #[oL,af,I.free] l,by simpa using I.len] #[_,l,.inl zZ]
  .exact(l.2 b (eB (fJ (dm e) I.ok.above))).trans (I.base.keep b o e n J B)
  .obtain⟨sl,w⟩:=I.base.slot b o e n J B;exact#[sl,(l.2 b (eB (fJ (dm e) I.ok.above))).trans w]
  .obtain⟨o',w⟩:=I.base.there b o e B;exact#[o',(l.2 b (eB (fJ (dm e) I.ok.above))).trans w]
  .by_cases L:j=i
   .subst L;rw[O]at w;cases w;rw[List.getElem?_set_self G]at D;cases D;exact#[u,r,.inl #[hk,by simp]]
   .rw[Bu (eJ L)]at D;obtain⟨u',r',q⟩:=hl j y v' w D e3;refine#[u',r',?_]
    rcases q with⟨k,e⟩|⟨k,c,e,z⟩
    .refine .inl #[k,?_];have:y≠x:=λe=>L (D5 hN w (e▸O));simp[this,e]
    .exact .inr #[k,c,e,z.sameBut l (cne y c e)]
  .obtain⟨w',z⟩:=I.cell y c e;exact#[w',z.sameBut l (cne y c e)]
  .obtain⟨e,n,ne,nf,d⟩:=I.pin p hp;exact#[(l.2 p.1 ne).trans e,n,ne,nf,d]
 .have N:X.fn x=true:=by
   rcases hf with z|z
   .exact z
   .rw[z]at hk;cases hk
  obtain⟨c,hc⟩:=I.ok.has x (.inl hk);obtain⟨w',z⟩:=I.cell x c hc;refine wpAny_storeName_cell I.ok.kind hk hc z (λh' U l=>?_);obtain⟨oc,Y,aa⟩:=id z;refine h {s with heap:=h'} #[I.ok,I.os,I.bare,#[λb o e n J B=>?_,λb o e n J B=>?_,I.base.free,λb o e B=>?_,I.base.tups,I.base.frzs,I.base.tbls],#[m,hn.sameBut l (eJ (cne x c hc)),λj y v' w D e3=>?_],λy c' e=>?_,I.free,I.freeC,λp hp=>?_,t #[oc,Y,I.freeC x c hc] l,by simpa using I.len] #[c,l,.inr hc]
  .exact(l.2 b (eB (fJ (dm e) (I.ok.cab x c N hc)))).trans (I.base.keep b o e n J B)
  .obtain⟨sl,w⟩:=I.base.slot b o e n J B;exact#[sl,(l.2 b (eB (fJ (dm e) (I.ok.cab x c N hc)))).trans w]
  .obtain⟨o',w⟩:=I.base.there b o e B;exact#[o',(l.2 b (eB (fJ (dm e) (I.ok.cab x c N hc)))).trans w]
  .by_cases L:j=i
   .subst L;rw[O]at w;cases w;rw[List.getElem?_set_self G]at D;cases D;exact#[u,r,.inr #[.inl hk,c,hc,U]]
   .rw[Bu (eJ L)]at D;obtain⟨u',r',q⟩:=hl j y v' w D e3;refine#[u',r',?_]
    rcases q with q|⟨k,c',e,z'⟩
    .exact .inl q
    .refine .inr #[k,c',e,z'.sameBut l ?_];rintro rfl;exact L (D5 hN w (I.ok.inj _ _ _ e hc▸O))
  .by_cases ab:c'=c
   .subst ab;exact#[_,U]
   .obtain⟨w2,z2⟩:=I.cell y c' e;exact#[w2,z2.sameBut l ab]
  .obtain⟨e,n,ne,nf,d⟩:=I.pin p hp;refine#[(l.2 p.1 ?_).trans e,n,ne,nf,d];intro q;rw[q,Y]at e;have q':oc=p.2:=gY e;exact d w' (by rw[<-q'];exact aa)
def B6{M:Model}{A:Ar}{E:VP}{i:Nat}{x:Str}{v:V}{u:Vl}{Q:Unit->Sh->Prop}(I:Inv X f g H s)(b:X.N.Nodup)(c:X.N[i]?=some x)(d:zp X.env.scope x)(r:RelV v u)(h:∀a,Inv X f (g.set i (some v)) H a->Q ⟨⟩ a) (e:X.fn x=true\/X.env.scope.names.lookup x=some .local:=by first|exact .inl rfl|exact .inr rfl|assumption):wpAny M A (storeName X.env x u) Q E s:=
 Fx I b c d r (λa j _=>h a j) e
def Inv.call'{s':Sh}{ch:As}(I:Inv X f g H s)(h:s'.os=s.os)(u:Un (dD X.stack) ch H H' s.heap s'.heap)(a:HOk X.prog X.w H' s'.heap)(i:AllBare s'.gens)(d:∀b∈ch,(b∈X.ex\/X.s₀.heap.objs.size<=b)/\b≠X.env.locals/\(∀x c,X.env.cells.lookup x=some c->c≠b)/\∀p∈X.pn++f,p.1≠b):Inv X f g H' s':=by
 obtain⟨h',g',d',t',j⟩:=s';have e:j=s.os:=h;subst e;exact I.call (g':=g') (t':=t') (d':=d') u a i d
end
abbrev XK:=Vl->Option Ad->Hp->Prop
abbrev St:=List (Option V)
abbrev VK:=V->Hp->Prop
abbrev TE:=St->Hp->VK->Prop
abbrev TT:=St->Hp->(Bool->Hp->Prop)->Prop
abbrev TA:=St->Hp->(List V->Hp->Prop)->Prop
structure Ends where
 nx:St->Hp->Prop
 rt:VK
 bk:St->Hp->Prop:=λ_ _=>False
 ct:St->Hp->Prop:=λ_ _=>False
abbrev TS:=Ends->St->Hp->Prop
def EP(X:Cx)(b:AO)(c:St)(Q:VK)(u:Vl)(d:Sh):Prop:=∃v a,Inv X b c a d/\RelV v u/\Q v a
def TP(X:Cx)(c:AO)(d:St)(Q:Bool->Hp->Prop)(b:Bool)(e:Sh):Prop:=∃a,Inv X c d a e/\Q b a
def AP(X:Cx)(c:AO)(d:St)(Q:List V->Hp->Prop)(e:Vs)(f:Sh):Prop:=∃a b,Inv X c d b f/\Vals a e/\Q a b
def SP(X:Cx)(c:AO)(D:Ends)(f:Flow)(d:Sh):Prop:=
 match f with
 |.next=>∃a b,Inv X c a b d/\D.nx a b
 |.brk=>∃a b,Inv X c a b d/\D.bk a b
 |.cont=>∃a b,Inv X c a b d/\D.ct a b
 |.ret u=>∃v a b,Inv X c a b d/\RelV v u/\D.rt v b
def PE(X:Cx)(e:Expr)(t:TE):Prop:=
 ∀(b:AO) (s:Sh) (a:St) (H:Hp) (Q:VK),Inv X b a H s->t a H Q->wpAny (model X.prog X.w) X.A (eval e X.env) (EP X b a Q) X.xe s
def PT(X:Cx)(e:Expr)(t:TT):Prop:=
 ∀(b:AO) (s:Sh) (a:St) (H:Hp) (Q:Bool->Hp->Prop),Inv X b a H s->t a H Q->wpAny (model X.prog X.w) X.A (isTrue e X.env (eval e X.env)) (TP X b a Q) X.xe s
def PW(X:Cx)(e:Expr)(t:TT):Prop:=
 ∀(a:Sem Vl) (c:AO) (s:Sh) (b:St) (H:Hp) (Q:Bool->Hp->Prop),Inv X c b H s->t b H Q->wpAny (model X.prog X.w) X.A (isTrue e X.env a) (TP X c b Q) X.xe s
def PW.pt{X:Cx}{e:Expr}{t:TT}(h:PW X e t):PT X e t:=h _
def PA(X:Cx)(d:List Expr)(t:TA):Prop:=
 ∀(a:Pos) (c:AO) (s:Sh) (b:St) (H:Hp) (Q:List V->Hp->Prop),Inv X c b H s->t b H Q->wpAny (model X.prog X.w) X.A (spliced (backTo a (starEach d X.env))) (AP X c b Q) X.xe s
def PS(X:Cx)(st:Stmt)(t:TS):Prop:=
 ∀(a:AO) (s:Sh) (b:St) (H:Hp) (D:Ends),Inv X a b H s->t D b H->wpAny (model X.prog X.w) X.A (exec st X.env) (SP X a D) X.xe s
def PSs(X:Cx)(st:List Stmt)(t:TS):Prop:=
 ∀(a:AO) (s:Sh) (b:St) (H:Hp) (D:Ends),Inv X a b H s->t D b H->wpAny (model X.prog X.w) X.A (execs st X.env) (SP X a D) X.xe s
def cS{b:Type}{t:Sem b}{Q c:b->Sh->Prop}{M:Model}{A:Ar}{E:VP}{s:Sh}(h:wpAny M A t Q E s)(d:∀a s,Q a s->c a s):wpAny M A t c E s:=fL h d λ_ _ x=>x
section
variable{X:Cx}
inductive dG(i:Nat)(a:St)(H:Hp)(Q:VK):Prop|mk:∀v,a[i]?=some (some v)->Q v H->dG i a H Q
def tC(v:V):TE:=λ_ H Q=>Q v H
def Jb{i:Nat}{x:Str}{f:Pos}(j:X.N[i]?=some x)(k:C7 X.env.scope x)(b:(x==("__debug__":Str))=false:=by decide)(d:(x==("__classdict__":Str))=false:=by decide):PE X (.Name x f) (dG i):=by
 intro n s o H Q I h;obtain⟨v,e,h⟩:=h;obtain⟨m,p,q⟩:=I.loc;obtain⟨u,r,l⟩:=q i x v j e k;have fin:EP X n o Q u s:=#[v,H,I,r,h]
 rcases l with⟨hk,t⟩|⟨hk,c,g,a⟩
 .exact wpAny_Name (wpAny_loadName_local I.ok.kind hk p t fin) b
 .rcases hk with hk|hk
  .exact wpAny_Name (wpAny_loadName_cell I.ok.kind hk g a fin) b
  .exact wpAny_Name (wpAny_loadName_free I.ok.kind hk g a fin d) b
def df{i j f}:PE X (.Constant (.int i) j f) (tC (.int i)):=λ_ _ _ H _ I h=>wpAny_Constant_int #[.int i,H,I.tok _,#[_,zZ],h]
def re{b j f}:PE X (.Constant (.bool b) j f) (tC (.bl b)):=λ_ _ _ H _ I h=>Constant_bool #[.bl b,H,I,zZ,h]
def ti{j f}:PE X (.Constant .none j f) (tC .non):=λ_ _ _ H _ I h=>Constant_none #[.non,H,I,zZ,h]
def Ca{x j f}:PE X (.Constant (.str x) j f) (tC (.str x)):=λ_ _ _ H _ I h=>Calls.Constant_str #[.str x,H,I.tok _,#[_,zZ],h]
def Gl(X:Cx)(x:Str):Prop:=X.env.kindOf x=some .globalImplicit
def oR{E:VP}{a:AO}{s:Sh}{b:St}{H:Hp}{x:Str}{u:Vl}{f:Pos}{Q:VP}(I:Inv X a b H s)(c:Gl X x)(d:X.mg x=some u)(h:Q u s)(e:(x==("__debug__":Str))=false:=by decide):wpAny (model X.prog X.w) X.A (eval (.Name x f) X.env) Q E s:=
 IM I.ok.kind c (Calls.loadGlobal_global (by rw[I.ok.glob];exact I.mod.glob.keeps I.bk) d h) e
def u8{E:VP}{a:AO}{s:Sh}{b:St}{H:Hp}{x:Str}{u:Vl}{f:Pos}{Q:VP}(I:Inv X a b H s)(c:Gl X x)(d:X.mg x=none)(e:bootBuiltins x=some u)(h:Q u s)(g:x≠"__name__":=by decide) (i:(x==("__debug__":Str))=false:=by decide):wpAny (model X.prog X.w) X.A (eval (.Name x f) X.env) Q E s:=by
 obtain⟨l,j,k⟩:=I.mod.blt;exact IM I.ok.kind c (Calls.loadGlobal_builtin (by rw[I.ok.glob];exact I.mod.glob.keeps I.bk) d (by rw[I.ok.blt];exact j.keeps I.bk) ((k x g).trans e) h) i
def J7{x:Str}{v:V}{u:Vl}{f:Pos}(a:Gl X x)(b:X.mg x=none)(c:bootBuiltins x=some u)(r:RelV v u)(d:x≠"__name__":=by decide)(e:(x==("__debug__":Str))=false:=by decide):PE X (.Name x f) (tC v):=
 λ_ _ _ H _ I h=>u8 I a b c #[v,H,I,r,h] d e
variable{a b:Expr}{n o:TE}{f:Pos}
def PC(X:Cx)(g:CmpOp)(a b:Expr)(t:TE):Prop:=
 ∀(f:AO) (s:Sh) (e:St) (H:Hp) (Q:VK),Inv X f e H s->t e H Q->
  wpAny (model X.prog X.w) X.A (eval a X.env) (λv c=>wpAny (model X.prog X.w) X.A (eval b X.env) (λu d=>wpAny (model X.prog X.w) X.A (compareOp g v u) (EP X f e Q) X.xe d) X.xe c) X.xe s
def GQ(b:Expr){a:CmpOp}(h:a≠ .In)(c:a≠ .NotIn):behindInMarks a b=false:=by
 have d:(a==CmpOp.In)=false:=by cases a<;>first|rfl|exact wC zZ h
 have e:(a==CmpOp.NotIn)=false:=by cases a<;>first|rfl|exact wC zZ c
 cases b<;>simp[behindInMarks,d,e]
def tB(t:TE):TT:=λa H Q=>t a H λx b=>∃c,x=.bl c/\Q c b
def NW{c:CmpOp}{t:TE}(h:PC X c a b t)(d:behindInMarks c b=false:=by first|exact GQ _ (by decide) (by decide)|rfl):PE X (.Compare a [c] [b] f) t:=λe s g H Q I hw=>wpAny_Compare1 (h e s g H Q I hw) d
def ux{e:CmpOp}{t:TE}(h:PC X e a b t)(g:behindInMarks e b=false:=by first|exact GQ _ (by decide) (by decide)|rfl):PT X (.Compare a [e] [b] f) (tB t):=by
 intro i s j H Q I hw;refine wpAny_isTrue_Compare1 (cS (h i s j H _ I hw) λv p g=>cS g λu r k=>cS k λc w ⟨x,l,m,n,o⟩=>?_) g;obtain⟨d,rfl,q⟩:=o;cases n;exact tq #[l,m,q]
def pr{e:Expr}{t:TE}(h:PE X e t)(b:∀a,isTrue e X.env a=(do let v <-a;standAt e.pos;holding [v] (truthy v)):=by intro _;rfl):PT X e (tB t):=by
 intro c s f H Q I hw;refine isTrue_plain (cS (h c s f H _ I hw) λv l ⟨x,g,i,j,k⟩=>?_) (b _);obtain⟨d,rfl,q⟩:=k;cases j;exact tq #[g,i,q]
variable{g k:TT}{rest:List Expr}
def Ds(t u:TT):TT:=λa H Q=>t a H λc b=>if c=true then u a b Q else Q false b
def KZ(t u:TT):TT:=λa H Q=>t a H λc b=>if c=true then Q true b else u a b Q
def wJ(t:TT):TT:=λa H Q=>t a H λc b=>Q (!c) b
def vH(b:PT X a g):PW X (.BoolOp .And [a] f) g:=by
 intro j d s i H Q I h;refine isTrue_and (cS (b d s i H Q I h) λc k e=>?_);cases c with
 |true=>exact isTrue_and_nil e
 |false=>exact e
def Ih(b:PT X a g):PW X (.BoolOp .Or [a] f) g:=by
 intro j d s i H Q I h;refine isTrue_or (cS (b d s i H Q I h) λc k e=>?_);cases c with
 |false=>exact isTrue_or_nil e
 |true=>exact e
def vJ(m:PT X a g)(n:PW X (.BoolOp .And (b::rest) f) k):PW X (.BoolOp .And (a::b::rest) f) (Ds g k):=by
 intro o d s e H Q I h;refine isTrue_and (cS (m d s e H _ I h) λc p ⟨i,j,l⟩=>?_);cases c with
 |true=>exact n o d p e i Q j l
 |false=>exact#[i,j,l]
def EU(m:PT X a g)(n:PW X (.BoolOp .Or (b::rest) f) k):PW X (.BoolOp .Or (a::b::rest) f) (KZ g k):=by
 intro o d s e H Q I h;refine isTrue_or (cS (m d s e H _ I h) λc p ⟨i,j,l⟩=>?_);cases c with
 |true=>exact#[i,j,l]
 |false=>exact n o d p e i Q j l
def r4(b:PT X a g):PT X (.UnaryOp .Not a f) (wJ g):=by
 intro d s e H Q I h;exact isTrue_not (b d s e H (λc i=>Q (!c) i) I h)
def wV(n o:TE):TE:=λa H Q=>n a H λx b=>∃c,x=.bl c/\if c=true then o a b Q else Q (.bl false) b
def Gf{b}{t:TE}(h:PE X a t):PE X (.BoolOp b [a] f) t:=λc s d H Q I hw=>BoolOp_one (h c s d H Q I hw)
def GS(k:PE X a n)(l:PE X (.BoolOp .And (b::rest) f) o):PE X (.BoolOp .And (a::b::rest) f) (wV n o):=by
 intro e s g H Q I h;refine BoolOp_and (cS (k e s g H _ I h) λv m ⟨x,i,j,p,d⟩=>?_);obtain⟨c,rfl,d⟩:=d;cases p;refine tq ?_;cases c with
 |true=>exact l e m g i Q j d
 |false=>exact#[.bl false,i,j,zZ,d]
end
def SqL(K:P3)(H:Hp)(a:Ad)(xs:List V):Prop:=
 Rd H a (.lst xs)\/
  ∃(o:Obj) (b:AV) (n:Nat),K.lookup a=some o/\o.cls=.type "list"/\o.dict=none/\o.data=.seq b n/\b.size<=sizeLine/\Vals xs b.toList
def SqT(K:P3)(H:Hp)(a:Ad)(xs:List V):Prop:=
 Rd H a (.tup xs)\/
  ∃(o:Obj) (b:AV) (n:Nat),K.lookup a=some o/\o.cls=.type "tuple"/\o.data=.seq b n/\b.size<=sizeLine/\Vals xs b.toList
def Dy:Vl->Option V
 |.none=>some .non
 |.bool b=>some (.bl b)
 |.int i _=>some (.int i)
 |.str x _=>some (.str x)
 |.bytes b _=>some (.byt b)
 |.float b _=>some (.flt b)
 |.ref a=>some (.ref a)
 |.type n=>some (.ty n)
 |_=>none
def RelV.abs{x:V}{u:Vl}(r:RelV x u):Dy u=some x:=by
 cases x with
 |non=>cases r;rfl
 |bl _=>cases r;rfl
 |int _=>obtain⟨t,rfl⟩:=r;rfl
 |str _=>obtain⟨t,rfl⟩:=r;rfl
 |byt _=>obtain⟨t,rfl⟩:=r;rfl
 |flt _=>obtain⟨t,rfl⟩:=r;rfl
 |ref _=>cases r;rfl
 |ty _=>cases r;rfl
def RelV.inj{x y:V}{u:Vl}(r:RelV x u)(q:RelV y u):x=y:=gY (r.abs.symm.trans q.abs)
theorem Vals.inj:∀{a b:List V} {c:Vs},Vals a c->Vals b c->a=b
 |_,_,_,.nil,.nil=>rfl
 |_,_,_,.cons r t,.cons d e=>by rw[r.inj d,Vals.inj t e]
section
variable{X:Cx}{c:AO}{b:St}{H:Hp}{s:Sh}{a:Ad}{xs f:List V}
def P1{K:P3}(h:H a=some (.lst xs)):SqL K H a xs:= .inl (.inl h)
def P2{K:P3}(h:H a=some (.tup xs)):SqT K H a xs:= .inl (.inl h)
def Inv.list(I:Inv X c b H s)(h:SqL X.K H a xs):∃its:Vs,Vals xs its/\PlainL s.heap a its.toArray/\xs.length<=sizeLine:=by
 rcases h with h|⟨o,its,n,d,f,g,i,j,r⟩
 .obtain⟨z,its,n,r,e⟩:=h.ok I.hok;exact#[its,r,#[_,n,e,zZ,zZ,zZ],z]
 .refine#[its.toList,r,#[o,n,I.kIn a o d,f,g,by simpa using i],?_];have e:=r.length;simp only[Array.length_toList]at e;lia
def Inv.tuple(I:Inv X c b H s)(h:SqT X.K H a xs):∃its:Vs,Vals xs its/\IsTup s.heap a its.toArray/\xs.length<=sizeLine:=by
 rcases h with h|⟨o,its,n,d,f,g,i,r⟩
 .obtain⟨z,its,r,p⟩:=h.ok I.hok;exact#[its,r,p.is,z]
 .refine#[its.toList,r,#[o,I.kIn a o d,f,n,by simpa using g],?_];have e:=r.length;simp only[Array.length_toList]at e;lia
def Inv.list_inj(I:Inv X c b H s)(h:SqL X.K H a xs)(h':SqL X.K H a f):xs=f:=by
 obtain⟨i,r,⟨o,n,e,_,_,d⟩,_⟩:=I.list h;obtain⟨g,k,⟨m,p,j,_,_,d'⟩,_⟩:=I.list h';rw[e]at j;cases j;rw[d]at d';injection d' with l _
 have:i=g:=by simpa using congrArg Array.toList l
 subst this;exact r.inj k
def Inv.tuple_inj(I:Inv X c b H s)(h:SqT X.K H a xs)(h':SqT X.K H a f):xs=f:=by
 obtain⟨i,r,⟨o,e,_,n,d⟩,_⟩:=I.tuple h;obtain⟨g,k,⟨m,j,_,p,d'⟩,_⟩:=I.tuple h';rw[e]at j;cases j;rw[d]at d';injection d' with l _
 have:i=g:=by simpa using congrArg Array.toList l
 subst this;exact r.inj k
end
abbrev Cx.wish(X:Cx)(E:VP):Cx:={X with xe:=E}
abbrev Cx.nox(X:Cx):Cx:=X.wish λ_ _=>False
def Cx.Ok.wish{X:Cx}(ok:X.Ok)(E:VP):(X.wish E).Ok:=
 #[ok.mod,ok.kind,ok.glob,ok.blt,ok.above,ok.inj,ok.has,ok.cab,ok.hd,ok.frames,ok.stk,ok.exf,ok.bs,ok.bsz,ok.noex,ok.exfs,ok.funs,ok.frf]
def Cx.Ok.unwish{X:Cx}{E:VP}(ok:(X.wish E).Ok):X.Ok:=
 #[ok.mod,ok.kind,ok.glob,ok.blt,ok.above,ok.inj,ok.has,ok.cab,ok.hd,ok.frames,ok.stk,ok.exf,ok.bs,ok.bsz,ok.noex,ok.exfs,ok.funs,ok.frf]
section
variable{X:Cx}{a:AO}{b:St}{H:Hp}{s:Sh}{E:VP}
def Inv.wish(I:Inv X a b H s)(E:VP):Inv (X.wish E) a b H s:=#[I.ok.wish E,I.os,I.bare,I.base,I.loc,I.cell,I.free,I.freeC,I.pin,I.hok,I.len]
def Inv.unwish(I:Inv (X.wish E) a b H s):Inv X a b H s:=#[I.ok.unwish,I.os,I.bare,I.base,I.loc,I.cell,I.free,I.freeC,I.pin,I.hok,I.len]
def SP.unwish{D:Ends}{f:Flow}{d:Sh}(h:SP (X.wish E) a D f d):SP X a D f d:=by
 cases f with
 |next=>obtain⟨b,c,I,q⟩:=h;exact#[b,c,I.unwish,q]
 |brk=>obtain⟨b,c,I,q⟩:=h;exact#[b,c,I.unwish,q]
 |cont=>obtain⟨b,c,I,q⟩:=h;exact#[b,c,I.unwish,q]
 |ret u=>obtain⟨v,b,c,I,r,q⟩:=h;exact#[v,b,c,I.unwish,r,q]
def PSs.nox{st:List Stmt}{t:TS}(h:PSs X.nox st t):PSs X st t:=λa s b H D I hw=>
 fL (h a s b H D (I.wish _) hw) (λ_ _ q=>q.unwish) λ_ _ z=>wE z
end
section
variable{X:Cx}{st:Stmt}{rest:List Stmt}{t u:TS}{e:Expr}{i:TE}{g:Pos}
def G6:TS:=λD a H=>D.nx a H
def m8(t u:TS):TS:=λD a H=>t {D with nx:=u D} a H
def iA:PSs X [] G6:=λ_ _ a H _ I h=>sh #[a,H,I,h]
def cR(c:PS X st t)(d:PSs X rest u):PSs X (st::rest) (m8 t u):=by
 intro b s e H D I h;refine zn (cS (c b s e H {D with nx:=u D} I h) λf g q=>?_);cases f with
 |next=>
  obtain⟨a,i,j,q⟩:=q;exact d b g a i D j q
 |ret v=>exact q
 |brk=>exact q
 |cont=>exact q
def cX(a:PS X st t):PSs X [st] t:=by
 intro b s c H D I h;refine zn (cS (a b s c H D I h) λf d q=>?_);cases f with
 |next=>exact sh q
 |ret v=>exact q
 |brk=>exact q
 |cont=>exact q
def Inv.quiet{a:AO}{b:St}{H:Hp}{s:Sh}(I:Inv X a b H s):interactive X.env=false:=by simp[interactive,I.ok.kind]
def xv(i:TE):TS:=λD a H=>i a H λ_ b=>D.nx a b
def lg(b:PE X e i)(c:swapsWith e none g.line X.env=pure false:=by rfl):PS X (.Expr e g) (xv i):=by
 intro d s a H D I h;exact wpAny_Expr_any (cS (b d s a H _ I h) λv l ⟨x,f,j,m,k⟩=>#[a,f,j,k]) I.quiet c
def sf(i:TE):TS:=λD a H=>i a H D.rt
def dR(b:PE X e i):PS X (.Return (some e) g) (sf i):=by
 intro c s a H D I h;exact wpAny_Return_some (cS (b c s a H _ I h) λv l ⟨x,d,f,j,k⟩=>#[x,a,d,f,j,k])
def tm(c:TT)(t u:TS):TS:=λD a H=>c a H λb d=>if b=true then t D a d else u D a d
def iq{c:Expr}{a b:List Stmt}{i:TT}(n:PT X c i)(o:PSs X a t)(p:PSs X b u):PS X (.If c a b g) (tm i t u):=by
 intro e s f H D I h;refine wpAny_If (cS (n e s f H _ I h) λd j ⟨k,l,m⟩=>?_);cases d with
 |true=>exact o e j f k D l m
 |false=>exact p e j f k D l m
def Jc:TS:=λ_ _ _=>False
def EF:PS X st Jc:=λ_ _ _ _ _ _ h=>h.elim
end
abbrev TG:=V->St->Hp->(St->Hp->Prop)->Prop
abbrev uo:=List V->St->Hp->(St->Hp->Prop)->Prop
def PG(X:Cx)(a:Expr)(t:TG):Prop:=
 ∀(c:AO) (s:Sh) (d:St) (H:Hp) (v:V) (u:Vl) (Q:St->Hp->Prop),Inv X c d H s->RelV v u->t v d H Q->
  wpAny (model X.prog X.w) X.A (assign a X.env u) (λ_ f=>∃b e,Inv X c b e f/\Q b e) X.xe s
def A3(X:Cx)(g:List Expr)(t:uo):Prop:=
 ∀(b:AO) (s:Sh) (c:St) (H:Hp) (d:List V) (e:Vs) (Q:St->Hp->Prop),Inv X b c H s->Vals d e->t d c H Q->
  wpAny (model X.prog X.w) X.A (assignInOrder ((assignEach g X.env).map (·.2)) e) (λ_ h=>∃a f,Inv X b a f h/\Q a f) X.xe s
abbrev ug:=V->V->V->Hp->(Hp->Prop)->Prop
def xY(X:Cx)(t:ug):Prop:=
 ∀(a:AO) (s:Sh) (b:St) (H:Hp) (o i v:V) (c d u:Vl) (Q:Hp->Prop),Inv X a b H s->RelV o c->RelV i d->RelV v u->t o i v H Q->
  wpAny (model X.prog X.w) X.A (setItem c d u) (λ_ f=>∃e,Inv X a b e f/\Q e) X.xe s
section
variable{X:Cx}{c:Pos}
def iw(i:Nat):TG:=λv a H Q=>Q (a.set i (some v)) H
def gB{i:Nat}{x:Str}(a:X.N.Nodup)(b:X.N[i]?=some x)(d:zp X.env.scope x)(e:X.fn x=true\/X.env.scope.names.lookup x=some .local:=by first|exact .inl rfl|exact .inr rfl|assumption):PG X (.Name x c) (iw i):=by
 intro g s j H v u Q I r h;exact wpAny_assign_Name (B6 I a b d r (λk f=>#[_,H,f,h]) e)
def wP:uo:=λa b H Q=>a=[]/\Q b H
inductive lN(t:TG)(u:uo)(b:List V)(c:St)(H:Hp)(Q:St->Hp->Prop):Prop|mk:∀v r,b=v::r->(t v c H λa d=>u r a d Q)->lN t u b c H Q
def xu:A3 X [] wP:=by
 intro b s a H c d Q I r h;obtain⟨e,h⟩:=h;subst e;cases r;exact assignInOrder_nil #[a,H,I,h]
def nX{e:Expr}{a:List Expr}{t:TG}{u:uo}(d:PG X e t)(f:A3 X a u)(g:(assignEach (e::a) X.env).map (·.2)=assign e X.env::(assignEach a X.env).map (·.2):=by rfl):A3 X (e::a) (lN t u):=by
 intro c s i H p q Q I r h;obtain⟨v,w,j,h⟩:=h;subst j;cases r with
 |cons r k=>
  rw[g];refine assignInOrder_cons (cS (d c s i H _ _ _ I r h) λ_ l ⟨b,m,n,o⟩=>?_);exact f c l b m _ _ Q n k o
inductive ue(K:P3)(n:Nat)(t:uo)(v:V)(c:St)(H:Hp)(Q:St->Hp->Prop):Prop|mk:∀a b,v=.ref a->SqT K H a b->b.length=n->t b c H Q->ue K n t v c H Q
def wH{d:List Expr}{k:Nat}{t:uo}{n:Nat}(l:X.calm=true)(h:A3 X d t)(m:(assignEach d X.env).length=n:=by rfl) (f:(assignEach d X.env).findIdx? (·.1)=none:=by rfl):PG X (.Tuple d k c) (ue X.K n t):=by
 intro g s i H v u Q I r hw;obtain⟨a,p,q,w,x,hw⟩:=hw;subst q;cases r;obtain⟨y,j,ht,C⟩:=I.tuple w;refine assign_Tuple_tuple (I.ok.hd l) ht (by simp[m,<-x,j.length]) f λz A=>?_;have B:Inv X g i H {s with heap:=z}:=I.kept (t':=s.toks) λb o e=>A b o (eB (dm e)) e;exact h g _ i H p _ Q B (by simpa using j) hw
def BN(to b:TE)(t:ug):TG:=λv a H Q=>to a H λo c=>b a c λi d=>t o i v d λe=>Q a e
def AJ{o i:Expr}{to f:TE}{t:ug}(g:PE X o to)(j:PE X i f)(k:xY X t)(l:∀v,assign (.Subscript o i c) X.env v=(do
   let a <-holding [v] (eval o X.env)
   let b <-holding [v,a] (eval i X.env)
   standAt c
   holding [v,a,b] (setItem a b v)
   release [v,a,b] []):=by intro _;rfl):PG X (.Subscript o i c) (BN to f t):=by
 intro e s d H v u Q I r h;rw[l];refine cr (iS (cS (g e s d H _ I h) λa m ⟨x,n,p,q,w⟩=>?_));refine cr (iS (cS (j e m d n _ p w) λb z ⟨y,A,B,C,D⟩=>?_));refine cr (vS (cr (iS (cS (k e z d A x y v a b u _ B q C r D) λ_ L ⟨E,G,J⟩=>?_))));exact wpAny_release #[d,E,G,J]
def pG(b:TE)(g:TG):TS:=λD a H=>b a H λx c=>g x a c D.nx
def AE{a e:Expr}{b:TE}{g:TG}(i:PE X e b)(j:PG X a g)(k:swapsWithSole [a] e c.line X.env=pure false:=by rfl)(hw:swappedStores [a] e X.env=pure none:=by rfl)
  (l:(assignEach [a] X.env).map (·.2)=[assign a X.env]:=by rfl):PS X (.Assign [a] e c) (pG b g):=by
 intro d s f H D I h;refine wpAny_Assign_stores (cS (i d s f H _ I h) λv m ⟨x,n,o,p,r⟩=>?_) k hw;rw[l];exact cS (j d m f n x v _ o p r) λ_ t q=>q
def dE{i:Nat}{x:Str}{e:Expr}{b:TE}{a:Pos}(d:X.N.Nodup)(f:X.N[i]?=some x)(g:zp X.env.scope x)(j:PE X e b)(k:swapsWith e (some (.Name x a)) c.line X.env=pure false:=by rfl)(l:X.fn x=true\/X.env.scope.names.lookup x=some .local:=by first|exact .inl rfl|exact .inr rfl|assumption):
  PS X (.Assign [.Name x a] e c) (pG b (iw i)):=by
 intro m s n H D I h;refine wpAny_Assign_Name (cS (j m s n H _ I h) λv u ⟨y,o,p,q,r⟩=>?_) k;exact B6 p d f g q (λw t=>#[_,o,t,r]) l
end
section
variable{X:Cx}{a:Pos}
def Fw(c:TT)(h:TS):TS:=λD a H=>∃W:Nat->St->Hp->Prop,(∃m,W m a H)/\∀m a H,W m a H->
 c a H λb e=>if b=true then ∃N:St->Hp->Prop,(∀d f,N d f->∃g,g<m/\W g d f)/\h {D with nx:=N,ct:=N,bk:=D.nx} a e else D.nx a e
def wN{c:Expr}{g:List Stmt}{w:TT}{x:TS}(y:PassesOwn (model X.prog X.w) X.A X.env X.xe)(G:PT X c w)(J:PSs X g x):PS X (.While c g [] a) (Fw w x):=by
 intro o s L H D I h;obtain⟨W,⟨M,O⟩,i⟩:=h;refine wpAny_While (codeAny_whileLoop (λn Q=>∃j z,Inv X o j z Q/\W n j z) ?_ M #[L,H,I,O]);rintro n T ⟨e,A,U,Y⟩;refine sr y (cS (G o T e A _ U (i n e A Y)) λb s2 ⟨B,C,l⟩=>?_);cases b with
 | true=>
  obtain⟨N,E,l⟩:=l;rw[wB zZ];refine sr y (cS (J o s2 e B _ C l) λf s3 m=>?_);cases f with
  |next=>
   obtain⟨d,k,p,q⟩:=m;obtain⟨r,t,u⟩:=E d k q;exact#[r,t,d,k,p,u]
  |cont=>
   obtain⟨d,k,p,q⟩:=m;obtain⟨r,t,u⟩:=E d k q;exact#[r,t,d,k,p,u]
  |brk=>exact m
  |ret v=>exact m
 |false=>
  rw[wA gC];exact sh #[e,B,C,l]
end
structure It where
 go:Nat->Hp->Prop
 yld:Nat->Hp->V->Hp->Prop
 stop:Nat->Hp->Prop
def FpOk(X:Cx)(a:AO)(H:Hp)(b:Ad):Prop:=
 H b=none/\b≠X.env.locals/\b∉X.fs/\(b∈X.ex\/X.s₀.heap.objs.size<=b)/\(∀x c,X.env.cells.lookup x=some c->c≠b)/\∀p∈X.pn++a,p.1≠b
def Inv.fpOk{X:Cx}{d:AO}{f:St}{H H':Hp}{s:Sh}{b:Ad}(I:Inv X d f H s)(a:s.heap.objs.size<=b)(g:H' b=none):FpOk X d H' b:=by
 refine#[g,mH (fJ I.lt a),I.nofs a,.inr (dy I.sz a),λx c e z=>?_,λp h z=>?_]
 .obtain⟨v,q⟩:=I.cell x c e;exact wC (fJ q.lt (by rw[z];exact a)) (mv _)
 .exact wC (fJ (dm (I.pin p h).1) (by rw[z];exact a)) (mv _)
structure Turn(P:Pg)(w:World)(K:P3)(tg:Expr)(J:It)(fp:As)(it:Ad)(tn:Nat->Heap->Prop):Prop where
 mem:it∈fp
 obj:∀i h,tn i h->∀b∈fp,∃o,h.get? b=some o/\∀v,o.data≠ .cell v
 keep:∀i h h',tn i h->(∀b∈fp,∀o,h.get? b=some o->h'.get? b=some o)->tn i h'
 item:∀(X:Cx),X.prog=P->X.w=w->X.K=K->X.calm=true->∀(i:Nat) (za:AO) (s:Sh) (σ:St) (H:Hp) (E:VP),Inv X za σ H s->(∀b∈fp,FpOk X za H b)->tn i s.heap->J.go i H->
  wpAny (model P w) X.A (pyNext (.ref it)) (λr s1=>∃u,r=some u/\
   wpAny (model P w) X.A (letOwnedTupleGo tg (.ref it) u) (λ_ s2=>∃x H',Inv X za σ H' s2/\RelV x u/\J.yld i H x H'/\tn (i+1) s2.heap/\∀b∈fp,H' b=none) E s1) E s
 done:∀(X:Cx),X.prog=P->X.w=w->X.K=K->X.calm=true->∀(i:Nat) (za:AO) (s:Sh) (σ:St) (H:Hp) (E:VP),Inv X za σ H s->(∀b∈fp,FpOk X za H b)->tn i s.heap->J.stop i H->
  wpAny (model P w) X.A (pyNext (.ref it)) (λr s1=>r=none/\Inv X za σ H s1) E s
 self:∀(A:Ar) (i:Nat) (s:Sh) (Q:VP) (E:VP),tn i s.heap->Q (.ref it) s->wpAny (model P w) A (pyIter (.ref it)) Q E s
abbrev TI:=St->Hp->(It->Hp->Prop)->Prop
def Er(X:Cx)(d:AO)(h:St)(i:Expr)(R:It->Hp->Prop)(a:Vl)(e:Sh):Prop:=
 ∃(it:Ad) (f:As) (g:Nat->Heap->Prop) (J:It) (c:Hp),a=.ref it/\Inv X d h c e/\Turn X.prog X.w X.K i J f it g/\g 0 e.heap/\(∀b∈f,FpOk X d c b)/\R J c
def PI(X:Cx)(d a:Expr)(e:TI):Prop:=
 ∀(c:AO) (s:Sh) (b:St) (H:Hp) (R:It->Hp->Prop),Inv X c b H s->e b H R->
  wpAny (model X.prog X.w) X.A (eval a X.env) (λv f=>wpAny (model X.prog X.w) X.A (pyIter v) (Er X c b d R) X.xe f) X.xe s
def AL{M:Model}{A:Ar}{E:VP}{s:Sh}{b:Expr}{it:Ad}{u:Vl}{o:Obj}{n:String}{c:AV}{Q:Unit->Sh->Prop}(d:s.heap.get? it=some o)(e:o.cls=.type n)(f:o.data=.fields c)(g:["enumerate","zip","dict_itemiterator","dict_reverseitemiterator","odict_iterator","itertools.zip_longest","itertools.pairwise"].contains n=false) (a:Q ⟨⟩ s):wpAny M A (letOwnedTupleGo b (.ref it) u) Q E s:=by
  unfold letOwnedTupleGo;cases b<;>first
    |exact cF a
    |(cases u<;>first
        |exact cF a
        | (refine cr (wpAny_load d ?_)
           rw[e,f];show wpAny M A (if(["enumerate","zip","dict_itemiterator","dict_reverseitemiterator","odict_iterator","itertools.zip_longest","itertools.pairwise"].contains n&&c[0]? ==some (rawInt _))=true then _ else _) Q E s
           rw[wA (by intro h;rw[g,Bool.false_and]at h;cases h)];exact cF a))
def r3(K:P3)(a:Ad):It:=
 #[λi H=>∃b x,SqL K H a b/\b[i]?=some x,λi H x c=>c=H/\∀b,SqL K H a b->b[i]?=some x,λi H=>∃b,SqL K H a b/\b.length<=i]
def A8(K:P3)(a:Ad):It:=
 #[λi H=>∃b x,SqT K H a b/\b[i]?=some x,λi H x c=>c=H/\∀b,SqT K H a b->b[i]?=some x,λi H=>∃b,SqT K H a b/\b.length<=i]
def qc(lo:Int)(n:Nat):It:=#[λi _=>i<n,λi H x a=>a=H/\x=.int (lo+i),λi _=>n<=i]
def JR{P:Pg}{w:World}{K:P3}{O:Expr}(a it:Ad):Turn P w K O (r3 K a) [it] it (λi h=>h.IsListIter it a i) where
 mem:=by simp
 obj:=λi h st b f=>by
  have e:b=it:=by simpa using f
  subst e;obtain⟨o,e,c,d⟩:=st;exact#[o,e,λv z=>by rw[d]at z;cases z]
 keep:=λi h j st k=>st.at λo e=>k it (by simp) o e
 item:=by
  intro X n hw q L i M s N H E I l st r;subst n hw q;obtain⟨Q,x,m,t⟩:=r;obtain⟨y,A,p,T⟩:=I.list m;obtain⟨u,U,Y⟩:=A.get t;obtain⟨B,C,f2,D,G,J⟩:=l it (by simp);refine wpAny_pyNext_list_item st p.isList (x:=u) (by simpa using U) λj g sb=>?_;have I1:Inv X M N H {s with heap:=j}:=I.turned (t':=s.toks) (λb o f e=>(sb.2 b f).trans e) B C D G J;obtain⟨o,e,c,d⟩:=id g;exact#[u,zZ,AL (s:={s with heap:=j}) e c d (by decide) #[x,H,I1,Y,#[rfl,λys hy=>by rw[I.list_inj hy m];exact t],g,λb f=>(l b f).1]]
 done:=by
  intro X n hw q L i M s N H E I l st r;subst n hw q;obtain⟨Q,m,t⟩:=r;obtain⟨y,A,p,T⟩:=I.list m;obtain⟨B,C,f2,D,G,J⟩:=l it (by simp);have hl:=A.length;exact wpAny_pyNext_list_end (I.ok.hd L) st p.isList (by simp;lia) λj eb=>#[zZ,I.turned (t':=s.toks) (λb o f e=>eb b o f e) B C D G J]
 self:=λ_ _ _ _ _ st h=>wpAny_pyIter_listiter st h
def Jp{P:Pg}{w:World}{K:P3}{O:Expr}(a it:Ad):Turn P w K O (A8 K a) [it] it (λi h=>h.IsTupleIter it a i) where
 mem:=by simp
 obj:=λi h st b f=>by
  have e:b=it:=by simpa using f
  subst e;obtain⟨o,e,c,d⟩:=st;exact#[o,e,λv z=>by rw[d]at z;cases z]
 keep:=λi h l st k=>st.at λo e=>k it (by simp) o e
 item:=by
  intro X q hw r L i M s N H E I m st t;subst q hw r;obtain⟨Q,x,n,y⟩:=t;obtain⟨g,A,p,T⟩:=I.tuple n;obtain⟨u,U,Y⟩:=A.get y;obtain⟨B,C,f2,D,G,J⟩:=m it (by simp);refine wpAny_pyNext_tuple_item st (show s.heap.IsTuple a g.toArray from p) (x:=u) (by simpa using U) λl j sb=>?_;have I1:Inv X M N H {s with heap:=l}:=I.turned (t':=s.toks) (λb o f e=>(sb.2 b f).trans e) B C D G J;obtain⟨o,e,c,d⟩:=id j;exact#[u,zZ,AL (s:={s with heap:=l}) e c d (by decide) #[x,H,I1,Y,#[rfl,λys hy=>by rw[I.tuple_inj hy n];exact y],j,λb f=>(m b f).1]]
 done:=by
  intro X q hw r L i M s N H E I m st t;subst q hw r;obtain⟨Q,n,y⟩:=t;obtain⟨g,A,p,T⟩:=I.tuple n;obtain⟨B,C,f2,D,G,J⟩:=m it (by simp);have hl:=A.length;exact wpAny_pyNext_tuple_end (I.ok.hd L) st (show s.heap.IsTuple a g.toArray from p) (by simp;lia) λl eb=>#[zZ,I.turned (t':=s.toks) (λb o f e=>eb b o f e) B C D G J]
 self:=λ_ _ _ _ _ st h=>wpAny_pyIter_tupleiter st h
def K0{P:Pg}{w:World}{K:P3}{C:Expr}(it:Ad)(lo:Int)(n:Nat):Turn P w K C (qc lo n) [it] it (λi h=>IsRangeIter h it (lo+(i:Nat) * 1) ((n:Int)-(i:Nat)) 1) where
 mem:=by simp
 obj:=λi h st b a=>by
  have e:b=it:=by simpa using a
  subst e;exact#[_,st,λv z=>by
   have D:Data.fields _=Data.cell v:=z;cases D]
 keep:=λi h d st k=>k it (by simp) _ st
 item:=by
  intro X g hw j l i y s A H E I f st m;subst g hw j;obtain⟨p,q,G,r,u,x⟩:=f it (by simp);have W:=Walks.range (prog:=X.prog) (w:=X.w) (I.ok.hd l) it lo 1 n;refine W.item i s _ _ m st λv d B J c L=>?_;obtain⟨t,rfl⟩:=J;have M:Inv X y A H {s with heap:=d,toks:=B}:=I.turned (λb o a e=>L b o (by simpa using a) e) p q r u x;refine#[_,zZ,AL (s:={s with heap:=d,toks:=B}) (n:="range_iterator") c rfl rfl (by decide) #[.int (lo+i),H,M,#[t,?_],#[rfl,rfl],c,λb a=>(f b a).1]];rw[Int.mul_one]
 done:=by
  intro X g hw j l i y s A H E I f st m;subst g hw j;obtain⟨p,q,G,r,u,x⟩:=f it (by simp);exact wpAny_pyNext_range_end (I.ok.hd l) st (by have:n<=i:=m;lia) λd N=>#[zZ,I.turned (t':=s.toks) (λb o a e=>N b o a e) p q r u x]
 self:=λ_ _ _ _ _ st h=>wpAny_pyIter_rangeiter st h
section
variable{X:Cx}{c:Expr}
def HK(K:P3)(tl:TE):TI:=λc H R=>tl c H λx b=>∃a,x=.ref a/\(∃d,SqL K b a d)/\R (r3 K a) b
def D1(K:P3)(tl:TE):TI:=λc H R=>tl c H λx b=>∃a,x=.ref a/\(∃d,SqT K b a d)/\R (A8 K a) b
def gF{l:Expr}{tl:TE}(g:PE X l tl):PI X c l (HK X.K tl):=by
 intro i s j H R I h;refine cS (g i s j H _ I h) λv d ⟨x,k,f,m,n⟩=>?_;obtain⟨a,e,⟨w,r⟩,q⟩:=n;subst e;cases m;obtain⟨t,y,p,z⟩:=f.list r;refine yu p.isList ?_;refine#[d.heap.objs.size,[d.heap.objs.size],_,_,k,zZ,f.kept (t':=d.toks) λb o e=>dC _ e,JR a _,#[_,fq _ zZ,zZ,zZ],λb u=>?_,q];have e:b=d.heap.objs.size:=by simpa using u
 subst e;exact f.fpOk (cQ _) (f.hok.fresh (cQ _))
def xO{l:Expr}{tl:TE}(i:PE X l tl):PI X c l (D1 X.K tl):=by
 intro j s k H R I h;refine cS (i j s k H _ I h) λv d ⟨x,m,f,n,r⟩=>?_;obtain⟨a,e,⟨w,t⟩,q⟩:=r;subst e;cases n;obtain⟨g,y,p,z⟩:=f.tuple t;refine wpAny_pyIter_tuple (show d.heap.IsTuple a g.toArray from p) ?_;refine#[d.heap.objs.size,[d.heap.objs.size],_,_,m,zZ,f.kept (t':=d.toks) λb o e=>dC _ e,Jp a _,#[_,fq _ zZ,zZ,zZ],λb u=>?_,q];have e:b=d.heap.objs.size:=by simpa using u
 subst e;exact f.fpOk (cQ _) (f.hok.fresh (cQ _))
def MY{d:AO}{f:St}{H:Hp}{s:Sh}{R:It->Hp->Prop}{E:VP}{lo a:Int}{t u v:Tok}{g:Nat}(I:Inv X d f H s)(i: -(2 ^ 62)<=lo)(j:lo<2 ^ 62)(k: -(2 ^ 62)<=a)(l:a<2 ^ 62)(q:R (qc lo (a-lo).toNat) H):wpAny (model X.prog X.w) X.A (pyIter (.ref s.heap.objs.size)) (Er X d f c R) E {s with heap:=s.heap.push {cls:= .type "range",data:= .fields #v[.int lo t,.int a u,.int 1 v]},toks:=g}:=by
 refine wpAny_pyIter_range (IsRange.new ..) (small_one i j k l) ?_;have h:Inv X d f H {s with heap:=s.heap.push {cls:= .type "range",data:= .fields #v[.int lo t,.int a u,.int 1 v]},toks:=g}:=I.kept λb o e=>dC _ e;refine#[(s.heap.push {cls:= .type "range",data:= .fields #v[.int lo t,.int a u,.int 1 v]}).objs.size,[(s.heap.push {cls:= .type "range",data:= .fields #v[.int lo t,.int a u,.int 1 v]}).objs.size],_,_,H,zZ,
  h.kept (t':=g) λb o e=>dC _ e,K0 _ lo (a-lo).toNat,?_,λb m=>?_,q]
 .have n:lo+((0:Nat):Int) * 1=lo:=by simp
  have p:(((a-lo).toNat:Nat):Int)-((0:Nat):Int)=Builtin.Range.rangeSize lo a 1:=by rw[rangeSize_one];split<;>lia
  show IsRangeIter _ _ (lo+((0:Nat):Int) * 1) ((((a-lo).toNat:Nat):Int)-((0:Nat):Int)) 1;rw[n,p];exact fq _ rfl
 .have e:b=(s.heap.push {cls:= .type "range",data:= .fields #v[.int lo t,.int a u,.int 1 v]}).objs.size:=by simpa using m
  subst e;exact h.fpOk (cQ _) (h.hok.fresh (cQ _))
def IV(a:TA):TI:=λb H R=>a b H λc d=>∃j:Int,c=[.int j]/\ -(2 ^ 62)<=j/\j<2 ^ 62/\R (qc 0 j.toNat) d
def lA{a:Expr}{f:TA}{p b:Pos}(g:Gl X "range")(i:X.mg "range"=none)(k:PA X [a] f)(l:starEach [a] X.env=[(false,eval a X.env)]:=by rfl):PI X c (.Call (.Name "range" p) [a] [] b) (IV f):=by
 intro m s n H R I h;refine Call_ (u8 I g i boot_range (Dh (cS (k b m s n H _ I h) λx y ⟨z,A,o,u,d⟩=>?_) l zZ));obtain⟨j,e,d,v,q⟩:=d;subst e;cases u with
 |cons r w=>
  cases w;obtain⟨t,rfl⟩:=r;exact call_range_1 (MY o () () d v (by simpa using q))
def ua(f:TI)(g:TG)(h:TS):TS:=λD a H=>f a H λJ j=>∃W:Nat->Nat->St->Hp->Prop,(∃m,W 0 m a j)/\∀i m a H,W i m a H->
 (J.stop i H/\D.nx a H)\/(J.go i H/\∃N:St->Hp->Prop,(∀b c,N b c->∃e,e<m/\W (i+1) e b c)/\∀x c,J.yld i H x c->g x a c λd k=>h {D with nx:=N,ct:=N,bk:=D.nx} d k)
def xD(a:As)(h:Heap):AO:=a.filterMap λb=>(h.get? b).map λo=>(b,o)
def y7{a:As}{h:Heap}{b:Ad}{o:Obj}(c:b∈a)(e:h.get? b=some o):(b,o)∈xD a h:=EK.mpr #[b,c,by rw[e];rfl]
def NF{a:As}{h:Heap}{p:Ad×Obj}(c:p∈xD a h):p.1∈a/\h.get? p.1=some p.2:=by
 obtain⟨b,d,e⟩:=EK.mp c;cases q:h.get? b with
 |none=>rw[q]at e;cases e
 |some o=>
  rw[q]at e;have f:(b,o)=p:=gY e;subst f;exact#[d,q]
def Inv.pinned{a:AO}{f:St}{H:Hp}{s:Sh}{c:As}(I:Inv X a f H s)(i:∀b∈c,FpOk X a H b)(j:∀b∈c,∃o,s.heap.get? b=some o/\∀v,o.data≠ .cell v):Inv X (a++xD c s.heap) f H s:=
 I.pins_of λp k=>(dh.mp k).elim (λz=>I.pin p (gf _ z)) λz=>by
  obtain⟨g,e⟩:=NF z;obtain⟨l,m,n,_⟩:=i p.1 g;obtain⟨o,h,d⟩:=j p.1 g;rw[e]at h;cases h;exact#[e,l,m,n,d]
def Inv.unpinned{a c:AO}{b:St}{H:Hp}{s:Sh}(I:Inv X (a++c) b H s):Inv X a b H s:=I.pins_of λp d=>I.pin p (gf _ (py _ d))
def iG{j:Expr}{z:List Stmt}{wi:TI}{g:TG}{tb:TS}{Y:Pos}(E:PassesOwn (model X.prog X.w) X.A X.env X.xe)(hc:X.calm=true)(hi:PI X c j wi)(hg:PG X c g)(k:PSs X z tb)(hs:∀x,foldedSetIterable j X.env x=pure x:=by intro _;rfl):PS X (.For c j z [] Y) (ua wi g tb):=by
 intro B s σ H D I h;refine wpAny_For (cS (hi B s σ H _ I h) λv s1 h1=>cS h1 λag s2 h2=>?_) hs;obtain⟨it,G,tn,J,H2,e,I2,T,aa,f2,W,⟨m0,w0⟩,L⟩:=h2;subst e;have l:∀{y:Hp},(∀b∈G,y b=none)->∀b∈G,FpOk X B y b:=λhn b k=>#[hn b k,(f2 b k).2];refine codeAny_forLoop_any (λn s'=>∃i p y,Inv X B p y s'/\tn i s'.heap/\(∀b∈G,y b=none)/\W i n p y) ?_ m0 #[0,σ,H2,I2,aa,λb k=>(f2 b k).1,w0];rintro n s3 ⟨i,q,U,I3,M,O,w3⟩
 rcases L i n q U w3 with⟨stop,qn⟩|⟨go,N,hN,step⟩
 .refine sr E (cS (T.done X zZ zZ zZ hc i B s3 q U X.xe I3 (l O) M stop) λr s4 ⟨hr,I4⟩=>?_);subst hr;exact sh #[q,U,I4,qn]
 .refine sr E (cS (T.item X zZ zZ zZ hc i B s3 q U X.xe I3 (l O) M go) λr s4 ⟨u,hr,h4⟩=>?_);subst hr;refine sr E (cS h4 λ_ s5 ⟨x,H5,I5,r5,y5,C,ab⟩=>?_);have ae:=I5.pinned (l ab) (T.obj _ _ C);refine sr E (cS (hg _ s5 q H5 x u _ ae r5 (step x H5 y5)) λ_ s6 ⟨af,H6,I6,q6⟩=>?_);refine sr E (cS (k _ s6 af H6 _ I6 q6) λf s7 A=>?_);have again:∀{a:St} {t:Hp},Inv X (B++xD G s5.heap) a t s7->N a t->∃m,m<n/\∃i p y,Inv X B p y s7/\tn i s7.heap/\(∀b∈G,y b=none)/\W i m p y:=λ{a t} w Q=>by
   obtain⟨m',hm,w7⟩:=hN a t Q;refine#[m',hm,i+1,a,t,w.unpinned,T.keep _ _ _ C λb k o e=>(w.pin (b,o) (gf _ (gf _ (y7 k e)))).1,λb k=>?_,w7];obtain⟨o,e,d⟩:=T.obj _ _ C b k;exact(w.pin (b,o) (gf _ (gf _ (y7 k e)))).2.1
  cases f with
  |next=>obtain⟨a,t,w,Q⟩:=A;exact again w Q
  |cont=>obtain⟨a,t,w,Q⟩:=A;exact again w Q
  |brk=>obtain⟨a,t,w,A⟩:=A;exact#[a,t,w.unpinned,A]
  |ret v=>obtain⟨x7,a,t,w,r7,A⟩:=A;exact#[x7,a,t,w.unpinned,r7,A]
end
def yf{K:P3}{a:Ad}{xs:List V}{g:TG}{k:TS}{D:Ends}{b:St}{H:Hp}(Pv:Nat->St->Hp->Prop)(n:Pv 0 b H)(o:∀i b H,i<=xs.length->Pv i b H->SqL K H a xs)(r:∀i x b H,xs[i]?=some x->Pv i b H->g x b H λc j=>k {D with nx:=Pv (i+1),ct:=Pv (i+1),bk:=D.nx} c j) (s:∀b H,Pv xs.length b H->D.nx b H):
  ∃W:Nat->Nat->St->Hp->Prop,(∃m,W 0 m b H)/\∀i m b H,W i m b H->
   ((r3 K a).stop i H/\D.nx b H)\/((r3 K a).go i H/\∃N:St->Hp->Prop,(∀d f,N d f->∃l,l<m/\W (i+1) l d f)/\∀x f,(r3 K a).yld i H x f->g x b f λc j=>k {D with nx:=N,ct:=N,bk:=D.nx} c j):=by
 refine#[λi m b H=>m=xs.length-i/\i<=xs.length/\Pv i b H,#[xs.length,by simp,Nat.zero_le _,n],?_];rintro i m b H ⟨rfl,t,p⟩;have q:=o i b H t p;by_cases h:i<xs.length
 .refine .inr #[#[xs,xs[i],q,by simp[h]],Pv (i+1),λd f u=>#[xs.length-(i+1),Nat.sub_succ_lt_self _ _ h,zZ,h,u],λx f y=>?_];obtain⟨e,y⟩:=y;subst e;exact r i x b _ (y xs q) p
 .have e:i=xs.length:=by lia
  subst e;exact .inl #[#[xs,q,cQ _],s b H p]
def oX{lo:Int}{n:Nat}{g:TG}{j:TS}{D:Ends}{a:St}{H:Hp}(Pv:Nat->St->Hp->Prop)(l:Pv 0 a H)(o:∀i a H,i<n->Pv i a H->g (.int (lo+i)) a H λc h=>j {D with nx:=Pv (i+1),ct:=Pv (i+1),bk:=D.nx} c h) (q:∀a H,Pv n a H->D.nx a H):
  ∃W:Nat->Nat->St->Hp->Prop,(∃m,W 0 m a H)/\∀i m a H,W i m a H->
   ((qc lo n).stop i H/\D.nx a H)\/((qc lo n).go i H/\∃N:St->Hp->Prop,(∀d f,N d f->∃k,k<m/\W (i+1) k d f)/\∀x f,(qc lo n).yld i H x f->g x a f λc h=>j {D with nx:=N,ct:=N,bk:=D.nx} c h):=by
 refine#[λi m a H=>m=n-i/\i<=n/\Pv i a H,#[n,by simp,Nat.zero_le _,l],?_];rintro i m a H ⟨rfl,s,p⟩;by_cases b:i<n
 .refine .inr #[b,Pv (i+1),λd f r=>#[n-(i+1),Nat.sub_succ_lt_self _ _ b,zZ,b,r],λx f y=>?_];obtain⟨e,y⟩:=y;subst e y;exact o i a _ b p
 .have e:i=n:=by lia
  subst e;exact .inl #[cQ _,q a H p]
abbrev R2:=V->V->Hp->VK->Prop
def OpR(X:Cx)(f:Vl->Vl->Sem Vl)(r:R2):Prop:=
 ∀(a:AO) (s:Sh) (b:St) (H:Hp) (x y:V) (v u:Vl) (Q:VK),Inv X a b H s->RelV x v->RelV y u->r x y H Q->
  wpAny (model X.prog X.w) X.A (f v u) (EP X a b Q) X.xe s
def BB(X:Cx)(f:Vl->Sem Vl)(r:V->Hp->VK->Prop):Prop:=
 ∀(a:AO) (s:Sh) (b:St) (H:Hp) (x:V) (v:Vl) (Q:VK),Inv X a b H s->RelV x v->r x H Q->
  wpAny (model X.prog X.w) X.A (f v) (EP X a b Q) X.xe s
def CallR(X:Cx)(f:Vl)(r:List V->Hp->VK->Prop):Prop:=
 ∀(a:AO) (s:Sh) (b:St) (H:Hp) (c:List V) (d:Vs) (Q:VK),Inv X a b H s->Vals c d->r c H Q->
  wpAny (model X.prog X.w) X.A (call f d) (EP X a b Q) X.xe s
def C5(X:Cx)(r:V->Hp->(Bool->Hp->Prop)->Prop):Prop:=
 ∀(a:AO) (s:Sh) (b:St) (H:Hp) (x:V) (v:Vl) (Q:Bool->Hp->Prop),Inv X a b H s->RelV x v->r x H Q->
  wpAny (model X.prog X.w) X.A (truthy v) (TP X a b Q) X.xe s
def wq(r:R2)(b c:TE):TE:=λa H Q=>b a H λx d=>c a d λy e=>r x y e Q
def Js(r:V->Hp->VK->Prop)(a:TE):TE:=λb H Q=>a b H λx c=>r x c Q
inductive rI(C:Int->Int->Prop)(g:Int->Int->V)(x y:V)(H:Hp)(Q:VK):Prop|mk:∀i j,x=.int i->y=.int j->C i j->Q (g i j) H->rI C g x y H Q
inductive rf(g:Int->Int->V)(x y:V)(H:Hp)(Q:VK):Prop|mk:∀i j,x=.int i->y=.int j->Q (g i j) H->rf g x y H Q
inductive rU(g:Int->V)(x:V)(H:Hp)(Q:VK):Prop|mk:∀i,x=.int i->Q (g i) H->rU g x H Q
section
variable{X:Cx}{a b c:Expr}{d k l:TE}{e:Pos}
def tv(n:PE X a d)(o:PE X b k){j:AO}{s:Sh}{c:St}{H:Hp}{R:V->V->Hp->Prop}(I:Inv X j c H s)(h:d c H λx m=>k c m λy e=>R x y e) {Q:VP} {f:Vl->Vl->Sem Vl}(p:∀v u l x y e,Inv X j c e l->RelV x v->RelV y u->R x y e->wpAny (model X.prog X.w) X.A (f v u) Q X.xe l):
  wpAny (model X.prog X.w) X.A (eval a X.env) (λv g=>wpAny (model X.prog X.w) X.A (eval b X.env) (λu i=>wpAny (model X.prog X.w) X.A (f v u) Q X.xe i) X.xe g) X.xe s:=by
 refine cS (n j s c H _ I h) λv q ⟨x,m,r,t,w⟩=>?_;refine cS (o j q c m _ r w) λu l ⟨y,e,z,A,B⟩=>?_;exact p v u l x y e z t A B
def fE{c:Operator}{r:R2}(f:OpR X (binaryOp c) r)(g:PE X a d)(i:PE X b k):PE X (.BinOp a c b e) (wq r d k):=by
 intro j s l H Q I h;exact wpAny_BinOp (tv g i I h λv u m x y n o p t q=>f j m l n x y v u Q o p t q)
def Hr{b:UnaryOp}{r:V->Hp->VK->Prop}(g:BB X (unaryOp b) r)(i:PE X a d):PE X (.UnaryOp b a e) (Js r d):=by
 intro c s f H Q I h;exact UnaryOp_ (cS (i c s f H _ I h) λv j ⟨x,k,l,m,n⟩=>g c j f k x v Q l m n)
def BD{f:Vl->Vl->Sem Vl}{C:Int->Int->Prop}{g:Int->Int->Int}(rule:∀(i j:Int) (t u:Tok) (s:Sh) (Q:VP) (E:VP),C i j->Q (.int (g i j) s.toks) {s with toks:=s.toks+1}->wpAny (model X.prog X.w) X.A (f (.int i t) (.int j u)) Q E s):
  OpR X f (rI C λi j=> .int (g i j)):=by
 intro e s k H x y v u Q I a b h;obtain⟨i,j,rfl,rfl,c,q⟩:=h;obtain⟨t,rfl⟩:=a;obtain⟨d,rfl⟩:=b;exact rule i j t d s _ _ c #[.int (g i j),H,I.tok _,#[_,zZ],q]
def xZ{f:Vl->Vl->Sem Vl}{g:Int->Int->Int}(rule:∀(i j:Int) (t u:Tok) (s:Sh) (Q:VP) (E:VP),Q (.int (g i j) s.toks) {s with toks:=s.toks+1}->wpAny (model X.prog X.w) X.A (f (.int i t) (.int j u)) Q E s):
  OpR X f (rf λi j=> .int (g i j)):=by
 intro d s e H x y v u Q I a b h;obtain⟨i,j,rfl,rfl,q⟩:=h;obtain⟨t,rfl⟩:=a;obtain⟨c,rfl⟩:=b;exact rule i j t c s _ _ #[.int (g i j),H,I.tok _,#[_,zZ],q]
def tr{f:Vl->Vl->Sem Vl}{g:Int->Int->Bool}(rule:∀(i j:Int) (t u:Tok) (s:Sh) (Q:VP) (E:VP),Q (.bool (g i j)) s->wpAny (model X.prog X.w) X.A (f (.int i t) (.int j u)) Q E s):
  OpR X f (rf λi j=> .bl (g i j)):=by
 intro d s e H x y v u Q I a b h;obtain⟨i,j,rfl,rfl,q⟩:=h;obtain⟨t,rfl⟩:=a;obtain⟨c,rfl⟩:=b;exact rule i j t c s _ _ #[.bl (g i j),H,I,zZ,q]
def DC(i j:Int):Prop:=0<j/\j<1073741824
def CMul(i j:Int):Prop:=(-(2 ^ 64)<i/\i<2 ^ 64)\/(-(2 ^ 64)<j/\j<2 ^ 64)
def CMul.ok{i j:Int}(h:CMul i j):IntMulOk i j:=by
 rcases h with⟨a,b⟩|⟨a,b⟩
 .exact .of_left (intBits_le_64 a b)
 .exact .of_right (intBits_le_64 a b)
def ss:OpR X (binaryOp .Add) (rf λi j=> .int (i+j)):=xZ λ_ _ _ _ _ _ _ q=>add_int q
def O5:OpR X (binaryOp .Sub) (rf λi j=> .int (i-j)):=xZ λ_ _ _ _ _ _ _ q=>sub_int q
def KL:OpR X (binaryOp .Mult) (rI CMul λi j=> .int (i * j)):=BD λ_ _ _ _ _ _ _ a q=>mul_int q a.ok
def wD:OpR X (binaryOp .FloorDiv) (rI DC λi j=> .int (i/j)):=BD λi j _ _ _ _ _ a q=>by
 have b:(0:Int)<j:=a.1;have c:j<1073741824:=a.2;exact floordiv_int () (by rw[Int.fdiv_eq_ediv_of_nonneg i ()];exact q) (.inl (PyProof.noPylong_small ()))
def me:OpR X (binaryOp .Mod) (rI (λ_ j=>0<j) λi j=> .int (i%j)):=BD λi j _ _ _ _ _ a q=>by
 have b:(0:Int)<j:=a;exact mod_int' () (by rw[Int.fmod_eq_emod_of_nonneg i ()];exact q)
def LX{f:Vl->Sem Vl}{g:Int->Int}(rule:∀(i:Int) (t:Tok) (s:Sh) (Q:VP) (E:VP),Q (.int (g i) s.toks) {s with toks:=s.toks+1}->wpAny (model X.prog X.w) X.A (f (.int i t)) Q E s):
  BB X f (rU λi=> .int (g i)):=by
 intro b s c H x v Q I a h;obtain⟨i,rfl,q⟩:=h;obtain⟨t,rfl⟩:=a;exact rule i t s _ _ #[.int (g i),H,I.tok _,#[_,zZ],q]
def IQ:BB X (unaryOp .USub) (rU λi=> .int (-i)):=LX λ_ _ _ _ _ q=>neg_int q
end
def x9:V->V->Bool
 |.non,.non=>true|.non,.int _=>true|.int _,.non=>true|.non,.bl _=>true|.bl _,.non=>true|.non,.str _=>true|.str _,.non=>true
 |.int _,.int _=>true|.bl _,.bl _=>true|.str _,.str _=>true|.byt _,.byt _=>true
 |.int _,.str _=>true|.str _,.int _=>true|.bl _,.str _=>true|.str _,.bl _=>true
 |_,_=>false
def KY:R2:=λx y H Q=>x9 x y=true/\Q (.bl (decide (x=y))) H
def PP:R2:=λx y H Q=>x9 x y=true/\Q (.bl (!decide (x=y))) H
def IS{i j:Int}:decide (V.int i=V.int j)=(i==j):=by
 rw[kh];simp
def HJ{i j:Bool}:decide (V.bl i=V.bl j)=(i==j):=by
 rw[kh];simp
def GJ{i j:Str}:decide (V.str i=V.str j)=(i==j):=by
 rw[kh];simp
def E'{i j:Array UInt8}:decide (V.byt i=V.byt j)=(i.toList==j.toList):=by
 rw[kh];cases i;cases j;simp
section
variable{X:Cx}{a b c:Expr}{d g l:TE}{f:Pos}
def fK{a:AO}{b:St}{H:Hp}{s:Sh}{Q:VK}{k c:Bool}(I:Inv X a b H s)(q:Q (.bl k) H)(e:k=c):EP X a b Q (.bool c) s:=by
 subst e;exact#[.bl k,H,I,zZ,q]
def vt:OpR X (compareOp .Eq) KY:=by
 intro e s f H x y v u Q I d a h;obtain⟨c,q⟩:=h;cases x with
 |non=>
  cases d;cases y with
  |non=>cases a;exact PySem.EqNone.eq_none_none (fK I q (by simp))
  |bl j=>cases a;exact PySem.EqNone.eq_none_bool (fK I q (by simp))
  |int j=>obtain⟨b,rfl⟩:=a;exact PySem.EqNone.eq_none_int (fK I q (by simp))
  |str j=>obtain⟨b,rfl⟩:=a;exact PySem.EqNone.eq_none_str (fK I q (by simp))
  |_=>exact wC (show false=true from c) gC
 |bl i=>
  cases d;cases y with
  |non=>cases a;exact PySem.EqNone.eq_bool_none (fK I q (by simp))
  |bl j=>cases a;exact eq_bool (fK I q HJ)
  |str j=>obtain⟨b,rfl⟩:=a;exact PySem.EqMixed.eq_bool_str (fK I q (by simp))
  |_=>exact wC (show false=true from c) gC
 |int i=>
  obtain⟨t,rfl⟩:=d;cases y with
  |non=>cases a;exact PySem.EqNone.eq_int_none (fK I q (by simp))
  |int j=>obtain⟨b,rfl⟩:=a;exact eq_int (fK I q IS)
  |str j=>obtain⟨b,rfl⟩:=a;exact PySem.EqMixed.eq_int_str (fK I q (by simp))
  |_=>exact wC (show false=true from c) gC
 |str i=>
  obtain⟨t,rfl⟩:=d;cases y with
  |non=>cases a;exact PySem.EqNone.eq_str_none (fK I q (by simp))
  |bl j=>cases a;exact PySem.EqMixed.eq_str_bool (fK I q (by simp))
  |int j=>obtain⟨b,rfl⟩:=a;exact PySem.EqMixed.eq_str_int (fK I q (by simp))
  |str j=>obtain⟨b,rfl⟩:=a;exact eq_str (fK I q GJ)
  |_=>exact wC (show false=true from c) gC
 |byt i=>
  obtain⟨t,rfl⟩:=d;cases y with
  |byt j=>obtain⟨b,rfl⟩:=a;exact PySem.W.eq_bytes (fK I q E')
  |_=>exact wC (show false=true from c) gC
 |_=>cases y<;>exact wC (show false=true from c) gC
def Bf:OpR X (compareOp .NotEq) PP:=by
 intro e s f H x y v u Q I d a h;obtain⟨c,q⟩:=h;cases x with
 |non=>
  cases d;cases y with
  |non=>cases a;exact PySem.EqNone.ne_none_none (fK I q (by simp))
  |bl j=>cases a;exact PySem.EqNone.ne_none_bool (fK I q (by simp))
  |int j=>obtain⟨b,rfl⟩:=a;exact PySem.EqNone.ne_none_int (fK I q (by simp))
  |str j=>obtain⟨b,rfl⟩:=a;exact PySem.EqNone.ne_none_str (fK I q (by simp))
  |_=>exact wC (show false=true from c) gC
 |bl i=>
  cases d;cases y with
  |non=>cases a;exact PySem.EqNone.ne_bool_none (fK I q (by simp))
  |bl j=>cases a;exact ne_bool (fK I q (dw not HJ))
  |str j=>obtain⟨b,rfl⟩:=a;exact PySem.EqMixed.ne_bool_str (fK I q (by simp))
  |_=>exact wC (show false=true from c) gC
 |int i=>
  obtain⟨t,rfl⟩:=d;cases y with
  |non=>cases a;exact PySem.EqNone.ne_int_none (fK I q (by simp))
  |int j=>obtain⟨b,rfl⟩:=a;exact ne_int (fK I q (dw not IS))
  |str j=>obtain⟨b,rfl⟩:=a;exact PySem.EqMixed.ne_int_str (fK I q (by simp))
  |_=>exact wC (show false=true from c) gC
 |str i=>
  obtain⟨t,rfl⟩:=d;cases y with
  |non=>cases a;exact PySem.EqNone.ne_str_none (fK I q (by simp))
  |bl j=>cases a;exact PySem.EqMixed.ne_str_bool (fK I q (by simp))
  |int j=>obtain⟨b,rfl⟩:=a;exact PySem.EqMixed.ne_str_int (fK I q (by simp))
  |str j=>obtain⟨b,rfl⟩:=a;exact ne_str (fK I q (dw not GJ))
  |_=>exact wC (show false=true from c) gC
 |byt i=>
  obtain⟨t,rfl⟩:=d;cases y with
  |byt j=>obtain⟨b,rfl⟩:=a;exact PySem.W.ne_bytes (fK I q (dw not E'))
  |_=>exact wC (show false=true from c) gC
 |_=>cases y<;>exact wC (show false=true from c) gC
def DO:OpR X (compareOp .Lt) (rf λi j=> .bl (decide (i<j))):=tr λ_ _ _ _ _ _ _ q=>lt_int q
def yg:OpR X (compareOp .LtE) (rf λi j=> .bl (decide (i<=j))):=tr λ_ _ _ _ _ _ _ q=>le_int q
def yM:OpR X (compareOp .Gt) (rf λi j=> .bl (decide (j<i))):=tr λ_ _ _ _ _ _ _ q=>gt_int q
def OI:OpR X (compareOp .Is) (λx y H Q=>y=.non/\Q (.bl (decide (x=.non))) H):=by
 intro c s d H x y v u Q I a b h;obtain⟨rfl,q⟩:=h;cases b;refine is_none_gen (fK I q ?_);cases x<;>first
  |(cases a;rfl)
  |(obtain⟨t,rfl⟩:=a;rfl)
def BQ:OpR X (compareOp .IsNot) (λx y H Q=>y=.non/\Q (.bl (!decide (x=.non))) H):=by
 intro c s d H x y v u Q I a b h;obtain⟨rfl,q⟩:=h;cases b;refine isnot_none_gen (fK I q ?_);cases x<;>first
  |(cases a;rfl)
  |(obtain⟨t,rfl⟩:=a;rfl)
def eY(b:Expr){a:CmpOp}(h:a≠ .In:=by decide)(c:a≠ .NotIn:=by decide):behindInMarks a b=false:=by
 have d:(a==CmpOp.In)=false:=by cases a<;>first|rfl|exact wC zZ h
 have e:(a==CmpOp.NotIn)=false:=by cases a<;>first|rfl|exact wC zZ c
 cases b<;>simp[behindInMarks,d,e]
def l8{c:CmpOp}{r:R2}(e:OpR X (compareOp c) r)(i:PE X a d)(j:PE X b g)(k:behindInMarks c b=false):PE X (.Compare a [c] [b] f) (wq r d g):=by
 intro l s m H Q I h;exact wpAny_Compare1 (tv i j I h λv u n x y o p t w q=>e l n m o x y v u Q p t w q) k
def ye(t:TE):TT:=λa H Q=>t a H λx b=>∃k,x=.bl k/\Q k b
def gn{i:CmpOp}{r:R2}(m:OpR X (compareOp i) r)(n:PE X a d)(o:PE X b g)(p:behindInMarks i b=false):PT X (.Compare a [i] [b] f) (ye (wq r d g)):=by
 intro j s l H Q I h;refine wpAny_isTrue_Compare1 (cS (n j s l H _ I h) λv q ⟨x,t,w,A,B⟩=>cS (o j q l t _ w B) λu C ⟨y,D,E,G,J⟩=>
  cS (m j C l D x y v u _ E A G J) λc T ⟨z,L,M,N,k,e,O⟩=>?_) p
 subst e;cases N;exact tq #[L,M,O]
def sv(K:P3)(x:V)(H:Hp)(k:Bool):Prop:=
 match x with
 |.non=>k=false
 |.bl b=>k=b
 |.int i=>k=(i != 0)
 |.str y=>y.length<=sizeLine/\k=((y.length:Int) != 0)
 |.byt y=>y.size<=sizeLine/\k=((y.size:Int) != 0)
 |.ref p=>(∃a,SqL K H p a/\k= !a.isEmpty)\/(∃a,SqT K H p a/\k= !a.isEmpty)\/∃c,H p=some (.dK c)/\k= !c.isEmpty
 |_=>False
def JL{b:Type}{a:List (b×V)}{c:List (b×Vl)}(r:KV a c):(!c.isEmpty)= !a.isEmpty:=by
 cases r<;>rfl
def Gh{b:List V}{a:Vs}(r:Vals b a):(!a.toArray.isEmpty)= !b.isEmpty:=by
 cases r<;>simp
def xf:(sizeLine:Nat)<2 ^ 63:=by rw[dA];decide
def Kg:C5 X (λx H Q=>∃k,sv X.K x H k/\Q k H):=by
 intro A s B H x v Q I g h;obtain⟨k,e,q⟩:=h;have C:=xf;have D:sizeLine=16777216:=dA;cases x with
 |non=>
  cases g;have a:k=false:=e;subst a;exact truthy_none #[H,I,q]
 |bl b=>
  cases g;have a:k=b:=e;subst a;exact tq #[H,I,q]
 |int i=>
  obtain⟨t,rfl⟩:=g;have a:k=(i != 0):=e;subst a;exact PySem.P.truthy_int #[H,I,q]
 |str y=>
  obtain⟨t,rfl⟩:=g;obtain⟨w,a⟩:y.length<=sizeLine/\k=((y.length:Int) != 0):=e;subst a;exact PySem.P.truthy_str () #[H,I.tok _,q]
 |byt y=>
  obtain⟨t,rfl⟩:=g;obtain⟨w,a⟩:y.size<=sizeLine/\k=((y.size:Int) != 0):=e;subst a;exact PySem.W.truthy_bytes () #[H,I.tok _,q]
 | ref p=>
  cases g;have a:(∃f,SqL X.K H p f/\k= !f.isEmpty)\/(∃f,SqT X.K H p f/\k= !f.isEmpty)\/∃c,H p=some (.dK c)/\k= !c.isEmpty:=e
  rcases a with⟨f,j,a⟩|⟨f,j,a⟩|⟨c,j,a⟩
  .subst a;obtain⟨n,r,o,u⟩:=I.list j;have d:=r.length;exact wpAny_truthy_list o.isList (by simp only[List.size_toArray];lia) #[H,I.tok _,by rw[Gh r];exact q]
  .subst a;obtain⟨n,r,o,u⟩:=I.tuple j;have d:=r.length;exact truthy_tuple o (by simp only[List.size_toArray];lia) #[H,I.tok _,by rw[Gh r];exact q]
  .subst a;obtain⟨u,z,l,r,m⟩:c.length<=sizeLine/\(p==sysModules)=false/\∃l,KV c l/\s.heap.DictOf (lO X.prog X.w) p l:=I.hok p _ j;have d:c.length=l.length:=pq r;exact wpAny_truthy_dict z m () #[H,I.tok _,by rw[JL r];exact q]
 |_=>exact(show False from e).elim
def Ap(g:PE X a d)(i:∀b,isTrue a X.env b=(do let v <-b;standAt a.pos;holding [v] (truthy v))):
  PT X a (λc H Q=>d c H λx e=>∃k,sv X.K x e k/\Q k e):=by
 intro f s c H Q I h;exact isTrue_plain (cS (g f s c H _ I h) λv j ⟨x,l,m,n,o⟩=>Kg f j c l x v Q m n o) (i _)
def jv{x:V}{a:Vs}(r:Vals [x] a):∃u,a=[u]/\RelV x u:=by
 cases r with
 |cons b c=>cases c;exact#[_,zZ,b]
def IC{x y:V}{a:Vs}(r:Vals [x,y] a):∃u b,a=[u,b]/\RelV x u/\RelV y b:=by
 cases r with
 |cons c d=>
  cases d with
  |cons e f=>cases f;exact#[_,_,zZ,c,e]
end
structure ObjM(h:Heap)(x dx C:Ad)(mA:SV):Prop where
 obj:h.get? x=some (PySem.W.instObj C dx)
 ns:h.Ns1 dx mA
 ne:dx≠x
def Jd{h:Heap}{c:Ad}{d:SV}(n:h.Ns1 c d):∃f,h.get? c=some f/\∀name,PySem.W.lookIn name f=some (d name):=by
 obtain⟨o,g,r,i,j,k,_,l⟩:=n;refine#[o,i,λname=>?_];have e:=l name;unfold nsFind findBy at e;rw[<-Array.find?_toList]at e;unfold PySem.W.lookIn;rw[j];dsimp only;split
 .rename_i y q
  rw[q]at e;exact dw some e
 .rename_i q
  rw[q]at e;have a:g.toList.any (·.refKey)=false:=by
   rw[List.any_eq_false];intro y m;obtain⟨z,t,b⟩:=k y (Ce.mp m);simp[DictEntry.refKey,b]
  have p: ¬g.toList.any (·.refKey)=true:=by rw[a];exact gC
  rw[wA p];exact dw some e
def ObjM.look{h:Heap}{x b C:Ad}{c:SV}(I:ObjM h x b C c):∃a,PySem.W.InstAt h x (PySem.W.instObj C b) C (some a)/\∀name,PySem.W.lookIn name a=some (c name):=
 let⟨a,d,e⟩:=Jd I.ns
 #[a,#[I.obj,zZ,zZ,d],e]
section
variable{c:Pg}{w:World}{A:Ar}{E:VP}{s:Sh}{K:P3}{x i C f:Ad}{e:SV}{name:Str}{v:Vl}
def O0{a:Bool}{Q:VP}(X:K.In s.heap)(I:ObjM s.heap x i C e)(d:PySem.W.plainGet K C name=true)(f:PySem.W.hasDictIn K C=true)(g:PySem.W.findIn K (.ref C) name=some none) (j:e name=some v) (b:PySem.W.handedIn v=true) (h:Q v {s with toks:=s.toks+1}):
  wpAny (model c w) A (getAttr (.ref x) name a) Q E s:=by
 obtain⟨l,J,k⟩:=I.look;exact PySem.W.get_value X J (BC d).1 (PySem.W.findObj_own f g zZ (by rw[k,j])) b h
def MA{b:Sem Bool}{Q:Vl×Vs->Sh->Prop}(X:K.In s.heap)(I:ObjM s.heap x i C e)(a:PySem.W.plainGet K C name=true)(d:PySem.W.findIn K (.ref C) name=some (some (.ref f))) (ht:PySem.W.isFn K (.ref f)=true) (g:e name=none) (h:Q (.ref f,[.ref x]) s):
  wpAny (model c w) A (getMethod (.ref x) name b) Q E s:=by
 obtain⟨j,J,k⟩:=I.look;exact PySem.W.method_fn X J (BC a).1 (BC a).2 d (pk.mp ht) (by show(PySem.W.lookIn name j).map (·.isSome)=some false;rw[k,g];rfl) h
def Mo{n:Ss}{Q:Unit->Sh->Prop}(X:K.In s.heap)(I:ObjM s.heap x i C e)(o:PySem.W.findIn K (.ref C) "__setattr__"=some (some (.builtin "object.__setattr__"))) (p:PySem.W.plainOver K C=true) (ht:PySem.W.takerIn K C name=some none) (q:PySem.W.hasDictIn K C=true)(hw:PySem.Within e n) (t:n.length<=sizeLine)(h:∀g,ObjM g x i C (λy=>if y=name then some v else e y)->Heap.SameBut i s.heap g->Q ⟨⟩ {s with heap:=g,toks:=s.toks+2}):
  wpAny (model c w) A (setAttr (.ref x) name v) Q E s:=by
 obtain⟨G,J,H⟩:=I.look;refine PySem.W.set_plain X J o (PySem.W.osa_open (s:={s with toks:=s.toks+1}) (r:=none) X J p ht λb=>?_);obtain⟨L,u,j⟩:=PySem.W.any_some q;have z:s.heap.get? x=some #[.ref C,some i,.plain,#v[]]:=I.obj;refine cr (cF (cr (cr (wpAny_loadPart z (cr (PySem.W.Looks.here (s:={s with toks:=s.toks+1}) (PySem.W.looks_clsIn X u) ?_))))));rw[j];refine cF (a:=some i) (cr (cF (cr ?_)));refine wpAny_nsSet1 (s:={s with toks:=s.toks+1}) I.ns λg d f=>?_;obtain⟨M,B,D,k,l,m⟩:=d.count (PySem.Within.cons name v hw);refine cr (wpAny_lookBehind k (by rw[l];exact pastItsLine_dict (dy m (by rw[jz];lia))) ?_);exact cF (h _ #[(f.2 _ (eJ I.ne)).trans I.obj,d,I.ne] f)
def Ja{R:Result->Sh->Prop}{a:Vs}{b:List (Str×Vl)}(X:K.In s.heap)(e:PySem.W.makesIn K C=true)(i:PySem.W.findIn K (.ref C) "__init__"=some (some (.ref f))) (j:PySem.W.typeIn K (.ref f)=some (.type "function"))(h:codeAny (model c w) (A.under (.builtin "type.__call__" #[.ref C::a,b])) (.call (.ref f) #[.ref (s.heap.objs.size+1)::a,b]) (PySem.W.InitBack (s.heap.objs.size+1) R) {s with heap:=(s.heap.push PySem.W.emptyDict).push (PySem.W.instObj C s.heap.objs.size)}):
    codeAny (model c w) A (.call (.ref C) #[a,b]) R s:=by
  obtain⟨k,g,d,t,os⟩:=s;exact PySem.W.make_core (PySem.W.makes_of X e) (PySem.W.looks_findIn X i) (λself=>PySem.W.bind_fn X self j) (.inl zZ) h
end
def dU(f:Str)(v:V):List (Str×V)->List (Str×V)
 | []=>[(f,v)]
 |(g,x)::r=>if g=f then(g,v)::r else(g,x)::dU f v r
theorem GX(f g:Str)(v:V):∀fs:List (Str×V),(dU f v fs).lookup g=if g=f then some v else fs.lookup g
 | []=>by
  show List.lookup g [(f,v)]=_;by_cases h:g=f
  .have a:(g==f)=true:=pk.mpr h;simp only[List.lookup,a,wB h]
  .have a:(g==f)=false:=oh.mpr h;simp only[List.lookup,a,wA h]
 | (k,x)::r=>by
  have c:=GX f g v r;rw[show dU f v ((k,x)::r)=(if k=f then(k,v)::r else(k,x)::dU f v r)from rfl];by_cases b:k=f
  .rw[wB b];by_cases h:g=k
   .have a:(g==k)=true:=pk.mpr h;simp only[List.lookup,a,wB (h.trans b)]
   .have a:(g==k)=false:=oh.mpr h;simp only[List.lookup,a,wA (λe:g=f=>h (e.trans b.symm))]
  .rw[wA b];by_cases h:g=k
   .have a:(g==k)=true:=pk.mpr h;simp only[List.lookup,a,wA (λe:g=f=>b (h.symm.trans e))]
   .have a:(g==k)=false:=oh.mpr h;simp only[List.lookup,a];exact c
theorem Dg(f:Str)(v:V):∀fs:List (Str×V),f∈(dU f v fs).map (·.1)/\∀g,g∈fs.map (·.1)->g∈(dU f v fs).map (·.1)
 | []=>#[by simp[dU],λg h=>by simp at h]
 | (k,x)::r=>by
  obtain⟨b,c⟩:=Dg f v r;rw[show dU f v ((k,x)::r)=(if k=f then(k,v)::r else(k,x)::dU f v r)from rfl];by_cases a:k=f
  .rw[wB a];subst a;exact#[by simp,λg h=>by simpa using h]
  .rw[wA a];refine#[?_,λg h=>?_]
   .rw[h9];exact eO _ b
   .rw[h9]at h|-
    rcases dL.mp h with e|e
    .exact dL.mpr (.inl e)
    .exact eO _ (c g e)
theorem F'(f:Str)(v:V):∀fs:List (Str×V),(dU f v fs).length<=fs.length+1
 | []=>by simp[dU]
 |(k,x)::r=>by
  have b:=F' f v r;rw[show dU f v ((k,x)::r)=(if k=f then(k,v)::r else(k,x)::dU f v r)from rfl];by_cases a:k=f
  .rw[wB a,jz,jz];lia
  .rw[wA a,jz,jz];lia
def RelO.some_of{v:V}{o:Option Vl}(r:RelO (some v) o):∃u,o=some u/\RelV v u:=by
 cases o with
 |none=>exact(show False from r).elim
 |some u=>exact#[u,zZ,r]
def RelO.none_of{o:Option Vl}(r:RelO none o):o=none:=by
 cases o with
 |none=>rfl
 |some u=>exact(show False from r).elim
def Pf{v:V}{u:Vl}(r:RelV v u):PySem.W.handedIn u=true:=by
 cases v with
 |non=>cases(show u=Value.none from r);rfl
 |bl b=>cases(show u=Value.bool b from r);rfl
 |int i=>obtain⟨t,e⟩:=(show ∃t,u=Value.int i t from r);cases e;rfl
 |str x=>obtain⟨t,e⟩:=(show ∃t,u=Value.str x t from r);cases e;rfl
 |byt b=>obtain⟨t,e⟩:=(show ∃t,u=Value.bytes b t from r);cases e;rfl
 |flt b=>obtain⟨t,e⟩:=(show ∃t,u=Value.float b t from r);cases e;rfl
 |ref a=>cases(show u=Value.ref a from r);rfl
 |ty n=>cases(show u=Value.type n from r);rfl
section
variable{P:Pg}{w:World}{H g:Hp}{h i:Heap}{a C b:Ad}{fs c:List (Str×V)}
def Bl(g:HOk P w H h)(e:H a=some (.ins C b fs)):∃c,ObjM h a b C c/\(∀f,RelO (fs.lookup f) (c f))/\PySem.Within c (fs.map (·.1))/\fs.length<=1000/\H b=some (.own a):=by
 obtain⟨d,z,ne,i,c,n,r,q⟩:=(show ObjOk P w H h a (.ins C b fs)from g a _ e);exact#[c,#[i,n,ne],r,q,z,d]
end
structure Cls(K:P3)(C:Ad):Prop where
 pg:PySem.W.plainGet K C Str.empty=true
 hd:PySem.W.hasDictIn K C=true
 po:PySem.W.plainOver K C=true
 sa:PySem.W.findIn K (.ref C) "__setattr__"=some (some (.builtin "object.__setattr__"))
def Cls.get{K:P3}{C:Ad}(c:Cls K C)(f:Str):PySem.W.plainGet K C f=true:=c.pg
def NoAttr(K:P3)(C:Ad)(f:Str):Prop:=PySem.W.findIn K (.ref C) f=some none
def NoAttr.taker{K:P3}{C:Ad}{f:Str}(n:NoAttr K C f):PySem.W.takerIn K C f=some none:=by
 unfold PySem.W.takerIn;rw[show PySem.W.findIn K (.ref C) f=some none from n];rfl
structure Meth(K:P3)(C:Ad)(m:Str)(f:Ad):Prop where
 at_:PySem.W.findIn K (.ref C) m=some (some (.ref f))
 fn:PySem.W.isFn K (.ref f)=true
 kp:PySem.W.keepIn K (.ref f)=true
section
variable{X:Cx}{i:AO}{d:St}{H:Hp}{s:Sh}{a C j:Ad}{fs:List (Str×V)}{f:Str}{v:V}{A:Ar}{E:VP}
def LI{b:Bool}{Q:VP}(I:Inv X i d H s)(e:H a=some (.ins C j fs))(c:Cls X.K C)(n:NoAttr X.K C f)(l:fs.lookup f=some v)(h:∀u g,Inv X i d H g->RelV v u->Q u g):wpAny (model X.prog X.w) A (getAttr (.ref a) f b) Q E s:=by
 obtain⟨m,O,r,_,_,_⟩:=Bl I.hok e;obtain⟨u,p,k⟩:=RelO.some_of (v:=v) (o:=m f) (by rw[<-l];exact r f);exact O0 I.kIn O (c.get f) c.hd n p (Pf k) (h u _ (I.tok _) k)
def Lh{m:Str}{g:Ad}{b:Sem Bool}{Q:Vl×Vs->Sh->Prop}(I:Inv X i d H s)(e:H a=some (.ins C j fs))(c:Cls X.K C)(k:Meth X.K C m g)(l:fs.lookup m=none)(h:Q (.ref g,[.ref a]) s):wpAny (model X.prog X.w) A (getMethod (.ref a) m b) Q E s:=by
 obtain⟨f,O,r,_,_,_⟩:=Bl I.hok e;have n:f m=none:=RelO.none_of (by rw[<-l];exact r m);exact MA I.kIn O (c.get m) k.at_ k.fn n h
def Pc{y:V}{u:Vl}{Q:Unit->Sh->Prop}(I:Inv X i d H s)(e:H a=some (.ins C j fs))(c:Cls X.K C)(n:NoAttr X.K C f)(N:fs.length<1000)(v:RelV y u)(h:∀l,Inv X i d (cq H a (.ins C j (dU f y fs))) l->Q ⟨⟩ l):wpAny (model X.prog X.w) A (setAttr (.ref a) f u) Q E s:=by
 obtain⟨m,O,r,p,_,t⟩:=Bl I.hok e;have w:(fs.map (·.1)).length<=sizeLine:=by rw[cu,dA];lia
 refine Mo I.kIn O c.sa c.po n.taker c.hd p w λB k D=>h _ ?_;have G:∃o,B.get? j=some o:=let⟨o,_,_,J,_⟩:=k.ns;#[o,J]
 refine I.write (x:=a) (e:=j) (by rw[e];exact True.intro) (.inr t) (λb q L z=>(D.2 b L).trans z) G ?_;refine#[by rw[cz O.ne];exact t,?_,O.ne,k.obj,_,k.ns,λg=>?_,λg M=>?_]
 .have:=F' f y fs;lia
 .show RelO ((dU f y fs).lookup g) (if g=f then some u else m g);rw[GX];by_cases q:g=f
  .rw[wB q,wB q];exact v
  .rw[wA q,wA q];exact r g
 .by_cases q:g=f
  .rw[q];exact(Dg f y fs).1
  .refine(Dg f y fs).2 g (p g λz=>M ?_);show(if g=f then some u else m g)=none;rw[wA q];exact z
def Inv.made(I:Inv X i d H s):Inv X i d (cq (cq H s.heap.objs.size (.own (s.heap.objs.size+1))) (s.heap.objs.size+1) (.ins C s.heap.objs.size [])) {s with heap:=(s.heap.push PySem.W.emptyDict).push (PySem.W.instObj C s.heap.objs.size)}:=by
  have c:(s.heap.push PySem.W.emptyDict).get? s.heap.objs.size=some PySem.W.emptyDict:=fq s.heap rfl;have f:((s.heap.push PySem.W.emptyDict).push (PySem.W.instObj C s.heap.objs.size)).get? (s.heap.objs.size+1)=some (PySem.W.instObj C s.heap.objs.size):=by
    have:=fq (s.heap.push PySem.W.emptyDict) (o:=PySem.W.instObj C s.heap.objs.size) rfl;rwa[vK]at this
  have g:(s.heap.push PySem.W.emptyDict).Ns s.heap.objs.size (λ_=>none):=#[PySem.W.emptyDict,#v[],_,c,zZ,(λe h=>wC h (by simp)),λ_=>rfl];have j:=I.laid (a:=s.heap.objs.size) (o:= .own (s.heap.objs.size+1)) (h':=s.heap.push PySem.W.emptyDict) (t':=s.toks) (λb u q=>dC _ q) (cQ _) #[_,c];refine j.laid (a:=s.heap.objs.size+1) (o:= .ins C s.heap.objs.size []) (t':=s.toks) (λb u q=>dC _ q) (rz (vK _ _)) ?_;have ne:s.heap.objs.size≠s.heap.objs.size+1:=eB (mN _);refine#[by rw[cz ne,cw],g7 _,ne,f,λ_=>none,(Heap.Ns1.of_empty g).at λo q=>dC _ q,λ_=>True.intro,λy k=>wC rfl k]
def Hz{a:Pg}{w:World}{b:Env}{e:Expr}{f:Str}{d:Pos}{s:Sh}{Q:VP}(g:attributeBase e f b (eval e b)=eval e b)(h:wpAny (model a w) A (eval e b) (λo c=>wpAny (model a w) A (getAttr o f true) Q E c) E s):wpAny (model a w) A (eval (.Attribute e f d) b) Q E s:=
 Attribute_any_ h (by rw[arm_eval_Attribute,g])
end
def Cn(K:P3)(c:TE)(f:Str):TE:=λd H Q=>c d H λx b=>∃a C e fs v,x=.ref a/\b a=some (.ins C e fs)/\Cls K C/\NoAttr K C f/\fs.lookup f=some v/\Q v b
def B4(K:P3)(e g:TE)(f:Str):TS:=λD b H=>g b H λy h=>e b h λx c=>∃a C d fs,x=.ref a/\c a=some (.ins C d fs)/\Cls K C/\NoAttr K C f/\fs.length<1000/\
 D.nx b (cq c a (.ins C d (dU f y fs)))
section
variable{X:Cx}{o e b:Expr}{f:Str}{g d k:Pos}{i j:TE}
def vP(b:PE X e i)(d:attributeBase e f X.env (eval e X.env)=eval e X.env):PE X (.Attribute e f g) (Cn X.K i f):=by
 intro j s k H Q I h;refine Hz d (cS (b j s k H _ I h) λu z ⟨x,m,o,p,a,C,A,fs,v,r,t,c,n,l,q⟩=>?_);subst r;obtain rfl:u=Value.ref a:=p;exact LI o t c n l λB D w y=>#[v,m,w,y,q]
def sw(m:PE X o i)(p:PE X b j)(r:swapsWith b (some (.Attribute o f d)) g.line X.env=pure false):PS X (.Assign [.Attribute o f d] b g) (B4 X.K i j f):=by
 intro k s e H D I h;refine ES (cS (p k s e H _ I h) λu t ⟨y,v,w,z,q⟩=>cS (m k t e v _ w q) λA N ⟨x,O,B,E,a,C,Q,fs,G,J,c,n,l,L⟩=>?_) r;subst G;obtain rfl:A=Value.ref a:=E;exact Pc B J c n l z λT M=>#[e,_,M,L]
end
section
variable{X:Cx}{za:AO}{σ:St}{H:Hp}{s:Sh}{A:Ar}{E:VP}{Q:VP}{c:Vl}{b:Bool}
inductive TyOf (K:P3) (H:Hp):V->Vl->Prop where
 |non:TyOf K H .non (.type "NoneType")
 |bl (x:Bool):TyOf K H (.bl x) (.type "bool")
 |int (i:Int):TyOf K H (.int i) (.type "int")
 |str (x:Str):TyOf K H (.str x) (.type "str")
 |flt (x:UInt64):TyOf K H (.flt x) (.type "float")
 |lst {a:Ad} {xs:List V} (e:H a=some (.lst xs)):TyOf K H (.ref a) (.type "list")
 |frz {a:Ad} {o:Obj} {xs:List V} (e:H a=some (.frz o (.lst xs))):TyOf K H (.ref a) (.type "list")
 |tup {a:Ad} {xs:List V} (e:H a=some (.tup xs)):TyOf K H (.ref a) (.type "tuple")
 |dK {a:Ad} {kvs:List (dq×V)} (e:H a=some (.dK kvs)):TyOf K H (.ref a) (.type "dict")
 |dT {a:Ad} {kvs:List (List dq×V)} (e:H a=some (.dT kvs)):TyOf K H (.ref a) (.type "dict")
 | ins {a C dx:Ad} {fs:List (Str×V)} (e:H a=some (.ins C dx fs)) (cl:Cls K C) (ha:PySem.W.findIn K (.ref C) "__class__"=some (some (.builtin "object.__class__")))
   (hn:PySem.W.specialIn K (.builtin "object.__class__") "__get__"=some (some (.builtin "getset_descriptor.__get__"))) (htk:PySem.W.takesIn K (.builtin "object.__class__")=some true)
   (hm:PySem.W.mroIn K C (.type "object")=some true):TyOf K H (.ref a) (.ref C)
def N6{x:V}{u t:Vl}(I:Inv X za σ H s)(d:RelV x u)(ty:TyOf X.K H x t)(e:PySem.W.kitOne X.K t c=some b)(h:∀v,Q (.bool b) {s with toks:=v}):
  wpAny (model X.prog X.w) A (call (.builtin "isinstance") [u,c]) Q E s:=by
 cases ty with
 |non=>cases(show u=Value.none from d);exact nq PySem.W.kitx_none I.kIn True.intro e (λz=>nomatch z) h
 |bl y=>cases(show u=Value.bool y from d);exact nq PySem.W.kitx_bool I.kIn True.intro e (λz=>nomatch z) h
 |int i=>obtain⟨t,q⟩:=(show ∃t,u=Value.int i t from d);cases q;exact nq PySem.W.kitx_int I.kIn True.intro e (λz=>nomatch z) h
 |str y=>obtain⟨t,q⟩:=(show ∃t,u=Value.str y t from d);cases q;exact nq PySem.W.kitx_str I.kIn True.intro e (λz=>nomatch z) h
 |flt y=>obtain⟨t,q⟩:=(show ∃t,u=Value.float y t from d);cases q;exact nq PySem.W.kitx_float I.kIn True.intro e (λz=>nomatch z) h
 | @lst a k f=>
  cases(show u=Value.ref a from d);obtain⟨_,_,n,_,g⟩:=(show ObjOk X.prog X.w H s.heap a (.lst k)from I.hok a _ f);exact nq PySem.W.kitx_list I.kIn #[_,g,zZ] e (λz=>nomatch z) h
 | @frz a w k f=>
  cases(show u=Value.ref a from d);obtain⟨_,_,_,n,_,g⟩:=(show ObjOk X.prog X.w H s.heap a (.frz w (.lst k))from I.hok a _ f);exact nq PySem.W.kitx_list I.kIn #[_,g,zZ] e (λz=>nomatch z) h
 | @tup a k f=>
  cases(show u=Value.ref a from d);obtain⟨_,_,_,p⟩:=(show ObjOk X.prog X.w H s.heap a (.tup k)from I.hok a _ f);obtain⟨o,g,l,_⟩:=p;exact nq PySem.W.kitx_tuple I.kIn #[o,g,l] e (λz=>nomatch z) h
 | @dK a j f=>
  cases(show u=Value.ref a from d);obtain⟨_,_,N,_,p⟩:=(show ObjOk X.prog X.w H s.heap a (.dK j)from I.hok a _ f);obtain⟨o,B,D,g,l,_⟩:=p;exact nq PySem.W.kitx_dict I.kIn #[o,g,l.1] e (λz=>nomatch z) h
 | @dT a j f=>
  cases(show u=Value.ref a from d);obtain⟨_,_,k,_,o,B,D,g,l,_⟩:=(show ObjOk X.prog X.w H s.heap a (.dT j)from I.hok a _ f);exact nq PySem.W.kitx_dict I.kIn #[o,g,l.1] e (λz=>nomatch z) h
 | @ins a C T fs f r G L m M=>
  cases(show u=Value.ref a from d);obtain⟨U,O,_⟩:=Bl I.hok f;obtain⟨Y,J,_⟩:=O.look;exact nq (PySem.W.kitx_own (r.get _) r.hd G L m M) I.kIn J e (λz=>nomatch z) h
end
structure Room(k:Nat)(A:Ar):Prop where
 hd:A.handled=none
 dp:A.depth+3 * k+5<recursionLimit
 un:A.units+16 * k+200<cLine
def Room.mono{j k:Nat}{A:Ar}(r:Room k A)(h:j<=k):Room j A:=#[r.hd,by have:=r.dp;lia,by have:=r.un;lia]
def Room.m{A:Ar}{k j:Nat}(h:Room k A)(d:j≤k:=by decide):Room j A:=h.mono d
def Room.deeper{k:Nat}{A:Ar}(r:Room (k+1) A)(a:Env):Room k (A.deeper a):=
 #[r.hd,by have:=r.dp;show A.depth+1+3 * k+5<_;lia,by have:=r.un;show A.units+3+16 * k+200<_;lia]
def Room.in1{k:Nat}{A:Ar}(r:Room (k+1) A):Room k A.in1:=
 #[r.hd,by have:=r.dp;show A.depth+3 * k+5<_;lia,by have:=r.un;show A.units+1+16 * k+200<_;lia]
def JU{A:Ar}{C:Ad}{a:Vs}{b:List (Str×Vl)}:(A.under (.builtin "type.__call__" #[.ref C::a,b])).depth=A.depth+1:=by
 first|rfl|simp[Around.under,Code.weight,Code.isCreation,Code.isGuard,Code.isCaller,Code.frames,Code.isFrame,guardIds]
def Lg{A:Ar}{C:Ad}{a:Vs}{b:List (Str×Vl)}:(A.under (.builtin "type.__call__" #[.ref C::a,b])).units=A.units+1:=by
 first|rfl|simp[Around.under,Code.cUnits,Code.frames,Code.isFrame]
def Room.make{k:Nat}{A:Ar}(r:Room (k+1) A)(C:Ad)(a:Vs)(b:List (Str×Vl)):Room k (A.under (.builtin "type.__call__" #[.ref C::a,b])):=
 #[r.hd,by have:=r.dp;rw[JU];lia,by have:=r.un;rw[Lg];lia]
def Room.depth{k:Nat}{A:Ar}(r:Room k A):A.depth<recursionLimit:=by have:=r.dp;lia
def Room.units{k:Nat}{A:Ar}(r:Room k A):A.units+64<cLine:=by have:=r.un;lia
def jh:TA:=λ_ H Q=>Q [] H
def jd(b:TE)(c:TA):TA:=λa H Q=>b a H λx d=>c a d λe f=>Q (x::e) f
section
variable{X:Cx}{e:Expr}{c:List Expr}{d:TE}{t:TA}{a:Pos}
def cH:PA X [] jh:=λ_ _ _ _ H Q I h=>Calls.spliced_nil #[[],H,I,.nil,h]
def cL(g:PE X e d)(i:PA X c t)(j:starEach (e::c) X.env=(false,eval e X.env)::starEach c X.env:=by rfl):PA X (e::c) (jd d t):=by
 intro a b s f H Q I h;rw[j];show wpAny _ _ (spliced ((false,eval e X.env)::backTo a (starEach c X.env))) _ _ s;refine Calls.spliced_cons (cS (g b s f H _ I h) λu k ⟨x,l,m,n,o⟩=>?_);exact cS (i a b k f l _ m o) λy z ⟨p,q,r,v,w⟩=>#[x::p,q,r,.cons n v,w]
def DF(t:TA):TE:=λc H Q=>t c H λa b=>a.length<=sizeLine/\∀p,b p=none->Q (.ref p) (cq b p (.tup a))
def x6(t:TA):TE:=λc H Q=>t c H λa b=>a.length<=sizeLine/\∀p,b p=none->Q (.ref p) (cq b p (.lst a))
def nS{i}(h:PA X c t):PE X (.Tuple c i a) (DF t):=by
 intro j s k H Q I l;refine wpAny_Tuple_spliced (cS (h a j s k H _ I l) λm d ⟨n,f,g,r,z,q⟩=>#[by rw[<-r.length];exact z,?_]);have o:f d.heap.objs.size=none:=g.hok.fresh (cQ _);refine#[.ref d.heap.objs.size,cq f d.heap.objs.size (.tup n),g.laid (t':=d.toks) (λb u e=>dC _ e) (cQ _) ?_,zZ,q _ o];exact#[z,m,r,#[_,fq _ zZ,zZ,_,zZ,zZ]]
def f7(h:PA X c t):PE X (.List c a) (x6 t):=by
 intro i s j H Q I k;refine wpAny_List_spliced (cS (h a i s j H _ I k) λl d ⟨m,f,g,r,z,q⟩=>#[by rw[<-r.length];exact z,?_]);have n:f d.heap.objs.size=none:=g.hok.fresh (cQ _);refine#[.ref d.heap.objs.size,cq f d.heap.objs.size (.lst m),g.laid (t':=d.toks) (λb u e=>dC _ e) (cQ _) ?_,zZ,q _ n];exact#[z,l,0,r,fq _ zZ]
end
abbrev Sp:=List V->Hp->VK->XK->Prop
abbrev oq:=List Env->Hp->Sh->XK->Vl->Sh->Prop
structure Env0(P:Pg)(w:World)(K:P3)(mg:SV)(base:Heap)(A:Ar)(outer:List Env)(s:Sh)(H:Hp):Prop where
 frames:A.frames=some outer
 mod:Mod K mg base
 bs:∀b o,base.get? b=some o->s.heap.get? b=some o/\H b=none
 bsz:base.objs.size<=s.heap.objs.size
 funs:s.heap.FunFrames base outer
 frf:∀b∈dD outer,H b=none
 hok:HOk P w H s.heap
 bare:AllBare s.gens
def CE(a:List Env)(P:Pg)(w:World)(H:Hp)(s:Sh)(Q:VK)(u:Vl)(b:Sh):Prop:=
 ∃v c,b.os=s.os/\AllBare b.gens/\Un (dD a) [] H c s.heap b.heap/\HOk P w c b.heap/\RelV v u/\Q v c
def CR(c:oq)(a:List Env)(P:Pg)(w:World)(H:Hp)(s:Sh)(Q:VK)(E:XK)(r:Result)(b:Sh):Prop:=
 match r with
 |.ok (.ret u)=>CE a P w H s Q u b
 |.ok _=>False
 |.error e=>c a H s E e b
structure FnOk(P:Pg)(w:World)(K:P3)(mg:SV)(base:Heap)(CX:oq)(k:Nat)(f:Ad)(fd:Fd)(ps:Ss)(sp:Sp):Prop where
 len:∀vs H Q E,sp vs H Q E->vs.length=ps.length
 run:∀(A:Ar) (outer:List Env) (s:Sh) (H:Hp) (args:Args) (us:Vs) (vs:List V) (Q:VK) (E:XK),Room k A->Env0 P w K mg base A outer s H->BindsTo s fd args (ps.zip us)->Vals vs us->sp vs H Q E->
  codeAny (model P w) A (.call (.ref f) args) (CR CX outer P w H s Q E) s
def FnOk.imp{P:Pg}{w:World}{K:P3}{mg:SV}{a:Heap}{e:oq}{k:Nat}{f:Ad}{g:Fd}{i:Ss}{j d:Sp}(F:FnOk P w K mg a e k f g i j)(h:∀c H Q E,d c H Q E->j c H Q E):FnOk P w K mg a e k f g i d:=
 #[λc H Q E q=>F.len c H Q E (h _ _ _ _ q),λA b s H args l c Q E m n o p r=>F.run A b s H args l c Q E m n o p (h _ _ _ _ r)]
def Env0.make{P:Pg}{w:World}{K:P3}{mg:SV}{b:Heap}{A:Ar}{a:List Env}{s:Sh}{H:Hp}(e:Env0 P w K mg b A a s H)(C:Ad)(c:Vs)(d:List (Str×Vl)):
  Env0 P w K mg b (A.under (.builtin "type.__call__" #[.ref C::c,d])) a s H:=#[by first|exact e.frames|(simpa[Around.under,Code.envs,Code.isFrame,pushEnvs]using e.frames),e.mod,e.bs,e.bsz,e.funs,e.frf,e.hok,e.bare]
def Env0.in1{P:Pg}{w:World}{K:P3}{mg:SV}{b:Heap}{A:Ar}{a:List Env}{s:Sh}{H:Hp}(e:Env0 P w K mg b A a s H):
  Env0 P w K mg b A.in1 a s H:=#[e.frames,e.mod,e.bs,e.bsz,e.funs,e.frf,e.hok,e.bare]
section
variable{X:Cx}{c:AO}{a:St}{H:Hp}{s s':Sh}
def Inv.env0(I:Inv X c a H s):Env0 X.prog X.w X.K X.mg X.base X.A X.stack s H:=
 #[I.ok.frames,I.ok.mod,I.bs,dy I.ok.bsz I.sz,I.stack,I.stkFree,I.hok,I.bare]
def Inv.after{Q:VK}{u:Vl}(I:Inv X c a H s)(h:CE X.stack X.prog X.w H s Q u s'):EP X c a Q u s':=by
 obtain⟨v,H',os,e,un,f,r,q⟩:=h;obtain⟨j,g,d,t,i⟩:=s';obtain rfl:i=s.os:=os;exact#[v,H',I.call (h':=j) (g':=g) (d':=d) (t':=t) (ch:=[]) un f e (λb z=>wC z (by simp)),r,q]
end
def qp(b:Sp)(a:List V)(E:XK)(t:TA):TE:=λc H Q=>t c H λd e=>b (d++a) e Q E
def Hl(C:Ad)(m:Str)(e:Sp)(b:List V)(E:XK)(f:TE)(t:TA):TE:=λc H Q=>f c H λx d=>∃a g fs,x=.ref a/\d a=some (.ins C g fs)/\fs.lookup m=none/\
 t c d λh i=>e (x::(h++b)) i Q E
def Ix(C:Ad)(d:Sp)(b:List V)(E:XK)(t:TA):TE:=λe H Q=>t e H λf c=>∀x a,c x=none->c a=none->a≠x->
 d (.ref x::(f++b)) (cq (cq c a (.own x)) x (.ins C a [])) (λv g=>v=.non/\Q (.ref x) g) E
def Binds(K:P3)(d:Fd)(b:Ss)(c:Vs):Prop:=
 ∀(s:Sh) (a:Vs),K.In s.heap->(a++c).length=b.length->BindsTo s d #[a,[]] (b.zip (a++c))
def Binds.all{K:P3}{c:Fd}{b:Ss}(h:∀a:Vs,a.length=b.length->bindArgs c #[a,[]]=pure (b.zip a)):Binds K c b []:=λs a _ d=>by
 rw[gS]at d|-;exact .of_eq (h a d)
def nC(b:oq)(X:Cx)(E:XK):Prop:=∀(c:AO) (d:St) (H:Hp) (s:Sh) (e:Vl) (a:Sh),Inv X c d H s->b X.stack H s E e a->X.xe e a
section
variable{X:Cx}{CX:oq}{k:Nat}{f C:Ad}{fd:Fd}{ps:Ss}{sp:Sp}{dvs:List V}{ds:Vs}{E:XK}{x m:Str}{p pos apos:Pos}{e o:Expr}{es:List Expr}{ta:TE}{t:TA}
def Dr{b:AO}{c:St}{H:Hp}{s:Sh}{Q:VK}{us:Vs}{vs:List V}(F:FnOk X.prog X.w X.K X.mg X.base CX k f fd ps sp)(g:Room k X.A)(i:Binds X.K fd ps ds)(j:Vals dvs ds)(l:nC CX X E)(I:Inv X b c H s) (r:Vals vs us) (h:sp (vs++dvs) H Q E):wpAny (model X.prog X.w) X.A (call (.ref f) us) (EP X b c Q) X.xe s:=by
 have d:Vals (vs++dvs) (us++ds):=r.append j;have m:(us++ds).length=ps.length:=by rw[<-d.length];exact F.len _ _ _ _ h
 refine oF (mJ (F.run X.A X.stack s H #[us,[]] (us++ds) (vs++dvs) Q E g I.env0 (i s us I.kIn m) d h) λr n a=>?_);cases r with
 |error e=>exact l b c H s e n I a
 |ok o=>
  cases o with
  |ret u=>exact I.after a
  |next=>exact wE a
  |brk=>exact wE a
  |cont=>exact wE a
def B8(F:FnOk X.prog X.w X.K X.mg X.base CX k f fd ps sp)(d:Room k X.A)(g:Gl X x)(i:X.mg x=some (.ref f))(j:PySem.W.keepIn X.K (.ref f)=true)(l:Binds X.K fd ps ds)(m:Vals dvs ds)(n:nC CX X E)(o:PA X (e::es) t) (a:(x==("__debug__":Str))=false:=by decide) (u:starEach (e::es) X.env=(false,eval e X.env)::starEach es X.env:=by rfl) (b:(backTo pos (starEach es X.env)).any (·.1)=false:=by rfl):
  PE X (.Call (.Name x p) (e::es) [] pos) (qp sp dvs E t):=by
 intro v s w H Q I h;refine n6 (oR I g i ?_ a);refine vN (h₀:=X.base) I.ok.mod.kin j (cS (o pos v s w H _ I h) λy z ⟨A,B,c,r,q⟩=>#[c.kIn,?_]) u b;exact Dr F d l m n c r q
def NX{pl:Sem Bool}(g:PE X o ta)(c:Cls X.K C)(d:Meth X.K C m f)(F:FnOk X.prog X.w X.K X.mg X.base CX k f fd ps sp)(i:Room k X.A)(j:Binds X.K fd ps ds)(n:Vals dvs ds)(p:nC CX X E)(ht:eval (.Call (.Attribute o m apos) [] [] pos) X.env=(do
   let e <-eval o X.env
   standAt apos.atName
   let(f,first) <-holding [e] (getMethod e m pl)
   callWith pos f first (backTo pos (starEach [] X.env)) (backToKw pos (keywordEach [] X.env))):=by rfl):
  PE X (.Call (.Attribute o m apos) [] [] pos) (Hl C m sp dvs E ta jh):=by
 intro r s t H Q I h;refine PySem.W.methodCall_KW (pl:=pl) (cS (g r s t H _ I h) λu z ⟨x,A,b,v,a,B,fs,w,y,l,q⟩=>?_) ht;subst w;obtain rfl:u=Value.ref a:=v;refine Lh b y c d l ?_;exact PySem.W.callWith_K0 (first:=[.ref a]) b.kIn d.kp (Dr (us:=[.ref a]) (vs:=[.ref a]) F i j n p b (.cons zZ .nil) q)
structure Mk(K:P3)(C f:Ad):Prop where
 makes:PySem.W.makesIn K C=true
 init:PySem.W.findIn K (.ref C) "__init__"=some (some (.ref f))
 fn:PySem.W.isFn K (.ref f)=true
 kp:PySem.W.keepIn K (.ref C)=true
def NM{g:AO}{i:St}{H:Hp}{s:Sh}{Q:VK}{b:Vs}{j:List V}(M:Mk X.K C f)(F:FnOk X.prog X.w X.K X.mg X.base CX k f fd ps sp)(n:Room (k+1) X.A)(o:Binds X.K fd ps ds)(p:Vals dvs ds)(q:nC CX X E) (I:Inv X g i H s) (r:Vals j b)(h:∀x c,H x=none->H c=none->c≠x->sp (.ref x::(j++dvs)) (cq (cq H c (.own x)) x (.ins C c [])) (λv t=>v=.non/\Q (.ref x) t) E):
  wpAny (model X.prog X.w) X.A (call (.ref C) b) (EP X g i Q) X.xe s:=by
 have l:=h (s.heap.objs.size+1) s.heap.objs.size (I.hok.fresh (pO _)) (I.hok.fresh (cQ _)) (eB (mN _));have d:=Inv.made (C:=C) I;have m:Vals (V.ref (s.heap.objs.size+1)::(j++dvs)) (Value.ref (s.heap.objs.size+1)::(b++ds)):= .cons zZ (r.append p);have w:(Value.ref (s.heap.objs.size+1)::b++ds).length=ps.length:=by
  have e:=m.length;rw[F.len _ _ _ _ l]at e;exact e.symm
 refine oF (Ja (f:=f) I.kIn M.makes M.init (pk.mp M.fn) (mJ (F.run _ X.stack _ _ #[Value.ref (s.heap.objs.size+1)::b,[]] (Value.ref (s.heap.objs.size+1)::(b++ds)) _ _ E (n.make C b [])
  (d.env0.make C b []) (o _ (Value.ref (s.heap.objs.size+1)::b) d.kIn w) m l) λr y a=>?_))
 cases r with
 |error e=>exact q g i _ _ e y d a
 | ok z=>
  cases z with
  |ret u=>
   obtain⟨v,A,B,D,G,J⟩:=d.after a;subst G;exact#[D,#[V.ref (s.heap.objs.size+1),A,B,zZ,J]]
  |next=>exact wE a
  |brk=>exact wE a
  |cont=>exact wE a
def N1(M:Mk X.K C f)(F:FnOk X.prog X.w X.K X.mg X.base CX k f fd ps sp)(d:Room (k+1) X.A)(g:Gl X x)(i:X.mg x=some (.ref C))(j:Binds X.K fd ps ds)(l:Vals dvs ds)(m:nC CX X E)(n:PA X (e::es) t) (a:(x==("__debug__":Str))=false:=by decide) (o:starEach (e::es) X.env=(false,eval e X.env)::starEach es X.env:=by rfl) (b:(backTo pos (starEach es X.env)).any (·.1)=false:=by rfl):
  PE X (.Call (.Name x p) (e::es) [] pos) (Ix C sp dvs E t):=by
 intro u s v H Q I h;refine n6 (oR I g i ?_ a);refine vN (h₀:=X.base) I.ok.mod.kin M.kp (cS (n pos u s v H _ I h) λw y ⟨z,A,c,r,q⟩=>#[c.kIn,?_]) o b;exact NM M F d j l m c r q
end
structure FnScope(N P:Ss)(sc:Scope):Prop where
 kind:sc.kind=.function:=by rfl
 co:sc.isCoroutine=false:=by rfl
 gen:sc.isGenerator=false:=by rfl
 nd:N.Nodup:=by decide+kernel
 pre:N.take P.length=P:=by rfl
 par:∀x∈P,sc.names.lookup x=some .local\/sc.names.lookup x=some .cell:=by decide+kernel
 nofree:∀y∈sc.names,y.2≠ .free:=by decide+kernel
theorem G9{kindOf:Str->Option NameKind}{x:Str}:∀{binds:List (Str×Vl)} {m:SV},(∀v,(x,v)∉binds)->bindL kindOf binds m x=m x
 | [],_,_=>rfl
 | (n,v)::r,m,h=>by
  unfold bindL;rw[G9 λw hw=>h w (eO _ hw)];split
  .have:x≠n:=by rintro rfl;exact h v dX
   simp[this]
  .rfl
theorem E4{kindOf:Str->Option NameKind}{x:Str}:∀{binds:List (Str×Vl)} {m:SV},(∀v,(x,v)∉binds)->bindC kindOf binds m x=m x
 | [],_,_=>rfl
 | (n,v)::r,m,h=>by
  unfold bindC;rw[E4 λw hw=>h w (eO _ hw)];split
  .rfl
  .have:x≠n:=by rintro rfl;exact h v dX
   simp[this]
theorem IA{kindOf:Str->Option NameKind}{x:Str}{v:Vl}:∀{P:Ss} {a:Vs} {i:Nat} {m:SV},P.Nodup->P[i]?=some x->a[i]?=some v->kindOf x=some .local->
  bindL kindOf (P.zip a) m x=some v
 | [],_,_,_,_,h,_,_=>by simp at h
 |_::_,[],_,_,_,_,h,_=>by simp at h
 |p::P,w::a,0,m,nd,b,c,d=>by
  simp at b c;subst b;subst c;show bindL kindOf ((p,w)::P.zip a) m p=_;unfold bindL;rw[G9 λv e=>(jw.mp nd).1 (yA e).1,wB d];simp
 |p::P,w::a,i+1,m,nd,b,c,d=>by
  show bindL kindOf ((p,w)::P.zip a) m x=_;unfold bindL;exact IA (i:=i) (jw.mp nd).2 (by simpa using b) (by simpa using c) d
theorem HI{kindOf:Str->Option NameKind}{x:Str}{v:Vl}:∀{P:Ss} {a:Vs} {i:Nat} {m:SV},P.Nodup->P[i]?=some x->a[i]?=some v->kindOf x≠some .local->
  bindC kindOf (P.zip a) m x=some v
 | [],_,_,_,_,h,_,_=>by simp at h
 |_::_,[],_,_,_,_,h,_=>by simp at h
 |p::P,w::a,0,m,nd,b,c,d=>by
  simp at b c;subst b;subst c;show bindC kindOf ((p,w)::P.zip a) m p=_;unfold bindC;rw[E4 λv e=>(jw.mp nd).1 (yA e).1,wA d];simp
 |p::P,w::a,i+1,m,nd,b,c,d=>by
  show bindC kindOf ((p,w)::P.zip a) m x=_;unfold bindC;exact HI (i:=i) (jw.mp nd).2 (by simpa using b) (by simpa using c) d
def start(N:Ss)(a:List V):St:=a.map some++List.replicate (N.length-a.length) none
def nR(g:oq)(P:Pg)(w:World)(K:P3)(mg:SV)(base:Heap)(N:Ss)(b:Str)(a:Scope)(f:Ad)(d:Vl)(A:Ar)(outer:List Env)(s:Sh)(H:Hp)(E:XK):Cx where
 prog:=P
 w:=w
 K:=K
 mg:=mg
 base:=base
 A:=A.deeper (envOfC b a s.heap.objs.size f d)
 N:=N
 s₀:=s
 H₀:=H
 env:=envOfC b a s.heap.objs.size f d
 outer:=outer
 stack:=envOfC b a s.heap.objs.size f d::outer
 ex:=[]
 calm:=true
 fn:=λ_=>true
 pn:=[]
 xe:=λe h=>wpAny (model P w) (A.deeper (envOfC b a s.heap.objs.size f d)) (leaving (envOfC b a s.heap.objs.size f d) e) (λ_ c=>g outer H s E e c) (λi c=>g outer H s E i c) h
def EX{a:Scope}{n:Nat}{x:Str}(h:a.names.lookup x=some .cell):∃c,(cellsFrom n a.names []).lookup x=some c:=by
 have q:=PySem.W.cellsFrom_some a.names n [] (.inl h);exact Option.isSome_iff_exists.mp q
def NA{O:oq}{P:Pg}{w:World}{K:P3}{mg:SV}{m:Heap}{N t:Ss}{j:Str}{d:Scope}{f:Ad}{I:Vl}{A:Ar}{g:List Env}{s Q:Sh}{H:Hp}{E:XK}{M:Vs}{B:List V}(S:FnScope N t d) (Y:A.handled=none) (o:Env0 P w K mg m A g s H) (hl:B.length=t.length) (r:Vals B M)(x:InCallC s s.heap.objs.size (bindL (envOfC j d s.heap.objs.size f I).kindOf (t.zip M) λ_=>none) (cellsFrom (s.heap.objs.size+1) d.names []) (bindC (envOfC j d s.heap.objs.size f I).kindOf (t.zip M) λ_=>none) Q):
  Inv (nR O P w K mg m N j d f I A g s H E) [] (start N B) H Q:=by
 have aa:t.length<=N.length:=by have:=dw List.length S.pre;rw[hG]at this;lia
 obtain⟨J,tk,rfl,T⟩:=x.done;have C:∀b:Ad,b∉(nR O P w K mg m N j d f I A g s H E).ex:=λb z=>wC (show b∈([]:As)from z) (by simp);refine#[#[o.mod,S.kind,zZ,zZ,cQ _,λy z c J l=>?_,λy hy=>?_,λy c _ h=>?_,λ_=>Y,Around.frames_deeper o.frames,.inr #[zZ,zZ],λb z=>wC z (C b),o.bs,o.bsz,λb _ _=>C b,λb z=>wC z (C b),o.funs,o.frf],
  rfl,o.bare,Un.kept T,#[_,x.toInCall.ns,λi y v J l h3=>?_],λy c h=>#[_,x.cell y c h],o.hok.fresh (cQ _),λy c h=>?_,λp D=>wC (show p∈([]:AO)from D) (by simp),o.hok.kept T,?_]
 .exact name_of_addr x.apart (oZ J) (oZ l)
 .have hy:d.names.lookup y=some .cell\/d.names.lookup y=some .free:=hy
  rcases hy with hy|hy
  .exact EX hy
  .exact wC zZ (S.nofree _ (oZ hy))
 .exact jp (x.above y c (oZ h))
 .have L:i<B.length:=by
   unfold start at l;by_cases L:i<B.length
   .exact L
   .rw[fV (by simpa using L)]at l;rw[List.getElem?_replicate]at l;split at l<;>cases l
  have ha:B[i]?=some v:=by
   unfold start at l;rw[fu (by simpa using L),List.getElem?_map]at l;cases e:B[i]? with
   |none=>rw[e]at l;cases l
   |some a=>rw[e]at l;cases l;rfl
  obtain⟨u,U,rv⟩:=r.get ha;have D:t[i]?=some y:=by
   rw[<-S.pre,BJ ()];exact J
  have G:t.Nodup:=by rw[<-S.pre];exact S.nd.sublist (vi _ _)
  refine#[u,rv,?_]
  rcases S.par y (c8 D)with k|k
  .exact .inl #[k,IA G D U k]
  .obtain⟨c,e⟩:=EX (n:=s.heap.objs.size+1) k;refine .inr #[.inl k,c,e,?_];have q:=x.cell y c e;rw[HI G D U (by show d.names.lookup y≠_;rw[k];decide)]at q;exact q
 .exact o.hok.fresh (jp (x.above y c (oZ h)))
 .unfold start;show _=N.length;rw[eh,cu,Ek];lia
def zA{M:oq}{P:Pg}{w:World}{K:P3}{mg:SV}{h:Heap}{k:Nat}{f:Ad}{name d:Str}{i:Arguments}{j:List Stmt}{a:Scope}{dV kV D pm g ct oc:Vl}{an od:Option Ad}{T:Array (Option Vl)} {N O:Ss} {U:Sp} (lk:K.lookup f=some #[oc,od,.func (PySem.W.fnOf name d i j a dV kV D pm an g ct),T]) (Y:PySem.W.codeIn K g d=true) (S:FnScope N O a)(len:∀l H Q E,U l H Q E->l.length=O.length)(z:∀(A:Ar) (c:List Env) (s:Sh) (H:Hp) (l:List V) (Q:VK) (E:XK),Room k (A.deeper (envOfC d a s.heap.objs.size f g))->U l H Q E->
   ∃t,PSs (nR M P w K mg h N d a f g A c s H E) j t/\t {nx:=λ_ p=>Q .non p,rt:=Q} (start N l) H):
  FnOk P w K mg h M (k+1) f (PySem.W.fnOf name d i j a dV kV D pm an g ct) O U:=by
 refine#[len,λA c s H args us l Q E hr G hb r L=>?_];have hl:=len _ _ _ _ L;have KX:K.In s.heap:=G.mod.kin.keeps λb o e=>(G.bs b o e).1;have aa:s.heap.NoLimit:=G.mod.nolimit.keeps λb o e=>(G.bs b o e).1;have B:∀y∈O.zip us,a.names.lookup y.1=some .local\/(a.names.lookup y.1=some .cell/\((cellsFrom (s.heap.objs.size+1) a.names []).lookup y.1).isSome=true):=λ⟨n,v⟩ hy=>by
  rcases S.par n (yA hy).1 with q|q
  .exact .inl q
  .exact .inr #[q,PySem.W.cellsFrom_some _ _ _ (.inl q)]
 refine codeAny_call_function hr.depth (KX _ _ lk) zZ S.co S.gen zZ (PySem.W.codeRec_of KX Y) (hb _ _ _ _ ?_);refine wpAny_newFunctionEnv_cells S.kind B λab he s1 x=>?_;subst he;refine#[aa.keeps x.toInCall.keep,codeAny_func ?_];obtain⟨t,ht,hq⟩:=z A c s H l Q E (hr.deeper _) L;have I:Inv (nR M P w K mg h N d a f g A c s H E) [] (start N l) H s1:=NA S hr.hd G hl r x;refine fL (ht [] s1 (start N l) H _ I hq) (λfl s' C=>?_) λe s' C=>C;have fin:∀{m:St} {p:Hp} {v:V} {u:Vl},Inv (nR M P w K mg h N d a f g A c s H E) [] m p s'->RelV v u->Q v p->CE c P w H s Q u s':=
  λ{m p v u} J rv q=>#[v,p,J.os,J.bare,J.base,J.hok,rv,q]
 cases fl with
 |ret u=>
  obtain⟨v,m,p,J,rv,q⟩:=C;exact fin J rv q
 |next=>
  obtain⟨m,p,J,q⟩:=C;exact fin (v:=V.non) (u:=Value.none) J zZ q
 |brk=>
  obtain⟨_,_,_,q⟩:=C;exact wE q
 |cont=>
  obtain⟨_,_,_,q⟩:=C;exact wE q
section
variable{X:Cx}{x:Str}{p a:Pos}{e:Expr}{b:List Expr}{t:TA}{id T:String}{r:List V->Hp->VK->Prop}
def FW(r:List V->Hp->VK->Prop)(t:TA):TE:=λa H Q=>t a H λb c=>r b c Q
def eK(i:CallR X (.builtin id) r)(j:Gl X x)(k:X.mg x=none)(l:bootBuiltins x=some (.builtin id))(m:PA X (e::b) t)(n:x≠"__name__":=by decide)(c:(x==("__debug__":Str))=false:=by decide)
  (o:starEach (e::b) X.env=(false,eval e X.env)::starEach b X.env:=by rfl) (d:(backTo a (starEach b X.env)).any (·.1)=false:=by rfl):PE X (.Call (.Name x p) (e::b) [] a) (FW r t):=by
 intro f s g H Q I h;refine n6 (u8 I j k l ?_ n c);exact IE (cS (m a f s g H _ I h) λq u ⟨v,w,y,z,A⟩=>i f u g w v q Q y z A) o d
def jy(i:CallR X (.type T) r)(j:Gl X x)(k:X.mg x=none)(l:bootBuiltins x=some (.type T))(m:PA X (e::b) t)(n:x≠"__name__":=by decide)(c:(x==("__debug__":Str))=false:=by decide)
  (o:starEach (e::b) X.env=(false,eval e X.env)::starEach b X.env:=by rfl) (d:(backTo a (starEach b X.env)).any (·.1)=false:=by rfl):PE X (.Call (.Name x p) (e::b) [] a) (FW r t):=by
 intro f s g H Q I h;refine n6 (u8 I j k l ?_ n c);exact Dh (cS (m a f s g H _ I h) λq u ⟨v,w,y,z,A⟩=>i f u g w v q Q y z A) o d
end
end L2
namespace HT
open PySem PyProof.Rows
def xo:Zs->List Int->Bool
 | [],[]=>false
 | [],_::_=>true
 |_::_,[]=>false
 |x::a,y::b=>if x=y then xo a b else decide (x<y)
def f6(A:Ar)(s:Sh)(a:Int)(t:Tok)(c:Int)(u:Tok):∃e,SeqAt.EqAt A s (.int a t) (.int c u) e/\(e=true↔a=c):=
 #[(a==c),SeqAt.EqAt.int_int a t c u,by simp]
end HT
namespace L2
open PySem PySem.Spec PyProof.Rows
abbrev TO:=St->Hp->(Option Int->Hp->Prop)->Prop
def JB{a:Zs}:∀{b:Vs},Vals (a.map V.int) b->IntsAre b a:=by
 induction a with
 |nil=>intro b r;rw[zM]at r;cases r;exact .nil
 | cons n a c=>
  intro b r;rw[h9]at r;cases r with
  |cons d f=>
   obtain⟨t,e⟩:=d;subst e;exact .cons n t (c f)
def oM(n:Nat)(i:Int):Option Nat:=if 0<=i then(if i<n then some i.toNat else none)else if -(n:Int)<=i then some (i+n).toNat else none
def j8{a:Type}(b:List a)(i:Int):Option a:=(oM b.length i).bind λj=>b[j]?
def Gc{n:Nat}{i:Int}{j:Nat}(h:oM n i=some j):seqIndex? i n=some j/\j<n/\ -(n:Int)<=i/\i<n:=by
 unfold oM at h;by_cases b:0<=i
 .rw[wB b]at h;by_cases a:i<n
  .rw[wB a]at h;have e:i.toNat=j:=gY h;exact#[by rw[seqIndex_of b a,e],(),(),a]
  .rw[wA a]at h;cases h
 .rw[wA b]at h;by_cases a: -(n:Int)<=i
  .rw[wB a]at h;have e:(i+n).toNat=j:=gY h;exact#[by rw[seqIndex_neg () a,e],(),a,()]
  .rw[wA a]at h;cases h
def Ft{b:Type}{a:List b}{i:Int}{v:b}(h:j8 a i=some v):∃j,seqIndex? i a.length=some j/\a[j]?=some v/\j<a.length/\ -(a.length:Int)<=i/\i<a.length:=by
 unfold j8 at h;cases e:oM a.length i with
 |none=>rw[e]at h;cases h
 |some j=>
  rw[e]at h;obtain⟨c,d,f,g⟩:=Gc e;exact#[j,c,h,d,f,g]
def jq{b:Type}{a:List b}{j:Nat}{v:b}(h:a[j]?=some v):j8 a (j:Int)=some v:=by
 have c:j<a.length:=(cK.mp h).1;have e:oM a.length (j:Int)=some j:=by
  unfold oM;rw[wB (),wB ()];simp
 unfold j8;rw[e];exact h
def LH(b:Expr):Prop:=∀o i,subscripted b false o i=operate [o,i] (getItem o i)
def IxR(X:Cx)(r:R2):Prop:=
 ∀(b a:Expr) (c:AO) (s:Sh) (d:St) (H:Hp) (x y:V) (v u:Vl) (Q:VK),Inv X c d H s->RelV x v->RelV y u->r x y H Q->
  subscripted a false v u=operate [v,u] (getItem v u)->wpAny (model X.prog X.w) X.A (subscriptTail b a v u) (EP X c d Q) X.xe s
def yY(X:Cx)(id:String)(r:V->List V->Hp->VK->Prop):Prop:=
 ∀(a:AO) (s:Sh) (b:St) (H:Hp) (x:V) (c:List V) (v:Vl) (d:Vs) (Q:VK),Inv X a b H s->RelV x v->Vals c d->r x c H Q->
  wpAny (model X.prog X.w) X.A (call (.builtin id) (v::d)) (EP X a b Q) X.xe s
section
variable{X:Cx}{a b:Expr}{C D:TE}{B:Pos}
def dB{r:R2}(c:IxR X r)(d:PE X a C)(e:PE X b D)(f:LH b):PE X (.Subscript a b B) (wq r C D):=by
 intro g s i H Q I h;exact Subscript_ (tv d e I h λv u j x y k l m n q=>c a b g j i k x y v u Q l m n q (f _ _))
inductive mj(K:P3)(x y:V)(H:Hp)(Q:VK):Prop|mk:∀p a i v,x=.ref p->y=.int i->SqL K H p a->j8 a i=some v->Q v H->mj K x y H Q
inductive jo(K:P3)(x y:V)(H:Hp)(Q:VK):Prop|mk:∀p a i v,x=.ref p->y=.int i->SqT K H p a->j8 a i=some v->Q v H->jo K x y H Q
def gW:IxR X (mj X.K):=by
 intro b c k s l H x y v u Q I A B h m;obtain⟨p,N,i,z,rfl,rfl,C,D,q⟩:=h;cases A;obtain⟨t,rfl⟩:=B;obtain⟨d,r,e,O⟩:=I.list C;obtain⟨j,a,E,T,G,J⟩:=Ft D;obtain⟨w,n,f⟩:=r.get E;have L:=r.length;have U:=xf;have fin:EP X k l Q w s:=#[z,H,I,f,q];by_cases o:0<=i
 .have g:i.toNat=j:=by
   rw[seqIndex_of o J]at a;exact gY a
  exact item_listR e.isList o () (by rw[g];simpa using n) fin m
 .have g:(i+(d.toArray.size:Int)).toNat=j:=by
   rw[seqIndex_neg () G]at a;rw[e9,<-L];exact gY a
  exact subscriptTail_builtinR (x:=w) e.isList.typeIs slot_list_getitem.lookup
   (wpAny_getItem_list_neg (Q:=λr M=>r=w/\EP X k l Q r M) e.isList () (by rw[e9]<;>lia) () (by rw[g];simpa using n) #[zZ,fin]) m
def eM:IxR X (jo X.K):=by
 intro a b d s e H x y v u Q I g k h l;obtain⟨p,G,i,z,rfl,rfl,m,n,q⟩:=h;cases g;obtain⟨t,rfl⟩:=k;obtain⟨o,r,f,J⟩:=I.tuple m;obtain⟨j,A,B,L,M,N⟩:=Ft n;obtain⟨w,C,c⟩:=r.get B;have D:=r.length;have O:=xf;have fin:EP X d e Q w s:=#[z,H,I,c,q];exact subscriptTail_builtinR (x:=w) f.typeIs Av.lookup
  (getItem_tuple (j:=j) (Q:=λr E=>r=w/\EP X d e Q r E) f () () (by rw[e9,<-D];exact A) (by simpa using C) #[zZ,fin]) l
def Kr(a:Vs)(n j:Nat)(u:Vl):Obj.mapSeq (·.setIfInBounds j u) {cls:= .type "list",data:= .seq a.toArray n}={cls:= .type "list",data:= .seq (a.set j u).toArray n}:=by
 simp[Obj.mapSeq]
def Inv.lst{b:AO}{c:St}{H:Hp}{s:Sh}{p:Ad}{a:List V}(I:Inv X b c H s)(h:H p=some (.lst a)):
  ∃(its:Vs) (n:Nat),Vals a its/\s.heap.get? p=some {cls:= .type "list",data:= .seq its.toArray n}/\a.length<=sizeLine:=by
 obtain⟨z,its,n,r,e⟩:=I.hok p _ h;exact#[its,n,r,e,z]
def Inv.lstUpd{i:AO}{j:St}{H:Hp}{s:Sh}{p:Ad}{l d:List V}{c a:Vs}{n g:Nat}{f:Obj->Obj}(I:Inv X i j H s)(h:H p=some (.lst l))(m:s.heap.get? p=some {cls:= .type "list",data:= .seq c.toArray n}) (k:f {cls:= .type "list",data:= .seq c.toArray n}={cls:= .type "list",data:= .seq a.toArray g}) (r:Vals d a) (o:d.length<=sizeLine) (t:Nat):
  Inv X i j (cq H p (.lst d)) {s with heap:=s.heap.update p f,toks:=t}:=by
 have e:(s.heap.update p f).get? p=some {cls:= .type "list",data:= .seq a.toArray g}:=by
  rw[pD f m (by rw[k]<;>rfl),k]
 refine I.write (x:=p) (e:=p) (by rw[h];trivial) (.inl zZ) (λb u v q=>(je _ _ (eJ v)).trans q) #[_,e] ?_;exact#[o,a,g,r,e]
inductive rb(o i v:V)(H:Hp)(Q:Hp->Prop):Prop|mk:∀p a k j,o=.ref p->i=.int k->H p=some (.lst a)->oM a.length k=some j->Q (cq H p (.lst (a.set j v)))->rb o i v H Q
def zD:xY X rb:=by
 intro x s y H o i v G J u Q I z A B h;obtain⟨p,C,k,j,rfl,rfl,f,D,q⟩:=h;cases z;obtain⟨t,rfl⟩:=A;obtain⟨a,n,r,c,E⟩:=I.lst f;obtain⟨b,L,g,l⟩:=Gc D;have d:=r.length;have M:=xf;have m:Inv X x y (cq H p (.lst (C.set j v))) {s with heap:=s.heap.update p (Obj.mapSeq (·.setIfInBounds j u))}:=
  I.lstUpd f c (Kr a n j u) (r.set B j) (by rw[si];exact E) s.toks
 by_cases w:0<=k
 .have e:k.toNat=j:=by
   rw[seqIndex_of w l]at b;exact gY b
  exact PySem.W.ki_setAt c w () (by rw[e9,<-d];exact l) (by rw[e];exact#[_,m,q])
 .have e:(k+(a.toArray.size:Int)).toNat=j:=by
   rw[seqIndex_neg () g]at b;rw[e9,<-d];exact gY b
  exact PySem.W.ki_setBack c () (by rw[e9,<-d];exact g) () (by rw[e];exact#[_,m,q])
def ja:V->Bool
 |.non=>true
 |.bl _=>true
 |.int _=>true
 |.str _=>true
 |_=>false
def mV:V->V->Bool
 |.non,.non=>true
 |.bl a,.bl b=>a==b
 |.bl a,.int b=>(if a then 1 else 0)==b
 |.int a,.bl b=>a==(if b then 1 else 0)
 |.int a,.int b=>a==b
 |.str a,.str b=>a==b
 |_,_=>false
def yJ{A:Ar}{s:Sh}{y x:V}{u v:Vl}(e:RelV y u)(c:RelV x v)(g:ja y=true)(f:ja x=true):SeqAt.EqAt A s u v (mV y x):=by
 cases y with
 |non=>
  cases e;cases x with
  |non=>cases c;exact SeqAt.EqAt.same _
  |bl b=>cases c;exact SeqAt.EqAt.none_bool b
  |int b=>obtain⟨t,rfl⟩:=c;exact SeqAt.EqAt.none_int b t
  |str b=>obtain⟨t,rfl⟩:=c;exact SeqAt.EqAt.none_str b t
  |_=>exact wC (show false=true from f) gC
 |bl a=>
  cases e;cases x with
  |non=>cases c;exact SeqAt.EqAt.bool_none a
  |bl b=>cases c;exact SeqAt.EqAt.bool_bool a b
  |int b=>obtain⟨t,rfl⟩:=c;exact SeqAt.EqAt.bool_int a b t
  |str b=>obtain⟨t,rfl⟩:=c;exact SeqAt.EqAt.bool_str a b t
  |_=>exact wC (show false=true from f) gC
 |int a=>
  obtain⟨d,rfl⟩:=e;cases x with
  |non=>cases c;exact SeqAt.EqAt.int_none a d
  |bl b=>cases c;exact SeqAt.EqAt.int_bool a d b
  |int b=>obtain⟨t,rfl⟩:=c;exact SeqAt.EqAt.int_int a d b t
  |str b=>obtain⟨t,rfl⟩:=c;exact SeqAt.EqAt.int_str a d b t
  |_=>exact wC (show false=true from f) gC
 |str a=>
  obtain⟨d,rfl⟩:=e;cases x with
  |non=>cases c;exact SeqAt.EqAt.str_none a d
  |bl b=>cases c;exact SeqAt.EqAt.str_bool a d b
  |int b=>obtain⟨t,rfl⟩:=c;exact SeqAt.EqAt.str_int a d b t
  |str b=>obtain⟨t,rfl⟩:=c;exact SeqAt.EqAt.str_str a d b t
  |_=>exact wC (show false=true from f) gC
 |_=>exact wC (show false=true from g) gC
def j6(x:V)(u:Vl):Bool:=match u with
 |.none=>mV .non x
 |.bool b=>mV (.bl b) x
 |.int i _=>mV (.int i) x
 |.str z _=>mV (.str z) x
 |_=>false
def Ig{x y:V}{u:Vl}(r:RelV y u)(f:ja y=true):j6 x u=mV y x:=by
 cases y with
 |non=>cases r;rfl
 |bl b=>cases r;rfl
 |int i=>obtain⟨t,rfl⟩:=r;rfl
 |str z=>obtain⟨t,rfl⟩:=r;rfl
 |_=>exact wC (show false=true from f) gC
theorem xa{x:V}:∀{a:List V} {b:Vs},Vals a b->a.all ja=true->b.any (j6 x)=a.any λy=>mV y x
 |_,_,.nil,_=>rfl
 |y::a,u::b,.cons r t,f=>by
  rw[List.all_cons,jt]at f;rw[uz,uz,Ig r f.1,xa t f.2]
theorem yl{A:Ar}{s:Sh}{x:V}{v:Vl}(c:RelV x v)(d:ja x=true):∀{a:List V} {b:Vs},Vals a b->a.all ja=true->∀u∈b,SeqAt.EqAt A s u v (j6 x u)
 |_,_,.nil,_=>λu hu=>by cases hu
 |y::a,u::b,.cons r t,f=>λe hu=>by
  rw[List.all_cons,jt]at f
  rcases dL.mp hu with rfl|hu
  .rw[Ig r f.1];exact yJ r c f.1 d
  .exact yl c d t f.2 e hu
def qe(x:V)(xs:List V):Bool:=xs.any λy=>mV y x
inductive AI(K:P3)(a:Bool)(x y:V)(H:Hp)(Q:VK):Prop|mk:∀p b,y=.ref p->((SqL K H p b\/SqT K H p b))->ja x=true->b.all ja=true->(Q (.bl (if a then !qe x b else qe x b)) H)->AI K a x y H Q
def Ku:OpR X (compareOp .In) (AI X.K false):=by
 intro g s i H x y v u Q I c e h;obtain⟨p,j,rfl,hq,d,fs,q⟩:=h;cases e
 rcases hq with hq|hq
 .obtain⟨a,r,b,f⟩:=I.list hq;refine SeqAt.in_listAt (j6 x) b.isList (λw hw=>yl c d r fs w (by simpa using hw)) #[.bl _,H,I,zZ,?_];rw[show a.toArray.any (j6 x)=a.any (j6 x) by simp,xa r fs];exact q
 .obtain⟨a,r,b,f⟩:=I.tuple hq;refine SeqAt.in_tupleAt (j6 x) b (λw hw=>yl c d r fs w (by simpa using hw)) #[.bl _,H,I,zZ,?_];rw[show a.toArray.any (j6 x)=a.any (j6 x) by simp,xa r fs];exact q
def Lb:OpR X (compareOp .NotIn) (AI X.K true):=by
 intro g s i H x y v u Q I c e h;obtain⟨p,j,rfl,hq,d,fs,q⟩:=h;cases e
 rcases hq with hq|hq
 .obtain⟨a,r,b,f⟩:=I.list hq;refine SeqAt.notIn_listAt (j6 x) b.isList (λw hw=>yl c d r fs w (by simpa using hw)) #[.bl _,H,I,zZ,?_];rw[show a.toArray.any (j6 x)=a.any (j6 x) by simp,xa r fs];exact q
 .obtain⟨a,r,b,f⟩:=I.tuple hq;refine SeqAt.notIn_tupleAt (j6 x) b (λw hw=>yl c d r fs w (by simpa using hw)) #[.bl _,H,I,zZ,?_];rw[show a.toArray.any (j6 x)=a.any (j6 x) by simp,xa r fs];exact q
def fS:CallR X (.builtin "len") (λf H Q=>∃p b,f=[.ref p]/\(SqL X.K H p b\/SqT X.K H p b)/\Q (.int b.length) H):=by
 intro j s k H f l Q I r h;obtain⟨p,b,rfl,hq,q⟩:=h;obtain⟨u,rfl,g⟩:=jv r;cases g;have m:=xf
 rcases hq with hq|hq
 .obtain⟨c,d,e,i⟩:=I.list hq;have a:=d.length;exact Calls.call_len_list e.isList (by simp only[List.size_toArray]<;>lia) #[.int b.length,H,I.tok _,#[s.toks+1,by rw[List.size_toArray,a]],q]
 .obtain⟨c,d,e,i⟩:=I.tuple hq;have a:=d.length;exact len_tuple e (by simp only[List.size_toArray]<;>lia) #[.int b.length,H,I.tok _,#[s.toks+1,by rw[List.size_toArray,a]],q]
def ud:CallR X (.type "tuple") (λj H Q=>∃p c,j=[.ref p]/\((SqL X.K H p c/\∀l,H l=none->Q (.ref l) (cq H l (.tup c)))\/(SqT X.K H p c/\Q (.ref p) H))):=by
 intro k s m H j z Q I r h;obtain⟨p,c,rfl,h⟩:=h;obtain⟨u,rfl,w⟩:=jv r;cases w
 rcases h with⟨f,q⟩|⟨f,q⟩
 .obtain⟨a,g,i,n⟩:=I.list f;have t:=g.length;refine call_tuple_list i.isList (λd x=>?_) (by simp only[List.size_toArray]<;>lia);have v:Inv X k m H {s with heap:=d}:=I.kept (t':=s.toks) x;have y:Inv X k m (cq H d.objs.size (.tup c)) {s with heap:=d.push {cls:= .type "tuple",data:= .seq a.toArray}}:=
   v.laid (t':=s.toks) (λb o e=>dC _ e) (cQ _) (show ObjOk X.prog X.w _ _ _ (.tup c)from#[n,a,g,TupD.new _ _])
  exact#[.ref d.objs.size,_,y,zZ,q _ (v.hok.fresh (cQ _))]
 .obtain⟨a,g,i,n⟩:=I.tuple f;exact call_tuple_same i #[.ref p,H,I,zZ,q]
def BX(K:P3)(T:String)(x:V)(H:Hp):Prop:=match x with
 |.str _=>T="str"
 |.int _=>T="int"
 |.ref p=>(T="list"/\∃b,SqL K H p b)\/(T="tuple"/\∃o,K.lookup p=some o/\o.cls=.type "tuple"/\o.dict=none)\/
   (T="dict"/\((∃a,H p=some (.dK a))\/∃a,H p=some (.dT a)))\/(T="set"/\∃S n,H p=some (.set S n))
 |_=>False
def GB{l:AO}{m:St}{H:Hp}{s:Sh}{T:String}{x:V}{v:Vl}(I:Inv X l m H s)(r:RelV x v)(ty:BX X.K T x H):
  s.TypeIs v T/\∀a,v=.ref a->∃j,s.heap.get? a=some j/\j.dict=none:=by
 cases x with
 |str z=>
  obtain⟨t,rfl⟩:=r;cases(show T="str" from ty);exact#[typeIs_str s z t,λ_ e=>nomatch e]
 |int i=>
  obtain⟨t,rfl⟩:=r;cases(show T="int" from ty);exact#[typeIs_int s i t,λ_ e=>nomatch e]
 | ref p=>
  cases r
  rcases ty with⟨rfl,y,q⟩|⟨rfl,o,b,u,f⟩|⟨rfl,b⟩|⟨rfl,S,n,b⟩
  .obtain⟨w,_,k,_⟩:=I.list q;refine#[k.isList.typeIs,λa e=>?_];cases e;obtain⟨o,n,e,c,f,_⟩:=k;exact#[o,e,f]
  .refine#[#[o,I.kIn p o b,u],λa e=>?_];cases e;exact#[o,I.kIn _ o b,f]
  .have z:∃o,s.heap.get? p=some o/\o.ExactDict:=by
    rcases b with⟨g,b⟩|⟨g,b⟩
    .obtain⟨_,_,_,_,o,_,_,e,d,_⟩:=I.hok p _ b;exact#[o,e,d]
    .obtain⟨_,_,_,_,o,_,_,e,d,_⟩:=I.hok p _ b;exact#[o,e,d]
   obtain⟨o,e,d⟩:=z;refine#[#[o,e,d.1],λa h=>?_];cases h;exact#[o,e,d.2.1]
  .obtain⟨o,_,_,_,e,d,_⟩:=I.hok p _ b;refine#[#[o,e,d.1],λa h=>?_];cases h;exact#[o,e,d.2.1]
 |_=>exact wE ty
def Ej(K:P3)(T:String)(r:V->List V->Hp->VK->Prop)(to:TE):TE:=λb H Q=>to b H λx a=>BX K T x a/\r x [] a Q
def Bo(K:P3)(T:String)(r:V->List V->Hp->VK->Prop)(to:TE)(t:TA):TE:=λa H Q=>to a H λx b=>BX K T x b/\t a b λc d=>r x c d Q
variable{o e:Expr}{m:List Expr}{to:TE}{t:TA}{name:Str}{g d:Pos}{T id:String}{r:V->List V->Hp->VK->Prop}
def Ht(l:PlainAttrs T)(c:Slot T name id)(e:typeOf (.builtin id)=pure (.type "method_descriptor"))(m:yY X id r)(n:PE X o to)(a:attributeBase o name X.env (eval o X.env)=eval o X.env:=by rfl) (b:(g.endLine==d.line)=true:=by rfl):PE X (.Call (.Attribute o name g) [] [] d) (Ej X.K T r to):=by
 intro f s i H Q I h;refine wpAny_Call_method0_late a b (cS (n f s i H _ I h) λv p ⟨x,q,j,k,ty,t⟩=>?_);obtain⟨u,w⟩:=GB j k ty;exact#[T,id,l,c,e,u,w,Calls.callWith_builtin zZ (PySem.evalArgs_none (m f p i q x [] v [] Q j k .nil t))]
def mI(u:PlainAttrs T)(f:Slot T name id)(j:typeOf (.builtin id)=pure (.type "method_descriptor"))(w:yY X id r)(y:PE X o to)(z:PA X (e::m) t)(b:attributeBase o name X.env (eval o X.env)=eval o X.env:=by rfl)
  (i:((backTo d (starEach (e::m) X.env)).all (λx=> !x.1)&&(backToKw d (keywordEach [] X.env)).all (λx=>x.1.isSome)
   &&decide ((e::m).length+([]:List Keyword).length+(if([]:List Keyword).isEmpty then 0 else 1)<30))=true:=by rfl)
  (c:(g.endLine==d.line)=true:=by rfl) (A:starEach (e::m) X.env=(false,eval e X.env)::starEach m X.env:=by rfl) (a:(backTo d (starEach m X.env)).any (·.1)=false:=by rfl):
  PE X (.Call (.Attribute o name g) (e::m) [] d) (Bo X.K T r to t):=by
 intro k s l H Q I h;refine wpAny_Call_method_late b i c zZ (cS (y k s l H _ I h) λv B ⟨x,C,n,p,ty,D⟩=>?_);obtain⟨E,G⟩:=GB n p ty;refine#[T,id,u,f,j,E,G,?_];have q:=z d k B l C _ n D;rw[A]at q|-;refine Calls.callWith_builtin (by show(false || (backTo d (starEach m X.env)).any (·.1))=false;rw[a]<;>rfl) (Calls.evalArgs_plain ?_);exact cS q λJ L ⟨M,N,O,U,Y⟩=>w k L l N x M v J Q O p U Y
end
def Od(X:Cx)(id:String)(r:V->List V->Hp->VK->Prop):Prop:=
 ∀(a:AO) (s:Sh) (b:St) (H:Hp) (x:V) (c:List V) (v:Vl) (d:Vs) (Q:VK),Inv X a b H s->RelV x v->Vals c d->r x c H Q->
  wpAny (model X.prog X.w) X.A (call (.builtin id) (v::d)) (EP X a b Q) X.xe s
theorem Vals.one:∀{x:V} {a:Vs},Vals [x] a->∃u,a=[u]/\RelV x u
 |_,_,.cons r .nil=>#[_,zZ,r]
section
variable{X:Cx}{c:AO}{a:St}{H:Hp}{s:Sh}{l b:Ad}{g d h:List V}
def Inv.lset{b its':Vs}{n:Nat}{f:AV->Array Vl}{t':Nat}(I:Inv X c a H s)(h:H l=some (.lst g))(e:s.heap.get? l=some {cls:= .type "list",data:= .seq b.toArray n}) (i:f b.toArray=its'.toArray) (j:Vals d its') (k:d.length<=sizeLine):
  Inv X c a (cq H l (.lst d)) {s with heap:=s.heap.update l (Obj.mapSeq f),toks:=t'}:=by
 have q:=PySem.IsL.update e f;rw[i]at q;refine I.write (x:=l) (e:=l) (by rw[h];exact trivial) (.inl zZ) (λp u m o=>(je s.heap (Obj.mapSeq f) (eJ m)).trans o) #[_,q] ?_;exact#[k,its',_,j,q]
def Inv.lnew{b:Vs}{t':Nat}(I:Inv X c a H s)(e:Vals d b)(f:d.length<=sizeLine):
  Inv X c a (cq H s.heap.objs.size (.lst d)) {s with heap:=s.heap.push {cls:= .type "list",data:= .seq b.toArray},toks:=t'}:=
 I.laid (λ_ _ q=>dC _ q) (cQ _) #[f,b,0,e,fq _ zZ]
def Inv.fresh(I:Inv X c a H s):H s.heap.objs.size=none:=I.hok.fresh (cQ _)
def Inv.lstM(I:Inv X c a H s)(d:H l=some (.lst g)):g.length<=sizeLine/\∃(b:Vs) (n:Nat),Vals g b/\g.length=b.length/\s.heap.get? l=some {cls:= .type "list",data:= .seq b.toArray n}:=by
 obtain⟨z,b,n,r,e⟩:=I.hok l _ d;exact#[z,b,n,r,r.length,e]
end
section
variable{X:Cx}
inductive gP(x:V)(b:List V)(H:Hp)(Q:VK):Prop|mk:∀l a y,x=.ref l->b=[y]->H l=some (.lst a)->a.length<sizeLine->Q .non (cq H l (.lst (a++[y])))->gP x b H Q
def nY:Od X "list.append" gP:=by
 intro g s i H x j v k Q I c d h;obtain⟨l,m,y,rfl,rfl,b,o,q⟩:=h;cases c;obtain⟨u,rfl,f⟩:=d.one;obtain⟨z,a,n,r,p,e⟩:=I.lstM b;refine call_meets F.slot_list_append #[_,e,zZ] F.entry_list_append (F.args_list_append_2 _ _) (PySem.list_append l a.toArray n u (by rw[e9];lia)) #[e,?_];refine#[.non,_,I.lset (its':=a++[u]) b e (by simp) (r.append (.cons f .nil)) ?_,zZ,q];rw[eh,pd];lia
end
end L2
namespace Att
open PySem PySem.W PySem.Calls PyProof.Rows
def La{P:Params}{h:Heap}:∀(c:Zs) (d:Vs),WellAll P h d (c.map WData.int)->IntsAre d c:=by
 intro c
 induction c with
 |nil=>
  intro d w;rw[zM]at w;cases w;exact .nil
 | cons n c e=>
  intro d w;rw[h9]at w;cases w with
  |cons a b=>
   cases a;exact .cons _ _ (e _ b)
def Jh{l:OpenLaw}{n:Nat}(s:l.most=some n){P:Params}{h:Heap}{args:List WData}{c:Vs}(e:l.row.toRowW.claim.pre args=true) (k:WellAll P h c args):
  ∃a o b,c=[Value.ref a]/\args=[WData.list (b.map WData.int)]/\h.get? a=some {cls:= .type "list",data:= .seq o.toArray}/\IntsAre o b/\b.length<=n:=by
 have m:WShape.hasAll [] args [.list .int]=true:=(pre_splitW e).1;have p:l.pre.holds [] {args:=args}=true:=(pre_splitW e).2;obtain⟨d,r,rfl,t,u⟩:=hasAllW_cons m;obtain rfl:=hasAllW_nil u;obtain⟨A,rfl,v⟩:=hasW_list t;obtain⟨b,rfl⟩:=items_int v;have f:b.length<=n:=by
  unfold OpenLaw.pre at p;have i:(WTm.not (.lt (.lit (.int (n:Int))) (.len (.arg 0)))).holds [] {args:=[.list (b.map .int)]}=true:=by
   have i:=(holds_andW p).1;rw[s]at i;exact i
  have j:=condW_of i (w_not (w_lt w_lit (w_len_list (w_arg zZ))));rw[cu]at j;refine zb λq=>?_;have w:(n:Int)<((b.length:Nat):Int):=by lia
  first
   |(rw[dW w]at j;exact wC j (by decide))
   |(simp at j;lia)
 cases k with
 |cons x y=>
  cases y;cases x with
  |list z g=>exact#[_,_,b,zZ,zZ,z,La b _ g,f]
def Of(l:OpenLaw)(args:List WData):l.row.toRowW.claim.post args (.bool true) args=true:=
 postW_of (r:=l.row.toRowW) (X:=(true==true))
  (show WShape.has [] (.bool true) .bool=true by first|rfl|decide|simp[WShape.has,WShape.arms,WShape.armsAll])
  (show(WTm.eq .res (.lit (.bool true))).value [] {args:=args,res:=some (.bool true),after:=args}=some (.bool (true==true))from w_eq_bool (w_res zZ) w_lit) rfl
def attach_call{l:OpenLaw}{n:Nat}{q:Pg}{c:Ss}{A:SV->Heap->Prop}{B:World->Heap->Prop}{d:DefRec}(H:l.most=some n) (u:d.params.defaults=[])(call:∀(w:World) (e b:Sh) (mg v:SV) (fa:Ad) (o:Obj) (x p g:Vl) (a:Ad) (i:Vs) (s:Zs),
   Ground q c [] A w e mg v b.heap->B w b.heap->
   b.heap.get? fa=some o->o.data=.func (docDef d.name d.params d.body d.scope x p g)->b.heap.CodeRec p d.name->mg d.name=some (.ref fa)->
   b.heap.get? a=some {cls:= .type "list",data:= .seq i.toArray}->IntsAre i s->s.length<=n->b.gens= #v[]->
   codeAny (model l.prog w) callerA (.call (.ref fa) #[[.ref a],[]]) (λr t=>r=.ok (.ret (.bool true))/\OldK b.heap t.heap/\t.os=b.os/\AllBare t.gens) b):
  WalkO q c A B l.row.toRowW d [] (λf i=>PySem.call f i):=by
 intro w e b mg v G Y fa o x p g I kV J L y C hmg M args D as j E N z O;obtain rfl:I=.none:=Dflts.none C u;obtain rfl:kV=.none:=Dflts.noKw C;obtain⟨a,i,s,rfl,rfl,k,h,m⟩:=Jh H j z;refine enter_call (mJ (call w e b mg v fa o x p g a i s G Y J (fd_plain L) y hmg k h m M) λr t Q=>?_);obtain⟨rfl,T,U,h4⟩:=Q;exact#[.inl #[.bool true,.bool true,[],zZ,λ_=>rfl,.bool true,Of l _,λ_=>#[List.Pairwise.nil,λ_ hm=>(nomatch hm)]],T,U,h4]
end Att
namespace L2
open PySem PySem.Spec PyProof.Rows
theorem Ii:∀{a:Vs} {b:Zs},IntsAre a b->Vals (b.map V.int) a
 |_,_,.nil=> .nil
 |_,_,.cons n t h=> .cons #[t,zZ] (Ii h)
abbrev PU{K:P3}{h:Heap}(_:K.In h):P3:=K
end L2
namespace L2
open PySem PySem.Spec PyProof.Rows
def gL(s:Stmt):Arguments:=match s with
 | .FunctionDef _ a _ _ _ _ _ _ _ _=>a
 |_=>{posonlyargs:=[],args:=[],vararg:=none,kwonlyargs:=[],kw_defaults:=[],kwarg:=none,defaults:=[]}
def fg(s:Stmt):List Stmt:=match s with
 | .FunctionDef _ _ b _ _ _ _ _ _ _=>b
 |_=>[]
def cN(s:Stmt):Scope:=match s with
 | .FunctionDef _ _ _ _ _ _ a _ _ _=>a
 |_=>{kind:= .function,names:=[],isGenerator:=false,isCoroutine:=false}
abbrev da:oq:=λ_ _ _ _ _ _=>False
abbrev E0:XK:=λ_ _ _=>False
def zE{X:Cx}:nC da X E0:=λ_ _ _ _ _ _ _ h=>h.elim
structure Fun(K:P3)(x qual:Str)(st:Stmt)(f:Ad)(fd:Fd):Prop where
 ex:∃(oc:Vl) (od:Option Ad) (kV doc pm:Vl) (an:Option Ad) (cdv ct:Vl) (osl:Array (Option Vl)),
  fd=PySem.W.fnOf x qual (gL st) (fg st) (cN st) .none kV doc pm an cdv ct/\K.lookup f=some #[oc,od,.func fd,osl]/\PySem.W.codeIn K cdv qual=true
 kp:PySem.W.keepIn K (.ref f)=true
section
variable{P:Pg}{w:World}{K:P3}{mg:SV}{base:Heap}
def Fun.ok{x b:Str}{st:Stmt}{f:Ad}{m:Fd}{N g:Ss}{k:Nat}{i:Sp}(F:Fun K x b st f m)(S:FnScope N g (cN st))(d:∀(c:Vl) (A:Ar) (a:List Env) (s:Sh) (H:Hp) (e:List V) (Q:VK) (E:XK),Room k (A.deeper (envOfC b (cN st) s.heap.objs.size f c))->i e H Q E->
   ∃t,PSs (nR da P w K mg base N b (cN st) f c A a s H E).nox (fg st) t/\t {nx:=λ_ H'=>Q .non H',rt:=Q} (start N e) H)(len:∀e H Q E,i e H Q E->e.length=g.length:=by (intro _ _ _ _ h;first|(cases h;subst_vars;rfl)|((repeat obtain⟨_,h⟩:=h);subst_vars;rfl))):FnOk P w K mg base da (k+1) f m g i:=by
 obtain⟨r,u,kV,n,v,y,c,z,o,rfl,lk,j⟩:=F.ex;refine zA lk j S len λA a s H e Q E p l=>?_;obtain⟨t,h,q⟩:=d c A a s H e Q E p l;exact#[t,h.nox,q]
def Fun.binds{x a:Str}{st:Stmt}{f:Ad}{j:Fd}{ps:Ss}(F:Fun K x a st f j)(h:∀(kV b d:Vl) (e:Option Ad) (c g:Vl) (i:Vs),i.length=ps.length->bindArgs (PySem.W.fnOf x a (gL st) (fg st) (cN st) .none kV b d e c g) #[i,[]]=pure (ps.zip i)):Binds K j ps []:=by
 obtain⟨m,n,kV,b,d,e,c,g,k,rfl,lk,l⟩:=F.ex;exact .all (h kV b d e c g)
def b6k{x a:Str}{st:Stmt}{f:Ad}{j:Vl}{m g:Option Ad}{e:Array (Option Vl)}{kV d h b i:Vl}(l:K.lookup f=some #[j,m,.func (PySem.W.fnOf x a (gL st) (fg st) (cN st) .none kV d h g b i),e])(c:PySem.W.codeIn K b a=true) (k:PySem.W.keepIn K (.ref f)=true):Fun K x a st f (PySem.W.fnOf x a (gL st) (fg st) (cN st) .none kV d h g b i):=#[#[j,m,kV,d,h,g,b,i,e,zZ,l,c],k]
end
def lY{A:Ar}{k:Nat}(a:Room k A):A.units+1<cLine:=v3 (wK (by decide:1<=64) _) a.units
def Nt{n:Nat}(h:n<=1000):n<sizeLine:=v3 h (by decide)
section
variable{X:Cx}
def pv(i:Nat){x:Str}{a:Pos}(c:X.N[i]?=some x:=by rfl)(d:C7 X.env.scope x:=by first|exact Or.inl rfl|exact Or.inr Z'|exact Or.inr Z0)(e:(x==("__debug__":Str))=false:=by decide)
  (b:(x==("__classdict__":Str))=false:=by decide):PE X (.Name x a) (dG i):=Jb c d e b
end
def fW{A B:Prop}(h:B):if false=true then A else B:=by
 rw[wA gC];exact h
def gJ{A B:Prop}(h:A):if true=true then A else B:=by
 rw[wB zZ];exact h
def jk{c A B:Prop}[Decidable c](a:c->A)(b: ¬c->B):if c then A else B:=by
 by_cases h:c
 .rw[wB h];exact a h
 .rw[wA h];exact b h
def Same(H a:Hp):Prop:=∀b o,H b=some o->a b=some o
def Same.refl(H:Hp):Same H H:=λ_ _ h=>h
def Same.trans{H d e:Hp}(a:Same H d)(b:Same d e):Same H e:=λc o h=>b c o (a c o h)
def Same.free{H a:Hp}(e:Same H a){l:Ad}(h:a l=Option.none):H l=Option.none:=by
 cases q:H l with
 |none=>rfl
 |some o=>
  rw[e l o q]at h;cases h
def Same.seq{K:P3}{H b:Hp}{a:Ad}{c:List V}(e:Same H b)(h:SqL K H a c):SqL K b a c:=by
 rcases h with(h|⟨o,h⟩)|h
 .exact .inl (.inl (e _ _ h))
 .exact .inl (.inr #[o,e _ _ h])
 .exact .inr h
section
variable{c:Type}[DecidableEq c]
def fH(a:List (c×V))(k:c):Option V:=(a.find? λb=>decide (b.1=k)).map (·.2)
def iO(a:List (c×V))(k:c)(v:V):List (c×V):=
 if(a.any λb=>decide (b.1=k))=true then a.map (λb=>if b.1=k then(b.1,v)else b)else a++[(k,v)]
def mF{p:c×V}{r:List (c×V)}{k:c}(e:p.1=k):fH (p::r) k=some p.2:=by simp[fH,List.find?_cons,e]
def kq{p:c×V}{r:List (c×V)}{k:c}(e: ¬p.1=k):fH (p::r) k=fH r k:=by simp[fH,List.find?_cons,e]
theorem v7(k:c):∀a:List (c×V),(a.any λb=>decide (b.1=k))=(fH a k).isSome
 | []=>rfl
 |p::r=>by
  rw[uz];by_cases e:p.1=k
  .simp only[mF e,decide_eq_true e,Bool.true_or,Option.isSome_some]
  .rw[kq e,fZ e,Bool.false_or];exact v7 k r
theorem IT(k j:c)(y:V):∀a:List (c×V),fH (a.map λb=>if b.1=k then(b.1,y)else b) j=(fH a j).map λx=>if j=k then y else x
 | []=>rfl
 | p::r=>by
  have d:=IT k j y r;rw[h9];by_cases h:p.1=k
  .rw[wB h];by_cases e:p.1=j
   .rw[mF (p:=(p.1,y)) e,mF e,Bi,wB (e.symm.trans h)]
   .rw[kq (p:=(p.1,y)) e,kq e,d]
  .rw[wA h];by_cases e:p.1=j
   .rw[mF (p:=p) e,mF e,Bi,wA (λz=>h (e.trans z))]
   .rw[kq (p:=p) e,kq e,d]
theorem Iv(k j:c)(y:V):∀a:List (c×V),fH a k=none->fH (a++[(k,y)]) j=if j=k then some y else fH a j
 | [],_=>by
  by_cases e:k=j
  .rw[wB e.symm];exact mF (p:=(k,y)) e
  .rw[wA (λz=>e z.symm)];exact kq (p:=(k,y)) e
 |p::r,b=>by
  rw[tF];have d: ¬p.1=k:=λz=>by rw[mF z]at b;cases b
  rw[kq d]at b;have f:=Iv k j y r b;by_cases e:p.1=j
  .rw[mF e,mF e,wA (λz=>d (e.trans z))]
  .rw[kq e,kq e,f]
def Ps(b:List (c×V))(k j:c)(y:V):fH (iO b k y) j=if j=k then some y else fH b j:=by
 unfold iO;by_cases a:(b.any λd=>decide (d.1=k))=true
 .rw[wB a,IT];rw[v7]at a;by_cases e:j=k
  .obtain⟨x,f⟩:=Option.isSome_iff_exists.mp a;rw[wB e,e,f,Bi,wB zZ]
  .rw[wA e];cases fH b j with
   |none=>rfl
   |some x=>rw[Bi,wA e]
 .rw[wA a];refine Iv k j y b ?_;rw[v7]at a;cases q:fH b k with
  |none=>rfl
  |some x=>rw[q]at a;exact(a zZ).elim
def FT(a:List (c×V))(k:c)(v:V):(iO a k v).length<=a.length+1:=by
 unfold iO;split
 .rw[cu];lia
 .rw[eh,jz,Dd];lia
def wL{a:List (c×V)}{k:c}(v:V)(h:fH a k=none):iO a k v=a++[(k,v)]:=by
 unfold iO;rw[v7,h];exact wA (by decide)
def RelO.isSome_eq{o:Option V}{u:Option Vl}(r:RelO o u):o.isSome=u.isSome:=by
 cases o with
 |none=>cases u with
  |none=>rfl
  |some _=>exact(show False from r).elim
 |some _=>cases u with
  |none=>exact(show False from r).elim
  |some _=>rfl
def KV.val{a:List (c×V)}{g:List (c×Vl)}(r:KV a g)(k:c):RelO (fH a k) (valueAt g k):=by
 unfold KV at r
 induction r with
 |nil=>exact True.intro
 | @cons p q m d h t j=>
  obtain⟨i,l⟩:=h;by_cases e:p.1=k
  .have f:q.1=k:=i.symm.trans e;have b:valueAt (q::d) k=some q.2:=by simp[valueAt,List.find?_cons,f]
   rw[mF e,b];exact l
  .have f: ¬q.1=k:=λz=>e (i.trans z);have b:valueAt (q::d) k=valueAt d k:=by simp[valueAt,List.find?_cons,f]
   rw[kq e,b];exact j
def KV.any{a:List (c×V)}{d:List (c×Vl)}(r:KV a d)(k:c):(a.any λb=>decide (b.1=k))=d.any λb=>decide (b.1=k):=by
 unfold KV at r
 induction r with
 |nil=>rfl
 |cons h t e=>rw[uz,uz,e,h.1]
def KV.repl{b:List (c×V)}{f:List (c×Vl)}(r:KV b f)(k:c){y:V}{u:Vl}(g:RelV y u):
  KV (b.map λa=>if a.1=k then(a.1,y)else a) (f.map λa=>if a.1=k then(a.1,u)else a):=by
 unfold KV at r|-
 induction r with
 |nil=>exact .nil
 | @cons p q l m h t i=>
  rw[h9,h9];refine .cons ?_ i;obtain⟨d,j⟩:=h;by_cases e:p.1=k
  .rw[wB e,wB (d.symm.trans e)];exact#[d,g]
  .rw[wA e,wA (λz=>e (d.trans z))];exact#[d,j]
def KV.put{a:List (c×V)}{b:List (c×Vl)}(r:KV a b)(k:c){y:V}{u:Vl}(d:RelV y u):KV (iO a k y) (stored b k u):=by
 unfold iO stored;rw[r.any k];by_cases e:(b.any λf=>decide (f.1=k))=true
 .rw[wB e,wB e];exact r.repl k d
 .rw[wA e,wA e];exact Paired.snoc r #[zZ,d]
def KV.length{a:List (c×V)}{vs:List (c×Vl)}(r:KV a vs):a.length=vs.length:=pq r
end
def xj{P:Pg}{w:World}{k:dq}{u:Vl}(r:RelV (kV k) u):(lO P w).is k u=true:=by
 cases k with
 |inl i=>obtain⟨t,e⟩:=(show ∃t,u=Value.int i t from r);subst e;exact J3 P w i t
 |inr x=>obtain⟨t,e⟩:=(show ∃t,u=Value.str x t from r);subst e;exact K7 P w x t
theorem Gg{P:Pg}{w:World}:∀{a:List dq} {b:Vs},Vals (a.map kV) b->ItemsAre (lO P w) a b
 | [],_,r=>by rw[zM]at r;cases r;exact .nil
 |k::a,_,r=>by
  rw[h9]at r;cases r with
  |cons h t=>exact .cons (xj h) (Gg t)
abbrev KT(H:Hp):List (List dq×V)->List (List dq×Ad×Vl)->Prop:=Paired λp q=>p.1=q.1/\H q.2.1=some (.tup (p.1.map kV))/\RelV p.2 q.2.2
def KT.val{H:Hp}{a:List (List dq×V)}{f:List (List dq×Ad×Vl)}(r:KT H a f)(k:List dq):RelO (fH a k) ((atKey f k).map (·.2)):=by
 induction r with
 |nil=>exact True.intro
 | @cons p q l c h t i=>
  obtain⟨g,_,j⟩:=h;by_cases e:p.1=k
  .have d:q.1=k:=g.symm.trans e;have b:atKey (q::c) k=some q.2:=by simp[atKey,List.find?_cons,d]
   rw[mF e,b];exact j
  .have d: ¬q.1=k:=λz=>e (g.trans z);have b:atKey (q::c) k=atKey c k:=by simp[atKey,List.find?_cons,d]
   rw[kq e,b];exact i
def KT.repl{H:Hp}{a:List (List dq×V)}{d:List (List dq×Ad×Vl)}(r:KT H a d)(k:List dq){y:V}{u:Vl}(g:RelV y u):
  KT H (a.map λc=>if c.1=k then(c.1,y)else c) (d.map (putAt k u)):=by
 induction r with
 |nil=>exact .nil
 | @cons p q l m h t i=>
  rw[h9,h9];refine .cons ?_ i;obtain⟨b,f,j⟩:=h;unfold putAt;by_cases e:p.1=k
  .rw[wB e,wB (b.symm.trans e)];exact#[b,f,g]
  .rw[wA e,wA (λz=>e (b.trans z))];exact#[b,f,j]
def KT.put{H:Hp}{a:List (List dq×V)}{c:List (List dq×Ad×Vl)}(r:KT H a c)(k:List dq){b:Ad}{y:V}{u:Vl}(f:H b=some (.tup (k.map kV)))(d:RelV y u):
  KT H (iO a k y) (storedH c k b u):=by
 have e:(a.any λg=>decide (g.1=k))=(atKey c k).isSome:=by
  rw[v7,(r.val k).isSome_eq,CK]
 unfold iO storedH;rw[e];by_cases q:(atKey c k).isSome=true
 .rw[wB q,wB q];exact r.repl k d
 .rw[wA q,wA q];exact Paired.snoc r #[zZ,f,d]
def KT.keeps{H c:Hp}{a:List (List dq×V)}{d:List (List dq×Ad×Vl)}(r:KT H a d)(ht:∀b ys,H b=some (.tup ys)->c b=some (.tup ys)):KT c a d:=
 Paired.mapP r λ_ _ z=>#[z.1,ht _ _ z.2.1,z.2.2]
section
variable{P:Pg}{w:World}{H:Hp}{h:Heap}{a:Ad}
def Ik{u:HO}(ok:HOk P w H h)(e:Rd H a u):ObjOk P w H h a u:=e.ok ok
def xQ{b:List (dq×V)}(ok:HOk P w H h)(e:Rd H a (.dK b)):b.length<=sizeLine/\(a==sysModules)=false/\∃c,KV b c/\h.DictOf (lO P w) a c:=
 show ObjOk P w H h a (.dK b)from Ik ok e
def xz{b:List (dq×V)}(ok:HOk P w H h)(e:H a=some (.dK b)):b.length<=sizeLine/\(a==sysModules)=false/\∃c,KV b c/\h.DictOf (lO P w) a c:=xQ ok (.inl e)
def vy{b:List dq}(ok:HOk P w H h)(e:H a=some (.tup (b.map kV))):(tupleKind (lO P w)).is h b a:=by
 obtain⟨_,c,r,o,d,f,n,g,_⟩:=(show ObjOk P w H h a (.tup (b.map kV))from ok a _ e);exact#[o,c.toArray,n,d,f,g,by simpa using Gg r]
def wn{b:List (List dq×V)}(ok:HOk P w H h)(e:Rd H a (.dT b)):b.length<=sizeLine/\(a==sysModules)=false/\
  ∃c,KT H b c/\h.DictOfH (tupleKind (lO P w)) a c:=by
 obtain⟨z,y,c,r,o,f,g,i,j,k,n,s⟩:=(show ObjOk P w H h a (.dT b)from Ik ok e);refine#[z,y,c,r,o,f,g,i,j,k,n,λx hx=>?_,s];have all:∀{l:List (List dq×V)} {m:List (List dq×Ad×Vl)},KT H l m->∀x∈m,(tupleKind (lO P w)).is h x.1 x.2.1:=by
  intro l m q
  induction q with
  |nil=>intro x hx;exact nomatch hx
  | @cons p q v A d t u=>
   intro x hx
   rcases dL.mp hx with e|hx
   .subst e;exact vy ok (by rw[<-d.1];exact d.2.1)
   .exact u x hx
 exact all r x hx
def DP{b:List (List dq×V)}(ok:HOk P w H h)(e:H a=some (.dT b)):b.length<=sizeLine/\(a==sysModules)=false/\
  ∃c,KT H b c/\h.DictOfH (tupleKind (lO P w)) a c:=wn ok (.inl e)
end
def DGet(H:Hp)(a:Ad)(y:V)(r:Option V):Prop:=
 (∃c k,Rd H a (.dK c)/\y=kV k/\r=fH c k)\/∃c k b,Rd H a (.dT c)/\y=.ref b/\H b=some (.tup (k.map kV))/\r=fH c k
def DPut(H:Hp)(a:Ad)(y v:V)(d:Hp):Prop:=
 (∃c k,H a=some (.dK c)/\y=kV k/\c.length<sizeLine/\d=cq H a (.dK (iO c k v)))\/
 ∃c k b,H a=some (.dT c)/\y=.ref b/\H b=some (.tup (k.map kV))/\c.length<sizeLine/\d=cq H a (.dT (iO c k v))
def DGet.t{H:Hp}{a b:Ad}{c:List (List dq×V)}{k:List dq}(e:H a=some (.dT c))(d:H b=some (.tup (k.map kV))):DGet H a (.ref b) (fH c k):= .inr #[c,k,b,.inl e,zZ,d,zZ]
def DPut.t{H:Hp}{a b:Ad}{c:List (List dq×V)}{k:List dq}{v:V}(e:H a=some (.dT c))(d:H b=some (.tup (k.map kV)))(f:c.length<sizeLine):
  DPut H a (.ref b) v (cq H a (.dT (iO c k v))):= .inr #[c,k,b,e,zZ,d,f,zZ]
section
variable{X:Cx}{f:AO}{d:St}{H:Hp}{s:Sh}{a:Ad}{y v:V}{u r:Vl}{o:Option V}{A:Ar}{E:VP}
def Inv.big(I:Inv X f d H s):sysModules<s.heap.objs.size:=by
 have h:mainGlobals<s.heap.objs.size:=(I.mod.glob.keeps I.bk).lt;exact zR (by decide) h
def J'{Q:VP}(x:A.units+1<cLine)(I:Inv X f d H s)(g:DGet H a y (some v))(t:RelV y u)(h:∀j w,Inv X f d H w->RelV v j->Q j w):
  wpAny (model X.prog X.w) A (getItem (.ref a) u) Q E s:=by
 rcases g with⟨m,k,e,n,l⟩|⟨m,k,b,e,n,B,l⟩
 .subst n;obtain⟨z,C,D,c,q⟩:=xQ I.hok e;obtain⟨j,hw,i⟩:=RelO.some_of (v:=v) (o:=valueAt D k) (by rw[l];exact c.val k);exact wpAny_getItem_of (xj t) q.mapOf hw (h j _ (I.tok _) i)
 .subst n;cases(show u=Value.ref b from t);obtain⟨z,C,G,c,q⟩:=wn I.hok e;obtain⟨j,hw,i⟩:=RelO.some_of (v:=v) (o:=(atKey G k).map (·.2)) (by rw[l];exact c.val k);obtain⟨p,J,r⟩:=eW.mp hw;refine wpAny_getItem_heap (yV x) (vy I.hok B) q J ?_;rw[r];exact h j _ (I.tok _) i
def Ck{Q:VP}(t:A.units+1<cLine)(I:Inv X f d H s)(g:DGet H a y o)(p:RelV y u)(h:∀r,Inv X f d H r->Q (.bool o.isSome) r):
  wpAny (model X.prog X.w) A (compareOp .In u (.ref a)) Q E s:=by
 rcases g with⟨i,k,e,j,l⟩|⟨i,k,b,e,j,v,l⟩
 .subst j;obtain⟨z,m,w,c,n⟩:=xQ I.hok e;refine wpAny_in_of (xj p) m n.mapOf ?_;rw[<-(c.val k).isSome_eq,<-l];exact h _ (I.tok _)
 .subst j;cases(show u=Value.ref b from p);obtain⟨z,m,x,c,n⟩:=wn I.hok e;refine wpAny_in_heap (yV t) (vy I.hok v) m n ?_;have q:=(c.val k).isSome_eq;rw[CK]at q;rw[<-q,<-l];exact h _ (I.tok _)
def MM{Q:VP}(t:A.units+1<cLine)(I:Inv X f d H s)(g:DGet H a y o)(p:RelV y u)(h:∀r,Inv X f d H r->Q (.bool (!o.isSome)) r):
  wpAny (model X.prog X.w) A (compareOp .NotIn u (.ref a)) Q E s:=by
 rcases g with⟨i,k,e,j,l⟩|⟨i,k,b,e,j,v,l⟩
 .subst j;obtain⟨z,m,w,c,n⟩:=xQ I.hok e;refine wpAny_notIn_of (xj p) m n.mapOf ?_;rw[<-(c.val k).isSome_eq,<-l];exact h _ (I.tok _)
 .subst j;cases(show u=Value.ref b from p);obtain⟨z,m,x,c,n⟩:=wn I.hok e;refine wpAny_notIn_heap (yV t) (vy I.hok v) m n ?_;have q:=(c.val k).isSome_eq;rw[CK]at q;rw[<-q,<-l];exact h _ (I.tok _)
def CC{c:Heap}{h:Nat}{g:HO}(I:Inv X f d H s)(i:xX (H a))(j:Heap.SameBut a s.heap c)(k:∃q,c.get? a=some q)(new:ObjOk X.prog X.w (cq H a g) c a g):
  Inv X f d (cq H a g) {s with heap:=c,toks:=h}:=
 I.write (x:=a) (e:=a) i (.inl zZ) (λb q l z=>(j.2 b l).trans z) k new
def KE{P:Pg}{w:World}{f:Hp}{e:Heap}{b:List (dq×V)}{c:List (dq×Vl)}(z:b.length<=sizeLine)(g:(a==sysModules)=false)(d:KV b c)(h:e.DictOf (lO P w) a c):
  ObjOk P w f e a (.dK b):=#[z,g,c,d,h]
def Mf{D:Hp}{Q:Unit->Sh->Prop}(T:A.units+1<cLine)(I:Inv X f d H s)(g:DPut H a y v D)(G:RelV y u)(J:RelV v r)(h:∀L,Inv X f d D L->Q ⟨⟩ L):
  wpAny (model X.prog X.w) A (setItem (.ref a) u r) Q E s:=by
 rcases g with⟨i,k,e,o,l,p⟩|⟨i,k,b,e,o,M,l,p⟩
 .subst o p;obtain⟨z,t,U,j,w⟩:=xz I.hok e;have x:U.length<=sizeLine:=by rw[<-j.length];exact z
  have B:(iO i k v).length<=sizeLine:=by have:=FT i k v;lia
  refine wpAny_setItem_pairs (hsz:=x) (xj G) w λN m C=>h _ ?_;have Y:∃q,N.get? a=some q:=let⟨q,_,_,n,_⟩:=m;#[q,n]
  exact CC I (by rw[e];exact True.intro) C Y (KE B t (j.put k J) m)
 .subst o p;cases(show u=Value.ref b from G);obtain⟨z,t,xs,j,w⟩:=DP I.hok e;have x:xs.length<=sizeLine:=by rw[<-pq j];exact z
  have B:(iO i k v).length<=sizeLine:=by have:=FT i k v;lia
  refine wpAny_setItem_heap (hsz:=x) (yV T) (vy I.hok M) w λN m C=>h _ ?_;obtain⟨q,es,ep,n,h2,h3,h4,_,h5⟩:=m;refine CC I (by rw[e];exact True.intro) C #[q,n] #[B,t,_,(j.put k M J).keeps λc ys O=>?_,q,es,ep,n,h2,h3,h4,h5];rw[cz (nE O e)];exact O
end
def xB(i:Expr):Prop:=∀a b,subscripted i false a b=operate [a,b] (getItem a b)
def MV{a:Pg}{w:World}{A:Ar}{E:VP}{s:Sh}{j:Env}{c b:Expr}{m:Pos}{T id:String}{Q:VP}(n:typeLookup (.type T) "__getitem__"=pure (some (.builtin id))) (p:xB b)(h:wpAny (model a w) A (eval c j) (λo f=>wpAny (model a w) A (eval b j) (λi d=>d.TypeIs o T/\wpAny (model a w) A (getItem o i) Q E d) E f) E s):
  wpAny (model a w) A (eval (.Subscript c b m) j) Q E s:=by
 refine Subscript_ (fL h (λo f k=>fL k (λi d e=>?_) λ_ _ x=>x) λ_ _ x=>x);obtain⟨hT,e⟩:=e;unfold subscriptTail;refine cr ?_;rw[getitemInPython_of_ne hT.not_modules];refine cr (wpAny_specialOf hT n ?_);have fin:wpAny (model a w) A (subscripted b false o i) (λr g=>wpAny (model a w) A (letTemporaryGo c o r >>= λ_=>pure r) Q E g) E d:=by
  rw[p o i];exact wpAny_operating (fL e (λr g l=>cr (wpAny_letTemporaryGo (cF l))) λ_ _ x=>x)
 first
  |exact cF (cr fin)
  |exact cr (cF (cr fin))
  |exact cr fin
def J6{X:Cx}{f:AO}{h:St}{H:Hp}{s:Sh}{a:Ad}{y:V}{o:Option V}(I:Inv X f h H s)(g:DGet H a y o):s.TypeIs (.ref a) "dict":=by
 rcases g with⟨c,k,e,_,_⟩|⟨c,k,b,e,_,_,_⟩
 .obtain⟨_,_,i,_,d⟩:=xQ I.hok e;exact d.typeIs
 .obtain⟨_,_,j,_,d⟩:=wn I.hok e;exact d.typeIs
def Fu(d ty:TE):TE:=λb H Q=>d b H λx e=>ty b e λy c=>∃a v,x=.ref a/\DGet c a y (some v)/\Q v c
def By(ty d:TE):TE:=λb H Q=>ty b H λy e=>d b e λx c=>∃a o,x=.ref a/\DGet c a y o/\Q (.bl o.isSome) c
def IN(ty d:TE):TE:=λb H Q=>ty b H λy e=>d b e λx c=>∃a o,x=.ref a/\DGet c a y o/\Q (.bl (!o.isSome)) c
def Iw(d ty e:TE):TS:=λD b H=>e b H λv f=>d b f λx g=>ty b g λy h=>∃a c,x=.ref a/\DPut h a y v c/\D.nx b c
section
variable{X:Cx}{o i e b:Expr}{f d k:Pos}{c ty j:TE}
def oW(k:X.A.units+1<cLine)(l:PE X o c)(m:PE X i ty)(n:xB i):PE X (.Subscript o i f) (Fu c ty):=by
 intro d s e H Q I h;refine MV PySem.F.slot_dict_getitem.lookup n (cS (l d s e H _ I h) λu p ⟨x,q,r,t,w⟩=>cS (m d p e q _ r w) λE G ⟨y,z,j,A,a,v,B,g,C⟩=>?_);subst B;obtain rfl:u=Value.ref a:=t;exact#[J6 j g,J' k j g A λJ L D b=>#[v,z,D,b,C]]
def BO(e:X.A.units+1<cLine)(f:PE X i ty)(j:PE X o c):PC X .In i o (By ty c):=by
 intro b s d H Q I h;refine cS (f b s d H _ I h) λB k ⟨y,l,m,n,p⟩=>cS (j b k d l _ m p) λu C ⟨x,q,r,t,a,v,w,g,z⟩=>?_;subst w;obtain rfl:u=Value.ref a:=t;exact Ck e r g n λD A=>#[.bl v.isSome,q,A,zZ,z]
def Au(e:X.A.units+1<cLine)(f:PE X i ty)(j:PE X o c):PC X .NotIn i o (IN ty c):=by
 intro b s d H Q I h;refine cS (f b s d H _ I h) λB k ⟨y,l,m,n,p⟩=>cS (j b k d l _ m p) λu C ⟨x,q,r,t,a,v,w,g,z⟩=>?_;subst w;obtain rfl:u=Value.ref a:=t;exact MM e r g n λD A=>#[.bl (!v.isSome),q,A,zZ,z]
def qh(l:X.A.units+1<cLine)(m:PE X o c)(n:PE X i ty)(p:PE X b j)(q:swapsWith b (some (.Subscript o i d)) f.line X.env=pure false):
  PS X (.Assign [.Subscript o i d] b f) (Iw c ty j):=by
 intro k s e H D I h;refine wpAny_Assign_Subscript (cS (p k s e H _ I h) λr t ⟨v,w,z,A,B⟩=>cS (m k t e w _ z B) λu C ⟨x,E,G,J,L⟩=>cS (n k C e E _ G L) λY s3 ⟨y,H3,M,N,a,O,Q,g,T⟩=>?_) q;subst Q;obtain rfl:u=Value.ref a:=J;exact Mf l M g N A λs4 U=>#[e,O,U,T]
end
def Gy{P:Pg}{w:World}{H:Hp}(h:Heap)(a:sysModules<h.objs.size):ObjOk P w H (h.push {cls:= .type "dict",data:= .dict #v[]}) h.objs.size (.dT []):=
 #[g7 _,oh.mpr (eJ (eB a)),[],.nil,_,#v[],0,fq _ zZ,#[zZ,zZ,zZ],zZ,zZ,List.nodup_nil]
def L9:TE:=λ_ H Q=>∀p,H p=none->Q (.ref p) (cq H p (.dT []))
section
variable{X:Cx}{b:Pos}
def yd:PE X (.Dict [] [] b) L9:=λc s d H Q I h=>
 wpAny_Dict_empty #[.ref s.heap.objs.size,_,I.laid (a:=s.heap.objs.size) (o:= .dT []) (t':=s.toks) (λ_ _ q=>dC _ q) (cQ _) (Gy s.heap I.big),zZ,h _ (I.hok.fresh (cQ _))]
end
def HG:List (TE×TE)->St->Hp->(List (V×V)->Hp->Prop)->Prop
 | [],_,H,Q=>Q [] H
 |(b,c)::r,a,H,Q=>b a H λx d=>c a d λy e=>HG r a e λf g=>Q ((x,y)::f) g
abbrev VV:List (V×V)->List (Vl×Vl)->Prop:=Paired λp q=>RelV p.1 q.1/\RelV p.2 q.2
def Cw(X:Cx)(b:Pos)(keys:List (Option Expr))(a:List Expr)(c:List (TE×TE)):Prop:=
 ∀(e:AO) (s:Sh) (d:St) (H:Hp) (Q:List (V×V)->Hp->Prop),Inv X e d H s->HG c d H Q->
  wpAny (model X.prog X.w) X.A (evalPairs (pairTrees keys a X.env b)) (λh i=>∃f g,Inv X e d g i/\VV f h/\Q f g) X.xe s
def MD{X:Cx}{a:Pos}:Cw X a [] [] []:=λb s c H Q I h=>pairTrees_nil_walk #[[],H,I,.nil,h]
def Lu{X:Cx}{pos:Pos}{k v:Expr}{e:List (Option Expr)}{f:List Expr}{g i:TE}{a:List (TE×TE)}(j:PE X k g)(l:PE X v i)(m:Cw X pos e f a):
  Cw X pos (some k::e) (v::f) ((g,i)::a):=λb s c H Q I h=>
 pairTrees_cons_walk (cS (j b s c H _ I h) λu n ⟨x,o,p,q,r⟩=>cS (l b n c o _ p r) λJ t ⟨y,w,z,A,B⟩=>
  cS (m b t c w _ z B) λL M ⟨C,D,E,d,G⟩=>#[(x,y)::C,D,E,.cons #[q,A] d,G])
structure M1(X:Cx)(o:Expr)(m:Str)(apos:Pos)(e:Expr)(cpos:Pos):Prop where
 base:attributeBase o m X.env (eval o X.env)=eval o X.env
 few:((backTo cpos (starEach [e] X.env)).all (λx=> !x.1)&&(backToKw cpos (keywordEach [] X.env)).all (λx=>x.1.isSome)
  &&decide (([e]:List Expr).length+([]:List Keyword).length+(if([]:List Keyword).isEmpty then 0 else 1)<30))=true
 line:(apos.endLine==cpos.line)=true
 trees:backTo cpos (starEach [e] X.env)=[(false,eval e X.env)]
structure M2(X:Cx)(o:Expr)(m:Str)(apos:Pos)(e f:Expr)(cpos:Pos):Prop where
 base:attributeBase o m X.env (eval o X.env)=eval o X.env
 few:((backTo cpos (starEach [e,f] X.env)).all (λx=> !x.1)&&(backToKw cpos (keywordEach [] X.env)).all (λx=>x.1.isSome)
  &&decide (([e,f]:List Expr).length+([]:List Keyword).length+(if([]:List Keyword).isEmpty then 0 else 1)<30))=true
 line:(apos.endLine==cpos.line)=true
 trees:backTo cpos (starEach [e,f] X.env)=[(false,eval e X.env),(false,eval f X.env)]
theorem GY{b a:Type}{f:b->a->Sem (ForInStep a)}{g:a->b->a}:∀{l:List b} (c:a),(∀x∈l,∀c,f x c=pure (.yield (g c x)))->forIn l c f=pure (l.foldl g c)
 | [],_,_=>rfl
 |x::l,c,h=>by
  rw[List.forIn_cons,h x (dX ..),pure_bind];exact GY (g c x) λy d=>h y (eO _ d)
def oy(b:Env)(a:List (Str×Ad))(y:Str×NameKind):List (Str×Ad):=
 if y.2== .free then(match b.cells.lookup y.1 with|some c=>(y.1,c)::a|none=>a)else a
def qf(a:Env)(b:Scope):List (Str×Ad):=b.names.foldl (oy a) []
def PH{a:Env}{b:Scope}(h:∀y∈b.names,y.2=.free->∃c,a.cells.lookup y.1=some c):closureFor b a=pure (qf a b):=by
 simp only[closureFor];rw[GY (g:=oy a) [] λx i c=>?_]
 .rfl
 .obtain⟨n,k⟩:=x;by_cases f:k=.free
  .subst f;obtain⟨d,j⟩:=h _ i rfl;have e:a.cells.lookup n=some d:=j;simp only[oy,cellOf,e,beq_self_eq_true,if_true,pure_bind]
  .have l:(k==NameKind.free)=false:=by simpa using f
   simp only[oy,l,Bool.false_eq_true,if_false]
theorem zh{a:Env}:∀(names:List (Str×NameKind)) (b:List (Str×Ad)),(∀y c,b.lookup y=some c->a.cells.lookup y=some c)->
  ∀y c,(names.foldl (oy a) b).lookup y=some c->a.cells.lookup y=some c
 | [],_,h=>h
 | (n,k)::r,b,h=>by
  refine zh r _ λy c e=>?_;unfold oy at e;split at e
  .split at e
   .rename_i d i
    rw[mO]at e;cases f:y==n with
    |true=>
     rw[f]at e;have g:y=n:=eq_of_beq f;cases e;rw[g];exact i
    |false=>rw[f]at e;exact h y c e
   .exact h y c e
  .exact h y c e
theorem HQ{e:Env}:∀(a:List (Str×NameKind)) (b:List (Str×Ad)) (y:Str),(∃c,b.lookup y=some c)->∃c,(a.foldl (oy e) b).lookup y=some c
 | [],_,_,h=>h
 | (n,k)::r,b,y,h=>by
  refine HQ r _ y ?_;unfold oy;split
  .split
   .rename_i d f
    rw[mO];cases g:y==n with
    |true=>exact#[_,zZ]
    |false=>exact h
   .exact h
  .exact h
theorem Iq{d:Env}:∀(a:List (Str×NameKind)) (b:List (Str×Ad)) (y:Str),a.lookup y=some .free->(∃c,d.cells.lookup y=some c)->∃c,(a.foldl (oy d) b).lookup y=some c
 | [],_,_,h,_=>by simp at h
 | (n,k)::r,b,y,h,e=>by
  rw[mO]at h;cases f:y==n with
  |true=>
   rw[f]at h;cases h;have g:y=n:=eq_of_beq f;subst g;obtain⟨c,e⟩:=e;refine HQ r _ y ?_;refine#[c,?_];unfold oy;rw[wB (by rfl)];show List.lookup y (match d.cells.lookup y with|some c=>(y,c)::b|none=>b)=_
   rw[e];simp
  |false=>
   rw[f]at h;exact Iq r _ y h e
theorem yL{a:Env}:∀{names:List (Str×NameKind)} {y:Str} {k:NameKind},
  (names.map λ(n,k)=>if(k==NameKind.free&&a.scope.kind== .function&&a.kindOf n==some .cell)then(n,NameKind.cell)else(n,k)).lookup y=some k->
   names.lookup y=some k\/(names.lookup y=some .free/\k=.cell)
 | [],_,_,h=>by simp at h
 | (n,c)::r,y,k,h=>by
  have g:=@yL a r y k;rw[h9]at h;by_cases f:(c==NameKind.free&&a.scope.kind== .function&&a.kindOf n==some .cell)=true
  .have b:List.lookup y ((n,NameKind.cell)::(r.map λ(n,k)=>if(k==NameKind.free&&a.scope.kind== .function&&a.kindOf n==some .cell)then(n,NameKind.cell)else(n,k)))=some k:=by
    have e:(if(c==NameKind.free&&a.scope.kind== .function&&a.kindOf n==some .cell)=true then(n,NameKind.cell)else(n,c))=(n,NameKind.cell):=wB f;rw[<-e];exact h
   rw[mO]at b|-;cases d:y==n with
   | true=>
    rw[d]at b;cases b;have i:c=.free:=by
     rw[jt,jt]at f;exact eq_of_beq f.1.1
    exact .inr #[by rw[i],zZ]
   |false=>rw[d]at b;exact g b
  .have b:List.lookup y ((n,c)::(r.map λ(n,k)=>if(k==NameKind.free&&a.scope.kind== .function&&a.kindOf n==some .cell)then(n,NameKind.cell)else(n,k)))=some k:=by
    have e:(if(c==NameKind.free&&a.scope.kind== .function&&a.kindOf n==some .cell)=true then(n,NameKind.cell)else(n,c))=(n,c):=wA f;rw[<-e];exact h
   rw[mO]at b|-;cases d:y==n with
   |true=>rw[d]at b;exact .inl b
   |false=>rw[d]at b;exact g b
def Et(y:Str):Str:=#[#v[46]++y.cps]
def og(a:Ss)(y:Str):Str:=if a.contains y=true then Et y else y
structure CompScope(X:Cx)(vs:Ss)(sc:Scope):Prop where
 kind:sc.kind=.function
 cell:∀y∈sc.names,y.2≠ .cell
 locs:∀y∈sc.names,y.2=.local->sc.names.lookup y.1=some .local
 own:∀y∈X.N.map (og vs),sc.names.lookup y≠some .local
 hid:∀y∈vs,sc.names.lookup (Et y)=none
 nd:(vs++X.N.map (og vs)).Nodup
 free:∀y∈sc.names,y.2=.free->X.env.kindOf y.1=some .cell\/X.env.kindOf y.1=some .free
def gV(X:Cx)(a:Ss)(b:Scope)(C:Ad)(s:Sh)(H:Hp)(c:As):Cx where
 prog:=X.prog
 w:=X.w
 K:=X.K
 mg:=X.mg
 base:=X.base
 A:=X.A
 N:=a++X.N.map (og a)
 s₀:=s
 H₀:=H
 env:=compEnvC b (qf X.env b) C X.env
 outer:=X.stack
 stack:=X.stack
 ex:=c
 fn:=λ_=>false
 calm:=X.calm
 pn:=X.pn
 xe:=λ_ _=>False
def j9(a:Ss)(b:St):St:=List.replicate a.length none++b
section
variable{X:Cx}{h:AO}{g:St}{H:Hp}{s:Sh}{f:Ss}{a:Scope}
def Kj{C:Ad}{L:As}{E:Heap}{tk:Nat}{m0:SV}(S:CompScope X f a)(I:Inv X h g H s)(M:∀b∈L,FpOk X h H b)(ho:∀b∈L,∃o,s.heap.get? b=some o)(k:∀b o,s.heap.get? b=some o->E.get? b=some o) (N:E.Ns C m0) (G:s.heap.objs.size<=C):Inv (gV X f a C s H L) h (j9 f g) H {s with heap:=E,toks:=tk}:=by
 have j:∀y c,(qf X.env a).lookup y=some c->X.env.cells.lookup y=some c:=zh a.names [] λy c e=>by simp at e
 have fr:∀y,a.names.lookup y=some .free->X.env.kindOf y=some .cell\/X.env.kindOf y=some .free:=λy e=>S.free (y,.free) (oZ e) rfl;have O:∀y,(X.env.kindOf y=some .cell\/X.env.kindOf y=some .free)->∃c,X.env.cells.lookup y=some c:=λy e=>I.ok.has y e;have l:∀{y:Str} {J:NameKind},(relabel a X.env).names.lookup y=some J->J=.cell\/J=.free->a.names.lookup y=some .free:=λ{y J} e hk=>by
  rcases yL (names:=a.names) e with z|⟨z,_⟩
  .rcases hk with q|q
   .subst q;exact wC zZ (S.cell _ (oZ z))
   .subst q;exact z
  .exact z
 have has:∀y,a.names.lookup y=some .free->∃c,(qf X.env a).lookup y=some c:=λy e=>Iq a.names [] y e (O y (fr y e));have aa:∀y c,X.env.cells.lookup y=some c->c<s.heap.objs.size:=λy c e=>let⟨_,z⟩:=I.cell y c e;z.lt
 have kc:∀{c v},s.heap.IsCell c v->E.IsCell c v:=λ{c v} ⟨o,e,d⟩=>#[o,k _ _ e,d];refine#[#[I.ok.mod,S.kind,I.ok.glob,I.ok.blt,G,λy z c Q T=>I.ok.inj y z c (j y c Q) (j z c T),λy hy=>?_,λy c z _=>(nomatch z),I.ok.hd,I.ok.frames,.inl zZ,λb A=>#[?_,λy c e=>?_],I.bs,dy I.ok.bsz I.sz,λb o e A=>?_,λb A hs=>?_,I.stack,I.stkFree],
  rfl,I.bare,Un.kept k,#[m0,N,λi y v e1 B e3=>?_],λy c e=>?_,I.hok.fresh G,λy c e=>I.freeC y c (j y c e),λp hp=>?_,I.hok.kept k,?_]
 .have U:(relabel a X.env).names.lookup y=some .cell\/(relabel a X.env).names.lookup y=some .free:=hy
  rcases U with z|z
  .exact has y (l z (.inl zZ))
  .exact has y (l z (.inr zZ))
 .obtain⟨o,e⟩:=ho b A;exact eB (fJ (dm e) G)
 .exact(M b A).2.2.2.2.1 y c (j y c e)
 .obtain⟨_,_,_,z,_⟩:=M b A
  rcases z with z|z
  .exact I.ok.noex b o e z
  .exact wC (fJ (dm (I.ok.bs b o e).1) z) (mv _)
 .obtain⟨_,Q,T,_⟩:=M b A
  rcases dL.mp (I.stkSub b hs)with z|z
  .exact Q z
  .exact T z
 .have t:(f++X.N.map (og f))[i]?=some y:=e1;have w:(List.replicate f.length none++g)[i]?=some (some v):=B;have hi:f.length<=i:=by
   by_cases z:i<f.length
   .rw[fu (by simpa using z),List.getElem?_replicate]at w;split at w<;>cases w
   .lia
  rw[fV hi]at t;rw[fV (by simpa using hi),List.length_replicate]at w;have yN:y∈X.N.map (og f):=c8 t;have D:(relabel a X.env).names.lookup y=some .local\/(relabel a X.env).names.lookup y=some .cell\/(relabel a X.env).names.lookup y=some .free:=e3;have x:a.names.lookup y=some .free:=by
   rcases D with z|z|z
   .rcases yL (names:=a.names) z with q|⟨_,q⟩
    .exact wC q (S.own y yN)
    .cases q
   .exact l z (.inl zZ)
   .exact l z (.inr zZ)
  have t:X.N[i-f.length]?=some y:=by
   rw[cV]at t;cases e:X.N[i-f.length]? with
   |none=>rw[e]at t;cases t
   | some y0=>
    rw[e]at t;have B:og f y0=y:=gY t;unfold og at B
    split at B
    .rename_i Y
     rw[<-B,S.hid y0 (by simpa using Y)]at x;cases x
    .rw[B]
  have ok:=fr y x;obtain⟨m,_,hl⟩:=I.loc;obtain⟨u,r,lk⟩:=hl (i-f.length) y v t w (.inr ok);refine#[u,r,?_]
  rcases lk with⟨q,_⟩|⟨_,c,ec,Y⟩
  .rcases ok with z|z<;>rw[z]at q<;>cases q
  .obtain⟨c',e'⟩:=has y x;have:c'=c:=gY ((j y c' e').symm.trans ec);subst this;refine .inr #[?_,c',e',kc Y]
   rcases D with z|z|z
   .rcases yL (names:=a.names) z with q|⟨_,q⟩
    .exact wC q (S.own y yN)
    .cases q
   .exact .inl z
   .exact .inr z
 .obtain⟨v,z⟩:=I.cell y c (j y c e);exact#[v,kc z]
 .obtain⟨e,n,ne,nf,d⟩:=I.pin p hp;refine#[k _ _ e,n,eB (fJ (dm e) G),λz=>?_,d]
  rcases dL.mp (I.stkSub p.1 z)with q|q
  .exact ne q
  .exact nf q
 .show(List.replicate f.length none++g).length=(f++X.N.map (og f)).length;rw[eh,eh,Ek,cu,I.len]
def Inv.adopt{D:Ad}{f:List V}{a:Vs}{n:Nat}(I:Inv X h g H s)(i:f.length<=sizeLine)(j:Vals f a)(k:H D=none)(e:s.heap.get? D=some {cls:= .type "list",data:= .seq a.toArray n})
  (l:X.s₀.heap.objs.size<=D) (r:D≠X.env.locals) (t:∀x c,X.env.cells.lookup x=some c->c≠D) (v:∀p∈X.pn++h,p.1≠D):Inv X h g (cq H D (.lst f)) s:=by
 have nd:∀b u,H b=some u->b≠D:=λb u q z=>by rw[z,k]at q;cases q
 have q:=I.step (h':=s.heap) (H':=cq H D (.lst f)) (g':=s.gens) (t':=s.toks) (d':=s.drawn) (ch:=[D]) (λb d=>by
   have z:b=D:=by simpa using d
   subst z;exact#[.inr l,r,t,v])
  (λb o _ _ _ e _=>e) (λb o _ _ _ e _=>#[o.slots,e]) (λb o d _ n=>by rw[cz (λz=>d (by simp[z]))];exact n) (λb o _ e=>#[o,e])
  (λb w q=>by rw[cz (nd b _ q)];exact q) (λb o u q=>by rw[cz (nd b _ q)];exact q) (λb A q=>#[#v[],by rw[cz (nd b _ q),q];simp]) (λm y=>y) (λb u q=>?_) I.bare
 .exact q
 .by_cases d:b=D
  .subst d;rw[cw]at q;cases q;exact#[i,a,n,j,e]
  .rw[cz d]at q;exact(I.hok b u q).stay (λ_ _ _ z=>z) (λc z=>by rw[cz (nd c _ z)];exact z) λc w z=>by rw[cz (nd c _ z)];exact z
end
def t6(X:Cx)(a:List Expr)(t:TT):Prop:=
 ∀(d:AO) (s:Sh) (b:St) (H:Hp) (Q:Bool->Hp->Prop),Inv X d b H s->t b H Q->
  wpAny (model X.prog X.w) X.A (forIn a true λc r=>if r=true then do let ok <-isTrue c X.env (eval c X.env);pure (ForInStep.yield ok)else pure (ForInStep.yield r)) (TP X d b Q) X.xe s
def oK:TT:=λ_ H Q=>Q true H
def lG{c:St}{H:Hp}{F G:Hp->Prop}(h:F H):oK c H (λb a=>if b=true then F a else G a):=by
 show(if true=true then F H else G H);exact gJ h
def iE{X:Cx}:t6 X [] oK:=λ_ _ _ H _ I h=>cF #[H,I,h]
def nN{X:Cx}{c:Expr}{t:TT}(h:PT X c t):t6 X [c] t:=λa s b H Q I q=>wpAny_tests_one (h a s b H Q I q)
theorem Mj{a:Pg}{w:World}{A:Ar}{R:Result->Sh->Prop}{s:Sh}{e o d:Expr}{f:List Expr}{t:Scope}{i:Pos}{it g:Vl}{b:Env}(j:Nat->Sh->Prop)(k:∀n s,j n s->wpAny (model a w) A (pyNext it) (λr l=>match r with
   |none=>R (.ok .next) l
   | some v=>wpAny (model a w) A (letOwnedTupleGo o it v) (λ_ l=>wpAny (model a w) A (assign o b v) (λ_ u=>
     wpAny (model a w) A (forIn f true λc r=>if r=true then do let ok <-isTrue c b (eval c b);pure (ForInStep.yield ok)else pure (ForInStep.yield r)) (λok p=>
      if ok=true then wpAny (model a w) A (eval e b) (λy B=>wpAny (model a w) A (call (.builtin "list.append") [g,y]) (λ_ C=>∃m,m<n/\j m C) (λ_ _=>False) B) (λ_ _=>False) p
      else ∃m,m<n/\j m p) (λ_ _=>False) u) (λ_ _=>False) l) (λ_ _=>False) l) (λ_ _=>False) s)(n:Nat) (h:j n s):codeAny (model a w) A (.compLoop (.ListComp e [#[o,d,f,0]] t i) 0 it g b) R s:=by
 refine codeAny_loop zZ j (λn s H=>?_) n h;show wpAny _ A ((compTurn (.ListComp e [#[o,d,f,0]] t i) 0 it g b).onRaise (λx=>do noteFrame x b;theTreesLotGoes x)) _ _ s;refine wpAny_noted (fL (E:=λ_ _=>False) ?_ (λ_ _ q=>q) λ_ _ z=>z.elim);rw[compTurn_list];refine cr (vS (cr (cS (k n s H) λr l D=>?_)));cases r with
 |none=>exact cF D
 |some v=>
  refine cr (cS D λ_ u I=>cr (cS I λ_ p J=>cr (cS J λok B G=>?_)));cases ok with
  |false=>exact cF #[zZ,G]
  |true=>exact cr (cr (cS G λy C L=>cr (cS L λ_ N M=>cF (cF #[zZ,M]))))
def rn(b a:St):Prop:=∀(i:Nat) v,b[i]?=some (some v)->a[i]?=some (some v)
theorem hO{a:St}{x:Option V}:rn (none::a) (x::a):=λi v e=>by
 cases i with
 |zero=>cases e
 |succ i=>exact e
theorem Ey{a:St}{x y:Option V}:rn (none::none::a) (x::y::a):=λi v e=>by
 match i,e with
 |0,e=>cases e
 |1,e=>cases e
 |_+2,e=>exact e
section
variable{X:Cx}{w:AO}{A:St}{H:Hp}{s:Sh}{l:Ss}{k:Scope}{M t f:Expr}{q:List Expr}{B:Pos}{g:TG}{G:TT}{L:TE}
def oV(l:Ss)(g:TG)(G:TT)(L:TE)(A:St)(J:It)(H:Hp)(Fin:List V->Hp->Prop):Prop:=
 ∃W:Nat->Nat->List V->Hp->Prop,(∃m,W 0 m [] H)/\∀i m c H,W i m c H->
  (J.stop i H/\c.length<=sizeLine/\Fin c H)\/(J.go i H/\c.length<sizeLine/\∃N:List V->Hp->Prop,(∀e d,N e d->∃f,f<m/\W (i+1) f e d)/\
   ∀v d,J.yld i H v d->g v (j9 l A) d λa j=>rn (j9 l A) a/\G a j λb h=>if b=true then L a h λy k=>N (c++[y]) k else N c h)
def Fv{J:It}{h:As}{it:Ad}{tn:Nat->Heap->Prop}{E:VP}{RR:Vl->Ad->Result->Sh->Prop}{Fin:List V->Hp->Prop}(S:CompScope X l k) (hc:X.calm=true) (hg:∀C s H h,PG (gV X l k C s H h) M g) (ht:∀C s H h,t6 (gV X l k C s H h) q G) (he:∀C s H h,PE (gV X l k C s H h) t L)(I:Inv X w A H s) (T:Turn X.prog X.w X.K M J h it tn) (st:tn 0 s.heap) (hf:∀b∈h,FpOk X w H b) (hW:oV l g G L A J H Fin)(aw:∀D C Q a U m',Inv X w A (cq a D (.lst U)) Q->a D=none->FpOk X w (cq a D (.lst U)) C->Q.heap.Ns C m'->Fin U a->RR (.ref D) C (.ok .next) Q):
  wpAny (model X.prog X.w) X.A (newList []) (λar s3=>wpAny (model X.prog X.w) X.A (newFunctionEnv k X.env.globals (qf X.env k) [] X.env.qual none .none (some X.env)) (λcenv s4=>
   codeAny (model X.prog X.w) X.A (.compStart (.ListComp t [#[M,f,q,0]] k B) 0 (.ref it) ar {cenv with scope:=relabel k X.env}) (RR ar cenv.locals) s4) E s3) E s:=by
 obtain⟨W,⟨m0,w0⟩,as⟩:=hW;refine lM (wpAny_newFunctionEnv S.cell (by intro y hy;simp at hy) (λh1 ab Y=>?_) S.kind);dsimp only at ab Y|-;generalize am:s.heap.push {cls:= .type "list",dict:=none,data:= .seq ([]:Vs).toArray}=H2 at ab Y|-;have hC:H2.objs.size=s.heap.objs.size+1:=by rw[<-am,vK]
 generalize aJ:H2.objs.size=C at ab Y hC|-;generalize ae:s.heap.objs.size=D at hC|-;have af:D≠C:=by lia
 have below:∀b o,s.heap.get? b=some o->b≠D/\b≠C:=λb o e=>by
  have z:b<s.heap.objs.size:=dm e;rw[ae]at z;exact#[eB z,eB (by rw[hC];exact Ci z)]
 have old:∀b o,s.heap.get? b=some o->h1.get? b=some o:=λb o e=>Y.extBut b o (below b o e).2 (dC _ (am▸dC _ e));have ax:h1.get? D=some {cls:= .type "list",data:= .seq ([]:Vs).toArray}:=
  Y.extBut _ _ af (dC _ (by rw[<-am,<-ae];exact fq _ zZ))
 have ai:∀b∈h,∃o,s.heap.get? b=some o:=λb m=>let⟨o,e,_⟩:=T.obj 0 _ st b m;#[o,e]
 have an:∀b∈h,b≠D/\b≠C:=λb m=>let⟨o,e⟩:=ai b m;below b o e
 have fD:∀a,a D=none->FpOk X w a D:=λa n=>I.fpOk () n;have fC:∀a,a C=none->FpOk X w a C:=λa n=>I.fpOk () n;have ay:∀p∈X.pn++w,p.1≠D:=λp hp=>(below _ _ (I.pin p hp).1).1;have ao:∀y c,(qf X.env k).lookup y=some c->c≠D:=λy c e=>by
  have e':=zh k.names [] (λy c e=>by simp at e) y c e;obtain⟨v,z⟩:=I.cell y c e';have z':c<s.heap.objs.size:=z.lt;rw[ae]at z';exact eB z'
 have az:∀b,b∈dD X.stack->∃o,s.heap.get? b=some o:=λb m=>let⟨_,o,ho,_⟩:=I.stack.mem m;#[o,ho]
 have aA:D∉dD X.stack:=λz=>let⟨o,e⟩:=az D z;(below _ _ e).1 rfl
 have ap:∀{pl:AO} {a:Hp},(∀p∈pl,p.1=D)->(∀b∈h,a b=none)->∀b∈h,FpOk (gV X l k C s H h) (w++pl) a b:=λ{pl a} aB hn b m=>by
  obtain⟨_,q1,q2,q3,q4,q5⟩:=hf b m;refine#[hn b m,(an b m).2,λz=>?_,.inl m,λy c e=>q4 y c (zh k.names [] (λy c e=>by simp at e) y c e),λp hp=>?_]
  .rcases dL.mp (I.stkSub b z)with y|y
   .exact q1 y
   .exact q2 y
  .rcases dh.mp hp with z|z
   .exact q5 p (py _ z)
   .rcases dh.mp z with y|y
    .exact q5 p (gf _ y)
    .rw[aB p y];exact eJ (an b m).1
 have aj:∀s3:Sh,s3={s with heap:=h1,toks:=s.toks+([]:List (Str×Vl)).length}->
   codeAny (model X.prog X.w) X.A (.compLoop (.ListComp t [#[M,f,q,0]] k B) 0 (.ref it) (.ref D) (compEnvC k (qf X.env k) C X.env)) (RR (.ref D) C) s3:=by
  rintro s3 rfl;have I0:Inv (gV X l k C s H h) w (j9 l A) H {s with heap:=h1,toks:=s.toks+([]:List (Str×Vl)).length}:=Kj S I hf ai old ab ();refine Mj (λn Q=>∃i U j no a,Inv (gV X l k C s H h) w (j9 l A) a Q/\tn i Q.heap/\(∀b∈h,a b=none)/\a D=none/\
   Q.heap.get? D=some {cls:= .type "list",data:= .seq j.toArray no}/\Vals U j/\W i n U a) ?_ m0
   #[0,[],[],0,H,I0,T.keep 0 _ _ st λb m o e=>old b o e,λb m=>(hf b m).1,I.hok.fresh (),ax,.nil,w0]
  rintro n Q ⟨i,U,j,no,a,I1,au,av,ag,aC,ah,w1⟩;have ak:Inv (gV X l k C s H h) (w++[(D,{cls:= .type "list",data:= .seq j.toArray no})]) (j9 l A) a Q:=I1.pins_of λp hp=>by
   rcases dh.mp hp with z|z
   .exact I1.pin p (gf _ z)
   .have e:p=(D,{cls:= .type "list",data:= .seq j.toArray no}):=by simpa using z
    subst e;exact#[aC,ag,af,aA,λv z=>by have z':Data.seq _ _=Data.cell v:=z;cases z']
  have O:∀p∈[((D,{cls:= .type "list",data:= .seq j.toArray no}):Ad×Obj)],p.1=D:=λp hp=>by
   have e:p=(D,{cls:= .type "list",data:= .seq j.toArray no}):=by simpa using hp
   rw[e]
  rcases as i n U a w1 with⟨stop,hz,fin⟩|⟨go,hz,N,hN,step⟩
  .refine cS (T.done (gV X l k C s H h) zZ zZ zZ hc i _ Q _ a (λ_ _=>False) ak (ap O av) au stop) λr s4 ⟨hr,I4⟩=>?_;subst hr;have d4:s4.heap.get? D=some {cls:= .type "list",data:= .seq j.toArray no}:=(I4.pin (D,_) (gf _ (gf _ (dX ..)))).1;have Io:Inv X w A a s4:=I.call' (H':=a) (ch:=h) I4.os I4.base I4.hok I4.bare λb m=>by
    obtain⟨_,q1,_,q3,q4,q5⟩:=hf b m;exact#[q3,q1,q4,q5]
   obtain⟨_,a1,_,a3,a4,a5⟩:=fD a ag;have Ia:=Io.adopt hz ah ag d4 (dy I.sz ()) a1 a4 a5;obtain⟨m4,aD,_⟩:=I4.loc;refine aw D C s4 a U m4 Ia ag (fC _ ?_) aD fin;rw[cz (eJ af)];exact I4.free
  .refine cS (T.item (gV X l k C s H h) zZ zZ zZ hc i _ Q _ a (λ_ _=>False) ak (ap O av) au go) λr s4 ⟨u,hr,h4⟩=>?_;subst hr;refine cS h4 λ_ s5 ⟨x,H5,I5,r5,y5,aq,aE⟩=>?_;have aF:=I5.pinned (ap O aE) (T.obj _ _ aq);refine cS (hg C s H h _ s5 _ H5 x u _ aF r5 (step x H5 y5)) λ_ s6 ⟨aa,H6,I6,k6,q6⟩=>?_;refine cS (ht C s H h _ s6 aa H6 _ I6 q6) λok s7 ⟨H7,I7,q7⟩=>?_;have al:(j9 l A).length=aa.length:=by rw[I1.len,I6.len]
   have pinned:∀{H8:Hp} {s8:Sh},Inv (gV X l k C s H h) (w++[(D,{cls:= .type "list",data:= .seq j.toArray no})]++xD h s5.heap) aa H8 s8->
     tn (i+1) s8.heap/\(∀b∈h,H8 b=none)/\H8 D=none/\s8.heap.get? D=some {cls:= .type "list",data:= .seq j.toArray no}:=λ{H8 s8} I8=>by
    refine#[T.keep _ _ _ aq λb m o e=>(I8.pin (b,o) (gf _ (gf _ (y7 m e)))).1,λb m=>?_,?_,?_]
    .obtain⟨o,e,d⟩:=T.obj _ _ aq b m;exact(I8.pin (b,o) (gf _ (gf _ (y7 m e)))).2.1
    .exact(I8.pin (D,_) (gf _ (py _ (gf _ (dX ..))))).2.1
    .exact(I8.pin (D,_) (gf _ (py _ (gf _ (dX ..))))).1
   cases ok with
   |false=>
    rw[wA (by decide)]at q7|-;obtain⟨m',hm,w7⟩:=hN _ _ q7;obtain⟨a1,a2,a3,a4⟩:=pinned I7;exact#[m',hm,i+1,U,j,no,H7,(I7.unpinned.unpinned).weak al k6,a1,a2,a3,a4,ah,w7]
   | true=>
    rw[wB zZ]at q7|-;refine cS (he C s H h _ s7 aa H7 _ I7 q7) λyv s8 ⟨y,H8,I8,r8,n8⟩=>?_;obtain⟨m',hm,w8⟩:=hN _ _ n8;obtain⟨a1,a2,a3,a4⟩:=pinned I8;have aG:j.toArray.size<=sizeLine:=by
     have:=ah.length;rw[e9];lia
    refine wpAny_list_append_plain #[no,a4] (λh' pl sb=>?_) aG;obtain⟨aH,aI⟩:=pl;have I9:Inv (gV X l k C s H h) w aa H8 {s8 with heap:=h'}:=(I8.unpinned.unpinned).turned (t':=s8.toks) (it:=D) (λb o m e=>(sb.2 b m).trans e) a3 af (.inr (rz ae)) ao ay;refine#[m',hm,i+1,U++[y],j++[yv],aH,H8,I9.weak al k6,T.keep _ _ _ a1 λb m o e=>(sb.2 b (an b m).1).trans e,a2,a3,?_,ah.append (.cons r8 .nil),w8];rw[aI]
    simp
 exact codeAny_compStart_list (aj _ zZ) (T.self _ 0 _ _ _ (T.keep 0 _ _ st λb m o e=>old b o e) (aj _ zZ))
def AX(l:Ss)(b:TI)(g:TG)(G:TT)(L:TE):TE:=λA H Q=>b A H λJ c=>oV l g G L A J c λd a=>∀p,a p=none->Q (.ref p) (cq a p (.lst d))
def CompScope.clos{w:AO}{A:St}{H:Hp}{s:Sh}(S:CompScope X l k)(I:Inv X w A H s):closureFor k X.env=pure (qf X.env k):=
 PH λy a b=>I.ok.has y.1 (S.free y a b)
def An{i:TI}(S:CompScope X l k)(j:X.calm=true)(m:PI X M f i)(n:∀C s H a,PG (gV X l k C s H a) M g)(ht:∀C s H a,t6 (gV X l k C s H a) q G)(p:∀C s H a,PE (gV X l k C s H a) t L) (r:∀x,foldedSetIterable f X.env x=pure x:=by intro _;rfl):PE X (.ListComp t [#[M,f,q,0]] k B) (AX l i g G L):=by
 intro w s A H Q I h;rw[eval_ListComp];refine wpAny_comprehension_free (use:=none) zZ r (S.clos I) S.kind S.locs ?_;refine cS (m w s A H _ I h) λv s1 u=>cS u λy s2 z=>?_;obtain⟨it,a,tn,J,H2,e,E,T,c,N,O⟩:=z;subst e;refine Fv (RR:=λd C=>compPost (model X.prog X.w) X.A X.xe none (EP X w A Q) d C) S j n ht p E T c N O λD C U H' ys Y I' hD fC ns fin=>?_;obtain⟨c0,c1,c2,c3,c4,c5⟩:=fC;refine#[Y,ns,λh' sb=>#[.ref D,_,?_,zZ,fin D hD]];exact I'.turned (t':=U.toks) (it:=C) (λb o hb e=>(sb.2 b hb).trans e) c0 c1 c3 c4 c5
def Iu{x:Str}{p:Pos}(S:CompScope X [x] k)(a:k.names.lookup x=some .local):∀C s H b,PG (gV X [x] k C s H b) (.Name x p) (iw 0):=λC s H b=>
 gB S.nd zZ (.inl (ut a)) (.inr (ut a))
def ie{b:TI}{x:Str}{p:Pos}(S:CompScope X [x] k)(c:X.calm=true)(d:k.names.lookup x=some .local)(e:PI X (.Name x p) f b)(ht:∀C s H a,t6 (gV X [x] k C s H a) q G)(g:∀C s H a,PE (gV X [x] k C s H a) t L) (h:∀x,foldedSetIterable f X.env x=pure x:=by intro _;rfl):PE X (.ListComp t [#[.Name x p,f,q,0]] k B) (AX [x] b (iw 0) G L):=
 An S c e (Iu S d) ht g h
def HR{O:TI}{j:Nat}{y:Str}{d c:Pos}(S:CompScope X l k)(hc:X.calm=true)(hN:X.N.Nodup)(hj:X.N[j]?=some y)(U:X.env.scope.names.lookup y=some .local)(hi:PI X M f O)(hg:∀C s H i,PG (gV X l k C s H i) M g)(ht:∀C s H i,t6 (gV X l k C s H i) q G)(he:∀C s H i,PE (gV X l k C s H i) t L) (p:swapsWith (.ListComp t [#[M,f,q,0]] k B) (some (.Name y d)) c.line X.env=pure true:=by rfl) (hs:∀x,foldedSetIterable f X.env x=pure x:=by intro _;rfl):
  PS X (.Assign [.Name y d] (.ListComp t [#[M,f,q,0]] k B) c) (pG (AX l O g G L) (iw j)):=by
 intro w s A H D I h;rw[exec_Assign_Name_used _ _ _ _ p];refine cr (vS (cr ?_));show wpAny _ X.A (do let _ <-comprehension (.ListComp t [#[M,f,q,0]] k B) k X.env _ (newList []) false (eval f X.env) (some (assign (.Name y d) X.env))) _ _ s;refine cr (fL (wpAny_comprehension_free (use:=some (assign (.Name y d) X.env)) (Q:=λ_ m=>SP X w D .next m) zZ hs (S.clos I) S.kind S.locs ?_) (λ_ m hq=>cF (cF hq)) λ_ _ e=>e);refine cS (hi w s A H _ I h) λv s1 h1=>cS h1 λaa s2 h2=>?_;obtain⟨it,i,tn,J,H2,e,I2,T,r,f2,hW⟩:=h2;subst e;refine Fv (RR:=λu C=>compPost (model X.prog X.w) X.A X.xe (some (assign (.Name y d) X.env)) (λ_ m=>SP X w D .next m) u C) S hc hg ht he I2 T r f2 hW λn C m H' ys m' I' hD fC ns fin=>?_;obtain⟨c0,Y,c2,c3,c4,c5⟩:=fC;show wpAny _ X.A (assign (.Name y d) X.env (.ref n)) _ _ _;refine wpAny_assign_Name (Fx (v:= .ref n) I' hN hj (.inl U) (show RelV (.ref n) (.ref n)from rfl) (λs3 I3 ⟨a,sb,ha⟩=>?_) (.inr U));have E:a≠C:=by
  rcases ha with z|z
  .rw[z];exact eJ Y
  .exact c4 y a z
 refine#[m',ns.sameBut sb (eJ E),λh' N=>#[_,_,I3.turned (t':=s3.toks) (it:=C) (λb o hb e=>(N.2 b hb).trans e) c0 Y c3 c4 c5,fin n hD]]
def wj{d:TI}{j:Nat}{x y:Str}{p e a:Pos}(S:CompScope X [x] k)(g:X.calm=true)(h:k.names.lookup x=some .local)(i:X.N.Nodup)(l:X.N[j]?=some y)(m:X.env.scope.names.lookup y=some .local)(n:PI X (.Name x p) f d)(ht:∀C s H b,t6 (gV X [x] k C s H b) q G) (o:∀C s H b,PE (gV X [x] k C s H b) t L)(c:swapsWith (.ListComp t [#[.Name x p,f,q,0]] k B) (some (.Name y e)) a.line X.env=pure true:=by rfl) (r:∀x,foldedSetIterable f X.env x=pure x:=by intro _;rfl):
  PS X (.Assign [.Name y e] (.ListComp t [#[.Name x p,f,q,0]] k B) a) (pG (AX [x] d (iw 0) G L) (iw j)):=HR S g i l m n (Iu S h) ht o c r
end
section
variable{K:P3}{a:Ad}{xs:List V}{h:Ss}{g:TG}{j:TT}{d:TE}{c:St}{H:Hp}{Fin:List V->Hp->Prop}
def Ol(Pv:Nat->List V->Hp->Prop)(B:xs.length<=sizeLine)(o:Pv 0 [] H)(r:∀i f H,i<=xs.length->Pv i f H->SqT K H a xs/\f.length<=i)(s:∀i v f H,xs[i]?=some v->Pv i f H->g v (j9 h c) H λk t=>rn (j9 h c) k/\j k t λb n=>if b=true then d k n λy u=>Pv (i+1) (f++[y]) u else Pv (i+1) f n)(w:∀f H,Pv xs.length f H->Fin f H):oV h g j d c (A8 K a) H Fin:=by
 refine#[λi m f H=>m=xs.length-i/\i<=xs.length/\Pv i f H,#[xs.length,by simp,Nat.zero_le _,o],?_];rintro i m f H ⟨rfl,x,p⟩;obtain⟨q,C⟩:=r i f H x p;by_cases l:i<xs.length
 .refine .inr #[#[xs,xs[i],q,by simp[l]],(),Pv (i+1),λD z A=>#[xs.length-(i+1),Nat.sub_succ_lt_self _ _ l,zZ,l,A],λv z y=>?_];obtain⟨e,y⟩:=y;subst e;exact s i v f _ (y xs q) p
 .have e:i=xs.length:=by lia
  subst e;exact .inl #[#[xs,q,cQ _],(),w f H p]
def i0(Pv:Nat->List V->Hp->Prop)(B:xs.length<=sizeLine)(o:Pv 0 [] H)(r:∀i f H,i<=xs.length->Pv i f H->SqL K H a xs/\f.length<=i)(s:∀i v f H,xs[i]?=some v->Pv i f H->g v (j9 h c) H λk t=>rn (j9 h c) k/\j k t λb n=>if b=true then d k n λy u=>Pv (i+1) (f++[y]) u else Pv (i+1) f n)(w:∀f H,Pv xs.length f H->Fin f H):oV h g j d c (r3 K a) H Fin:=by
 refine#[λi m f H=>m=xs.length-i/\i<=xs.length/\Pv i f H,#[xs.length,by simp,Nat.zero_le _,o],?_];rintro i m f H ⟨rfl,x,p⟩;obtain⟨q,C⟩:=r i f H x p;by_cases l:i<xs.length
 .refine .inr #[#[xs,xs[i],q,by simp[l]],(),Pv (i+1),λD z A=>#[xs.length-(i+1),Nat.sub_succ_lt_self _ _ l,zZ,l,A],λv z y=>?_];obtain⟨e,y⟩:=y;subst e;exact s i v f _ (y xs q) p
 .have e:i=xs.length:=by lia
  subst e;exact .inl #[#[xs,q,cQ _],(),w f H p]
def wO{lo:Int}{n:Nat}(Pv:Nat->List V->Hp->Prop)(A:n<=sizeLine)(o:Pv 0 [] H)(q:∀i a H,i<=n->Pv i a H->a.length<=i)(r:∀i a H,i<n->Pv i a H->g (.int (lo+i)) (j9 h c) H λk s=>rn (j9 h c) k/\j k s λb l=>if b=true then d k l λy t=>Pv (i+1) (a++[y]) t else Pv (i+1) a l)(u:∀a H,Pv n a H->Fin a H):oV h g j d c (qc lo n) H Fin:=by
 refine#[λi m a H=>m=n-i/\i<=n/\Pv i a H,#[n,by simp,Nat.zero_le _,o],?_];rintro i m a H ⟨rfl,w,p⟩;have B:=q i a H w p;by_cases f:i<n
 .refine .inr #[f,(),Pv (i+1),λC x z=>#[n-(i+1),Nat.sub_succ_lt_self _ _ f,zZ,f,z],λv x y=>?_];obtain⟨e,y⟩:=y;subst e y;exact r i a _ f p
 .have e:i=n:=by lia
  subst e;exact .inl #[cQ _,(),u a H p]
def v0{x:Str}{xs:List V}{f:V->V}(k:xs.length<=sizeLine)(l:SqT K H a xs)(m:∀v (Q:VK),v∈xs->Q (f v) H->d (some v::c) H Q)(n:Fin (xs.map f) H):
  oV [x] (iw 0) oK d c (A8 K a) H Fin:=by
 refine Ol (λi g h=>h=H/\g=(xs.take i).map f) k #[zZ,zZ] (λi g h o ⟨e,b⟩=>?_) (λi v g h j ⟨e,b⟩=>#[hO,?_]) (λg h ⟨e,b⟩=>?_)
 .subst e b;exact#[l,by simp;lia]
 .subst e b;refine lG (m v _ (c8 j) #[zZ,?_]);rw[lP,j,eV];rfl
 .subst e b;rw[ik];exact n
def MG{x:Str}{lo:Int}{n:Nat}{f:Nat->V}(h:n<=sizeLine)(j:∀i (Q:VK),i<n->Q (f i) H->d (some (.int (lo+(i:Nat)))::c) H Q)(k:Fin ((List.range n).map f) H):
  oV [x] (iw 0) oK d c (qc lo n) H Fin:=by
 refine wO (λi b g=>g=H/\b=(List.range i).map f) h #[zZ,zZ] (λi b g m ⟨e,a⟩=>?_) (λi b g l ⟨e,a⟩=>#[hO,?_]) (λb g ⟨e,a⟩=>?_)
 .subst e a;simp
 .subst e a;refine lG (j i _ l #[zZ,?_]);rw[A5,eV];rfl
 .subst e a;exact k
end
inductive Dt where
 |non|int (i:Int)|str (x:Str)|lst (ds:List Dt)|tup (ds:List Dt)
inductive Rep (K:P3) (H:Hp):Nat->Dt->V->Prop where
 |non (n:Nat):Rep K H n .non .non
 |int (n:Nat) (i:Int):Rep K H n (.int i) (.int i)
 |str (n:Nat) (x:Str):Rep K H n (.str x) (.str x)
 |lst {n:Nat} {ds:List Dt} {a:Ad} {xs:List V} (h:SqL K H a xs) (hl:xs.length=ds.length) (hi:∀(i:Nat) d v,ds[i]?=some d->xs[i]?=some v->Rep K H n d v):Rep K H (n+1) (.lst ds) (.ref a)
 |tup {n:Nat} {ds:List Dt} {a:Ad} {xs:List V} (h:SqT K H a xs) (hl:xs.length=ds.length) (hi:∀(i:Nat) d v,ds[i]?=some d->xs[i]?=some v->Rep K H n d v):Rep K H (n+1) (.tup ds) (.ref a)
def wu{e:Type}{c d:List e}(f:c.length=d.length)(h:∀(i:Nat) a b,c[i]?=some a->d[i]?=some b->a=b):c=d:=by
 refine Bm f λi g j=>?_;exact h i _ _ (by simp[g]) (by simp[j])
section
variable{X:Cx}{k:AO}{c:St}{H:Hp}{s:Sh}
def G'{a:Ad}{b d:List V}(I:Inv X k c H s)(h:SqL X.K H a b)(e:SqT X.K H a d):False:=by
 obtain⟨_,_,p,_⟩:=I.list h;obtain⟨_,_,q,_⟩:=I.tuple e;exact SeqAt.ne_of_list_tuple p.isList (show s.heap.IsTuple a _ from q) rfl
def DL(I:Inv X k c H s):∀(n:Nat) {d f:Dt} {v:V},Rep X.K H n d v->Rep X.K H n f v->d=f:=by
 intro n
 induction n with
 |zero=>
  intro d f v r g;cases r<;>cases g<;>rfl
 | succ n y=>
  intro d f v r g;cases r with
  |non=>cases g;rfl
  |int=>cases g;rfl
  |str=>cases g;rfl
  | @lst _ z a j h p t=>
   cases g with
   | @lst _ u _ w l m o=>
    have e:=I.list_inj h l;subst e;refine dw Dt.lst (wu (p.symm.trans m) λi d f q x=>?_);have b:i<j.length:=by rw[p];exact(cK.mp q).1
    exact y (t i d j[i] q (cA b)) (o i f j[i] x (cA b))
   |tup l _ _=>exact(G' I h l).elim
  | @tup _ z a j h p t=>
   cases g with
   |lst l _ _=>exact(G' I l h).elim
   | @tup _ u _ w l m o=>
    have e:=I.tuple_inj h l;subst e;refine dw Dt.tup (wu (p.symm.trans m) λi d f q x=>?_);have b:i<j.length:=by rw[p];exact(cK.mp q).1
    exact y (t i d j[i] q (cA b)) (o i f j[i] x (cA b))
def HW{f c:List Dt}(n:f.length=c.length){e:Nat->Bool}{N:Nat}(o:N=f.length)(k:∀(j:Nat) d l,f[j]?=some d->c[j]?=some l->(e j=true↔d=l)):((List.range N).all e=true↔f=c):=by
 subst o;rw[rh];constructor
 .intro h;refine wu n λi a b m p=>?_;exact(k i a b m p).mp (h i (f8.mpr (cK.mp m).1))
 .intro h i q;have g:=f8.mp q;subst h;exact(k i f[i] f[i] (by simp[g]) (by simp[g])).mpr rfl
def LC{P:Nat->Bool->Prop}(h:∀j,∃b,P j b):∃e:Nat->Bool,∀j,P j (e j):=#[λj=>Classical.choose (h j),λj=>tz (h j)]
def EW{A:Ar}{its its':Vs}{ds ds':List Dt}(o:its.length=ds.length)(p:its'.length=ds'.length)(h:∀(j:Nat) u f d a,its[j]?=some u->its'[j]?=some f->ds[j]?=some d->ds'[j]?=some a->∃b,SeqAt.EqAt A s u f b/\(b=true↔d=a)):
  ∃e:Nat->Bool,(∀j (i:j<its.toArray.size) (k:j<its'.toArray.size),SeqAt.EqAt A s its.toArray[j] its'.toArray[j] (e j))/\∀(j:Nat) d a,ds[j]?=some d->ds'[j]?=some a->(e j=true↔d=a):=by
 obtain⟨e,l⟩:=LC (P:=λj b=>(∀u f,its[j]?=some u->its'[j]?=some f->SeqAt.EqAt A s u f b)/\∀d a,ds[j]?=some d->ds'[j]?=some a->(b=true↔d=a)) λj=>by
  by_cases g:j<its.length/\j<its'.length
  .obtain⟨b,m,n⟩:=h j its[j] its'[j] (ds[j]'()) (ds'[j]'()) (by simp[g.1]) (by simp[g.2]) (List.getElem?_eq_getElem _) (List.getElem?_eq_getElem _);refine#[b,λu f q c=>?_,λd a q c=>?_]
   .rw[cA g.1]at q;rw[cA g.2]at c;cases q;cases c;exact m
   .rw[cA ()]at q;rw[cA ()]at c;cases q;cases c;exact n
  .refine#[true,λu f q c=>wC #[(cK.mp q).1,(cK.mp c).1] g,λd a q c=>?_];have r:=(cK.mp q).1;have t:=(cK.mp c).1;exact wC #[(),()] g
 refine#[e,λj i k=>?_,λj=>(l j).2];simp only[List.size_toArray]at i k;exact(l j).1 _ _ (by simp[i]) (by simp[k])
def Dc(I:Inv X k c H s){n:Nat}{A:Ar}(m:A.units<cLine){d o:Dt}{a t:Ad}(r:Rep X.K H (n+1) d (.ref a))(r':Rep X.K H (n+1) o (.ref t))(ih:∀{d o:Dt} {v v':V} {u O:Vl},Rep X.K H n d v->Rep X.K H n o v'->RelV v u->RelV v' O->∃b,SeqAt.EqAt A.in1 s u O b/\(b=true↔d=o)):
  ∃b,SeqAt.RcAt A s (.ref a) (.ref t) b/\SeqAt.RcNeAt A s (.ref a) (.ref t) (!b)/\(b=true↔d=o):=by
 cases r with
 | @lst _ ds _ y h hl Q=>
  obtain⟨its,B,p,_⟩:=I.list h;have l1:=B.length;cases r' with
  | @lst _ ds' _ f w x l=>
   obtain⟨its',g,i,_⟩:=I.list w;have l2:=g.length;by_cases C:ds.length=ds'.length
   .obtain⟨e,D,T⟩:=EW (A:=A.in1) (s:=s) (its:=its) (its':=its') (ds:=ds) (ds':=ds') () () λj u O d o U Y E G=>by
     have g1:=(cK.mp E).1;have g2:=(cK.mp G).1;have J:y[j]?=some (y[j]'()):=cA _;have L:f[j]?=some (f[j]'()):=cA _;obtain⟨w1,M,y1⟩:=B.get J;obtain⟨w2,N,y2⟩:=g.get L;rw[U]at M;rw[Y]at N;cases M;cases N;exact ih (Q j d _ E J) (l j o _ G L) y1 y2
    have q:its.toArray.size=its'.toArray.size:=by simp only[List.size_toArray];lia
    refine#[_,SeqAt.RcAt.lists p.isList i.isList q m D,SeqAt.RcNeAt.lists p.isList i.isList q m D,?_];rw[HW C (by simp only[List.size_toArray];lia) T];exact#[λz=>by rw[z],λz=>by cases z;rfl]
   .have q:(its.toArray.size != its'.toArray.size)=true:=by
     rw[bne_iff_ne];simp only[List.size_toArray];lia
    refine#[false,SeqAt.RcAt.lists_lengths p.isList i.isList q m,SeqAt.RcNeAt.lists_lengths p.isList i.isList q m,#[λz=>(by cases z),λz=>?_]];cases z;exact wC zZ C
  | @tup _ ds' _ f w x l=>
   obtain⟨its',g,i,_⟩:=I.tuple w;exact#[false,SeqAt.RcAt.list_tuple p.isList (show s.heap.IsTuple t _ from i) m,SeqAt.RcNeAt.list_tuple p.isList (show s.heap.IsTuple t _ from i) m,#[λz=>(by cases z),λz=>(by cases z)]]
 | @tup _ ds _ y h hl Q=>
  obtain⟨its,B,p,_⟩:=I.tuple h;have l1:=B.length;cases r' with
  | @lst _ ds' _ f w x l=>
   obtain⟨its',g,i,_⟩:=I.list w;exact#[false,SeqAt.RcAt.tuple_list (show s.heap.IsTuple a _ from p) i.isList m,SeqAt.RcNeAt.tuple_list (show s.heap.IsTuple a _ from p) i.isList m,#[λz=>(by cases z),λz=>(by cases z)]]
  | @tup _ ds' _ f w x l=>
   obtain⟨its',g,i,_⟩:=I.tuple w;have l2:=g.length;obtain⟨e,D,T⟩:=EW (A:=A.in1) (s:=s) (its:=its) (its':=its') (ds:=ds) (ds':=ds') () () λj u O d o U Y E G=>by
     have g1:=(cK.mp E).1;have g2:=(cK.mp G).1;have J:y[j]?=some (y[j]'()):=cA _;have L:f[j]?=some (f[j]'()):=cA _;obtain⟨w1,M,y1⟩:=B.get J;obtain⟨w2,N,y2⟩:=g.get L;rw[U]at M;rw[Y]at N;cases M;cases N;exact ih (Q j d _ E J) (l j o _ G L) y1 y2
   refine#[_,SeqAt.RcAt.tuples (show s.heap.IsTuple a _ from p) (show s.heap.IsTuple t _ from i) m D,SeqAt.RcNeAt.tuples (show s.heap.IsTuple a _ from p) (show s.heap.IsTuple t _ from i) m D,?_];by_cases C:ds.length=ds'.length
   .have q:(its.toArray.size==its'.toArray.size)=true:=by
     rw[pk];simp only[List.size_toArray];lia
    rw[q,Bool.and_true,HW C (by simp only[List.size_toArray];lia) T];exact#[λz=>by rw[z],λz=>by cases z;rfl]
   .have q:(its.toArray.size==its'.toArray.size)=false:=by
     rw[oh];simp only[List.size_toArray];lia
    rw[q,Bool.and_false];refine#[λz=>(by cases z),λz=>?_];cases z;exact wC zZ C
def He{n m:Nat}{d b:Dt}{v a:V}(r:Rep X.K H n d v)(c:Rep X.K H m b a)(f:ja v=true)(e:ja a=true):(mV v a=true↔d=b):=by
 cases r<;>first|(cases f;done)|skip
 all_goals (cases c<;>first|(cases e;done)|skip)
 all_goals first|exact#[λ_=>rfl,λ_=>rfl]|exact#[λz=>Bool.noConfusion z,λz=>by cases z]|exact#[λz=>dw Dt.int (eq_of_beq z),λz=>by injection z with z;exact pk.mpr z]|exact#[λz=>dw Dt.str (eq_of_beq z),λz=>by injection z with z;exact pk.mpr z]
def wS(I:Inv X k c H s):∀(n:Nat) {A:Ar},A.units+n<cLine->∀{d y:Dt} {v o:V} {u B:Vl},Rep X.K H n d v->Rep X.K H n y o->RelV v u->RelV o B->∃b,SeqAt.EqAt A s u B b/\(b=true↔d=y):=by
 intro n
 induction n with
 |zero=>
  intro A M d y v o u B r g q j;have f:ja v=true:=by cases r<;>rfl
  have e:ja o=true:=by cases g<;>rfl
  exact#[_,yJ q j f e,He r g f e]
 | succ n N=>
  intro A M d y v o u B r g q j;by_cases f:ja v=true
  .by_cases e:ja o=true
   .exact#[_,yJ q j f e,He r g f e]
   .refine#[false,?_,#[λz=>(by cases z),λz=>?_]]
    .cases g with
     |non=>exact wC zZ e
     |int=>exact wC zZ e
     |str=>exact wC zZ e
     | @lst _ C a D h E G=>
      cases j;obtain⟨l,_,p,_⟩:=I.list h;cases r with
      |non=>cases q;exact SeqAt.EqAt.none_list p.isList ()
      |int _ i=>obtain⟨t,rfl⟩:=q;exact SeqAt.EqAt.int_list i t p.isList ()
      |str _ x=>obtain⟨t,rfl⟩:=q;exact SeqAt.EqAt.str_list x t p.isList ()
      |lst _ _ _=>cases f
      |tup _ _ _=>cases f
     | @tup _ C a D h E G=>
      cases j;obtain⟨l,_,p,_⟩:=I.tuple h;have w:s.heap.IsTuple a l.toArray:=p;cases r with
      |non=>cases q;exact SeqAt.EqAt.none_tuple w ()
      |int _ i=>obtain⟨t,rfl⟩:=q;exact SeqAt.EqAt.int_tuple i t w ()
      |str _ x=>obtain⟨t,rfl⟩:=q;exact SeqAt.EqAt.str_tuple x t w ()
      |lst _ _ _=>cases f
      |tup _ _ _=>cases f
    .subst z;cases r<;>first|(cases f;done)|skip
     all_goals (cases g;exact wC zZ e)
  .by_cases e:ja o=true
   .refine#[false,?_,#[λz=>(by cases z),λz=>?_]]
    .cases r with
     |non=>exact wC zZ f
     |int=>exact wC zZ f
     |str=>exact wC zZ f
     | @lst _ C a D h E G=>
      cases q;obtain⟨l,_,p,_⟩:=I.list h;cases g with
      |non=>cases j;exact SeqAt.EqAt.list_none p.isList ()
      |int _ i=>obtain⟨t,rfl⟩:=j;exact SeqAt.EqAt.list_int i t p.isList ()
      |str _ x=>obtain⟨t,rfl⟩:=j;exact SeqAt.EqAt.list_str x t p.isList ()
      |lst _ _ _=>cases e
      |tup _ _ _=>cases e
     | @tup _ C a D h E G=>
      cases q;obtain⟨l,_,p,_⟩:=I.tuple h;have w:s.heap.IsTuple a l.toArray:=p;cases g with
      |non=>cases j;exact SeqAt.EqAt.tuple_none w ()
      |int _ i=>obtain⟨t,rfl⟩:=j;exact SeqAt.EqAt.tuple_int i t w ()
      |str _ x=>obtain⟨t,rfl⟩:=j;exact SeqAt.EqAt.tuple_str x t w ()
      |lst _ _ _=>cases e
      |tup _ _ _=>cases e
    .subst z;cases g<;>first|(cases e;done)|skip
     all_goals (cases r;exact wC zZ f)
   .have J:∀{m:Nat} {d:Dt} {v:V},Rep X.K H m d v-> ¬ja v=true->∃a,v=.ref a:=λ{m d v} r f=>by
     cases r<;>first|exact#[_,zZ]|exact wC zZ f
    obtain⟨a,rfl⟩:=J r f;obtain⟨O,rfl⟩:=J g e;cases q;cases j;by_cases L:a=O
    .subst L;exact#[true,SeqAt.EqAt.same _,#[λ_=>DL I (n+1) r g,λ_=>rfl]]
    .obtain⟨b,Q,_,T⟩:=Dc I (A:=A) () r g λr g q j=>N (A:=A.in1) (by show A.units+1+n<cLine;lia) r g q j;exact#[b,.of_refs L Q,T]
inductive lC(K:P3)(c:Bool)(x y:V)(H:Hp)(Q:VK):Prop|mk:∀a e n d f,x=.ref a->y=.ref e->Rep K H (n+1) d (.ref a)->Rep K H (n+1) f (.ref e)->n<=30->(∀b,(b=true↔d=f)->Q (.bl (if c then !b else b)) H)->lC K c x y H Q
def ub(m:X.A.units+64<cLine):OpR X (compareOp .Eq) (lC X.K false):=by
 intro k s c H x y v u Q I f g h;obtain⟨a,o,n,d,p,rfl,rfl,r,e,t,q⟩:=h;cases f;cases g;obtain⟨b,i,_,j⟩:=Dc I (A:=X.A) () r e λr e q l=>wS I n (A:=X.A.in1) (by show X.A.units+1+n<cLine;lia) r e q l;exact i _ _ _ _ #[.bl b,H,I,zZ,q b j]
def pU(m:X.A.units+64<cLine):OpR X (compareOp .NotEq) (lC X.K true):=by
 intro k s c H x y v u Q I f g h;obtain⟨a,o,n,d,p,rfl,rfl,r,e,t,q⟩:=h;cases f;cases g;obtain⟨b,_,i,j⟩:=Dc I (A:=X.A) () r e λr e q l=>wS I n (A:=X.A.in1) (by show X.A.units+1+n<cLine;lia) r e q l;exact i _ _ _ _ #[.bl (!b),H,I,zZ,q b j]
end
def FH{K:P3}{H:Hp}{n:Nat}{is:Zs}(i:Nat)(d:Dt)(v:V)(a:(is.map Dt.int)[i]?=some d)(b:(is.map V.int)[i]?=some v):Rep K H n d v:=by
 rw[cV]at a b;cases e:is[i]? with
 |none=>rw[e]at a;cases a
 |some k=>
  rw[e]at a b;cases a;cases b;exact .int n k
def pV{K:P3}{H:Hp}{n:Nat}{is:Zs}{a:Ad}(h:SqL K H a (is.map V.int)):Rep K H (n+1) (.lst (is.map Dt.int)) (.ref a):= .lst h (by simp) FH
def D9{K:P3}{H:Hp}{n:Nat}{is:Zs}{a:Ad}(h:SqT K H a (is.map V.int)):Rep K H (n+1) (.tup (is.map Dt.int)) (.ref a):= .tup h (by simp) FH
theorem uf{e i:Type}{f:e->i}(g:∀a b,f a=f b->a=b):∀{c d:List e},c.map f=d.map f->c=d
 | [],[],_=>rfl
 | [],_::_,h=>by simp at h
 |_::_,[],h=>by simp at h
 |a::c,b::d,h=>by
  simp only[List.map_cons,List.cons.injEq]at h;rw[g a b h.1,uf g h.2]
def lW{c d:Zs}:Dt.lst (c.map Dt.int)=Dt.lst (d.map Dt.int)↔c=d:=
 #[λh=>by injection h with h;exact uf (λa b e=>by injection e) h,λh=>by rw[h]]
def nc{c d:Zs}:Dt.tup (c.map Dt.int)=Dt.tup (d.map Dt.int)↔c=d:=
 #[λh=>by injection h with h;exact uf (λa b e=>by injection e) h,λh=>by rw[h]]
def ju(n:Nat):List V:=(List.range n).map λ(i:Nat)=>V.int (i:Int)
section
variable{X:Cx}
inductive nL(a:List V)(H:Hp)(Q:VK):Prop|mk:∀j:Int,a=[.int j]->(∀p,H p=none->Q (.ref p) (cq H p (.rng 0 j)))->nL a H Q
def Co:CallR X (.type "range") nL:=by
 intro a s c H d f Q I r h;obtain⟨j,rfl,q⟩:=h;obtain⟨u,rfl,t,rfl⟩:=jv r;refine call_range_1 #[.ref s.heap.objs.size,_,I.laid (t':=s.toks+1+1) (λb o e=>dC _ e) (cQ _) (show ObjOk X.prog X.w _ _ _ (.rng 0 j)from#[_,_,_,fq _ zZ]),zZ,q _ (I.hok.fresh (cQ _))]
def FS{n:Nat}{f:AV}(h:ItemsOf (λi v=>∃t,v=Value.int ((0:Int)+(i:Nat) * 1) t) f n):Vals (ju n) f.toList:=by
 obtain⟨l,m⟩:=h;have go:∀(d:List V) (c:Vs),d.length=c.length->(∀(j:Nat) x u,d[j]?=some x->c[j]?=some u->RelV x u)->Vals d c:=by
  intro d
  induction d with
  |nil=>intro c g _;cases c with
   |nil=>exact .nil
   |cons=>simp at g
  |cons x d o=>
   intro c g h;cases c with
   |nil=>simp at g
   |cons u c=>exact .cons (h 0 x u zZ zZ) (o c (by simpa using g) λj a b e k=>h (j+1) a b (by simpa using e) (by simpa using k))
 refine go _ _ (by simp[ju,l]) λj x u e k=>?_;obtain⟨t,rfl⟩:=m j u (by simpa using k);unfold ju at e;rw[cV]at e;have p:j<n:=by
  have:=(cK.mp k).1;simpa[l]using this
 rw[lK p]at e;cases e;refine#[t,?_]
 congr 1
 lia
def E7{j:Int}(a:0<=j)(b:j<=1000000):Builtin.Range.small 0 j 1=true:=small_one (by decide) (by decide) () ()
def Ho{j:Int}(a:0<=j):Builtin.Range.rangeSize 0 j 1=(j.toNat:Nat):=by
 rw[rangeSize_one];split<;>lia
inductive i7(a:List V)(H:Hp)(Q:VK):Prop|mk:∀p j,a=[.ref p]->H p=some (.rng 0 j)->0<=j->j<=1000000->(∀l,H l=none->Q (.ref l) (cq H l (.lst (ju j.toNat))))->i7 a H Q
def Pz(g:X.calm=true):CallR X (.type "list") i7:=by
 intro w s x H y z Q I r h;obtain⟨p,j,rfl,i,c,k,q⟩:=h;obtain⟨u,rfl,l⟩:=jv r;cases l;obtain⟨A,B,C,e⟩:=I.hok p _ i;refine call_list_range (I.ok.hd g) e (E7 c k) (Ho c) () λd m a f n o b=>?_;have t:=FS b;have v:d.get? s.heap.objs.size=some {cls:= .type "list",data:= .seq a.toList.toArray f}:=by simpa using o
 exact#[.ref s.heap.objs.size,_,I.laid (t':=m) n (cQ _) (show ObjOk X.prog X.w _ d _ (.lst (ju j.toNat))from#[by rw[dA];simp[ju];lia,a.toList,f,t,v]),zZ,q _ (I.hok.fresh (Nat.le_refl _))]
end
section
open AutoSeq1 (wpAny_loadPart')
abbrev ze(j:Int)(a:AV):Prop:=ItemsOf (λi v=>∃t,v=Value.int ((0:Int)+(i:Nat) * 1) t) a j.toNat
def Pm{k:Pg}{w:World}{A:Ar}{E:VP}{s:Sh}{Q:Vs->Sh->Prop}{r:Ad}{j:Int}{t u v:Tok}(C:A.handled=none)(y:IsRange s.heap r 0 j 1 t u v)(B:0<=j)(D:j<=1000000)(G:∀d i c,(∀b o,s.heap.get? b=some o->d.get? b=some o)->ze j c->Q c.toList {s with heap:=d,toks:=i}):wpAny (model k w) A (collect (.ref r)) Q E s:=by
 have H:(s.heap.push {cls:= .type "list",data:= .seq ([]:Vs).toArray}).get? s.heap.objs.size=some {cls:= .type "list",data:= .seq #v[] 0}:=by exact fq _ rfl
 unfold collect;refine wpAny_bind (wpAny_runValue (codeAny_builtin F.entry_proto_collect ?_));rw[Around.under_plainId F.plain_proto_collect _];show wpAny _ A.in1 (newList [] >>= λl=>again (.builtin "list.__iadd__" #[[l,.ref r],[]])) _ _ s;refine cr (lM (cF #[vd F.plain_list_iadd _,t8 F.entry_list_iadd ?_]));rw[uq F.plain_list_iadd _];show wpAny _ A.in1 (Builtin.List.listExtendWith (.ref s.heap.objs.size) (.ref r) (.ref s.heap.objs.size)) _ _ _;have m:∀n,(∃d i c p,n={s with heap:=d,toks:=i}/\(∀b o,s.heap.get? b=some o->d.get? b=some o)/\d.get? s.heap.objs.size=some {cls:= .type "list",dict:=none,data:= .seq c p,slots:= #v[]}/\ze j c)->
   wpAny (model k w) A (match Value.ref s.heap.objs.size with
    | Value.ref a=>do
     let o <-load a
     match o.data with
      |Data.seq I _=>pure I.toList
      |_=>unsupported "internal:collect"
    |_=>unsupported "internal:collect") Q E n:=by
  rintro n ⟨d,i,c,p,rfl,z,q,x⟩;show wpAny _ A (load s.heap.objs.size >>= _) _ _ _;exact cr (wpAny_load q (cF (G d i c z x)))
 refine fL (wpAny_extend_range (A:=A) (R:=λr n=>r=.ok (.ret (.ref s.heap.objs.size))/\∃d i c p,n={s with heap:=d,toks:=i}/\(∀b o,s.heap.get? b=some o->d.get? b=some o)/\d.get? s.heap.objs.size=some {cls:= .type "list",dict:=none,data:= .seq c p,slots:= #v[]}/\ze j c)
  (s:={s with heap:=s.heap.push {cls:= .type "list",data:= .seq ([]:Vs).toArray}}) C (dC _ y) (E7 B D) (Ho B) () _ (.ref s.heap.objs.size) 0 H λd i c p z q x=>
   #[zZ,d,i,c,p,zZ,λb o e=>z b o (eB (dm e)) (dC _ e),q,x]) (λfin n h=>?_) (λe n h=>wC h.1 (by simp))
 cases fin with
 |done f=>obtain⟨e,g⟩:=h;cases e;exact m _ g
 |again p=>exact#[h.1,mJ h.2 λr J y=>by obtain⟨rfl,g⟩:=y;exact m _ g]
def JH(r:Ad)(j:Int)(t u v:Tok)(q:0<=j)(x:j<=1000000):Meets (Builtin.«tuple.__new__» #[[.type "tuple",.ref r],[]]) (λA R s=>A.handled=none/\IsRange s.heap r 0 j 1 t u v/\∀(c:Heap) i a,(∀b o,s.heap.get? b=some o->c.get? b=some o)->ze j a->
   R (.ok (.ret (.ref c.objs.size))) {s with heap:=c.push {cls:= .type "tuple",data:= .seq a},toks:=i}):=
 .of_wp λn w A R s h=>by
  obtain⟨y,g,d,i,os⟩:=s;obtain⟨z,k,h⟩:=h;have p:=sub_tuple_self;have l:=init_tuple_lookup;have B:=madeHere_tuple
  have hT:Shared.TypeIs #[y,g,d,i,os] (.ref r) "range":=#[_,k,zZ]
  wp_walk using Ct k,yW hT,Pm (A:=A.in1) z k q x
  intro c m a C f;show wpAny _ _ (Builtin.Tuple.tupleExact a.toList.toArray >>= λv=>ret v) _ _ _;have D:a.toList.toArray.size<=sizeLine:=by
   have:=f.1;rw[dA];simp only[List.size_toArray,Array.length_toList];lia
  unfold Builtin.Tuple.tupleExact;refine wpAny_bind (wpAny_newObj_type (wpAny_pure #[_,zZ,?_]) D);have e:a.toList.toArray=a:=by simp
  rw[e];exact h c m a C f
end
section
variable{X:Cx}
inductive lR(a:List V)(H:Hp)(Q:VK):Prop|mk:∀p j,a=[.ref p]->H p=some (.rng 0 j)->0<=j->j<=1000000->(∀l,H l=none->Q (.ref l) (cq H l (.tup (ju j.toNat))))->lR a H Q
def FN(l:X.calm=true):CallR X (.type "tuple") lR:=by
 intro g s i H D E Q I r h;obtain⟨p,j,rfl,m,n,t,q⟩:=h;obtain⟨u,rfl,v⟩:=jv r;cases v;obtain⟨w,x,y,e⟩:=I.hok p _ m;refine callType_new F.called_tuple (by decide) (F.typeCall_tuple_1 _) (F.newCall_tuple_1 _) (λobj=>F.args_object_init_2 obj _) F.entry_tuple_new (JH p j w x y n t) #[I.ok.hd l,e,λc d a z f=>#[#[_,fq _ zZ,zZ],?_]];have A:=FS f;have k:Inv X g i H {s with heap:=c,toks:=d}:=I.kept z;have B:(ju j.toNat).length<=sizeLine:=by rw[dA];simp[ju];lia
 have C:Inv X g i (cq H c.objs.size (.tup (ju j.toNat))) {s with heap:=c.push {cls:= .type "tuple",data:= .seq a},toks:=d}:=
  k.laid (t':=d) (λb o e=>dC _ e) (cQ _) (show ObjOk X.prog X.w _ _ _ (.tup (ju j.toNat))from#[B,a.toList,A,by simpa using TupD.new c a])
 exact#[.ref c.objs.size,_,C,zZ,q _ (k.hok.fresh (cQ _))]
inductive sj(K:P3)(a:List V)(H:Hp)(Q:VK):Prop|mk:∀x n t b,a=[x,.ty n]->TyOf K H x t->PySem.W.kitOne K t (.type n)=some b->Q (.bl b) H->sj K a H Q
def MJ:CallR X (.builtin "isinstance") (sj X.K):=by
 intro f s g H i j Q I r h;obtain⟨x,n,t,b,rfl,ty,e,q⟩:=h;obtain⟨u,k,rfl,a,c⟩:=IC r;cases c;exact N6 I a ty e λd=>#[.bl b,H,I.tok d,zZ,q]
end
structure CompSc(N:Ss)(osc:Scope)(vs:Ss)(sc:Scope):Prop where
 kind:sc.kind=.function:=by rfl
 cell:∀y∈sc.names,y.2≠ .cell:=by decide+kernel
 locs:∀y∈sc.names,y.2=.local->sc.names.lookup y.1=some .local:=by decide+kernel
 own:∀y∈N.map (og vs),sc.names.lookup y≠some .local:=by decide+kernel
 hid:∀y∈vs,sc.names.lookup (Et y)=none:=by decide+kernel
 nd:(vs++N.map (og vs)).Nodup:=by decide+kernel
 free:∀y∈sc.names,y.2=.free->osc.names.lookup y.1=some .cell\/osc.names.lookup y.1=some .free:=by decide+kernel
def CompSc.to{X:Cx}{N:Ss}{osc:Scope}{vs:Ss}{a:Scope}(h:CompSc N osc vs a)(b:X.N=N:=by rfl)(c:X.env.scope=osc:=by rfl):CompScope X vs a:=by
 subst b c;exact#[h.kind,h.cell,h.locs,h.own,h.hid,h.nd,h.free]
def dj(P:Pg)(w:World)(K:P3)(mg:SV)(base:Heap)(x:Str)(k:Nat)(a:Ss)(c:Sp):Prop:=
 ∃f b,FnOk P w K mg base da k f b a c/\mg x=some (.ref f)/\PySem.W.keepIn K (.ref f)=true/\Binds K b a []
def dv{X:Cx}{x:Str}{k:Nat}{h:Ss}{g:Sp}{e:Expr}{a:List Expr}{t:TA}{p d:Pos}(c:dj X.prog X.w X.K X.mg X.base x k h g)(i:Room k X.A)(j:Gl X x)(l:PA X (e::a) t)(n:(x==("__debug__":Str))=false:=by decide) (o:starEach (e::a) X.env=(false,eval e X.env)::starEach a X.env:=by rfl) (q:(backTo d (starEach a X.env)).any (·.1)=false:=by rfl):
  PE X (.Call (.Name x p) (e::a) [] d) (qp g [] E0 t):=by
 obtain⟨f,s,F,m,r,b⟩:=c;exact B8 F i j m r b .nil zE l n o q
def wU{X:Cx}{x:Str}{n:String}{a:Pos}(b:Gl X x)(c:X.mg x=none)(d:bootBuiltins x=some (.type n))(e:x≠"__name__":=by decide)(f:(x==("__debug__":Str))=false:=by decide):PE X (.Name x a) (tC (.ty n)):=
 J7 (v:= .ty n) b c d (show RelV (.ty n) (.type n)from rfl) e f
def IxR.k{X:Cx}{K:P3}(r:P3->R2)(h:IxR X (r X.K))(a:X.K=K):IxR X (r K):=a▸h
def OpR.k{X:Cx}{K:P3}{f:Vl->Vl->Sem Vl}(r:P3->R2)(h:OpR X f (r X.K))(a:X.K=K):OpR X f (r K):=a▸h
def CallR.k{X:Cx}{K:P3}{f:Vl}(r:P3->List V->Hp->VK->Prop)(h:CallR X f (r X.K))(a:X.K=K):CallR X f (r K):=a▸h
def cM{H:Hp}{p:Ad}(h:H p=none)(o:HO):Same H (cq H p o):=λb u q=>by rw[cz (dH q h)];exact q
def small{n:Nat}(h:n<=1000):n<=sizeLine:=jp (Nt h)
abbrev nv(n:Nat):V:= .int (n:Int)
def F6(a:cn):a.map nv=(a.map λ(n:Nat)=>(n:Int)).map V.int:=by rw[hK];rfl
def Ha{c d:cn}:(c.map λ(n:Nat)=>(n:Int))=(d.map λ(n:Nat)=>(n:Int))↔c=d:=
 #[λh=>uf (λa b e=>AM e) h,λh=>by rw[h]]
def iQ{K:P3}{H:Hp}{n:Nat}{is:cn}{a:Ad}(h:SqT K H a (is.map nv)):Rep K H (n+1) (.tup ((is.map λ(n:Nat)=>(n:Int)).map Dt.int)) (.ref a):=D9 (by rw[<-F6];exact h)
def lL{a b:cn}:Dt.lst ((a.map λ(n:Nat)=>(n:Int)).map Dt.int)=Dt.lst ((b.map λ(n:Nat)=>(n:Int)).map Dt.int)↔a=b:=lW.trans Ha
def dS{a b:cn}:Dt.tup ((a.map λ(n:Nat)=>(n:Int)).map Dt.int)=Dt.tup ((b.map λ(n:Nat)=>(n:Int)).map Dt.int)↔a=b:=nc.trans Ha
def x8{a:cn}{k:Nat}(h:k<a.length):j8 (a.map nv) (k:Int)=some (nv (a.getD k 0)):=jq (by rw[cV,cA h,eE,cA h];rfl)
def vz(H:Hp)(b:List V)(Q:VK):Prop:=∀r a,Same H a->a r=some (.tup b)->Q (.ref r) a
def DW(t:TS):TS:=λD c H=>∃S:St->Hp->Prop,t {D with nx:=S} c H/\∀a b,S a b->D.nx a b
def BU{X:Cx}{st:Stmt}{t:TS}(h:PS X st t):PS X st (DW t):=by
 intro c s d H D I q;obtain⟨S,e,g⟩:=q;refine cS (h c s d H _ I e) λf j z=>?_;cases f with
 |next=>obtain⟨a,b,i,z⟩:=z;exact#[a,b,i,g a b z]
 |brk=>exact z
 |cont=>exact z
 |ret u=>exact z
def i6{H a:Hp}{l:Ad}{o:HO}(g:Same H a)(c:H l=none):Same H (cq a l o):=λb u e=>by rw[cz (dH e c)];exact g b u e
def N2{a:Zs}{k:Nat}(h:k<a.length):j8 (a.map V.int) (k:Int)=some (.int (a.getD k 0)):=jq (by rw[cV,cA h,eE,cA h];rfl)
def zX{n k:Nat}(h:k<n):oM n (k:Int)=some k:=by
 unfold oM;rw[wB (),wB (),iy]
def wg(c:Int){n:Nat}(h:1<=n):V.int (c%(n:Int))=nv (c%(n:Int)).toNat/\(c%(n:Int)).toNat<n:=by
 have a:=Int.emod_nonneg c (by lia:(n:Int)≠0);have b:=Int.emod_lt_of_pos c (by lia:(0:Int)<(n:Int));refine#[?_,()];show V.int _=V.int (((c%(n:Int)).toNat:Nat):Int);rw[Int.toNat_of_nonneg a]
def yy(a:cn)(j v:Nat):(a.map nv).set j (nv v)=(a.set j v).map nv:=(List.map_set).symm
def Af{a:cn}{j v n:Nat}(h:∀y∈a,y<n)(b:v<n):∀y∈a.set j v,y<n:=by
 intro y c
 rcases List.mem_or_eq_of_mem_set c with z|z
 .exact h y z
 .rw[z];exact b
def eF{a:cn}{j n:Nat}(h:∀y∈a,y<n)(b:j<a.length):a.getD j 0<n:=by
 rw[eE,cA b];exact h _ (iD b)
def OL{P:Pg}{w:World}{a:Ad}{c:Type}[DecidableEq c]{kd:HeapKind P w c}(d:(a==sysModules)=false):
  MeetsIn P w (Builtin.«dict.__len__» #[[.ref a],[]]) λ_ R s=>∃b,s.heap.DictOfH kd a b/\R (.ok (.ret (.int b.length s.toks))) {s with toks:=s.toks+1}:=
 .of_wp λA R s ⟨b,e,q⟩=>by
  obtain⟨k,f,l,g,m,h,i,_⟩:=e;have j:f.size=b.length:=Ax i;show wpAny _ _ (dictSize a >>= _) _ _ s;unfold dictSize;refine cr (cr (td g h (cF (cr (wpAny_pendingCount_other d (wpAny_ret_mkInt ?_))))));rw[x4,j];exact q
def L3{P:Pg}{w:World}{A:Ar}{E:VP}{s:Sh}{a:Ad}{c:Type}[DecidableEq c]{e:HeapKind P w c}{b:List (c×Ad×Vl)}{Q:VP}(f:(a==sysModules)=false)(d:s.heap.DictOfH e a b) (few:(b.length:Int)<2 ^ 63) (q:Q (.int b.length (s.toks+1)) {s with toks:=s.toks+1+1}):wpAny (model P w) A (Builtin.«len» #[[.ref a],[]]) (λfin g=>∃r,fin=.done (.ret r)/\Q r g) E s:=by
 have h: ¬((b.length:Nat):Int)<0:=by lia
 have i: ¬((b.length:Nat):Int)>=2 ^ 63:=by lia
 unfold Builtin.«len»;refine cr (m:=oneArg "len" _) (cF (cr (m:=callSpecial? (.ref a) (Str.ofString "__len__")) ?_));refine pY (name:=Str.ofString "__len__") d.typeIs F.slot_dict_len (call_meetsIn F.slot_dict_len d.typeIs F.entry_dict_len (F.args_dict_len_1 _) (OL (kd:=e) f) #[b,d,?_]);show wpAny _ _ _ _ _ {s with toks:=s.toks+1};refine cr (iS (cF (cr (wpAny_letGo ?_))));show wpAny _ _ (if((b.length:Nat):Int)<0 then _ else(if((b.length:Nat):Int)>=2 ^ 63 then _ else _)) _ _ _;rw[wA h,wA i];exact cr (wpAny_mkInt (cF #[_,zZ,q]))
section
variable{X:Cx}
def Do:CallR X (.builtin "len") (λd H Q=>∃a b,d=[V.ref a]/\H a=some (.dT b)/\Q (.int b.length) H):=by
 intro l s m H d n Q I r h;obtain⟨a,b,rfl,f,q⟩:=h;obtain⟨u,rfl,g⟩:=jv r;cases g;obtain⟨z,i,j,c,k⟩:=DP I.hok f;have e:b.length=j.length:=pq c;refine yr kind_len plain_len entry_len (args_len1 _) (L3 i k (by rw[<-e];rw[dA]at z;lia) ?_);exact#[.int b.length,H,I.tok _,#[_,by rw[e]],q]
end
def nk(a:cn):List dq:=a.map λ(n:Nat)=>(Sum.inl (n:Int):dq)
def iu(a:cn):(nk a).map kV=a.map nv:=by
 unfold nk;rw[hK];rfl
def uc{c d:cn}(h:nk c=nk d):c=d:=by
 unfold nk at h;exact uf (λa b e=>by injection e with e;exact AM e) h
section
variable{X:Cx}
inductive mZ(K:P3)(x y:V)(H:Hp)(Q:VK):Prop|mk:∀l b a c,x=.ref l->y=.ref b->SqL K H l a->SqL K H b c->a.length+c.length<=sizeLine->(∀p,H p=none->Q (.ref p) (cq H p (.lst (a++c))))->mZ K x y H Q
def u4:OpR X (binaryOp .Add) (mZ X.K):=by
 intro E s G H x y v u Q I p t h;obtain⟨l,b,J,L,rfl,rfl,w,z,M,q⟩:=h;cases p;cases t;obtain⟨c,r,⟨⟨N,O,T,A⟩,n,e,i,j,k⟩,_⟩:=I.list w;obtain⟨a,m,⟨⟨U,Y,k2,B⟩,C,o,d,f,g⟩,_⟩:=I.list z;simp only at i j k d f g;subst i j k d f g;have l1:=r.length;have l2:=m.length;have D:c.toArray++a.toArray=(c++a).toArray:=by simp
 refine concat_meets #[_,e,zZ] #[_,o,zZ] noFill_list_add seq_list_add F.slot_list_add F.entry_list_add (F.args_list_add_2 _ _) (list_addW l b c.toArray a.toArray n C none none A B (by simp only[List.size_toArray];lia)) #[e,o,?_];rw[D];exact#[.ref _,_,I.lnew (t':=s.toks) (r.append m) (by rw[eh];lia),zZ,q _ I.fresh]
end
section
variable{X:Cx}
inductive wT(K:P3)(a:List V)(H:Hp)(Q:VK):Prop|mk:∀(p:Ad) (bs:List Bool),a=[.ref p]->SqL K H p (bs.map V.bl)->Q (.bl (bs.all id)) H->wT K a H Q
def Ng(n:X.calm=true):CallR X (.builtin "all") (wT X.K):=by
 intro G s J H L M Q I r h;obtain⟨p,bs,rfl,t,q⟩:=h;obtain⟨u,rfl,w⟩:=jv r;cases w;obtain⟨a,g,j,_⟩:=I.list t;have k:=j.isList;have f:p<s.heap.objs.size:=j.lt;have c:a.length=bs.length:=by rw[<-g.length,cu]
 refine call_all_walk (yu k #[_,_,_,_,_,_,λi=>bs.getD i false,zZ,Walks.list (A:=X.A.in1) (I.ok.hd n) _ p (eB f) a.toArray,#[#[_,fq _ zZ,zZ,zZ],k.push _],?_,λN O y=>?_])
 .intro i v T U Y B C;have d:a[i]?=some v:=by simpa using B
  have l:i<bs.length:=by rw[<-c];exact(cK.mp d).1
  obtain⟨u2,m,D⟩:=g.get (i:=i) (x:= .bl (bs.getD i false)) (by rw[cV,cA l,eE,cA l];rfl);rw[d]at m;cases m;cases(show v=Value.bool _ from D);exact tq C
 .have e:(List.range a.toArray.size).all (λi=>bs.getD i false)=bs.all id:=by
   rw[e9,c];have:bs=(List.range bs.length).map λi=>bs.getD i false:=by
    refine Bm (by simp) λi E h2=>?_;simp[List.getD_eq_getElem?_getD,E]
   conv=>rhs;rw[this,z5]
   rfl
  rw[e];exact#[.bl (bs.all id),H,I.kept λb o z=>y b o (by simp only[List.mem_singleton];exact Nat.ne_of_lt (Heap.lt_size z)) (Heap.get?_push_of_some _ z),zZ,q]
abbrev TJ:=Str->St->Hp->(Str->Hp->Prop)->Prop
def PJ(X:Cx)(e:List Expr)(t:TJ):Prop:=∀(c:AO) (s:Sh) (b:St) (H:Hp) (a:Str) (Q:Str->Hp->Prop),Inv X c b H s->t a b H Q->
 wpAny (model X.prog X.w) X.A (joinParts a (evalEach e X.env)) (λu f=>∃x d,Inv X c b d f/\RelV (.str x) u/\Q x d) X.xe s
def Bx:TJ:=λa _ H Q=>a.length<=sizeLine/\Q a H
def DG(x:Str)(t:TJ):TJ:=λa b H Q=>(a++x).length<=sizeLine/\t (a++x) b H Q
def Cz(c:TE)(t:TJ):TJ:=λa b H Q=>c b H λv d=>∃i:Int,v=.int i/\i.natAbs.log2<1920/\(a++Str.ofString (toString i)).length<=sizeLine/\t (a++Str.ofString (toString i)) b d Q
def Jm:PJ X [] Bx:=λb s c H a Q I h=>joinParts_nil #[a,H,I.tok _,#[_,zZ],h.2] h.1
def Mv{x:Str}{j:Nat}{a:Pos}{b:List Expr}{t:TJ}(d:PJ X b t):PJ X (.Constant (.str x) j a::b) (DG x t):=by
 intro e s f H c Q I h;show wpAny _ _ (joinParts c (eval (.Constant (.str x) j a) X.env::evalEach b X.env)) _ _ s;exact joinParts_cons (Calls.Constant_str #[h.1,d e _ f H _ Q (I.tok _) h.2])
def Nd{e:Expr}{a:Pos}{b:List Expr}{d:TE}{t:TJ}(j:PE X e d)(k:PJ X b t):PJ X (.FormattedValue e (-1) none a::b) (Cz d t):=by
 intro f s g H c Q I h;show wpAny _ _ (joinParts c (eval (.FormattedValue e (-1) none a) X.env::evalEach b X.env)) _ _ s;refine joinParts_cons (FormattedValue_plain (cS (j f s g H _ I h) λv u ⟨y,l,m,n,i,o,p,r,q⟩=>?_));subst o;obtain⟨w,rfl⟩:=n;exact formatField_int_small p #[r,k f _ g l _ Q (m.tok _) q]
def K8{c d:Expr}{e:List Expr}{a:Pos}{t:TJ}(h:PJ X (c::d::e) t):PE X (.JoinedStr (c::d::e) a) (λb H Q=>t Str.empty b H λx f=>Q (.str x) f):=by
 intro g s b H Q I i;exact JoinedStr_many (cS (h g s b H Str.empty _ I i) λu l ⟨x,j,k,r,q⟩=>#[.str x,j,k,r,q])
end
structure PL(X:Cx)(es:List Expr)(t:TA):Prop where
 pa:PA X es t
structure QE(X:Cx)(e:Expr)(t:TE):Prop where
 pe:PE X e t
structure QS(X:Cx)(st:Stmt)(t:TS):Prop where
 ps:PS X st t
structure QSs(X:Cx)(b:List Stmt)(t:TS):Prop where
 pss:PSs X b t
section
variable{X:Cx}{e a b:Expr}{c:List Expr}{d g i:TE}{t:TA}{f:Pos}
def dt:PL X [] jh:=#[cH]
def cD(a:PE X e d)(b:PL X c t)(f:starEach (e::c) X.env=(false,eval e X.env)::starEach c X.env):PL X (e::c) (jd d t):=#[cL a b.pa f]
def dr(h:PL X c t):PA X c t:=h.pa
def xi(h:PE X e d):QE X e d:=#[h]
end
section
variable{X:Cx}{e:Expr}{c:TE}{st:Stmt}{rest:List Stmt}{t u:TS}{a:Pos}
def BZ(h:PS X st t):QS X st t:=#[h]
def L5(b:QE X e c):QS X (.Return (some e) a) (sf c):=#[dR b.pe]
def Kk(a:QS X st t):QSs X [st] t:=#[cX a.ps]
def DT(a:QS X st t)(b:QSs X rest u):QSs X (st::rest) (m8 t u):=#[cR a.ps b.pss]
def OZ{b:List Stmt}(h:QSs X b t):PSs X b t:=h.pss
end
end L2
namespace Cyc
def dz(a b:cn):cn:=a.map λx=>b.getD x 0
def Turn(t:cn):Prop:=∀x∈t,x<t.length
def it(t:cn)(r:Nat):Nat->Nat
 |0=>r
 |k+1=>t.getD (it t r k) 0
def pw(t:cn):Nat->List Nat
 |0=>List.range t.length
 |k+1=>dz (pw t k) t
def eF{t:cn}(h:Turn t){x:Nat}(a:x<t.length):t.getD x 0<t.length:=by
 rw[eE,cA a];exact h _ (iD a)
theorem Ei{t:cn}(h:Turn t){r:Nat}(a:r<t.length):∀k,it t r k<t.length
 |0=>a
 |k+1=>eF h (Ei h a k)
theorem xq(t:cn):∀k,pw t k=(List.range t.length).map λr=>it t r k
 |0=>by
  show List.range t.length=_;have:(List.range t.length).map (λr=>it t r 0)=(List.range t.length).map id:=i9 λr _=>rfl;rw[this,tj]
 |k+1=>by
  show dz (pw t k) t=_;rw[xq t k];unfold dz;rw[hK];rfl
def KD{t:cn}{i j:Nat}:pw t i=pw t j↔ ∀r,r<t.length->it t r i=it t r j:=by
 rw[xq,xq];constructor
 .intro h r a;have e:=dw (λl:cn=>l[r]?) h;simpa[List.getElem?_map,List.getElem?_range a]using e
 .intro h;exact i9 λr a=>h r (f8.mp a)
def pw_len(t:cn)(k:Nat):(pw t k).length=t.length:=by rw[xq];simp
def pw_lt{t:cn}(h:Turn t)(k:Nat):∀x∈pw t k,x<t.length:=by
 intro x a;rw[xq]at a;obtain⟨r,b,rfl⟩:=cT.mp a;exact Ei h (f8.mp b) k
theorem FF:∀(n:Nat) (f:Nat->Nat),(∀k,k<=n->f k<n)->∃i j,i<j/\j<=n/\f i=f j
 |0,f,h=>wC (h 0 (cQ _)) (mQ _)
 | n+1,f,h=>by
  by_cases e:∃i,i<=n/\f i=f (n+1)
  .obtain⟨i,g,e⟩:=e;exact#[i,n+1,(),cQ _,e]
  .have ne:∀i,i<=n->f i≠f (n+1):=λi g q=>e #[i,g,q];obtain⟨i,j,l,m,o⟩:=FF n (λk=>if f k=n then f (n+1)else f k) λk p=>by
    have a:=h k ();have b:=h (n+1) (cQ _);have c:=ne k p;show(if f k=n then f (n+1)else f k)<n
    split<;>lia
   refine#[i,j,l,(),?_];have r:=ne i ();have s:=ne j m;have d:(if f i=n then f (n+1)else f i)=(if f j=n then f (n+1)else f j):=o
   split at d<;>split at d<;>lia
structure Ring{α:Type}(x:Nat->α)(i c:Nat):Prop where
 pos:0<c
 back:x (i+c)=x i
 apart:∀a b,a<b->b<i+c->x a≠x b
def ring_same{o:Type}{x:Nat->o}{F:o->o}(q:∀k,x (k+1)=F (x k)){i c:Nat}(R:Ring x i c):∀b a,a<b->(x a=x b↔(i<=a/\c ∣ b-a)):=by
 have f:∀k,x (i+k+c)=x (i+k):=by
  intro k
  induction k with
  |zero=>exact R.back
  |succ k d=>
   have g:i+(k+1)+c=(i+k+c)+1:=by lia
   have j:i+(k+1)=(i+k)+1:=by lia
   rw[g,j,q,q,d]
 have l:∀m k,x (i+k+m * c)=x (i+k):=by
  intro m
  induction m with
  |zero=>intro k;simp
  |succ m d=>
   intro k;have e:i+k+(m+1) * c=i+(k+m * c)+c:=by rw[Nat.add_mul];lia
   rw[e,f,<-d k]
   congr 1
   lia
 intro b
 induction b using Nat.strongRecOn with
 | _ b d=>
  intro a n;constructor
  .intro h;by_cases t:b<i+c
   .exact wC h (R.apart a b n t)
   .have u:=R.pos;have e:x b=x (b-c):=by
     have g:b=i+(b-c-i)+c:=by lia
     have j:b-c=i+(b-c-i):=by lia
     rw[j]
     conv=>lhs;rw[g]
     exact f _
    rw[e]at h;by_cases r:a<b-c
    .obtain⟨s,p⟩:=(d (b-c) () a r).mp h;refine#[s,?_];have:b-a=(b-c-a)+c:=by lia
     rw[this];exact Nat.dvd_add p (Nat.dvd_refl c)
    .by_cases v:a=b-c
     .refine#[(),?_];have:b-a=c:=by lia
      rw[this];exact Nat.dvd_refl c
     .obtain⟨s,p⟩:=(d a n (b-c) ()).mp h.symm;have:=Nat.le_of_dvd () p;lia
  .rintro⟨r,m,w⟩;have g:a=i+(a-i):=by lia
   have j:b=i+(a-i)+m * c:=by
    rw[Nat.mul_comm];lia
   conv=>rhs;rw[j]
   rw[l,<-g]
def NY{d:Type}[DecidableEq d](x:Nat->d):∀(N:Nat),(∃a b,a<b/\b<=N/\x a=x b)->∃i c,Ring x i c/\i+c<=N:=by
 intro N
 induction N with
 |zero=>rintro⟨a,b,e,g,_⟩;lia
 | succ N j=>
  rintro⟨a,b,e,g,f⟩;by_cases h:∃a b,a<b/\b<=N/\x a=x b
  .obtain⟨i,c,R,o⟩:=j h;exact#[i,c,R,()]
  .have p:b=N+1:=by
    by_cases q:b<=N
    .exact wC #[a,b,e,q,f] h
    .lia
   refine#[a,b-a,#[(),?_,λk l m r n=>h #[k,l,m,(),n]],()];have:a+(b-a)=b:=by lia
   rw[this,f]
def Na{t:cn}(h:Turn t){r:Nat}(a:r<t.length):∃i c,Ring (it t r) i c/\i+c<=t.length:=
 NY _ _ (let⟨i,j,b,d,e⟩:=FF t.length (it t r) λk _=>Ei h a k;#[i,j,b,d,e])
def fact:Nat->Nat
 |0=>1
 |n+1=>(n+1) * fact n
theorem FZ:∀(n c:Nat),0<c->c<=n->c ∣ fact n
 |0,c,a,b=>by lia
 | n+1,c,a,b=>by
  by_cases h:c=n+1
  .rw[h];exact Nat.dvd_mul_right _ _
  .exact Nat.dvd_trans (FZ n c a ()) (Nat.dvd_mul_left _ _)
theorem fact_pos:∀n,0<fact n
 |0=>Nat.one_pos
 |n+1=>Nat.mul_pos (Nat.succ_pos n) (fact_pos n)
def fact_le:∀n,n<=10->fact n<=3628800:=by decide
def pw_again{t:cn}(h:Turn t):pw t t.length=pw t (t.length+fact t.length):=by
 rw[KD];intro r a;obtain⟨i,c,R,d⟩:=Na h a;have b:=R.pos;refine(ring_same (F:=λy=>t.getD y 0) (λ_=>rfl) R _ _ (by have:=fact_pos t.length;lia)).mpr #[(),?_];have:t.length+fact t.length-t.length=fact t.length:=by lia
 rw[this];exact FZ _ _ b ()
def gj{n:Nat}{y:cn}(a:y.length=n):dz (List.range n) y=y:=by
 refine l6 λi=>?_;unfold dz;rw[cV];by_cases h:i<n
 .rw[lK h,cA ()];show some (y.getD i 0)=_;rw[eE,cA ()];rfl
 .rw[hJ (by simp;lia),List.getElem?_eq_none ()];rfl
def CZ(e:cn):Prop:=dz e e=e
instance (e:cn):Decidable (CZ e):=inferInstanceAs (Decidable (dz e e=e))
def xh(t:cn):Prop:=∃c,1<=c/\pw t (c+1)=t
def In(t e:cn):Prop:=xh t/\∃k,1<=k/\pw t k=e
section
open Classical
noncomputable def gp (a:LN) (e:cn) (i:Nat):cn:=(List.range i).filter λk=>decide (In (a.getD k []) e)
end
end Cyc
namespace PySem
def RI(M:Model)(Γ:Ctx)(p:Pos)(t:Sem Fin)(fs:List Frame)(s:Sh)(e:End)(d:Sh):Prop:=match fs with
 |F::fs=>(∃k h g l u w E r b,F=.ret k h g l u w E/\Runs M (Γ.over (F::fs)) p t [] s (.ret r) b/\Runs M (Γ.goto u) w (k r) fs b e d)\/
  (∃g k l u w r b,F=.gen g k l u w/\Runs M (Γ.over (F::fs)) p t [] s (.ret r) b/\Runs M (Γ.goto u) w (k (End.ret r).result) fs (b.setGen g .finished) e d)\/
  (∃v y z i j m A,splitAtGen (F::fs)=none/\Runs M (Γ.over (F::fs)) p t [] s (.susp v y z i j m A) d/\e=.susp v y z i j m (A++F::fs))\/
  (∃pre g k u w rest v y z i j m A b,splitAtGen (F::fs)=some (pre,(g,k,u,w),rest)/\Runs M (Γ.over (F::fs)) p t [] s (.susp v y z i j m A) b/\Runs M (Γ.goto u) w (k (.yielded v)) rest (b.setGen g (End.susp v y z i j m (A++pre)).genState) e d)
 | []=>match t with
  |.pure (.done f)=>e=.ret (.ok f)/\d=s
  |.pure (.again c)=>Runs M (Γ.goto c) p (M.den c) [] s e d
  |.raise x=>e=.ret (.error x)/\d=s
  |.rule _ k=>Runs M Γ p (k Unit.unit) [] s e d
  |.at q k=>Runs M Γ q (k Unit.unit) [] s e d
  |.load a _ k=>∃o,s.heap.get? a=some o/\Runs M Γ p (k o) [] s e d
  |.update a _ f k=>Runs M Γ p (k Unit.unit) [] {s with heap:=s.heap.update a f} e d
  |.loadIfAlive a k=>Runs M Γ p (k (s.heap.get? a)) [] s e d
  |.point _ k=>Runs M Γ p (k Unit.unit) [] s e d
  |.alloc o k=>Runs M Γ p (k s.heap.objs.size) [] {s with heap:=s.heap.push o} e d
  |.fresh k=>Runs M Γ p (k s.toks) [] {s with toks:=s.toks+1} e d
  |.ask k=>Runs M Γ p (k {program:=M.prog,params:=M.w.params}) [] s e d
  |.choose C n k=>Runs M Γ p (k (M.w.draws C (s.drawn.get C)%n)) [] {s with drawn:=s.drawn.bump C} e d
  |.os q _ k=>Runs M Γ p (k (Os.step s.os q).2) [] {s with os:=(Os.step s.os q).1} e d
  |.handled D k=>Runs M Γ p (k (if D then Γ.own else Γ.handled)) [] s e d
  |.genState g k=>∃st,s.gens[g]?=some st/\Runs M Γ p (k st.seen) [] s e d
  |.stack k=>Runs M Γ p (k ((Γ.code,p)::Γ.below)) [] s e d
  |.thread k=>Runs M Γ p (k 0) [] s e d
  |.newGen c k=>Runs M Γ p (k s.gens.size) [] {s with gens:=s.gens.push (.fresh c)} e d
  |.call c h g l k=>(∃r b,Runs M (Γ.enter c h p) p (M.den c) [] s (.ret r) b/\Runs M Γ p (k r) [] b e d)\/∃v y z i j m fs,Runs M (Γ.enter c h p) p (M.den c) [] s (.susp v y z i j m fs) d/\e=.susp v y z i j m (fs++[.ret k h g l Γ.code p []])
  |.yield v g l k=>e=.susp v g l k Γ.code p []/\d=s
  |.resume g r _ k=>∃st,s.gens[g]?=some st/\match st,r with
   |.fresh c,.send v=>(v=.none/\∃B b,Runs M (Γ.wake c p) p (M.den c) [] (s.setGen g .running) B b/\Runs M Γ p (k B.result) [] (b.setGen g B.genState) e d)\/(v≠ .none/\Runs M Γ p (k .justStarted) [] s e d)
   |.fresh _,.throw x=>Runs M Γ p (k (.raised x)) [] (s.setGen g .finished) e d
   |.suspended i _ j m fs _,r=>∃B b,Runs M (Γ.wake j p) m (i r) fs (s.setGen g .running) B b/\Runs M Γ p (k B.result) [] (b.setGen g B.genState) e d
   |.running,_=>Runs M Γ p (k .running) [] s e d
   |.finished,_=>Runs M Γ p (k .finished) [] s e d
  |_=>False
def Runs.inv{M:Model}{Γ:Ctx}{p:Pos}{t:Sem Fin}{fs:List Frame}{s:Sh}{e:End}{c:Sh}(h:Runs M Γ p t fs s e c):RI M Γ p t fs s e c:=by
 cases h with
 |done=>exact#[zZ,zZ]
 |raise=>exact#[zZ,zZ]
 |yield=>exact#[zZ,zZ]
 |again q h=>exact h
 |rule h|«at» h|loadIfAlive h|point h|alloc h|fresh h|ask h|os h|handled h|stack h|thread h|newGen h=>exact h
 |load e h=>exact#[_,e,h]
 |genState e h=>exact#[_,e,h]
 |update e h=>exact h
 |choose e h=>exact h
 |call a b=>exact .inl #[_,_,a,b]
 |callSusp a=>exact .inr #[_,_,_,_,_,_,_,a,zZ]
 |resumeFresh g a q b=>exact#[_,g,.inl #[zZ,_,_,a,b]]
 |resumeSuspended g a q b=>exact#[_,g,_,_,a,b]
 |resumeJustStarted g v a=>exact#[_,g,.inr #[v,a]]
 |resumeThrowFresh g a=>exact#[_,g,a]
 |resumeRunning g a=>exact#[_,g,a]
 |resumeFinished g a=>exact#[_,g,a]
 |segRet a b=>exact .inl #[_,_,_,_,_,_,_,_,_,zZ,a,b]
 |segGen a b=>exact .inr (.inl #[_,_,_,_,_,_,_,zZ,a,b])
 |segSuspOut q a=>exact .inr (.inr (.inl #[_,_,_,_,_,_,_,q,a,zZ]))
 |segSuspGen q a d b=>exact .inr (.inr (.inr #[_,_,_,_,_,_,_,_,_,_,_,_,_,_,q,a,b]))
def Runs.det{M:Model}{Γ:Ctx}{p:Pos}{t:Sem Fin}{fs:List Frame}{s:Sh}{e:End}{u:Sh}(w:Runs M Γ p t fs s e u):∀{m:End} {n:Sh},Runs M Γ p t fs s m n->e=m/\u=n:=by
 induction w with
 |done|raise|yield=>exact λf=>#[f.inv.1.symm,f.inv.2.symm]
 |rule h d|«at» h d|loadIfAlive h d|point h d|alloc h d|fresh h d|ask h d|os h d|handled h d|stack h d|thread h d|newGen h d|again q h d|update e h d|choose e h d=>exact λf=>d f.inv
 |load e h d|genState e h d=>
  intro m n f;obtain⟨_,o,a⟩:=f.inv;cases e.symm.trans o;exact d a
 | call h k c i=>
  intro m n f
  rcases f.inv with⟨_,_,a,b⟩|⟨_,_,_,_,_,_,_,a,b⟩
  .obtain⟨j,l⟩:=c a;cases j;cases l;exact i b
  .cases(c a).1
 | callSusp h d=>
  intro m n f
  rcases f.inv with⟨_,_,a,b⟩|⟨_,_,_,_,_,_,_,a,rfl⟩
  .cases(d a).1
  .obtain⟨j,l⟩:=d a;cases j;exact#[zZ,l]
 | resumeFresh g h q k c i=>
  intro m n f;obtain⟨_,o,a⟩:=f.inv;cases g.symm.trans o
  rcases a with⟨_,_,_,a,b⟩|⟨v,_⟩
  .obtain⟨j,l⟩:=c a;cases j;cases l;exact i b
  .exact wC zZ v
 |resumeSuspended g h q k c i=>
  intro m n f;obtain⟨_,o,a⟩:=f.inv;cases g.symm.trans o;obtain⟨_,_,a,b⟩:=a;obtain⟨j,l⟩:=c a;cases j;cases l;exact i b
 |resumeJustStarted g v k d=>
  intro m n f;obtain⟨_,o,a⟩:=f.inv;cases g.symm.trans o
  rcases a with⟨a,_⟩|⟨_,a⟩
  .exact wC a v
  .exact d a
 |resumeThrowFresh g k d|resumeRunning g k d|resumeFinished g k d=>
  intro m n f;obtain⟨_,o,a⟩:=f.inv;cases g.symm.trans o;exact d a
 | segRet h k c i=>
  intro m n f
  rcases f.inv with⟨_,_,_,_,_,_,_,_,_,e,a,b⟩|⟨_,_,_,_,_,_,_,e,a,b⟩|⟨_,_,_,_,_,_,_,_,a,_⟩|⟨_,_,_,_,_,_,_,_,_,_,_,_,_,_,_,a,_⟩
  .cases e;obtain⟨j,l⟩:=c a;cases j;cases l;exact i b
  .cases e
  .cases(c a).1
  .cases(c a).1
 | segGen h k c i=>
  intro m n f
  rcases f.inv with⟨_,_,_,_,_,_,_,_,_,e,a,b⟩|⟨_,_,_,_,_,_,_,e,a,b⟩|⟨_,_,_,_,_,_,_,_,a,_⟩|⟨_,_,_,_,_,_,_,_,_,_,_,_,_,_,_,a,_⟩
  .cases e
  .cases e;obtain⟨j,l⟩:=c a;cases j;cases l;exact i b
  .cases(c a).1
  .cases(c a).1
 | segSuspOut q h d=>
  intro m n f
  rcases f.inv with⟨_,_,_,_,_,_,_,_,_,_,a,b⟩|⟨_,_,_,_,_,_,_,_,a,b⟩|⟨_,_,_,_,_,_,_,_,a,rfl⟩|⟨_,_,_,_,_,_,_,_,_,_,_,_,_,_,r,a,_⟩
  .cases(d a).1
  .cases(d a).1
  .obtain⟨j,l⟩:=d a;cases j;exact#[zZ,l]
  .cases q.symm.trans r
 | segSuspGen q h x k c i=>
  intro m n f
  rcases f.inv with⟨_,_,_,_,_,_,_,_,_,_,a,b⟩|⟨_,_,_,_,_,_,_,_,a,b⟩|⟨_,_,_,_,_,_,_,r,a,_⟩|⟨_,_,_,_,_,_,_,_,_,_,_,_,_,_,r,a,b⟩
  .cases(c a).1
  .cases(c a).1
  .cases q.symm.trans r
  .cases q.symm.trans r;obtain⟨j,l⟩:=c a;cases j;cases l;exact i b
def Wakes.det{M:Model}{Γ:Ctx}{p:Pos}{g:Nat}{r:Resume}{s:Sh}{i d:GenResult}{j k:Sh}(f:Wakes M Γ p g r s i j)(h:Wakes M Γ p g r s d k):i=d/\j=k:=by
 have l:∀{Γ':Ctx} {m:Pos} {n:Sem Fin} {fs:List Frame} {o:Sh},(∃a b,Runs M Γ' m n fs o a b/\a.quiet=true/\i=a.result/\j=b.setGen g a.genState)->(∃a b,Runs M Γ' m n fs o a b/\a.quiet=true/\d=a.result/\k=b.setGen g a.genState)->i=d/\j=k:=by
  intro _ _ _ _ _ ⟨A,B,q,_,a3,a4⟩ ⟨C,D,t,_,u,w⟩;obtain⟨y,z⟩:=q.det t;subst y z;exact#[a3.trans u.symm,a4.trans w.symm]
 unfold Wakes at f h;cases e:s.gens[g]? with
 |none=>rw[e]at f;exact f.elim
 | some st=>
  rw[e]at f h;cases st with
  |fresh c=>
   cases r with
   |send v=>cases v<;>first|exact l f h|exact#[f.1.trans h.1.symm,f.2.trans h.2.symm]
   |throw x=>exact#[f.1.trans h.1.symm,f.2.trans h.2.symm]
  |suspended E G H I fs J=>exact l f h
  |running=>exact#[f.1.trans h.1.symm,f.2.trans h.2.symm]
  |finished=>exact#[f.1.trans h.1.symm,f.2.trans h.2.symm]
def Sem.wp_and{w:Type}{M:Model}{Γ:Ctx}{t:Sem w}{Q y:w->Pos->Sh->Prop}{E z:Vl->Pos->Sh->Prop}:∀{p:Pos} {s:Sh},Sem.wp M Γ t Q E p s->Sem.wp M Γ t y z p s->Sem.wp M Γ t (λa p s=>Q a p s/\y a p s) (λe p s=>E e p s/\z e p s) p s:=by
 induction t with
 |pure x=>intro p s i j;exact#[i,j]
 |raise v=>intro p s i j;exact#[i,j]
 |unsupported|finish|yield|fork|await|register=>intro p s i _;exact i
 |rule _ k d|«at» _ k d|alloc _ k d|loadIfAlive _ k d|point _ k d|fresh k d|ask k d|os _ _ k d|handled _ k d|newGen _ k d|stack k d|thread k d=>intro p s i j;exact d _ i j
 |load a _ k d|genState a k d=>
  intro p s ⟨o,h,i⟩ ⟨D,A,j⟩;rw[h]at A;cases A;exact#[o,h,d _ i j]
 |update a _ f k d|choose _ _ k d=>intro p s ⟨h,i⟩ ⟨_,j⟩;exact#[h,d _ i j]
 |call c h g l k d=>
  intro p s ⟨r,m,a,i⟩ ⟨G,C,b,j⟩;obtain⟨n,q⟩:=Runs.det a b;cases n;cases q;exact#[r,m,a,d _ i j]
 |resume g r l k d=>
  intro p s ⟨u,m,a,i⟩ ⟨B,C,b,j⟩;obtain⟨n,q⟩:=a.det b;cases n;cases q;exact#[u,m,a,d _ i j]
def xE{b:Type}{M:Model}{A:Ar}{t:Sem b}{Q Q2:b->Sh->Prop}{E E2:VP}{s:Sh}(c:wpAny M A t Q E s)(d:wpAny M A t Q2 E2 s):wpAny M A t (λa s=>Q a s/\Q2 a s) (λe s=>E e s/\E2 e s) s:=
 λΓ p i=>Sem.wp_and (c Γ p i) (d Γ p i)
end PySem
namespace L2
open PySem PySem.Spec PyProof.Rows
def iZ(e:Ad)(a:Option Ad)(h:Heap):Prop:=∃o,h.get? e=some o/\o.dict=a
section
variable{M:Model}{A:Ar}{E:VP}{s:Sh}
def Im{i:Heap}{d:Env}{c:List Env}{L e:Ad}{j:Obj}{q:AV}{k:Vl}{f:Bool}{Q:Unit->Sh->Prop}(r:A.frames=some (d::c))(w:s.heap.FunFrames i (d::c))(G:d.frame=some L)(x:s.heap.get? e=some j) (l:j.data=.fields q) (m:1<q.size)(h:∀(t:Heap) (o:Obj) (y:AV) (T:Ad) (z:Obj) (B:AV),t.get? e=some o->o.dict=j.dict->o.data=.fields y->y[1]?=some (.ref T)->T≠e->t.get? T=some z->z.data=.fields B->3<B.size->Q ⟨⟩ {s with heap:=t}):
  wpAny M A (do let a <-frameOf d;let C <-entryPlaceOf L f;let b <-EntryCells.newEntry k a .none (rawInt L) .none C;setField (.ref e) 1 b) Q E s:=by
 have n:e∉(d::c).filterMap (·.frame):=λH=>by
  obtain⟨_,o,D,u⟩:=w.mem H;rw[x]at D;cases D;exact u q l
 refine cr (wpAny_frameOf_fun r w G λp I=>cr (wpAny_entryPlaceOf λC v=>?_));unfold EntryCells.newEntry newFields;refine cr (lM ?_ (v.sizeOk5 _ _ _ _ _));have g:p.get? e=some j:=(I.2.1 e n).trans x;have ne:p.objs.size≠e:=mH (dm g);refine wpAny_setField (dC _ g) l m (h _ _ _ p.objs.size _ _ (pD _ (dC _ g) (Obj.isFreed_of_fields (Obj.data_mapFields l _))) ?_ (Obj.data_mapFields l _) (by simp[m]) ne ((Heap.get?_update_other _ _ (Ne.symm ne)).trans (Heap.get?_push_size p zZ)) zZ ?_)
 .obtain⟨O,U,J,N⟩:=j;cases l;rfl
 .simp only[List.size_toArray,List.length_append,List.length_cons,List.length_nil];lia
def Bj{e T:Ad}{o b:Obj}{c d:AV}{Q:Unit->Sh->Prop}(f:s.heap.get? e=some o)(i:o.data=.fields c)(j:c[1]?=some (.ref T))(ne:T≠e)(hT:s.heap.get? T=some b)(a:b.data=.fields d)(k:3<d.size)(h:∀g,iZ e o.dict g->Q ⟨⟩ {s with heap:=g}):wpAny M A (setFlight (.ref e) none) Q E s:=by
 unfold setFlight;refine cr (mq f i j ?_);rw[wB (show(Value.ref T != Value.none)=true from by simp)];exact wpAny_setField hT a k (h _ #[o,(je _ _ ne).trans f,zZ])
def Fc{k:Heap}{d:Env}{a:List Env}{L e:Ad}{p I:Vl}{y:Option Ad}{Q:Unit->Sh->Prop}(r:A.frames=some (d::a))(z:d.frame=some L)(J:Heap.FlyingW k (d::a) e p I s.heap)(f:iZ e y s.heap)(h:∀(l:Heap) (o:Obj) (m:AV) (T:Ad) (t:Obj) (n:AV),l.get? e=some o->o.dict=y->o.data=.fields m->m[1]?=some (.ref T)->T≠e->l.get? T=some t->t.data=.fields n->3<n.size->Q ⟨⟩ {s with heap:=l}):wpAny M A (noteFrame (.ref e) d) Q E s:=by
 obtain⟨_,_,N,oe,B,T,t,n,u,_,C,D,_,v,hT,g,G⟩:=J;obtain⟨o',H,f⟩:=f;rw[u]at H;cases H;unfold noteFrame;simp only[z];refine cr (mq u C D ?_);rw[wB (show(Value.ref T != Value.none)=true from by simp)];refine cr (mq hT g G ?_);rw[wA (show ¬((Value.none==rawInt L)=true)from by simp[rawInt])];refine cr (wpAny_setField hT g (nV.mp G).1 ?_);have c:∀b,b≠T->(s.heap.update T (Obj.mapFields (·.setIfInBounds 3 Value.none))).get? b=s.heap.get? b:=λb i=>je _ _ (eJ i);have O:∀b o,s.heap.get? b=some o->(∀B,o.data≠ .fields B)->b≠T:=λb o i j q=>by
  rw[q,hT]at i;cases i;exact j n g
 refine Im r (N.of_keeps λb o i j=>#[o,(c b (O b o i j)).trans i,zZ]) z ((c e (eJ v)).trans u) C (nV.mp D).1 λl o m U w x Y q2=>h l o m U w x Y (q2.trans f)
def LY{base:Heap}{b:Env}{a:List Env}{L e:Ad}{f:Obj}{j:AV}{a0:Vl}{Q:Unit->Sh->Prop}(g:A.frames=some (b::a))(t:s.heap.FunFrames base (b::a))(k:b.frame=some L)(l:s.heap.get? e=some f) (m:base.StaysIn s.heap) (n:base.get? e=none) (p:f.data=.fields j) (r:j[1]?=some .none) (u:j[0]?=some a0)(h:∀c,Heap.LeftW base (b::a) e f.cls a0 s.heap c->iZ e f.dict c->Q ⟨⟩ {s with heap:=c}):wpAny M A (leaving b (.ref e)) Q E s:=by
 refine fL (xE (wpAny_leaving_firstW (Q:=λ_ i=>∃c,i={s with heap:=c}/\Heap.LeftW base (b::a) e f.cls a0 s.heap c) (E:=E) g t k l m n p r u λc q=>#[c,rfl,q]) (Q2:=λ_ i=>iZ e f.dict i.heap) (E2:=λ_ _=>True) ?_) (λ_ i ⟨⟨c,v,q⟩,d⟩=>by subst v;exact h c q d) λ_ _ z=>z.1;unfold leaving noteFrame;simp only[k];refine cr (cr (mq l p r ?_));rw[wA (by decide)];exact Im g t k l p (nV.mp r).1 λc o J T N O w x y B C D G H=>Bj (s:={s with heap:=c}) w y B C D G H λI d=>x▸d
def Om{c:Heap}{f:Env}{a:List Env}{L e:Ad}{g k:Vl}{l:Option Ad}{Q:Unit->Sh->Prop}(i:A.frames=some (f::a))(n:f.frame=some L)(p:Heap.FlyingW c (f::a) e g k s.heap)(m:iZ e l s.heap)(h:∀b,Heap.FlyingW c a e g k b->s.heap.UpToSlots b->iZ e l b->Q ⟨⟩ {s with heap:=b}):wpAny M A (leaving f (.ref e)) Q E s:=by
 refine fL (xE (wpAny_leaves_onW (Q:=λ_ j=>∃b,j={s with heap:=b}/\Heap.FlyingW c a e g k b/\s.heap.UpToSlots b) (E:=E) i n p λb q u=>#[b,rfl,q,u]) (Q2:=λ_ j=>iZ e l j.heap) (E2:=λ_ _=>True) ?_) (λ_ j ⟨⟨b,r,q,u⟩,d⟩=>by subst r;exact h b q u d) λ_ _ z=>z.1;unfold leaving;exact cr (Fc i n p m λb o H T I J t v w x y B C D=>Bj (s:={s with heap:=b}) t w x y B C D λG d=>v▸d)
def N0{f:Heap}{b:Env}{a:List Env}{L e:Ad}{g k:Vl}{l:Option Ad}{Q:Unit->Sh->Prop}(i:A.frames=some (b::a))(n:b.frame=some L)(p:Heap.FlyingW f (b::a) e g k s.heap)(m:iZ e l s.heap)(h:∀c,Heap.HeldW f (b::a) e g k L c->s.heap.UpToSlots c->iZ e l c->Q ⟨⟩ {s with heap:=c}):wpAny M A (noteFrame (.ref e) b) Q E s:=
 fL (xE (wpAny_looks_onW (Q:=λ_ j=>∃c,j={s with heap:=c}/\Heap.HeldW f (b::a) e g k L c/\s.heap.UpToSlots c) (E:=E) i n p λc q u=>#[c,rfl,q,u]) (Fc (Q:=λ_ j=>iZ e l j.heap) (E:=λ_ _=>True) i n p m λc o w T x y r t _ _ _ _ _ _=>#[o,r,t]))
  (λ_ j ⟨⟨c,v,q,u⟩,d⟩=>by subst v;exact h c q u d) λ_ _ z=>z.1
def NB{b:Heap}{l:List Env}{e L:Ad}{c i:Vl}{j:Option Ad}{Q:Unit->Sh->Prop}(n:Heap.HeldW b l e c i L s.heap)(f:iZ e j s.heap)(h:∀a,Heap.FlyingW b l e c i a->s.heap.UpToSlots a->iZ e j a->Q ⟨⟩ {s with heap:=a}):wpAny M A (setFlight (.ref e) none) Q E s:=by
 obtain⟨_,_,_,x,y,T,B,C,o,_,r,t,_,k,hT,m,v⟩:=id n;obtain⟨D,p,f⟩:=f;rw[o]at p;cases p;exact fL (xE (wpAny_landsW (Q:=λ_ g=>∃a,g={s with heap:=a}/\Heap.FlyingW b l e c i a/\s.heap.UpToSlots a) (E:=E) n λa q u=>#[a,rfl,q,u]) (Bj (Q:=λ_ g=>iZ e j g.heap) (E:=λ_ _=>True) o r t k hT m (nV.mp v).1 λa d=>f▸d))
  (λ_ g ⟨⟨a,w,q,u⟩,d⟩=>by subst w;exact h a q u d) λ_ _ z=>z.1
def PM{b:Heap}{l:List Env}{e:Ad}{c i:Vl}{j:Option Ad}{Q:Unit->Sh->Prop}(n:Heap.FlyingW b l e c i s.heap)(f:iZ e j s.heap)(h:∀a,Heap.FlyingW b l e c i a->s.heap.UpToSlots a->iZ e j a->Q ⟨⟩ {s with heap:=a}):wpAny M A (setFlight (.ref e) none) Q E s:=by
 obtain⟨_,_,_,x,y,T,B,C,o,_,r,t,_,k,hT,m,v⟩:=id n;obtain⟨D,p,f⟩:=f;rw[o]at p;cases p;exact fL (xE (lands_againW (Q:=λ_ g=>∃a,g={s with heap:=a}/\Heap.FlyingW b l e c i a/\s.heap.UpToSlots a) (E:=E) n λa q u=>#[a,rfl,q,u]) (Bj (Q:=λ_ g=>iZ e j g.heap) (E:=λ_ _=>True) o r t k hT m (nV.mp v).1 λa d=>f▸d))
  (λ_ g ⟨⟨a,w,q,u⟩,d⟩=>by subst w;exact h a q u d) λ_ _ z=>z.1
end
section
variable{P:Pg}{w:World}{H H':Hp}{h h':Heap}{a:Ad}{o:HO}
def ObjOk.has(x:ObjOk P w H h a o):∃b,h.get? a=some b:=by
 induction o with
 |lst d=>obtain⟨_,_,_,_,e⟩:=x;exact#[_,e]
 |tup d=>obtain⟨_,_,_,b,e,_⟩:=x;exact#[b,e]
 |dK c=>obtain⟨_,_,_,_,b,_,_,e,_⟩:=x;exact#[b,e]
 |dT c=>obtain⟨_,_,_,_,b,_,_,e,_⟩:=x;exact#[b,e]
 |set S n=>obtain⟨b,_,_,_,e,_⟩:=x;exact#[b,e]
 |ins C g fs=>obtain⟨_,_,_,e,_⟩:=x;exact#[_,e]
 |own y=>exact x
 |xd fs=>obtain⟨_,⟨b,_,_,e,_⟩,_⟩:=x;exact#[b,e]
 |rng lo i=>obtain⟨_,_,_,e⟩:=x;exact#[_,e]
 |frz b u _=>obtain⟨e,_⟩:=x;exact#[_,e]
 |tbl j=>exact#[_,x]
 |met f y=>exact#[_,x]
 |ext k=>exact x.2.1
def HOk.gone(x:HOk P w H h)(e:h.get? a=none):H a=none:=by
 cases q:H a with
 |none=>rfl
 |some u=>
  obtain⟨b,z⟩:=(x a u q).has;rw[e]at z;cases z
end
structure Fl(h0:Heap)(H:Hp)(h:Heap)(e:Ad)(cls:Vl)(d:Option Ad):Prop where
 ne:h0.get? e=none
 fe:H e=none
 ex:∃oe vs T oT ts a0,h.get? e=some oe/\oe.cls=cls/\oe.dict=d/\oe.data=.fields vs/\vs[0]?=some a0/\vs[1]?=some (.ref T)/\h0.get? T=none/\H T=none/\T≠e/\h.get? T=some oT/\oT.data=.fields ts/\ts[3]?=some .none
def CX1(P:Pg)(w:World):oq:=λa H s E v b=>∃e C d c,v=.ref e/\b.os=s.os/\AllBare b.gens/\Un (dD a) [] H c s.heap b.heap/\HOk P w c b.heap/\Fl s.heap c b.heap e (.ref C) d/\E (.ref C) d c
section
variable{X:Cx}{h:AO}{f:St}{H a:Hp}{s:Sh}
def DJ(ok:X.Ok):∀b∈dD X.outer,b∈dD X.stack:=λb a=>by
 rcases ok.stk with e|⟨e,c⟩
 .rw[e];exact a
 .rw[e];unfold dD;rw[xM,c];exact eO _ a
def Nn{g j:Heap}{S:As}(I:Inv X h f H s)(y:X.ex=[])(u:Un (dD X.stack) [] H a s.heap g)(A:HOk X.prog X.w a g)(keep:∀b o,g.get? b=some o->b∉dD X.stack->b∉S->j.get? b=some o) (k:∀b o,g.get? b=some o->b∈dD X.stack->∃sl,j.get? b=some {o with slots:=sl})
  (J:∀b∈S,s.heap.get? b=none/\a b=none):Un (dD X.outer) [] X.H₀ a X.s₀.heap j/\HOk X.prog X.w a j:=by
 have m:∀b:Ad,b∉X.ex:=λb z=>by rw[y]at z;cases z
 have p:∀b:Ad,b∉([]:As):=λb z=>by cases z
 have B:∀b∈dD X.stack,a b=none:=λb d=>by
  obtain⟨_,M,N,_⟩:=I.stack.mem d;exact u.free b M N (I.stkFree b d) (p b)
 have C:∀b o,X.s₀.heap.get? b=some o->b≠X.env.locals:=λb o e=>eB (fJ (dm e) I.ok.above);have r:∀b o,X.s₀.heap.get? b=some o->b∉dD X.outer->b∉dD X.stack:=λb o e n z=>by
  rcases dL.mp (I.stkSub b z)with q|q
  .exact C b o e q
  .exact n q
 have L:∀b o,s.heap.get? b=some o->b∉S:=λb o e z=>by
  have:=(J b z).1;rw[e]at this;cases this
 refine#[#[λb o e n d _=>?_,λb o e n d _=>?_,λb o e n _=>?_,λb o e _=>?_,λb t e=>u.tups b t (I.base.tups b t e),λb o t e=>u.frzs b o t (I.base.frzs b o t e),λb O e=>?_],λb o e=>?_]
 .have i:=I.base.keep b o e n d (m b);have l:=u.keep b o i (I.base.free b o e n (m b)) (r b o e d) (p b);exact keep b o l (r b o e d) (L b o i)
 .obtain⟨sl,i⟩:=I.base.slot b o e n d (m b);obtain⟨Q,l⟩:=u.slot b _ i (I.base.free b o e n (m b)) (DJ I.ok b d) (p b);obtain⟨D,E⟩:=k b _ l (DJ I.ok b d);exact#[D,E]
 .obtain⟨w,i⟩:=I.base.there b o e (m b);exact u.free b w i (I.base.free b o e n (m b)) (p b)
 .obtain⟨w,i⟩:=I.base.there b o e (m b);obtain⟨G,l⟩:=u.there b w i (p b);by_cases d:b∈dD X.stack
  .obtain⟨sl,E⟩:=k b G l d;exact#[_,E]
  .exact#[G,keep b G l d (L b w i)]
 .obtain⟨T,i⟩:=I.base.tbls b O e;obtain⟨U,l⟩:=u.tbls b _ i;exact#[T++U,by rw[l,Array.append_assoc]]
 .have x:∀c v,a c=some v->c∉dD X.stack/\c∉S:=λc v q=>#[λz=>(by rw[B c z]at q;cases q),λz=>(by rw[(J c z).2]at q;cases q)];refine(A b o e).stay (λc v Y q=>?_) (λ_ q=>q) λ_ _ q=>q
  rcases Y with z|z
  .rw[z]at q|-;exact keep b v q (x b o e).1 (x b o e).2
  .exact keep c v q (x c _ z).1 (x c _ z).2
def E9:∀{l:List Env},∀a∈l,∀b,a.frame=some b->b∈dD l:=λ{l} a c b d=>EK.mpr #[a,c,d]
def GR{E:XK}{v:Vl}{c:Sh}(I:Inv X h f H s)(M:CX1 X.prog X.w X.stack H s E v c):∃e C d a T m,v=.ref e/\c.os=s.os/\AllBare c.gens/\Un (dD X.stack) [] H a s.heap c.heap/\HOk X.prog X.w a c.heap/\E (.ref C) d a/\iZ e d c.heap/\
  s.heap.get? e=none/\a e=none/\s.heap.get? T=none/\a T=none/\Heap.FlyingW (PySem.W.hideAll c.heap (e::T::dD X.stack)) X.stack e (.ref C) m c.heap:=by
 obtain⟨e,C,d,a,rfl,os,g,u,n,⟨ne,N,B,O,T,Q,U,m,D,Y,p,t,h0,h1,nT,fT,w,x,y,h3⟩,hE⟩:=M;refine#[e,C,d,a,T,m,zZ,os,g,u,n,hE,#[B,D,p],ne,N,nT,fT,λb o q=>CD _ q,Ah _ (.head _),?_,B,O,T,Q,U,D,#[Y,h0],t,h1,Ah _ (.tail _ (.head _)),w,x,y,h3];refine PySem.W.funFrames_hide (base:=X.base) ?_ λi j b k=> .tail _ (.tail _ (E9 i j b k));have all:∀(l:List Env),(∀b∈dD l,b∈dD X.stack)->s.heap.FunFrames X.base l->c.heap.FunFrames X.base l:=by
  intro l
  induction l with
  |nil=>intro _ _;trivial
  |cons i r ih=>
   intro G hl;obtain⟨hk,⟨L,o,A,hn,ho,t⟩,hr⟩:=hl;have J:L∈dD X.stack:=G L (by unfold dD;rw[List.filterMap_cons,A];exact List.mem_cons_self);obtain⟨sl,e1⟩:=u.slot L o ho (I.stkFree L J) J (by intro z;cases z);exact#[hk,#[L,_,A,hn,e1,t],ih (λb k=>G b (by unfold dD;rw[List.filterMap_cons,A];exact List.mem_cons_of_mem _ k)) hr]
 exact all X.stack (λ_ k=>k) I.stack
end
section
variable{X:Cx}{f:AO}{c:St}{H a:Hp}{s:Sh}
def JM{M:Model}{E1:VP}{E:XK}{v:Vl}{k:Sh}(I:Inv X f c H s)(m:X.ex=[])(l:X.stack=X.env::X.outer)(hf:X.env.frame=some X.env.locals)(hx:CX1 X.prog X.w X.stack H s E v k):
  wpAny M X.A (leaving X.env v) (λ_ O=>CX1 X.prog X.w X.outer X.H₀ X.s₀ E v O) E1 k:=by
 obtain⟨e,C,d,a,T,a0,rfl,os,n,u,t,hE,dc,ne,fe,nT,fT,fl⟩:=GR I hx;have w:∀b∈dD X.stack,∃o,k.heap.get? b=some o/\∀Q,o.data≠ .fields Q:=λb x=>(fl.2.2.1.mem x).2;have A:=fl;rw[l]at A;refine Om (by rw[I.ok.frames,l]) hf A dc λU Y up aa=>?_;obtain⟨st,_,_,oe,Q,h,oT,ts,he,⟨hc,h0⟩,hd,h1,hT,B,D,G,h3⟩:=Y;obtain⟨ae,J,ab⟩:=aa;rw[he]at J;cases J;rw[<-l]at st hT;have j:∀b o,k.heap.get? b=some o->b∈dD X.stack->∃sl,U.get? b=some {o with slots:=sl}:=λb o q x=>by
  obtain⟨N,i,e2⟩:=w b x;rw[q]at i;cases i;exact up b o q e2
 obtain⟨u2,hk⟩:=Nn (S:=[e,T]) (g:=k.heap) I m u t (λb o q x hS=>st b o (vm _ q λz=>by
   rcases dL.mp z with y|z
   .exact hS (by rw[y];exact .head _)
   .rcases dL.mp z with y|z
    .exact hS (by rw[y];exact .tail _ (.head _))
    .exact x z)) j λb z=>by
  rcases dL.mp z with y|z
  .rw[y];exact#[ne,fe]
  .rw[cY.mp z];exact#[nT,fT]
 have n0:∀b,s.heap.get? b=none->X.s₀.heap.get? b=none:=λb q=>by
  cases z:X.s₀.heap.get? b with
  |none=>rfl
  |some o=>
   obtain⟨N,i⟩:=I.base.there b o z (by rw[m];intro y;cases y);rw[q]at i;cases i
 have L:s.heap.get? h=none/\a h=none:=by
  by_cases z:h=T
  .rw[z];exact#[nT,fT]
  .have g2:k.heap.get? h=none:=by
    cases q:k.heap.get? h with
    |none=>rfl
    | some o=>
     by_cases y:h∈dD X.stack
     .obtain⟨N,i,e2⟩:=w h y;obtain⟨sl,e3⟩:=j h N i y;rw[D]at e3;cases e3;exact wC G (e2 ts)
     .rw[vm _ q (λr=>by
       rcases dL.mp r with p|r
       .exact B p
       .rcases dL.mp r with p|r
        .exact z p
        .exact y r)]at hT
      cases hT
   refine#[?_,t.gone g2];cases q:s.heap.get? h with
   |none=>rfl
   |some o=>
    obtain⟨N,i⟩:=u.there h o q (by intro y;cases y);rw[g2]at i;cases i
 exact#[e,C,d,a,zZ,os.trans I.os,n,u2,hk,#[n0 e ne,fe,oe,Q,h,oT,ts,a0,he,hc,ab,hd,h0,h1,n0 h L.1,L.2,B,D,G,h3],hE]
end
section
variable{P:Pg}{w:World}{K:P3}{mg:SV}{a:Heap}
def sd{N:Ss}{d:Str}{b:Scope}{f:Ad}{e:Vl}{A:Ar}{c:List Env}{s:Sh}{H:Hp}{E:XK}:nC (CX1 P w) (nR (CX1 P w) P w K mg a N d b f e A c s H E) E:=
 λ_ _ _ _ _ _ I g=>JM I zZ zZ zZ g
def Fun.okX{x c:Str}{st:Stmt}{f:Ad}{m:Fd}{N h:Ss}{k:Nat}{i:Sp}(F:Fun K x c st f m)(S:FnScope N h (cN st))(len:∀e H Q E,i e H Q E->e.length=h.length)(g:∀(d:Vl) (A:Ar) (b:List Env) (s:Sh) (H:Hp) (e:List V) (Q:VK) (E:XK),Room k (A.deeper (envOfC c (cN st) s.heap.objs.size f d))->i e H Q E->
   ∃t,PSs (nR (CX1 P w) P w K mg a N c (cN st) f d A b s H E) (fg st) t/\t {nx:=λ_ n=>Q .non n,rt:=Q} (start N e) H):FnOk P w K mg a (CX1 P w) (k+1) f m h i:=by
 obtain⟨r,u,kV,o,v,y,d,z,p,rfl,lk,j⟩:=F.ex;exact zA lk j S len λA b s H e Q E q l=>g d A b s H e Q E q l
end
abbrev veMro:Vs:=[.type "ValueError",.type "Exception",.type "BaseException",.type "object"]
def ErrC(K:P3)(C:Ad):Prop:=PySem.W.excIn K C veMro "ValueError.__new__"=true
def ErrC.obj{K:P3}{h:Heap}{C:Ad}(X:K.In h)(q:ErrC K C):∃c N i j bs b k sub m a o d e f k3 g p,
  h.get? C=some (excClassObj i j C N bs c b k sub m a o d e f k3 g "ValueError.__new__")/\h.Ns N p/\p "__init__"=none/\OwnTail h veMro c/\K.lookup C=some (excClassObj i j C N bs c b k sub m a o d e f k3 g "ValueError.__new__"):=by
 unfold ErrC PySem.W.excIn at q;split at q
 .rename_i o v sl lk
  split at q
  .rename_i A c d e f k3 n g r s
   simp only[Bool.and_eq_true,beq_iff_eq,Bool.not_eq_true']at q;obtain⟨⟨⟨⟨⟨rfl,rfl⟩,nd⟩,tl⟩,ok⟩,t⟩:=q;obtain⟨i,bs,w,u,j,x,k,sub,m,a,y⟩:=v;dsimp only at r nd ok t;subst r nd;have z:sl= #v[d,e,f,k3,some (.builtin "ValueError.__new__"),g]:=by
    obtain⟨l⟩:=sl;simp only at s;rw[s]
   subst z;exact#[c,u,i,j,bs,x,k,sub,m,a,o,d,e,f,k3,g,h.nsMap u,X _ _ lk,.of_isNs (PySem.W.isNs_of_in X ok),PySem.W.nsMap_none_of_in X ok t,PySem.W.tail_of_in X tl,lk]
  .cases q
 .cases q
section
variable{X:Cx}{f:AO}{a:St}{H H':Hp}{s:Sh}
abbrev Cx.caught(X:Cx)(e:Ad):Cx:={X with A:=X.A.mark (some (.ref e)),calm:=false}
def Inv.caught(I:Inv X f a H s)(e:Ad):Inv (X.caught e) f a H s:=
 #[#[I.ok.mod,I.ok.kind,I.ok.glob,I.ok.blt,I.ok.above,I.ok.inj,I.ok.has,I.ok.cab,(λz=>by cases z),I.ok.frames,I.ok.stk,I.ok.exf,I.ok.bs,I.ok.bsz,I.ok.noex,I.ok.exfs,I.ok.funs,I.ok.frf],
  I.os,I.bare,I.base,I.loc,I.cell,I.free,I.freeC,I.pin,I.hok,I.len]
def Inv.uncaught{e:Ad}(ok:X.Ok)(I:Inv (X.caught e) f a H s):Inv X f a H s:=#[ok,I.os,I.bare,I.base,I.loc,I.cell,I.free,I.freeC,I.pin,I.hok,I.len]
def GI(X:Cx)(e:Expr)(t:XK->TE):Prop:=∀(f:AO) (s:Sh) (a:St) (H:Hp) (Q:VK) (E:XK) (b:VP),Inv X f a H s->t E a H Q->
 (∀c d v g,Inv X f a c d->CX1 X.prog X.w X.stack c d E v g->b v g)->wpAny (model X.prog X.w) X.A (eval e X.env) (EP X f a Q) b s
def xc(X:Cx)(b:List Stmt)(t:XK->TS):Prop:=∀(f:AO) (s:Sh) (a:St) (H:Hp) (D:Ends) (E:XK) (c:VP),Inv X f a H s->t E D a H->
 (∀d e v g,Inv X f a d e->CX1 X.prog X.w X.stack d e E v g->c v g)->wpAny (model X.prog X.w) X.A (execs b X.env) (SP X f D) c s
def Ir{e:Expr}{c:XK->TE}{b:Pos}(d:GI X e c)(g:swapsWith e none b.line X.env=pure false:=by rfl):xc X [.Expr e b] (λE=>xv (c E)):=by
 intro f s a H D E i I h j;refine zn (wpAny_Expr_any (cS (d f s a H _ E i I h j) λv n ⟨x,k,l,o,m⟩=>?_) I.quiet g);exact sh #[a,k,l,m]
def KC{g h:Heap}{S:As}(I:Inv X f a H s)(u:Un (dD X.stack) [] H H' s.heap g)(m:HOk X.prog X.w H' g)(keep:∀b o,g.get? b=some o->b∉dD X.stack->b∉S->h.get? b=some o) (i:∀b o,g.get? b=some o->b∈dD X.stack->∃sl,h.get? b=some {o with slots:=sl})
  (w:∀b∈S,s.heap.get? b=none/\H' b=none):Un (dD X.stack) [] H H' s.heap h/\HOk X.prog X.w H' h:=by
 have j:∀b:Ad,b∉([]:As):=λb z=>by cases z
 have p:∀b∈dD X.stack,H' b=none:=λb d=>by
  obtain⟨_,y,A,_⟩:=I.stack.mem d;exact u.free b y A (I.stkFree b d) (j b)
 have x:∀b o,s.heap.get? b=some o->b∉S:=λb o e z=>by
  have:=(w b z).1;rw[e]at this;cases this
 refine#[#[λb o e n d _=>keep b o (u.keep b o e n d (j b)) d (x b o e),λb o e n d _=>?_,u.free,λb o e _=>?_,u.tups,u.frzs,u.tbls],λb o e=>?_]
 .obtain⟨sl,k⟩:=u.slot b o e n d (j b);obtain⟨r,B⟩:=i b _ k d;exact#[r,B]
 .obtain⟨t,k⟩:=u.there b o e (j b);by_cases d:b∈dD X.stack
  .obtain⟨sl,C⟩:=i b t k d;exact#[_,C]
  .exact#[t,keep b t k d (x b o e)]
 .have l:∀c v,H' c=some v->c∉dD X.stack/\c∉S:=λc v q=>#[λz=>(by rw[p c z]at q;cases q),λz=>(by rw[(w c z).2]at q;cases q)];refine(m b o e).stay (λc v D q=>?_) (λ_ q=>q) λ_ _ q=>q
  rcases D with z|z
  .rw[z]at q|-;exact keep b v q (l b o e).1 (l b o e).2
  .exact keep c v q (l c _ z).1 (l c _ z).2
def mC(e C:Ad)(d:Option Ad)(h:Heap):Prop:=∃o,h.get? e=some o/\o.cls=.ref C/\o.dict=d/\∃a,o.data=.fields a
def K6{B h:Heap}{l:List Env}{e C:Ad}{f:Vl}{d:Option Ad}(g:Heap.FlyingW B l e (.ref C) f h)(i:iZ e d h):mC e C d h:=by
 obtain⟨_,_,_,j,k,_,_,_,b,⟨m,_⟩,n,_⟩:=g;obtain⟨o,c,a⟩:=i;rw[b]at c;cases c;exact#[j,b,m,a,k,n]
def Jr{P:Pg}{w:World}{h:Heap}{e C:Ad}{d:Option Ad}(x:mC e C d h):ObjOk P w H h e (.ext (mC e C d)):=by
 obtain⟨o,a,c⟩:=x;exact#[#[o,a,c],#[o,a],λi j ⟨b,f,g⟩ k=>#[b,k b f,g]]
def Inv.takeIn{e C:Ad}{d:Option Ad}(I:Inv X f a H s)(k:mC e C d s.heap)(l:H e=none)(r:X.s₀.heap.get? e=none)(t:e≠X.env.locals)(v:∀x c,X.env.cells.lookup x=some c->c≠e)(w:∀p∈X.pn++f,p.1≠e)(G:e∉X.ex):
  Inv X f a (cq H e (.ext (mC e C d))) s:=by
 have nd:∀b u,H b=some u->b≠e:=λb u q z=>by rw[z,l]at q;cases q
 have y:∀b o,X.s₀.heap.get? b=some o->b≠e:=λb o q z=>by rw[z,r]at q;cases q
 refine#[I.ok,I.os,I.bare,#[I.base.keep,I.base.slot,λb o q n A=>?_,I.base.there,λb g q=>?_,λb o g q=>?_,λb B q=>?_],I.loc,I.cell,?_,λx c q=>?_,λp h=>?_,λb u q=>?_,I.len]
 .rw[cz (y b o q)];exact I.base.free b o q n A
 .rw[cz (nd b _ (I.base.tups b g q))];exact I.base.tups b g q
 .rw[cz (nd b _ (I.base.frzs b o g q))];exact I.base.frzs b o g q
 .obtain⟨m,i⟩:=I.base.tbls b B q;exact#[m,by rw[cz (nd b _ i)];exact i]
 .rw[cz (eJ t)];exact I.free
 .rw[cz (v x c q)];exact I.freeC x c q
 .obtain⟨D,E,a3⟩:=I.pin p h;exact#[D,by rw[cz (w p h)];exact E,a3]
 .by_cases j:b=e
  .subst j;rw[cw]at q;cases q;exact Jr k
  .rw[cz j]at q;exact(I.hok b u q).stay (λ_ _ _ z=>z) (λc z=>by rw[cz (nd c _ z)];exact z) λc g z=>by rw[cz (nd c _ z)];exact z
end
section
variable{X:Cx}
def zg{M:Model}{A:Ar}{E:VP}{C:AO}{D:St}{H:Hp}{s:Sh}{i:Nat}{n:Str}{t:Pos}{Q:Unit->Sh->Prop}(I:Inv X C D H s)(N:X.N[i]?=some n)(O:X.N.Nodup)(T:X.env.scope.names.lookup n=some .local)(h:∀G,Inv X C (D.set i none) H G->Q ⟨⟩ G):wpAny M A (do bindName X.env n .none;unbindBehindTheSuite X.env n t) Q E s:=by
 obtain⟨m,J,u⟩:=id I.loc;have l:(X.env.scope.kind== .class || (X.env.scope.kind== .module&&X.env.locals != X.env.globals))=false:=by rw[I.ok.kind];rfl
 obtain⟨oL,_,_,U,_⟩:=id J;refine wpAny_nameGoes_keeps T J l λh' v w a=>h _ #[I.ok,I.os,I.bare,#[λb o e n x r=>?_,λb o e n x r=>?_,I.base.free,λb o e r=>?_,I.base.tups,I.base.frzs,I.base.tbls],#[_,w,λj y Y f g e3=>?_],λy c e=>?_,I.free,I.freeC,λp hp=>?_,λb ob e=>?_,by simpa using I.len]
 .exact(a.2 b (eB (fJ (dm e) I.ok.above))).trans (I.base.keep b o e n x r)
 .obtain⟨sl,f⟩:=I.base.slot b o e n x r;exact#[sl,(a.2 b (eB (fJ (dm e) I.ok.above))).trans f]
 .obtain⟨o',f⟩:=I.base.there b o e r;exact#[o',(a.2 b (eB (fJ (dm e) I.ok.above))).trans f]
 .by_cases B:j=i
  .subst B;rw[List.getElem?_set]at g;split at g
   .split at g<;>cases g
   .rename_i z
    exact wC zZ z
  .rw[Bu (eJ B)]at g;obtain⟨u',r',q⟩:=u j y Y f g e3;refine#[u',r',?_]
   rcases q with⟨k,e⟩|⟨k,c,e,z⟩
   .refine .inl #[k,?_];have:y≠n:=λe=>B (D5 O f (e▸N));simp[this,e]
   .exact .inr #[k,c,e,z.sameBut a (I.cne y c e)]
 .obtain⟨L,z⟩:=I.cell y c e;exact#[L,z.sameBut a (I.cne y c e)]
 .obtain⟨e,n,ne,nf,d⟩:=I.pin p hp;exact#[(a.2 p.1 ne).trans e,n,ne,nf,d]
 .refine(I.hok b ob e).stay (λc L hc q=>(a.2 c ?_).trans q) (λ_ q=>q) λ_ _ q=>q;rintro rfl
  rcases hc with hc|hc
  .rw[<-hc,I.free]at e;cases e
  .rw[I.free]at hc;cases hc
def gone(i:Nat)(D:Ends):Ends:={nx:=λa b=>D.nx (a.set i none) b,rt:=D.rt,bk:=λa b=>D.bk (a.set i none) b,ct:=λa b=>D.ct (a.set i none) b}
end
section
variable{P:Pg}{w:World}{A:Ar}{E:VP}{h:Heap}{g:Array GenState}{d:Drawn}{t:Nat}{os:OsState}{e C:Ad}{o:Obj}{K:P3}
def vI{M:Model}{a:Vl}{b:Str}{r:Option Vl}{Q:Option Vl->Sh->Prop}(X:K.In h)(e:PySem.W.findIn K a b=some r)(c:Q r #[h,g,d,t,os]):wpAny M A (typeLookup a b) Q E #[h,g,d,t,os]:=
 PySem.W.looks_findIn X e _ _ _ _ (λ_ _ z=>z) c
end
def mh(K:P3)(C D:Ad):Prop:=ErrC K D/\∃N b c bs d sub e a f g h i k3 j,K.lookup C=some (excClassObj b c C N bs (.ref D::veMro) true d sub e a f g h i k3 j "ValueError.__new__")
structure MkE(K:P3)(C D f:Ad):Prop where
 cls:mh K C D
 init:PySem.W.findIn K (.ref C) "__init__"=some (some (.ref f))
 fn:PySem.W.isFn K (.ref f)=true
 kp:PySem.W.keepIn K (.ref C)=true
def qx{K:P3}{h:Heap}{C D:Ad}(X:K.In h)(q:mh K C D):∃N b c bs d sub e a f g i j k3 k,
  h.get? C=some (excClassObj b c C N bs (.ref D::veMro) true d sub e a f g i j k3 k "ValueError.__new__")/\OwnTail h veMro (.ref D::veMro)/\K.lookup C=some (excClassObj b c C N bs (.ref D::veMro) true d sub e a f g i j k3 k "ValueError.__new__"):=by
 obtain⟨up,N,b,c,bs,d,sub,e,a,f,g,i,j,k3,k,lk⟩:=q;obtain⟨_,_,_,_,_,_,_,_,_,_,_,_,_,_,_,_,_,m,n,l,_,_⟩:=up.obj X;exact#[N,b,c,bs,d,sub,e,a,f,g,i,j,k3,k,X _ _ lk,.own m n l .base,lk]
section
variable{P:Pg}{w:World}{A:Ar}{E:VP}{h:Heap}{g:Array GenState}{d:Drawn}{t:Nat}{os:OsState}{C D f:Ad}{K:P3}
def KR{c:Vs}{Q:Fin->Sh->Prop}(X:K.In h)(m:MkE K C D f)(u:c.length<=sizeLine)(v:∀p e,Heap.MadeExcOf h p e (.ref C) c->wpAny (model P w) A (call (.ref f) (.ref e::c)) (λr q=>r=.none/\Q (.done (.ret (.ref e))) q) E #[p,g,d,t,os]):
    wpAny (model P w) A (Builtin.«type.__call__» #[.ref C::c,[]]) Q E #[h,g,d,t,os]:=by
  obtain⟨N,H,I,bs,J,sub,L,y,M,O,U,Y,k3,k5,i,T,_⟩:=qx X m.cls;have s:veMro.contains (.type "ValueError")=true:=by rfl
  have j:=F.excBase_ValueError
  repeat (first|with_reducible refine j3 i ?_|with_reducible refine wpAny_madeBy_exc i ?_|wp_step)
  refine codeAny_call_builtin_code (BM _ j.quiet) (wpAny_check_new_subU j s T i ?_);refine codeAny_exc_new_subU j s j T i ?_ u;show wpAny _ _ _ _ _ _;have k:∀b o,h.get? b=some o->((h.push {cls:= .type "tuple",data:= .seq c.toArray}).push {cls:= .ref C,data:= .fields #v[.ref h.objs.size,.none,.none,.none,.bool false,.none]}).get? b=some o:=λb o z=>dC _ (dC _ z);have l:=k _ _ i;have a:((h.push {cls:= .type "tuple",data:= .seq c.toArray}).push {cls:= .ref C,data:= .fields #v[.ref h.objs.size,.none,.none,.none,.bool false,.none]}).get? (h.objs.size+1)=some
      {cls:= .ref C,data:= .fields #v[.ref h.objs.size,.none,.none,.none,.bool false,.none]}:=by heap_get
  have n:(Value.ref C:: .ref D::veMro).contains (.ref C)=true:=by simp
  unfold isInstance
  repeat (first|with_reducible refine j3 a ?_|(with_reducible refine u7 l ?_;rw[n])|wp_step)
  show wpAny _ _ (typeLookup (.ref C) _) _ _ _;refine vI (X.keeps k) m.init ?_;refine iS (cr ?_);unfold bindSpecial;have ty:=pk.mp m.fn;refine cr ((PySem.W.looks_typeIn (X.keeps k) ty).at ?_);rw[wB (by decide)];refine cF (cr (fL (v _ (h.objs.size+1) #[k,zd (pO _),h.objs.size,a,zd (cQ _),?_]) (λr q B=>?_) λ_ _ x=>x))
  · exact dC _ (Heap.get?_push_at zZ zZ)
  · obtain⟨rfl,G⟩:=B
    wp_walk
    exact G
def Jz{a:Vs}{Q:VP}(X:K.In h)(m:MkE K C D f)(i:a.length<=sizeLine)(j:∀b e,Heap.MadeExcOf h b e (.ref C) a->wpAny (model P w) (A.under (.builtin "type.__call__" #[.ref C::a,[]])) (call (.ref f) (.ref e::a)) (λr k=>r=.none/\Q (.ref e) k) E #[b,g,d,t,os]):
  wpAny (model P w) A (call (.ref C) a) Q E #[h,g,d,t,os]:=by
 obtain⟨N,o,p,bs,q,sub,s,l,u,v,x,y,k3,z,c,T,_⟩:=qx X m.cls;have B:=tc_lookup;have G:=tc_bind (.ref C);have hT:(#[h,g,d,t,os]:Sh).TypeIs (.ref C) "type":=#[_,c,zZ];refine oF (Cv ?_);show wpAny _ _ (callAny (.ref C) _) _ _ _
 repeat (any_goals (first|assumption|with_reducible refine j3 c ?_|wp_step))
 refine#[zZ,?_];refine codeAny_call_builtin_at (BM _ (by decide+kernel)) entry_typeCall (wpAny_check_type_call_sub c (KR X m i λb e n=>?_));exact j b e n
end
def i3(e C:Ad)(d:Option Ad):Heap->Prop:=λh=>∃a,h.get? e=some {cls:= .ref C,dict:=d,data:= .fields #v[.ref a,.none,.none,.none,.bool false,.none]}
def D7{P:Pg}{w:World}{H:Hp}{h:Heap}{e C:Ad}{d:Option Ad}(x:i3 e C d h):ObjOk P w H h e (.ext (i3 e C d)):=by
 obtain⟨b,a⟩:=x;exact#[#[b,a],#[_,a],λg i ⟨c,f⟩ k=>#[c,k _ f]]
structure SetE(K:P3)(C:Ad)(a:Str):Prop where
 sa:PySem.W.findIn K (.ref C) "__setattr__"=some (some (.builtin "object.__setattr__"))
 na:PySem.W.findIn K (.ref C) a=some none
section
variable{P:Pg}{w:World}{A:Ar}{E:VP}{h:Heap}{g:Array GenState}{d:Drawn}{t:Nat}{os:OsState}{e C D:Ad}{K:P3}{a:Str}{v:Vl}{f:Ad}
def OV{M:Model}{nv:Vl}{Q:Unit->Sh->Prop}(X:K.In h)(m:mh K C D)(c:h.get? e=some {cls:= .ref C,data:= .fields #v[.ref f,.none,.none,.none,.bool false,.none]})(i:Q ⟨⟩ #[h,g,d,t,os]):
  wpAny M A (checkBuiltinCall "object.__setattr__" #[[.ref e,nv,v],[]]) Q E #[h,g,d,t,os]:=by
 obtain⟨N,l,n,bs,o,sub,p,j,q,r,s,u,k3,w,k,T,_⟩:=qx X m;have a:(Value.ref C:: .ref D::veMro).contains (.type "object")=true:=by rw[w9,T.hasType (b:=true) (by rfl),Bool.or_true]
 have x:=wI.args (.ref e) nv v;simp only[checkBuiltinCall,F.store_ValueError.kind,F.store_ValueError.split];refine cr ?_;unfold isInstance
 repeat (first|with_reducible refine j3 c ?_|(with_reducible refine u7 k ?_;rw[a])|wp_step)
 exact i
def OX{M:Tok}{Q:Fin->Sh->Prop}(X:K.In h)(m:mh K C D)(Y:SetE K C a)(l:h.get? e=some {cls:= .ref C,data:= .fields #v[.ref f,.none,.none,.none,.bool false,.none]})
  (hq:∀n s,n.get? e=some {cls:= .ref C,dict:=some h.objs.size,data:= .fields #v[.ref f,.none,.none,.none,.bool false,.none]}->n.Ns1 h.objs.size (λy=>if y=a then some v else none)->(∀b o,b≠e->h.get? b=some o->n.get? b=some o)->Q (.done (.ret .none)) #[n,g,d,s,os]):
  wpAny (model P w) A (Builtin.«object.__setattr__» #[[.ref e,.str a M,v],[]]) Q E #[h,g,d,t,os]:=by
 obtain⟨N,nm,qn,bs,sn,sub,ab,aa,dd,k0,k1,k2,k3,k5,hC,T,_⟩:=qx X m;have j:=wI.passes (.ref e);obtain⟨o,p⟩:∃o:Obj,o={cls:= .ref C,data:= .fields #v[.ref f,.none,.none,.none,.bool false,.none]}:=#[_,zZ];rw[<-p]at l;have hc:o.cls=.ref C:=by rw[p]
 have u:o.dict=none:=by rw[p]
 have x:∀c,o.data≠ .cls c:=λc z=>by rw[p]at z;cases z
 unfold Builtin.«object.__setattr__»
 repeat (first|rw[refuse_eq]|(rw[refuseLoop_ref,refuseLoop_ref,j])|(with_reducible refine j3 l ?_;rw[hc])|with_reducible refine wpAny_mroOf_exc hC ?_|with_reducible refine vI X Y.na ?_|wp_step)
 rw[u,wA (by simp[typeHasDict])];split
 .rename_i k
  cases k
 split
 .rename_i c k
  exact wC k (x c)
 .have i:(h.push {cls:= .type "dict",data:= .dict #v[]}).get? e=some o:=dC _ l;have q:e≠h.objs.size:=eB (dm l);refine cr (wpAny_alloc' ?_);refine cr (wpAny_update' i ?_);refine cF ?_;have B:((h.push {cls:= .type "dict",data:= .dict #v[]}).update e λo=>{cls:=o.cls,dict:=some h.objs.size,data:=o.data,slots:=o.slots}).get? h.objs.size=some {cls:= .type "dict",data:= .dict #v[]}:=
   (Dn _ _ _ _ q.symm).trans (Heap.get?_push_at zZ zZ)
  have G:((h.push {cls:= .type "dict",data:= .dict #v[]}).update e λo=>{cls:=o.cls,dict:=some h.objs.size,data:=o.data,slots:=o.slots}).Ns h.objs.size (λ_=>none):=#[_,#v[],_,B,zZ,λe l=>wC l (by simp),λ_=>rfl];show wpAny _ _ (Builtin.ObjectAttr.storeInDict h.objs.size (.str a M) a v) _ _ _;unfold Builtin.ObjectAttr.storeInDict Builtin.ObjectAttr.newKeyGuard;refine cr (cF (cr (wpAny_nsSet1 (Heap.Ns1.of_empty G) λn r O=>?_)));obtain⟨oD,ae,af,H,I,J⟩:=r.count (Within.cons a v Within.nil);refine cr (wpAny_lookBehind H (by rw[I];exact pastItsLine_dict (dy J (by rw[jz,Dd,dA];lia))) ?_)
  wp_walk
  refine hq n _ ?_ r λb ob L U=>(O.2 b (eB (dm U))).trans ((Dn _ _ _ _ L).trans (dC _ U));refine(O.2 e q).trans ((pD _ i ?_).trans ?_)
  .rw[p];rfl
  .rw[p]
def NO{Q:Unit->Sh->Prop}(X:K.In h)(m:mh K C D)(k:SetE K C a)(j:h.get? e=some {cls:= .ref C,data:= .fields #v[.ref f,.none,.none,.none,.bool false,.none]})
  (l:∀c i,c.get? e=some {cls:= .ref C,dict:=some h.objs.size,data:= .fields #v[.ref f,.none,.none,.none,.bool false,.none]}->c.Ns1 h.objs.size (λy=>if y=a then some v else none)->(∀b o,b≠e->h.get? b=some o->c.get? b=some o)->Q ⟨⟩ #[c,g,d,i,os]):
  wpAny (model P w) A (setAttr (.ref e) a v) Q E #[h,g,d,t,os]:=by
 have r:=wI.slot.bind (.ref e);unfold setAttr callSpecial? specialOf
 repeat (any_goals (first|assumption|with_reducible refine j3 j ?_|with_reducible refine vI X k.sa ?_|wp_step))
 refine zi wI.slot.plain wI.entry (OV X m j (OX X m k j λc i n p q=>?_))
 repeat (any_goals (first|assumption|wp_step))
 exact l c _ n p q
end
section
variable{X:Cx}{d:AO}{f:St}{H:Hp}{s:Sh}
def Inv.takeO{a:Ad}{o:HO}(I:Inv X d f H s)(ok:ObjOk X.prog X.w (cq H a o) s.heap a o)(j:H a=none)(k:X.s₀.heap.get? a=none)(l:a≠X.env.locals)(r:∀x c,X.env.cells.lookup x=some c->c≠a)(t:∀p∈X.pn++d,p.1≠a):
  Inv X d f (cq H a o) s:=by
 have nd:∀b u,H b=some u->b≠a:=λb u q z=>by rw[z,j]at q;cases q
 have v:∀b o,X.s₀.heap.get? b=some o->b≠a:=λb o q z=>by rw[z,k]at q;cases q
 refine#[I.ok,I.os,I.bare,#[I.base.keep,I.base.slot,λb o q n w=>?_,I.base.there,λb e q=>?_,λb o e q=>?_,λb y q=>?_],I.loc,I.cell,?_,λx c q=>?_,λp g=>?_,λb u q=>?_,I.len]
 .rw[cz (v b _ q)];exact I.base.free b _ q n w
 .rw[cz (nd b _ (I.base.tups b e q))];exact I.base.tups b e q
 .rw[cz (nd b _ (I.base.frzs b o e q))];exact I.base.frzs b o e q
 .obtain⟨m,h⟩:=I.base.tbls b y q;exact#[m,by rw[cz (nd b _ h)];exact h]
 .rw[cz (eJ l)];exact I.free
 .rw[cz (r x c q)];exact I.freeC x c q
 .obtain⟨A,B,a3⟩:=I.pin p g;exact#[A,by rw[cz (t p g)];exact B,a3]
 .by_cases i:b=a
  .subst i;rw[cw]at q;cases q;exact ok
  .rw[cz i]at q;exact(I.hok b u q).stay (λ_ _ _ z=>z) (λc z=>by rw[cz (nd c _ z)];exact z) λc e z=>by rw[cz (nd c _ z)];exact z
def Inv.newO{a:Ad}{o:HO}{s1:Sh}{k:Hp}(g:Inv X d f k s1)(i:X.ex=[])(h:s1.heap.get? a=none):X.s₀.heap.get? a=none/\a≠X.env.locals/\(∀x c,X.env.cells.lookup x=some c->c≠a)/\∀p∈X.pn++d,p.1≠a:=by
 refine#[?_,λz=>?_,λy c q z=>?_,λp l z=>?_]
 .cases z:X.s₀.heap.get? a with
  |none=>rfl
  |some o=>
   obtain⟨n,j⟩:=g.base.there a o z (by rw[i];intro y;cases y);rw[h]at j;cases j
 .obtain⟨m,⟨r,_,_,b,_⟩,_⟩:=g.loc;rw[<-z,h]at b;cases b
 .obtain⟨s,t,e,_⟩:=g.cell y c q;rw[z,h]at e;cases e
 .have:=(g.pin p l).1;rw[z,h]at this;cases this
def Inv.forget{a:Ad}{i:Heap->Prop}(I:Inv X d f (cq H a (.ext i)) s)(j:H a=none):Inv X d f H s:=by
 have up:∀b,(cq H a (.ext i)) b=none->H b=none:=λb q=>by
  by_cases g:b=a
  .rw[g];exact j
  .rw[cz g]at q;exact q
 have of:∀b o,(∀k,o≠HO.ext k)->(cq H a (.ext i)) b=some o->H b=some o:=λb o ne q=>by
  by_cases g:b=a
  .subst g;rw[cw]at q;cases q;exact wC zZ (ne _)
  .rw[cz g]at q;exact q
 refine#[I.ok,I.os,I.bare,#[I.base.keep,I.base.slot,λb o q n l=>up _ (I.base.free b o q n l),I.base.there,λb h q=>of _ _ (λ_ e=>nomatch e) (I.base.tups b h q),λb o h q=>of _ _ (λ_ e=>nomatch e) (I.base.frzs b o h q),λb r q=>?_],
  I.loc,I.cell,up _ I.free,λx c q=>up _ (I.freeC x c q),λp t=>?_,λb u q=>?_,I.len]
 .obtain⟨m,v⟩:=I.base.tbls b r q;exact#[m,of _ _ (λ_ e=>nomatch e) v]
 .obtain⟨w,y,a3⟩:=I.pin p t;exact#[w,up _ y,a3]
 .have A:b≠a:=λz=>by rw[z,j]at q;cases q
  exact(I.hok b u (by rw[cz A];exact q)).stay (λ_ _ _ z=>z) (λc z=>of _ _ (λ_ e=>nomatch e) z) λc h z=>of _ _ (λ_ e=>nomatch e) z
def O2{H:Hp}{a:Ad}{o:HO}(h:H a=some o):cq H a o=H:=by
 funext b
 by_cases c:b=a
 .rw[c,cw,h]
 .rw[cz c]
end
structure BaseI(K:P3)(D:Ad):Prop where
 ga:PySem.W.specialIn K (.ref D) "__getattribute__"=some (some (.builtin "type.__getattribute__"))
 rd:PySem.W.readsIn K D (.type "type")=true
 fi:PySem.W.findCls K (.ref D) (.type "type") "__init__"=some (.val (.builtin "ValueError.__init__"))
def Jw(C:Ad)(t:TA):TE:=λb H Q=>t b H λc a=>∃e y,c=[.ref e,y]/\a e=some (.ext (i3 e C none))/\Q .non a
def v5(C:Ad)(a:Str)(f g:TE):TS:=λD c H=>g c H λy h=>f c h λx d=>∃e,x=.ref e/\d e=some (.ext (i3 e C none))/\∀b,d b=none->b≠e->D.nx c (cq (cq d b (.xd [(a,y)])) e (.ext (i3 e C (some b))))
section
variable{X:Cx}{C D f:Ad}{x a:Str}{n l o i:Expr}{t:TA}{v w:TE}{p j c k:Pos}
def Pw{L:Sem Bool}(m:MkE X.K C D f)(b:BaseI X.K D)(Y:Gl X x)(hm:X.mg x=some (.ref D))(ha:PA X [n,l] t)(k:(x==("__debug__":Str))=false:=by decide)
  (v:starEach [n,l] X.env=(false,eval n X.env)::starEach [l] X.env:=by rfl) (w:(backTo c (starEach [l] X.env)).any (·.1)=false:=by rfl)
  (ht:eval (.Call (.Attribute (.Name x p) "__init__" j) [n,l] [] c) X.env=(do
   let M <-eval (.Name x p) X.env
   standAt j.atName
   let(f,first) <-holding [M] (getMethod M "__init__" L)
   callWith c f first (backTo c (starEach [n,l] X.env)) (backToKw c (keywordEach [] X.env))):=by rfl):
  PE X (.Call (.Attribute (.Name x p) "__init__" j) [n,l] [] c) (Jw C t):=by
 intro za s σ H Q I h;refine PySem.W.methodCall_KW (pl:=L) (oR I Y hm ?_ k) ht;refine PySem.W.method_cls I.kIn b.ga (PySem.W.cls_value I.kIn b.rd b.fi zZ ?_);have I0:=I.tok (s.toks+1);refine IE (cS (ha c za _ σ H _ I0 h) λus s1 ⟨vs,H1,A,r,e,y,ev,B,q⟩=>?_) v w;subst ev;obtain⟨v1,E,rfl,r1,r2⟩:=IC r;cases r1;obtain⟨⟨t0,O⟩,_⟩:=A.hok e _ B;obtain⟨N,nm,qn,bs,sn,sub,ab,aa,dd,k0,k1,k2,k3,k5,hC,T,_⟩:=qx A.kIn m.cls;obtain⟨a,g,d,tk,os⟩:=s1;have G:=F.excBase_ValueError;refine oF (zi G.init.plain G.initEntry (wpAny_check_init_subU G T hC O zZ ?_))
 wp_walk
 have J:(a.push {cls:= .type "tuple",data:= .seq #v[E]}).get? e=some {cls:= .ref C,data:= .fields #v[.ref t0,.none,.none,.none,.bool false,.none]}:=dC _ O;have i:((a.push {cls:= .type "tuple",data:= .seq #v[E]}).update e (Obj.mapFields λx=>x.setIfInBounds 0 (.ref a.objs.size))).get? e=some {cls:= .ref C,data:= .fields #v[.ref a.objs.size,.none,.none,.none,.bool false,.none]}:=pD _ J rfl;have U:=A.write (x:=e) (e:=e) (o:= .ext (i3 e C none)) (t':=tk) (h':=(a.push {cls:= .type "tuple",data:= .seq #v[E]}).update e (Obj.mapFields λx=>x.setIfInBounds 0 (.ref a.objs.size))) (by rw[B];exact True.intro) (.inl rfl)
  (λb u hb z=>(Dn _ _ _ _ hb).trans (dC _ z)) #[_,i] (D7 #[_,i])
 rw[O2 B]at U;exact#[.non,H1,U,zZ,q]
def Ki(J:X.ex=[])(m:MkE X.K C D f)(Q:SetE X.K C a)(T:PE X o v)(U:PE X i w)(Y:swapsWith i (some (.Attribute o a k)) c.line X.env=pure false:=by rfl):PS X (.Assign [.Attribute o a k] i c) (v5 C a v w):=by
 intro L s A H E I h;refine ES (cS (U L s A H _ I h) λu s1 ⟨y,H1,I1,ry,q⟩=>cS (T L s1 A H1 _ I1 q) λov s2 ⟨z,B,n,rx,e,ex,M,q2⟩=>?_) Y;subst ex;cases rx;obtain⟨⟨t0,N⟩,_⟩:=n.hok e _ M;obtain⟨j,g,d,tk,os⟩:=s2;refine NO n.kIn m.cls Q N λh' p O g2 g3=>?_;have dn:j.get? j.objs.size=none:=zd (cQ _);have r:B j.objs.size=none:=n.hok.fresh (cQ _);have l:j.objs.size≠e:=mH (dm N);obtain⟨n1,n2,n3,n4⟩:=n.newO (o:= .xd []) J dn;have I3:Inv X L A (cq B e (.ext (i3 e C (some j.objs.size)))) #[h',g,d,p,os]:=n.write (x:=e) (e:=e) (o:= .ext (i3 e C (some j.objs.size))) (t':=p) (by rw[M];exact True.intro) (.inl rfl) (λb u hb q=>g3 b u hb q) #[_,O] (D7 #[t0,O]);have I4:=I3.takeO (a:=j.objs.size) (o:= .xd [(a,y)]) #[_,g2,λf=>?_] (by rw[cz l];exact r) n1 n2 n3 n4
 .refine#[A,_,I4,?_];have e3:cq (cq B e (.ext (i3 e C (some j.objs.size)))) j.objs.size (.xd [(a,y)])=cq (cq B j.objs.size (.xd [(a,y)])) e (.ext (i3 e C (some j.objs.size))):=by
   funext b
   unfold cq;by_cases t:b=e
   .rw[wB t,wB t,wA (by rw[t];exact eJ l)]
   .rw[wA t,wA t]
  rw[e3];exact q2 _ r l
 .show RelO (List.lookup f [(a,y)]) (if f=a then some u else none);by_cases G:f=a
  .rw[wB G,mO,G,vL];exact ry
  .rw[wA G,mO,oh.mpr G];exact True.intro
end
section
variable{X:Cx}{f:AO}{a:St}{H g:Hp}{s:Sh}
def Mq{g:Heap}{S:As}(I:Inv X f a H s)(l:X.ex=[])(keep:∀b o,s.heap.get? b=some o->b∉dD X.stack->b∉S->g.get? b=some o)(h:∀b o,s.heap.get? b=some o->b∈dD X.stack->∃sl,g.get? b=some {o with slots:=sl})
  (x:∀b∈S,X.s₀.heap.get? b=none/\H b=none):Un (dD X.outer) [] X.H₀ H X.s₀.heap g/\HOk X.prog X.w H g:=by
 have i:∀b:Ad,b∉X.ex:=λb z=>by rw[l]at z;cases z
 have m:∀b∈dD X.stack,H b=none:=λb d=>I.stkFree b d;have p:∀b o,X.s₀.heap.get? b=some o->b≠X.env.locals:=λb o e=>eB (fJ (dm e) I.ok.above);have r:∀b o,X.s₀.heap.get? b=some o->b∉dD X.outer->b∉dD X.stack:=λb o e n z=>by
  rcases dL.mp (I.stkSub b z)with q|q
  .exact p b o e q
  .exact n q
 have y:∀b o,X.s₀.heap.get? b=some o->b∉S:=λb o e z=>by
  have:=(x b z).1;rw[e]at this;cases this
 refine#[#[λb o e n d _=>?_,λb o e n d _=>?_,λb o e n _=>I.base.free b o e n (i b),λb o e _=>?_,I.base.tups,I.base.frzs,I.base.tbls],λb o e=>?_]
 .exact keep b o (I.base.keep b o e n d (i b)) (r b o e d) (y b o e)
 .obtain⟨sl,j⟩:=I.base.slot b o e n d (i b);obtain⟨t,u⟩:=h b _ j (DJ I.ok b d);exact#[t,u]
 .obtain⟨w,j⟩:=I.base.there b o e (i b);by_cases d:b∈dD X.stack
  .obtain⟨sl,u⟩:=h b w j d;exact#[_,u]
  .exact#[w,keep b w j d (y b o e)]
 .have k:∀c v,H c=some v->c∉dD X.stack/\c∉S:=λc v q=>#[λz=>(by rw[m c z]at q;cases q),λz=>(by rw[(x c z).2]at q;cases q)];refine(I.hok b o e).stay (λc v A q=>?_) (λ_ q=>q) λ_ _ q=>q
  rcases A with z|z
  .rw[z]at q|-;exact keep b v q (k b o e).1 (k b o e).2
  .exact keep c v q (k c _ z).1 (k c _ z).2
def Lc{M:Model}{E1:VP}{E:XK}{e C:Ad}{d:Option Ad}(I:Inv X f a (cq H e (.ext (i3 e C d))) s)(A:H e=none)(Y:X.s₀.heap.get? e=none)(i:X.ex=[])(j:X.stack=X.env::X.outer)(hf:X.env.frame=some X.env.locals)(hE:E (.ref C) d H):wpAny M X.A (leaving X.env (.ref e)) (λ_ B=>CX1 X.prog X.w X.outer X.H₀ X.s₀ E (.ref e) B) E1 s:=by
 obtain⟨⟨t0,he⟩,_⟩:=I.hok e _ cw;have D:=I.forget A;have k:=D.stack;have aa:e∉dD X.stack:=λz=>by
  have:=I.stkFree e z;rw[cw]at this;cases this
 have l:∀b∈dD X.stack,∃o,s.heap.get? b=some o/\∀G,o.data≠ .fields G:=λb g=>(k.mem g).2;refine LY (base:=PySem.W.hideAll s.heap (e::dD X.stack)) (a0:= .ref t0) (by rw[I.ok.frames,j]) (by rw[<-j];exact PySem.W.funFrames_hide k λJ m b g=> .tail _ (E9 J m b g)) hf he (λb o q=>CD _ q) (Ah _ (.head _)) zZ zZ zZ λL hL dc=>?_;obtain⟨st,_,⟨oe,G,T,oT,ts,n,⟨hc,h0⟩,hd,h1,hT,t,v,w,h3⟩,up⟩:=hL;obtain⟨ab,x,N⟩:=dc;rw[n]at x;cases x;have c:∀b o,s.heap.get? b=some o->b∈dD X.stack->∃sl,L.get? b=some {o with slots:=sl}:=λb o q g=>by
  obtain⟨O,h,Q⟩:=l b g;rw[q]at h;cases h;exact up b o q Q
 obtain⟨u,hk⟩:=Mq (S:=[e]) D i (λb o q g hS=>st b o (vm _ q λz=>by
   rcases dL.mp z with y|z
   .exact hS (by rw[y];exact .head _)
   .exact g z)) c λb z=>by rw[cY.mp z];exact#[Y,A]
 have gT:s.heap.get? T=none:=by
  cases q:s.heap.get? T with
  |none=>rfl
  | some o=>
   by_cases y:T∈dD X.stack
   .obtain⟨O,h,Q⟩:=l T y;obtain⟨sl,e3⟩:=c T O h y;rw[v]at e3;cases e3;exact wC w (Q ts)
   .rw[vm _ q (λr=>by
     rcases dL.mp r with p|r
     .exact t p
     .exact y r)]at hT
    cases hT
 have U:X.s₀.heap.get? T=none:=by
  cases z:X.s₀.heap.get? T with
  |none=>rfl
  |some o=>
   obtain⟨O,h⟩:=I.base.there T o z (by rw[i];intro y;cases y);rw[gT]at h;cases h
 exact#[e,C,d,H,zZ,I.os,I.bare,u,hk,#[Y,A,oe,G,T,oT,ts,_,n,hc,N,hd,h0,h1,U,D.hok.gone gT,t,v,w,h3],hE]
end
def C8(X:Cx)(E:XK):Prop:=∀(a:AO) (b:St) (H:Hp) (s:Sh) (e C:Ad) (d:Option Ad),Inv X a b (cq H e (.ext (i3 e C d))) s->H e=none->X.s₀.heap.get? e=none->E (.ref C) d H->X.xe (.ref e) s
def Pd{P:Pg}{w:World}{K:P3}{mg:SV}{c:Heap}{N:Ss}{d:Str}{a:Scope}{f:Ad}{e:Vl}{A:Ar}{b:List Env}{s:Sh}{H:Hp}{E:XK}:C8 (nR (CX1 P w) P w K mg c N d a f e A b s H E) E:=
 λ_ _ _ _ _ _ _ I g h i=>Lc I g h zZ zZ zZ i
section
variable{M:Model}{A:Ar}{E:VP}{s:Sh}{a:Env}{K:P3}{C D:Ad}
def Kd{x:Sem Vl}{Q:Flow->Sh->Prop}(m:mh K C D)(k:A.handled=none)(h:wpAny M A x (λv c=>∃e d,v=.ref e/\K.In c.heap/\i3 e C d c.heap/\E (.ref e) c) E s):wpAny M A (raiseStmt a (some x) none) Q E s:=by
 unfold raiseStmt;refine cr (fL h (λv c f=>?_) λ_ _ x=>x);obtain⟨e,d,rfl,X,⟨p,l⟩,n⟩:=f;obtain⟨N,q,r,bs,t,sub,u,o,w,y,z,B,k3,G,j,T,_⟩:=qx X m;have i:(Value.ref C:: .ref D::veMro).contains (.type "BaseException")=true:=by rw[w9,T.hasType (b:=true) (by rfl),Bool.or_true]
 obtain⟨H,g,I,J,os⟩:=c
 repeat (first|with_reducible refine j3 l ?_|with_reducible refine j3 j ?_|(with_reducible refine u7 j ?_;rw[i])|wp_step)
 exact A9 k n
end
def Hq(C:Ad)(f:Sp)(E:XK)(t:TA):TS:=λ_ g H=>t g H λb c=>b.length<=sizeLine/\∀e,c e=none->f (.ref e::b) (cq c e (.ext (i3 e C none))) (λv h=>v=.non/\∃d a,h=cq a e (.ext (i3 e C d))/\a e=none/\E (.ref C) d a) E0
section
variable{X:Cx}{k:Nat}{C D f:Ad}{j:Fd}{i:Ss}{l:Sp}{E:XK}{x:Str}{p n a:Pos}{e:Expr}{b:List Expr}{t:TA}
def N7(hc:X.calm=true)(L:X.ex=[])(th:C8 X E)(m:MkE X.K C D f)(F:FnOk X.prog X.w X.K X.mg X.base da k f j i l)(hr:Room (k+1) X.A)(hb:Binds X.K j i [])(hg:Gl X x)(hm:X.mg x=some (.ref C))(ha:PA X (e::b) t)(M:(x==("__debug__":Str))=false:=by decide) (he:starEach (e::b) X.env=(false,eval e X.env)::starEach b X.env:=by rfl) (N:(backTo a (starEach b X.env)).any (·.1)=false:=by rfl):
  PS X (.Raise (some (.Call (.Name x p) (e::b) [] a)) none n) (Hq C l E t):=by
 intro O s Q H D' I h;rw[arm_exec_Raise];refine cr (vS (Kd m.cls (I.ok.hd hc) (cr (fL (n6 (oR I hg hm ?_ M)) (λv s3 T=>cr (vS (cF T))) λ_ _ x=>x))));refine vN (h₀:=X.base) I.ok.mod.kin m.kp (cS (ha a O s Q H _ I h) λy s1 ⟨vs,H1,A,r,z,q⟩=>#[A.kIn,?_]) he N;obtain⟨hp,g,d,U,os⟩:=s1;refine Jz A.kIn m (by rw[Eg,<-r.length];exact z) λh' c J=>?_;obtain⟨t0,B,_,_⟩:=J.there;have hn:H1 c=none:=A.hok.gone J.new;obtain⟨n1,n2,n3,n4⟩:=A.newO (o:= .xd []) L J.new;have Y:Inv X O Q (cq H1 c (.ext (i3 c C none))) #[h',g,d,U,os]:=(A.kept (t':=U) J.keeps).takeO (D7 #[t0,B]) hn n1 n2 n3 n4;have hq:=q c hn;have r2:Vals (V.ref c::vs) (Value.ref c::y):= .cons zZ r;have hl:(Value.ref c::y++([]:Vs)).length=i.length:=by
  have e:=r2.length;rw[F.len _ _ _ _ hq]at e;rw[gS];exact e.symm
 have G:=hb #[h',g,d,U,os] (Value.ref c::y) Y.kIn hl;rw[gS]at G;refine oF (mJ (F.run _ X.stack _ _ #[Value.ref c::y,[]] (Value.ref c::y) _ _ E0 (hr.make C y []) (Y.env0.make C y []) G r2 hq) λr s' w=>?_);cases r with
 |error e=>exact w.elim
 | ok fl=>
  cases fl with
  |ret u=>
   obtain⟨v,H',I3,rv,ev,d',H3,eH,T,hE⟩:=Y.after w;subst ev eH;exact#[rv,c,d',zZ,I3.kIn,(I3.hok c _ cw).1,th O Q H3 s' c C d' I3 T n1 hE]
  |next=>exact wE w
  |brk=>exact wE w
  |cont=>exact wE w
def BH(P:Pg)(w:World)(K:P3)(mg:SV)(base:Heap)(x:Str)(k:Nat)(i:Ss)(l:Sp)(C:Ad):Prop:=∃D f j,MkE K C D f/\FnOk P w K mg base da k f j i l/\Binds K j i []/\mg x=some (.ref C)
def MI(o:X.calm=true)(d:X.ex=[])(q:C8 X E)(c:BH X.prog X.w X.K X.mg X.base x k i l C)(r:Room (k+1) X.A)(s:Gl X x)(u:PA X (e::b) t)(g:(x==("__debug__":Str))=false:=by decide) (v:starEach (e::b) X.env=(false,eval e X.env)::starEach b X.env:=by rfl) (h:(backTo a (starEach b X.env)).any (·.1)=false:=by rfl):
  PS X (.Raise (some (.Call (.Name x p) (e::b) [] a)) none n) (Hq C l E t):=by
 obtain⟨D,f,j,m,F,w,y⟩:=c;exact N7 o d q m F r w s y u g v h
end
def xl(K:P3)(C:Ad)(c:Vs):Prop:=∃N d e bs a f sub g b h i j k k3 l m,K.lookup C=some (excClassObj d e C N bs c a f sub g b h i j k k3 l m)
def CW(K:P3)(C D:Ad):Prop:=∃b a,xl K C b/\xl K D a/\(Value.ref C::b).contains (.ref D)=true/\(Value.ref D::a).contains (.type "BaseException")=true
def MK{K:P3}{C D:Ad}(q:mh K C D):CW K C C:=by
 obtain⟨_,N,b,c,bs,d,sub,e,a,f,g,h,i,k3,j,lk⟩:=q;exact#[_,_,#[_,_,_,_,_,_,_,_,_,_,_,_,_,_,_,_,lk],#[_,_,_,_,_,_,_,_,_,_,_,_,_,_,_,_,lk],by simp,by rw[List.contains_cons,List.contains_cons];rfl]
def JN{M:Model}{A:Ar}{E:VP}{K:P3}{s:Sh}{e C D:Ad}{b:Obj}{Q:Bool->Sh->Prop}(X:K.In s.heap)(c:CW K C D)(j:s.heap.get? e=some b)(k:b.cls=.ref C)(l:Q true s):
  wpAny M A (excMatches (.ref e) (.ref D)) Q E s:=by
 obtain⟨T,m,⟨N,U,Y,bs,f,sn,sb,ab,n,dd,k0,k1,k2,k3,k5,nw,o⟩,⟨N',p,q,r,a,t,u,v,h,w,x,y,z,B,G,H,I⟩,J,L⟩:=c;have O:=X _ _ o;have i:=X _ _ I;have nt:=tc_notTuple;obtain⟨hp,g,d,tk,os⟩:=s;unfold excMatches
 repeat (first|(with_reducible refine j3 j ?_;rw[k])|with_reducible refine j3 i ?_|(with_reducible refine u7 i ?_;rw[L])|(with_reducible refine u7 O ?_;rw[J])|wp_step)
 exact l
def xG(i:Nat)(K:P3)(c:Ad)(f:XK->TS)(g:TS):TS:=λD b H=>∃E:XK,f E D b H/\∀C d a,E (.ref C) d a->CW K C c/\∀e,a e=none->g (gone i D) (b.set i (some (.ref e))) (cq a e (.ext (mC e C d)))
def Nj{X:Cx}{i:Nat}{x n:Str}{D':Ad}{k:List Stmt}{b0:Stmt}{a:List Stmt}{tb:XK->TS}{ts:TS}{np Q aj:Pos}(U:X.ex=[])(Y:X.stack=X.env::X.outer)(hf:X.env.frame=some X.env.locals)(hN:X.N.Nodup) (hi:X.N[i]?=some n) (N:X.env.scope.names.lookup n=some .local) (hg:Gl X x) (hm:X.mg x=some (.ref D')) (j:xc X k tb) (hs:∀e,PSs (X.caught e).nox (b0::a) ts) (ak:(x==("__debug__":Str))=false:=by decide):
  PS X (.Try k [.ExceptHandler (some (.Name x np)) (some n) (b0::a) Q] [] [] aj) (xG i X.K D' tb ts):=by
 intro za s σ H D I h;obtain⟨E,h1,hc⟩:=h;refine wpAny_Try_except (cS (j za s σ H D E _ I h1 λH1 s1 v s' l hx=>?_) λf s1 q=>?_)
 rotate_left
 .cases f with
  |next=>exact sh q
  |brk=>exact q
  |cont=>exact q
  |ret u=>exact q
 obtain⟨e,C,d,H',T,a0,rfl,os,aa,u,al,hE,dc,ne,fe,nT,fT,fl⟩:=GR l hx;obtain⟨cB,go⟩:=hc C d H' hE;have ab:∀b o,s'.heap.get? b=some o->b∉dD X.stack->b∉[e,T]->(PySem.W.hideAll s'.heap (e::T::dD X.stack)).get? b=some o:=λb o q j O=>vm _ q λz=>by
  rcases dL.mp z with y|z
  .exact O (by rw[y];exact .head _)
  .rcases dL.mp z with y|z
   .exact O (by rw[y];exact .tail _ (.head _))
   .exact j z
 have am:∀b∈dD X.stack,∃o,s'.heap.get? b=some o/\∀ws,o.data≠ .fields ws:=λb j=>(fl.2.2.1.mem j).2;generalize PySem.W.hideAll s'.heap (e::T::dD X.stack)=B at fl ab;rw[Y]at fl;have O:∀b∈[e,T],s1.heap.get? b=none/\H' b=none:=λb z=>by
  rcases dL.mp z with y|z
  .rw[y];exact#[ne,fe]
  .rw[cY.mp z];exact#[nT,fT]
 have mk:∀t,Heap.FlyingW B (X.env::X.outer) e (.ref C) a0 t->s'.heap.UpToSlots t->Inv X za σ H' {s' with heap:=t}:=λt f5 up=>by
  obtain⟨u5,an⟩:=KC (S:=[e,T]) (g:=s'.heap) l u al (λb o q j O=>f5.1 b o (ab b o q j O)) (λb o q j=>by
   obtain⟨o',e1,e2⟩:=am b j;rw[q]at e1;cases e1;exact up b o q e2) O
  exact l.call' (s':={s' with heap:=t}) (ch:=[]) os u5 an aa λb z=>by cases z
 refine N0 (by rw[l.ok.frames,Y]) hf fl dc λh4 w ae ao=>?_;refine NB w ao λt A af ap=>?_;have I5:=mk t A (ae.trans af);refine wpAny_handleBy_cons (codeAny_handlers_test (oR (X:=X.caught e) (I5.caught e) hg hm ?_ ak)) (by intro q;cases q);obtain⟨oe,aq,ar⟩:=A.there;refine JN I5.kIn cB aq ar ?_;refine codeAny_handlers_suite_as (PM A ap λh6 ag as au=>?_);have I6:=mk h6 ag ((ae.trans af).trans as);have n0:X.s₀.heap.get? e=none:=by
  cases z:X.s₀.heap.get? e with
  |none=>rfl
  |some o=>
   obtain⟨o',e1⟩:=l.base.there e o z (by rw[U];intro y;cases y);rw[ne]at e1;cases e1
 have av:mC e C d h6:=K6 ag au;have aw:=I6.takeIn (C:=C) av fe n0 (λz=>by
   obtain⟨m,⟨oL,_,_,ah,_⟩,_⟩:=l.loc;rw[<-z,ne]at ah;cases ah) (λy c q z=>by
   obtain⟨w',oc,ai,_⟩:=l.cell y c q;rw[z,ne]at ai;cases ai) (λp hp z=>by
   have:=(l.pin p hp).1;rw[z,ne]at this;cases this) (by rw[U];intro y;cases y)
 refine B6 (X:=X.caught e) (v:= .ref e) (aw.caught e) hN hi (.inl N) zZ (λs7 I7=>?_) (.inr N);refine fL (hs e za s7 _ _ _ (I7.wish _) (go e fe)) (λf s8 q=>?_) λ_ _ z=>wE z;cases f with
 |next=>
  obtain⟨G,J,L,q⟩:=q;exact zg (L.unwish.uncaught I.ok) hi hN N λs9 M=>#[_,J,M,q]
 |brk=>
  obtain⟨G,J,L,q⟩:=q;exact zg (L.unwish.uncaught I.ok) hi hN N λs9 M=>#[_,J,M,q]
 |cont=>
  obtain⟨G,J,L,q⟩:=q;exact zg (L.unwish.uncaught I.ok) hi hN N λs9 M=>#[_,J,M,q]
 |ret u=>
  obtain⟨v,G,J,L,r,q⟩:=q;exact zg (L.unwish.uncaught I.ok) hi hN N λs9 M=>#[v,_,J,M,r,q]
structure GetE(K:P3)(C:Ad)(a:Str):Prop where
 ga:PySem.W.findIn K (.ref C) "__getattribute__"=some (some (.builtin "BaseException.__getattribute__"))
 gt:PySem.W.findIn K (.ref C) "__getattr__"=some none
 na:PySem.W.findIn K (.ref C) a=some none
section
variable{P:Pg}{w:World}{A:Ar}{E:VP}{h:Heap}{g:Array GenState}{d:Drawn}{t:Nat}{os:OsState}{e C D i:Ad}{o:Obj}{K:P3}{a:Str}{u:Vl}{f:SV}
def JP{M:Model}{a:Vl}{Q:Unit->Sh->Prop}(X:K.In h)(m:mh K C D)(c:h.get? e=some o)(f:o.cls=.ref C)(i:Q ⟨⟩ #[h,g,d,t,os]):
  wpAny M A (checkBuiltinCall "BaseException.__getattribute__" #[[.ref e,a],[]]) Q E #[h,g,d,t,os]:=by
 have j:builtinKind "BaseException.__getattribute__"=some .slot:=by decide+kernel
 have k:splitId "BaseException.__getattribute__"=some ("BaseException","__getattribute__"):=by decide+kernel
 obtain⟨N,q,r,bs,s,sub,u,l,v,w,x,y,k3,z,n,T,_⟩:=qx X m;have p:(Value.ref C:: .ref D::veMro).contains (.type "BaseException")=true:=by rw[w9,T.hasType (b:=true) (by rfl),Bool.or_true]
 have B:=F.args_bexc_ga (.ref e) a;simp only[checkBuiltinCall,j,k];refine cr ?_;unfold isInstance
 repeat (first|(with_reducible refine j3 c ?_;rw[f])|(with_reducible refine u7 n ?_;rw[p])|wp_step)
 exact i
def Nx{p:Tok}{Q:Fin->Sh->Prop}(X:K.In h)(m:mh K C D)(gE:GetE K C a)(l:h.get? e=some o)(n:o.cls=.ref C)(b:∀c,o.data≠ .cls c)(j:o.dict=some i)(q:h.Ns i f)(r:f a=some u)(s:Q (.done (.ret u)) #[h,g,d,t,os]):
  wpAny (model P w) A (Builtin.«object.__getattribute__» #[[.ref e,.str a p],[]]) Q E #[h,g,d,t,os]:=by
 obtain⟨N,y,z,bs,B,sub,G,v,H,I,J,L,k3,M,x,T,_⟩:=qx X m;unfold Builtin.«object.__getattribute__»
 repeat (first|(with_reducible refine j3 l ?_;rw[n])|with_reducible refine vI X gE.na ?_|wp_step)
 split
 .rename_i c k
  exact wC k (b c)
 unfold instanceDict
 repeat (first|(with_reducible refine j3 l ?_;rw[n])|with_reducible refine j3 x ?_|wp_step)
 rw[j]
 repeat (first|(with_reducible refine wpAny_nsGet q ?_;rw[r])|wp_step)
 exact s
def Nz{q:Tok}{ri b:Bool}{Q:VP}(X:K.In h)(m:mh K C D)(gE:GetE K C a)(j:h.get? e=some o)(k:o.cls=.ref C)(l:∀c,o.data≠ .cls c)(n:o.dict=some i)(r:h.Ns i f)(s:f a=some u)(p:handedOut u=pure u)(x:Q u #[h,g,d,t,os]):
  wpAny (model P w) A (getAttrBy (.ref e) (.str a q) ri b) Q E #[h,g,d,t,os]:=by
 have y:=F.excAttr_ValueError.ga.bind (.ref e);have z:(b&&onTheHeap (Value.builtin "BaseException.__getattribute__"))=false:=by cases b<;>rfl
 have v:(Value.builtin "BaseException.__getattribute__"==Value.builtin "object.__getattribute__")=false:=by decide+kernel
 have B:(onTheHeap (Value.ref C)&&Value.builtin "BaseException.__getattribute__"==Value.builtin "object.__getattribute__")=false:=by rw[v];rfl
 repeat (any_goals (first|assumption|(with_reducible refine j3 j ?_;rw[k])|with_reducible refine vI X gE.ga ?_|with_reducible refine vI X gE.gt ?_|wp_step))
 refine zi F.excAttr_ValueError.ga.plain F.entry_bexc_ga (JP X m j k (Nx X m gE j k l n r s ?_))
 repeat (any_goals (first|assumption|(rw[p])|wp_step))
def JK{b:Bool}{Q:VP}(X:K.In h)(m:mh K C D)(gE:GetE K C a)(n:h.get? e=some o)(p:o.cls=.ref C)(j:∀c,o.data≠ .cls c)(k:o.dict=some i)(q:h.Ns i f)(r:f a=some u)(l:handedOut u=pure u)(s:Q u #[h,g,d,t+1,os]):
  wpAny (model P w) A (getAttr (.ref e) a b) Q E #[h,g,d,t,os]:=by
 unfold getAttr
 repeat (any_goals (first|assumption|with_reducible apply Nz X m gE n p j k q r l|wp_step))
end
def G5(K:P3)(a:Str)(d:TE):TE:=λf H Q=>d f H λx b=>∃e C D c n,x=.ref e/\b e=some (.ext (mC e C (some c)))/\b c=some (.xd [(a,.int n)])/\mh K C D/\GetE K C a/\Q (.int n) b
def ON{X:Cx}{e:Expr}{a:Str}{k:TE}{i:Pos}(p:PE X e k)(v:attributeBase e a X.env (eval e X.env)=eval e X.env:=by rfl):PE X (.Attribute e a i) (G5 X.K a k):=by
 intro w s y H Q I h;refine Hz v (cS (p w s y H _ I h) λu A ⟨x,B,f,E,ad,C,D,G,n,J,L,M,m,gE,q⟩=>?_);subst J;cases E;obtain⟨⟨o,N,O,T,ws,hw⟩,_⟩:=f.hok ad _ L;obtain⟨U,Y,r⟩:=f.hok G _ M;have b:=r a;rw[show List.lookup a [(a,V.int n)]=some (V.int n) by rw[mO,vL]]at b;cases j:U a with
 |none=>rw[j]at b;exact b.elim
 |some u=>
  rw[j]at b;obtain⟨l,rfl⟩:=(show ∃l,u=Value.int n l from b);obtain⟨hh,g,d,t,os⟩:=A;exact JK f.kIn m gE N O (λc z=>by rw[hw]at z;cases z) T Y.ns j rfl #[.int n,B,f.tok (t+1),#[_,rfl],q]
def Mb{X:Cx}{K:P3}{e:Expr}{a:Str}{c:TE}{b:Pos}(d:X.K=K)(f:PE X e c)(g:attributeBase e a X.env (eval e X.env)=eval e X.env:=by rfl):PE X (.Attribute e a b) (G5 K a c):=by
 subst d;exact ON f g
def K'{X:Cx}{c:Expr}{a b:List Stmt}{l:TT}{m n:XK->TS}{i:Pos}(v:PT X.nox c l)(w:xc X a m)(x:xc X b n):xc X [.If c a b i] (λE=>tm l (m E) (n E)):=by
 intro g s j H D E k I h o;have fin:∀(f:Flow) (e:Sh),SP X g D f e->(match f with|.next=>wpAny (model X.prog X.w) X.A (execs [] X.env) (SP X g D) k e|f=>SP X g D f e):=λf e q=>by
  cases f with
  |next=>exact sh q
  |brk=>exact q
  |cont=>exact q
  |ret u=>exact q
 refine zn (wpAny_If (fL (v g s j H _ (I.wish _) h) (λd e ⟨p,r,t⟩=>?_) λ_ _ z=>wE z));cases d with
 |true=>exact cS (w g e j p D E k r.unwish t o) fin
 |false=>exact cS (x g e j p D E k r.unwish t o) fin
def wQ(op:CmpOp)(A:Ar)(s:Sh)(x y:Vl)(r:Bool):Prop:=
 ∀(P:Pg) (w:World) (E:VP) (Q:VP),Q (.bool r) s->wpAny (model P w) A (richCompare op x y) Q E s
inductive Cmp (op:CmpOp) (A:Ar) (s:Sh):List (Vl×Vl)->Option Bool->Prop where
 |nil:Cmp op A s [] none
 |eq {x y zs o}:SeqAt.EqAt A s x y true->Cmp op A s zs o->Cmp op A s ((x,y)::zs) o
 |ne {x y zs r}:SeqAt.EqAt A s x y false->wQ op A s x y r->Cmp op A s ((x,y)::zs) (some r)
def SeqObj(c:String)(h:Heap)(a:Ad)(b:Vs):Prop:=∃n d sl,h.get? a=some #[.type c,d,.seq b.toArray n,sl]
section
variable{P:Pg}{w:World}{A:Ar}{E:VP}{s:Sh}{a:CmpOp}
def Ke{i:Type}{f:Vl×Vl->i->Sem (ForInStep i)}{d:i}{Q:i->Sh->Prop}{j:List (Vl×Vl)}{o:Option Bool}(h:Cmp a A s j o)(k:∀x y Q,SeqAt.EqAt A s x y true->Q (.yield d) s->wpAny (model P w) A (f (x,y) d) Q E s)(no:∀x y r,SeqAt.EqAt A s x y false->wQ a A s x y r->o=some r->wpAny (model P w) A (f (x,y) d) (λt g=>match t with|.yield _=>False|.done b=>Q b g) E s)(fin:o=none->Q d s):wpAny (model P w) A (forIn j d f) Q E s:=by
 refine wpAny_forIn_list f (λrest b g=>b=d/\g=s/\Cmp a A s rest o) Q (λz rest b g q=>?_) (λb g q=>?_) j d #[zZ,zZ,h]
 .obtain⟨rfl,rfl,c⟩:=q;cases c with
  |eq e c=>exact k _ _ _ e #[zZ,zZ,c]
  |ne e c=>
   refine fL (no _ _ _ e c zZ) (λt l z=>?_) λ_ _ z=>z;cases t with
   |yield _=>exact z.elim
   |done _=>exact z
 .obtain⟨rfl,rfl,c⟩:=q;cases c;exact fin rfl
end
section
open AutoSeq1
open MeetsSeq MeetsSeq2 MeetsSeq3 SeqRoads2 SeqAt
variable{l b:Ad}{d a:Vs}
def Pt:Meets (Builtin.«tuple.__lt__» #[[.ref l,.ref b],[]]) (λA R s=>SeqObj "tuple" s.heap l d/\SeqObj "tuple" s.heap b a/\∃o,Cmp .Lt A.in1 s (d.zip a) o/\R (.ok (.ret (.bool (o.getD (decide (d.length<a.length)))))) s):=by
 refine .of_wp λP w A R ⟨h,p,t,k,os⟩ ⟨⟨n,u,sl,f⟩,⟨m,v,tl,i⟩,o,c,q⟩=>?_;have sub:=AutoSeq1.sub_tuple_tuple
 wp_walk using Ct f,Ct i
 refine Ke c (λx y Q e z=>?_) (λx y r e j z=>?_) (λz=>?_)
 .refine cr (e P w _ _ ?_)
  wp_walk
  exact z
 .refine cr (e P w _ _ ?_);generalize g:richCompare .Lt x y=ask
  wp_walk
  subst g;refine j P w _ _ ?_
  wp_walk
  subst z;exact#[_,zZ,q]
 .subst z
  wp_walk
  exact#[_,zZ,by simpa[Builtin.Tuple.tupleCompareSizes]using q]
end
def iv:cn->List Nat->Option Bool
 |a::c,b::d=>if a=b then iv c d else some (decide (a<b))
 |_,_=>none
def fj(a b:cn):Bool:=(iv a b).getD (decide (a.length<b.length))
def qd(b:cn):fj b b=false:=by
 have no:iv b b=none:=by
  induction b with
  |nil=>rfl
  |cons a b c=>rw[iv,wB zZ,c]
 unfold fj;rw[no];simp
section
variable{A:Ar}{s:Sh}{l b:Ad}{a d:Vs}{o:Option Bool}
def LB{i j:Int}{t u:Tok}:wQ .Lt A s (.int i t) (.int j u) (decide (i<j)):=λP w E Q q=>show wpAny _ _ (compareOp .Lt _ _) _ _ _ from PyProof.Rows.lt_int q
def f6{i j:Int}{t u:Tok}:SeqAt.EqAt A s (.int i t) (.int j u) (decide (i=j)):=by
 have z:=yJ (A:=A) (s:=s) (y:= .int i) (x:= .int j) (u:= .int i t) (v:= .int j u) #[t,zZ] #[u,zZ] zZ rfl;have e:mV (.int i) (.int j)=decide (i=j):=by
  show(i==j)=_;by_cases h:i=j<;>simp[h]
 rwa[e]at z
theorem FC{op:CmpOp}{F:Bool->Bool}(f:∀(i j:Nat) (t u:Tok),i≠j->wQ op A s (.int (i:Int) t) (.int (j:Int) u) (F (decide (i<j)))):
  ∀{c b:cn} {a d:Vs},Vals (c.map nv) a->Vals (b.map nv) d->Cmp op A s (a.zip d) ((iv c b).map F)
 | [],b,_,_,.nil,_=>by rw[List.zip_nil_left,show iv [] b=none by cases b<;>rfl];exact .nil
 |n::c,[],_,_,.cons _ _,.nil=>by rw[List.zip_nil_right];exact .nil
 | n::c,m::b,_,_,.cons ⟨t,g⟩ h,.cons ⟨u,k⟩ l=>by
  subst g k;have z:=f6 (A:=A) (s:=s) (i:=(n:Int)) (j:=(m:Int)) (t:=t) (u:=u);by_cases e:n=m
  .rw[dW ()]at z;rw[iv,wB e];exact .eq z (FC f h l)
  .rw[fZ ()]at z;rw[iv,wA e];exact .ne z (f n m t u e)
def Ou{c f:cn}(g:Vals (c.map nv) a)(h:Vals (f.map nv) d):Cmp .Lt A s (a.zip d) (iv c f):=by
 have z:=FC (A:=A) (s:=s) (op:= .Lt) (F:=λb=>b) (λi j t u _=>by
  have e:decide ((i:Int)<(j:Int))=decide (i<j):=by simp
  exact e▸LB) g h
 rwa[Option.map_id']at z
def IW(h:s.heap.IsTuple l a.toArray):SeqObj "tuple" s.heap l a:=by
 obtain⟨⟨c,b,g,sl⟩,e,d,n,f⟩:=h;cases d;cases f;exact#[n,b,sl,e]
def SeqObj.ty{c:String}(h:SeqObj c s.heap l a):s.TypeIs (.ref l) c:=let⟨_,_,_,e⟩:=h;#[_,e,zZ]
def ME(e:SeqObj "tuple" s.heap l a)(f:SeqObj "tuple" s.heap b d)(g:A.units<cLine)(c:Cmp .Lt A.in1 s (a.zip d) o):wQ .Lt A s (.ref l) (.ref b) (o.getD (decide (a.length<d.length))):=λP w E Q q=>
 richCompare_meets_room (op:= .Lt) e.ty f.ty F.slot_tuple_lt F.entry_tuple_lt (F.args_tuple_lt_2 _ _) Pt #[e,f,o,c,(λz=>nomatch z),q] g
end
section
variable{X:Cx}
def xL(i:Int)(a:cn)(j:Int)(b:cn):Bool:=if i=j then fj a b else decide (i<j)
end
def cO(m:Nat):cn:=(List.range 5).filter λi=>m.testBit i
def gN(led:Bool)(a:cn):SetTable:={mask:=if a.length=5 then 31 else 7,place:=a.toArray,dummies:= #v[],finger:=0,led,moves:=if a.length=5 then 1 else 0,plain:=true}
def nA(a:cn)(k:Nat):Nat:=(a.filter (· <k)).length
def mE(a:Bool)(m k:Nat):SetTable:={gN a (cO m)with place:=(cO (m |||2 ^ k)).toArray}
def xT:∀(a:Bool) (m:Fin 32),(gN a (cO m)).fits (cO m).length=true:=by decide+kernel
def Nc:∀(a:Bool) (m:Fin 32) (k:Fin 5),(m:Nat).testBit k=false->(gN a (cO m)).freeSlot ((k:Nat):Int)=some ((k:Nat),false):=by decide+kernel
def JG:∀(a:Bool) (m:Fin 32) (k:Fin 5),(m:Nat).testBit k=false->(gN a (cO m)).put k=(mE a m k,nA (cO m) k)/\(mE a m k).fits ((cO m).length+1)=true:=by decide+kernel
def NR:∀(m:Fin 32) (k:Fin 5),(m:Nat).testBit k=false->cO (m |||2 ^ (k:Nat))=(cO m).take (nA (cO m) k)++(k:Nat)::(cO m).drop (nA (cO m) k):=by decide+kernel
def Ms:∀(m:Fin 32) (k:Fin 5),(k:Nat)∈cO m->(m |||2 ^ (k:Nat):Nat)=m:=by decide+kernel
def Kf:∀(m:Fin 32) (k:Fin 5),(k:Nat)∉cO m->(m:Nat).testBit k=false:=by decide+kernel
def Hk:∀(m:Fin 32) (k:Fin 5),(m |||2 ^ (k:Nat):Nat)<32:=by decide+kernel
def yb:∀m:Fin 32,(cO m).length<=5:=by decide+kernel
def NQ:∀(a:Bool) (m:Fin 32) (k:Fin 5),(m:Nat).testBit k=false->(cO m).length≠4->mE a m k=gN a (cO (m |||2 ^ (k:Nat)))/\(mE a m k).tooFull=false:=by decide+kernel
def O7:∀(a:Bool) (m:Fin 32) (k:Fin 5),(m:Nat).testBit k=false->(cO m).length=4->(mE a m k).tooFull=true/\
  (mE a m k).relaid #v[0,1,2,3,4] (SetTable.grown 5)=some (gN a (cO (m |||2 ^ (k:Nat))),#v[0,1,2,3,4])/\cO (m |||2 ^ (k:Nat))=[0,1,2,3,4]/\(gN a (cO (m |||2 ^ (k:Nat)))).fits 5=true:=by decide+kernel
def BR:∀k:Fin 5,hashInt ((k:Nat):Int)=((k:Nat):Int):=by decide+kernel
def Ents:cn->List (Int×Vl)->Prop:=Paired λn e=>e.1=(n:Int)/\∃t,e.2=.int (n:Int) t
def m7(a:List (Int×Vl))(b:Nat)(t:SetTable):Obj:={cls:= .type "set",data:= .set a.toArray b t}
def IsSet5(h:Heap)(a:Ad)(b:Bool)(m:Nat):Prop:=m<32/\∃c d,h.get? a=some (m7 c d (gN b (cO m)))/\Ents (cO m) c
theorem Ents.take:∀{a:cn} {b:List (Int×Vl)} (p:Nat),Ents a b->Ents (a.take p) (b.take p)
 |_,_,0,_=> .nil
 |_,_,_+1,.nil=> .nil
 |_,_,p+1,.cons r t=> .cons r (Ents.take p t)
theorem Ents.drop:∀{a:cn} {b:List (Int×Vl)} (p:Nat),Ents a b->Ents (a.drop p) (b.drop p)
 |_,_,0,r=>r
 |_,_,_+1,.nil=> .nil
 |_,_,p+1,.cons _ t=>Ents.drop p t
theorem Ents.app:∀{a b:cn} {c fs:List (Int×Vl)},Ents a c->Ents b fs->Ents (a++b) (c++fs)
 |_,_,_,_,.nil,r=>r
 |_,_,_,_,.cons q t,r=> .cons q (Ents.app t r)
def Ents.len{a:cn}{b:List (Int×Vl)}(h:Ents a b):b.length=a.length:=(pq h).symm
theorem Ents.keys:∀{a:cn} {b:List (Int×Vl)},Ents a b->b.map (·.1)=a.map λ(n:Nat)=>(n:Int)
 |_,_,.nil=>rfl
 |_,_,.cons q t=>by rw[h9,h9,q.1,Ents.keys t]
theorem Ents.mem:∀{a:cn} {b:List (Int×Vl)} {e:Int×Vl},Ents a b->e∈b->∃n∈a,e.1=(n:Int)/\∃t,e.2=.int (n:Int) t
 | _,_,_,.cons q t,h=>by
  rcases dL.mp h with z|z
  .subst z;exact#[_,dX,q]
  .obtain⟨n,c,d⟩:=Ents.mem t z;exact#[n,eO _ c,d]
theorem Ents.has:∀{a:cn} {b:List (Int×Vl)} {n:Nat},Ents a b->n∈a->∃e∈b,∃t,e.2=.int (n:Int) t
 | _,_,_,.cons q t,h=>by
  rcases dL.mp h with z|z
  .subst z;exact#[_,dX,q.2]
  .obtain⟨e,c,d⟩:=Ents.has t z;exact#[e,eO _ c,d]
def Ents.elems{P:Pg}{w:World}{m:Fin 32}{b:List (Int×Vl)}(h:Ents (cO m) b):ElemsOf (intKind P w) b:=λe d=>by
 obtain⟨n,f,g,t,c⟩:=h.mem d;have a:n<5:=f8.mp (d8.mp f).1;exact#[#[(n:Int),by rw[c];exact v6 _ _ _ _,by rw[g];exact(BR #[n,a]).symm],by rw[c];rfl]
def OS{b:Type}(a:List b)(p:Nat)(x:b):(SetTable.insertAt a.toArray p x)=(a.take p++x::a.drop p).toArray:=by
 unfold SetTable.insertAt;apply Array.ext';simp;exact Bb (by simp)
section
variable{P:Pg}{w:World}{A:Ar}{E:VP}{s:Sh}{a:Ad}{b:Bool}{m k:Nat}{t:Tok}
def EQ{h:Heap}{c fs:List (Int×Vl)}{b:Nat}{t u:SetTable}(e:h.get? a=some (m7 c b t)):(h.update a (Obj.putSet fs.toArray u)).get? a=some (m7 fs (b+1) u):=pD _ e rfl
def wh{b:Type}{fs:List b}{n:Nat}(h:fs.length=n+1):∃a r,fs=a::r/\r.length=n:=by
 cases fs with
 |nil=>cases h
 |cons a r=>exact#[a,r,zZ,Nat.succ.inj h]
def yc{a:Type}{fs:List a}(h:fs.length=5):(#v[0,1,2,3,4]:Array Nat).filterMap (fs.toArray[·]?)=fs.toArray:=by
 obtain⟨_,_,rfl,b⟩:=wh h;obtain⟨_,_,rfl,c⟩:=wh b;obtain⟨_,_,rfl,d⟩:=wh c;obtain⟨_,_,rfl,e⟩:=wh d;obtain⟨_,_,rfl,f⟩:=wh e;cases pP.mp f;rfl
def Py{Q:Sh->Prop}(l:k<5)(hS:IsSet5 s.heap a b m)(q:∀G,IsSet5 G a b (m |||2 ^ k)->Heap.SameBut a s.heap G->Q {s with heap:=G}):
  wpAny (model P w) A (setAddHashed a (.int (k:Int) t) (k:Int)) (λ_ s'=>Q s') E s:=by
 obtain⟨f,c,H,e,r⟩:=hS;have I:=r.len;have J:=xT b #[m,f];have el:ElemsOf (intKind P w) c.toArray.toList:=Ents.elems (m:=#[m,f]) r;have m5:(cO m).length<=5:=yb #[m,f];have p:(gN b (cO m)).fits c.toArray.size=true:=by rw[e9,I];exact J
 have sc:byScan (.int (k:Int) t) c.toArray=true:=by
  unfold byScan;have e3:c.toArray.all (·.2.scannable)=true:=by
   rw[Array.all_eq_true_iff_forall_mem];exact λx L=>(el x (by simpa using L)).2
  rw[e3];have e4:decide (c.toArray.size<scanBound)=true:=dW (by rw[e9,I];unfold scanBound;lia);rw[e4];rfl
 have hh:(intKind P w).hash (k:Int)=(k:Int):=BR #[k,l];unfold setAddHashed setAddHashedIn;refine iS (cr (t7 e zZ p ?_));dsimp only;rw[sc,wB zZ];unfold setAddByScan;refine cr (cr (pE (cr ?_)));have scan:∀{R:ScanMet->Sh->Prop},R (match c.toArray.toList.findIdx? (λe=>(intKind P w).is (k:Int) e.2)with|some j=> .found (0+j)|none=> .absent) s->wpAny (model P w) A (setScan a (.int (k:Int) t) (k:Int) true c.toArray) R E s:=λz=>by
  have y:=wpAny_setScan_of (prog:=P) (w:=w) (A:=A) (E:=E) (knd:=intKind P w) (k:=(k:Int)) (x:= .int (k:Int) t) (adding:=true) (v6 _ _ _ _) e zZ p el z;rw[hh]at y;exact y
 refine scan ?_;rw[zy];by_cases o:k∈cO m
 .obtain⟨x,L,tx,ex⟩:=r.has o;cases M:c.findIdx? λe=>(intKind P w).is (k:Int) e.2 with
  |none=>
   have z:=List.findIdx?_eq_none_iff.mp M x L;rw[ex,v6]at z;cases z
  |some j=>
   refine cF (cF ?_);have z:=q s.heap (by rw[Ms #[m,f] #[k,l] o];exact#[f,c,H,e,r]) (Heap.SameBut.refl a s.heap);cases s;exact z
 .have B:=Kf #[m,f] #[k,l] o;cases M:c.findIdx? λe=>(intKind P w).is (k:Int) e.2 with
  |some j=>
   obtain⟨hj,C,_⟩:=List.findIdx?_eq_some_iff_getElem.mp M;obtain⟨n,hn,_,tn,N⟩:=r.mem (iD hj);rw[N]at C;have z:(k:Int)=(n:Int):=(intKind P w).inj _ _ _ C (v6 _ _ _ tn);have z':k=n:=by lia
   exact wC (z'▸hn) o
  | none=>
   obtain⟨pu,pf⟩:=JG b #[m,f] #[k,l] B;have sa:=NR #[m,f] #[k,l] B;have d:=Hk #[m,f] #[k,l];dsimp only at pu pf sa d;have g:Ents (cO (m |||2 ^ k)) (c.take (nA (cO m) k)++((k:Int),Value.int (k:Int) t)::c.drop (nA (cO m) k)):=by
    rw[sa];exact(r.take _).app (.cons #[zZ,t,zZ] (r.drop _))
   have pN:layNew (gN b (cO m)) c.toArray (k:Int) (.int (k:Int) t)=((c.take (nA (cO m) k)++((k:Int),Value.int (k:Int) t)::c.drop (nA (cO m) k)).toArray,mE b m k,false,false):=by
    unfold layNew;rw[Nc b #[m,f] #[k,l] B];dsimp only;rw[pu];dsimp only;rw[OS];have sz:(c.take (nA (cO m) k)++((k:Int),Value.int (k:Int) t)::c.drop (nA (cO m) k)).toArray.size=(cO m).length+1:=by
     rw[e9,eh,jz,hG,ww,I];lia
    rw[sz];unfold SetTable.orStandIn;rw[pf];rfl
   generalize c.take (nA (cO m) k)++((k:Int),Value.int (k:Int) t)::c.drop (nA (cO m) k)=fs at g pN;have lf:=g.len;have f5:fs.length<=5:=by rw[lf];exact yb #[_,d]
   dsimp only;rw[pN];dsimp only;refine cr (show wpAny _ _ (pure Unit.unit) _ _ _ from cF ?_);refine cr (show wpAny _ _ (pure true) _ _ _ from cF ?_);refine cr (wpAny_storeSet_of e zZ ?_ (by rw[e9,dA];lia));have O:=EQ (h:=s.heap) (fs:=fs) (u:=mE b m k) e;have i:Heap.SameBut a s.heap (s.heap.update a (Obj.putSet fs.toArray (mE b m k))):=Heap.SameBut.update ..;by_cases h4:(cO m).length=4
   .obtain⟨D,rl,T,ff⟩:=O7 b #[m,f] #[k,l] B h4;dsimp only at D rl T ff;have U:fs.length=5:=by rw[lf,T];rfl
    have ks:fs.toArray.map (·.1)= #v[0,1,2,3,4]:=by
     rw[List.map_toArray,g.keys,T];rfl
    have pick:(#v[0,1,2,3,4]:Array Nat).filterMap (fs.toArray[·]?)=fs.toArray:=yc U;have Y:relayAll (mE b m k) fs.toArray (SetTable.grown fs.toArray.size)=(fs.toArray,gN b (cO (m |||2 ^ k)),false):=by
     unfold relayAll;rw[ks,e9,U,rl];dsimp only;rw[pick,e9,U,ff,Bool.and_true,wB (by decide+kernel)]
    show wpAny _ _ (if(!false&&(mE b m k).tooFull)=true then _ else _) _ _ _;rw[D,wB (by decide)];simp only[if_true];rw[Y];dsimp only;refine cr (show wpAny _ _ (pure Unit.unit) _ _ _ from cF ?_);refine cr (wpAny_storeSet_of O zZ ?_ (by rw[e9,dA];lia));have N:=EQ (fs:=fs) (u:=gN b (cO (m |||2 ^ k))) O;have v:=Heap.SameBut.trans i (Heap.SameBut.update (s.heap.update a (Obj.putSet fs.toArray (mE b m k))) a (Obj.putSet fs.toArray (gN b (cO (m |||2 ^ k)))));exact cF (cF (q _ #[d,fs,H+1+1,N,g] v))
   .obtain⟨te,D⟩:=NQ b #[m,f] #[k,l] B h4;dsimp only at te D;show wpAny _ _ (if(!false&&(mE b m k).tooFull)=true then _ else _) _ _ _
    rw[D,wA (by decide)];refine cF (cF (q _ #[d,fs,H+1,?_,g] i));rw[<-te];exact O
end
def ni(m:Nat)(a:cn):Nat:=a.foldl (λm n=>m |||2 ^ n) m
section
variable{P:Pg}{w:World}{A:Ar}{E:VP}{S it l:Ad}{led:Bool}{a:cn}{vs:Vs}
theorem Fz{R:Result->Sh->Prop}(L:A.handled=none)(h:S≠it)(M:S≠l)(N:it≠l)(r:Vals (a.map nv) vs)(O:∀n∈a,n<5):
  ∀(rest:cn) (i m:Nat) (s:Sh),a.drop i=rest->s.heap.IsListIter it l i->s.heap.IsList l vs.toArray->IsSet5 s.heap S led m->
   (∀c v,IsSet5 c S led (ni m rest)->(∀b o,b≠S->b≠it->s.heap.get? b=some o->c.get? b=some o)->R (.ok (.ret .none)) {s with heap:=c,toks:=v})->
   codeAny (model P w) A (.builtin "set.update.loop" #[[.ref S,.ref it],[]]) R s
 | [],i,m,s,j,y,p,z,q=>by
  have Q:vs.length<=i:=by
   have T:vs.length=a.length:=by simpa using r.length.symm
   have B:=List.drop_eq_nil_iff.mp j;lia
  refine t8 F.entry_set_update_loop ?_;rw[uq DD _];show wpAny _ A.in1 (pyNext (.ref it) >>= _) _ _ s;refine cr (wpAny_pyNext_list_end (by simpa using L) y p (by simp;lia) λc keep=>?_);refine cF (q c s.toks ?_ λb o _ B e=>keep b o B e);obtain⟨C,D,E,e,G⟩:=z;exact#[C,D,E,keep _ _ h e,G]
 | n::rest,i,m,s,j,y,p,z,q=>by
  have g:a[i]?=some n:=by rw[<-List.head?_drop,j];rfl
  have next:a.drop (i+1)=rest:=by rw[<-List.tail_drop,j];rfl
  have U:=O n (c8 g);obtain⟨u,hu,t,rfl⟩:=r.get (i:=i) (x:=nv n) (by rw[cV,g];rfl);refine t8 F.entry_set_update_loop ?_;rw[uq DD _];show wpAny _ A.in1 (pyNext (.ref it) >>= _) _ _ s;refine cr (wpAny_pyNext_list_item y p (x:= .int (n:Int) t) (by simpa using hu) λT pR d=>?_);show wpAny _ A.in1 (holding [Value.int (n:Int) t] (setAdd S (.int (n:Int) t)) >>= _) _ _ _;refine cr (iS ?_);unfold setAdd;refine iS (cr ((intKind P w).pyHash (k:=(n:Int)) (v6 _ _ _ _) ?_));rw[show(intKind P w).hash (n:Int)=(n:Int)from BR #[n,U]];have H:IsSet5 T S led m:=by
   obtain⟨C,D,E,e,G⟩:=z;exact#[C,D,E,d.extBut _ _ h e,G]
  refine Py U H λB I f=>?_;refine cF #[vd DD _,Fz L h M N r O rest (i+1) (m |||2 ^ n) _ next (pR.extBut f.extBut h.symm) ((p.extBut d.extBut N.symm).extBut f.extBut M.symm) I λc v J keep=>?_];exact q c v J λb o Y b2 e=>keep b o Y b2 (f.extBut _ _ Y (d.extBut _ _ b2 e))
def MP{s:Sh}{x:Vl}{Q:VP}(q:Q (.ref s.heap.objs.size) {s with heap:=s.heap.push (m7 [] 0 (gN (!w.params.followText "set-order") []))}):
  codeAny (model P w) A (.call (.builtin "set.__new__") #[[.type "set",x],[]]) (wants Q E) s:=by
 refine Cv ?_;show wpAny _ A.in1 (checkBuiltinCall "set.__new__" #[[.type "set",x],[]] >>= λ_=>again (.builtin "set.__new__" #[[.type "set",x],[]])) _ _ s;refine cr (yG (F.newCall_set_1 x) (cF #[vd F.plain_set_new _,t8 F.entry_set_new ?_]));rw[uq F.plain_set_new _];have sub:=sub_set_self;unfold Builtin.«set.__new__» Builtin.Frozenset.newClass
 wp_walk
 refine xF (cF ?_);dsimp only;simp only[newObj];refine cr (wpAny_alloc (cF (cF ?_)));exact q
abbrev xP(led:Bool):Obj:={cls:= .type "set",dict:=none,data:= .set #v[] 0 (.fresh 0 0 led)}
set_option maxHeartbeats 4000000 in
def LA{h:Heap}{i:Array GenState}{j:Drawn}{k:Nat}{os:OsState}{R:PySem.Fin->Sh->Prop}(v:A.handled=none)(m:h.IsList l vs.toArray)(x:Vals (a.map nv) vs)(y:∀n∈a,n<5)(q:∀c f,IsSet5 c h.objs.size led (ni 0 a)->(∀b o,h.get? b=some o->c.get? b=some o)->R (.done (.ret .none)) #[c,i,j,f,os]):
  wpAny (model P w) A (Builtin.«set.__init__» #[[.ref h.objs.size,.ref l],[]]) R E #[h.push (xP led),i,j,k,os]:=by
 obtain⟨⟨H,dl,z,sl⟩,p,r,B,s⟩:=id m;simp only at r s;subst r s;have I:(h.push (xP led)).get? l=some #[.type "list",dl,.seq vs.toArray B,sl]:=dC _ p;have C:(h.push (xP led)).get? h.objs.size=some {cls:= .type "set",dict:=none,data:= .set #v[] 0 (.fresh 0 0 led)}:=fq _ rfl;have J:=F.sub_list_set;have L:=F.sub_list_frozenset;have ne:(Value.type "list"==Value.type "dict")=false:=by decide
 unfold Builtin.«set.__init__» noKeywords Builtin.Frozenset.updateFrom;generalize g:pyIter=t
 wp_walk
 subst g;have d:(h.push (xP led)).IsList l vs.toArray:=m.push _;refine yu d (cr (wpAny_runValue ?_));have lt:l<h.objs.size:=dm p;have sz:(h.push (xP led)).objs.size=h.objs.size+1:=vK ..;refine Fz (vs:=vs) (led:=led) (by simpa using v) (by rw[sz];exact Nat.ne_of_lt (Nat.lt_succ_self _)) (Nat.ne_of_gt lt) (by rw[sz];exact Nat.ne_of_gt (Nat.lt_succ_of_lt lt)) x y a 0 0 _ zZ #[_,Heap.get?_push_size _ zZ,zZ,zZ] (d.push _) #[by decide,[],0,Heap.get?_push_of_some _ C,.nil] λc f D G=>?_;refine cF (cF (q c f D λb o e=>?_));have u:=dm e;exact G b o (eB u) (by rw[sz];exact eB (Ci u)) (dC _ (dC _ e))
def PQ{s:Sh}{Q:VP}(B:A.handled=none)(u:s.heap.IsList l vs.toArray)(C:Vals (a.map nv) vs)(D:∀n∈a,n<5)(q:∀d g,IsSet5 d s.heap.objs.size (!w.params.followText "set-order") (ni 0 a)->(∀b o,s.heap.get? b=some o->d.get? b=some o)->Q (.ref s.heap.objs.size) {s with heap:=d,toks:=g}):
  wpAny (model P w) A (call (.type "set") [.ref l]) Q E s:=by
 have lt:l<s.heap.objs.size:=let⟨_,e,_⟩:=u;dm e
 obtain⟨c,tl,G⟩:=qg.mro;have made:=qg.made;have sub:=qg.sub;have h:=qg.notType;have H:=qg.canCreate;have args:=F.typeCall_set_1 (.ref l);have look:=qg.init.lookup;have I:=qg.init.bind (.ref s.heap.objs.size);generalize i:m7 [] 0 (gN (!w.params.followText "set-order") [])=j;have J:(s.heap.push j).get? s.heap.objs.size=some j:=fq _ (by rw[<-i];rfl);have ty:Shared.TypeIs {s with heap:=s.heap.push j} (.ref s.heap.objs.size) "set":=#[_,J,by rw[<-i];rfl];refine oF (Cv (show wpAny _ _ (callAny (.type "set") _) _ _ _ from cF #[BM _ (by decide+kernel),t8 F.entry_type_call ?_]));rw[Around.under_plain (weight_type_call_type "set" [.ref l] []) zZ]
 repeat (any_goals (first|assumption|wp_step))
 refine mJ (MP (w:=w) (E:=E) (Q:=λv x=>v=.ref s.heap.objs.size/\x={s with heap:=s.heap.push j}) (by rw[i];exact#[zZ,zZ])) λr x z=>?_;cases r with
 |error _=>exact z
 | ok f=>
  cases f<;>first|exact z.elim|skip
  obtain⟨k,m⟩:=z;subst k m
  repeat (any_goals (first|assumption|wp_step))
  refine mJ (zi (R:=wants (λv y=>v=.none/\∃d g,y={s with heap:=d,toks:=g}/\IsSet5 d s.heap.objs.size (!w.params.followText "set-order") (ni 0 a)/\∀b o,s.heap.get? b=some o->d.get? b=some o) E)
   qg.init.plain F.entry_set_init (check_set_init_1 ty ?_)) λr y z=>?_
  .subst i;exact LA (A:=A.in1.in1) (by simpa using B) u C D λd g p t=>#[zZ,d,g,zZ,p,t]
  .cases r with
   |error _=>exact z
   |ok f=>
    cases f<;>first|exact z.elim|skip
    obtain⟨k,d,g,m,p,t⟩:=z;subst k m
    repeat (any_goals (first|assumption|wp_step))
    exact q d g p t
end
def ft:Slot "set_iterator" "__next__" "set_iterator.__next__":=Slot.of (owner:="set_iterator") (n:="__next__") (by rw[typeLookup_type,builtinLookup_eq_fast];kernel_rfl) (by decide+kernel) (by decide+kernel) (by decide+kernel) (by first|exact .inl (by decide+kernel)|exact .inr (by decide+kernel)) (by rw[isSubtype_type];kernel_rfl)
def Ie:Slot "set_iterator" "__iter__" "set_iterator.__iter__":=Slot.of (owner:="set_iterator") (n:="__iter__") (by rw[typeLookup_type,builtinLookup_eq_fast];kernel_rfl) (by decide+kernel) (by decide+kernel) (by decide+kernel) (by first|exact .inl (by decide+kernel)|exact .inr (by decide+kernel)) (by rw[isSubtype_type];kernel_rfl)
def Fh:entryFor table "set_iterator.__next__"=some Builtin.«set_iterator.__next__»:=entryFor_of_tree (by kernel_rfl)
def LW:entryFor table "set_iterator.__iter__"=some Builtin.«dict_keyiterator.__iter__»:=entryFor_alias (id':="dict_keyiterator.__iter__") (by kernel_rfl) (by first|rfl|decide+kernel|(unfold String.splitOn;simp+decide [String.splitOnAux])) (by decide+kernel) (by kernel_rfl)
def JJ:entryFor table "set.__iter__"=some Builtin.«frozenset.__iter__»:=entryFor_alias (id':="frozenset.__iter__") (by kernel_rfl) (by first|rfl|decide+kernel|(unfold String.splitOn;simp+decide [String.splitOnAux])) (by decide+kernel) (by kernel_rfl)
def IL(a:Vl):argsOk "set_iterator.__next__" #[[a],[]]:=by unfold argsOk;kernel_rfl
def NN(a:Vl):argsOk "set_iterator.__iter__" #[[a],[]]:=by unfold argsOk;kernel_rfl
theorem IK{c:Type}(f:Nat->Nat):∀(fuel k:Nat) (left:List c) (b:Array c),left.length=fuel->(pickOrder.go f fuel k left b).toList.Perm (b.toList++left)
 |0,k,left,b,h=>by
  rw[List.eq_nil_of_length_eq_zero h];simp[pickOrder.go]
 | fuel+1,k,left,b,h=>by
  have lt:f k%left.length<left.length:=Nat.mod_lt _ ();unfold pickOrder.go;rw[cA lt];dsimp only;refine(IK f fuel (k+1) (left.eraseIdx (f k%left.length)) (b.push left[f k%left.length]) (by rw[List.length_eraseIdx_of_lt lt];lia)).trans ?_;rw[vw,f'];refine wr _ ?_;rw[List.eraseIdx_eq_take_drop_succ];have e:left=left.take (f k%left.length)++left[f k%left.length]::left.drop (f k%left.length+1):=by
   rw[<-Ai lt,n9]
  have z:=(List.perm_middle (a:=left[f k%left.length]) (l₁:=left.take (f k%left.length)) (l₂:=left.drop (f k%left.length+1))).symm;rw[<-e]at z;exact z
def mK(w:World)(a:Ad)(c:Nat)(b:List (Int×Vl)):List (Int×Vl):=if w.params.followText "set-order" then(pickOrder (w.params.setOrder a c) b.toArray).toList else b
def D4(w:World)(a:Ad)(c:Nat)(b:List (Int×Vl)):(mK w a c b).Perm b:=by
 unfold mK;cases w.params.followText "set-order" with
 |true=>
  have z:=IK (w.params.setOrder a c) b.toArray.size 0 b.toArray.toList #v[] (by simp);simpa[pickOrder]using z
 |false=>exact List.Perm.refl _
def mP(a:Bool)(b:cn):Nat->Nat
 |0=>0
 |i+1=>if a then 0 else b.getD i 0+1
def K5:∀(m:Fin 32) (i:Fin 6),(i:Nat)<=(cO m).length->SetTable.below (cO m).toArray (mP false (cO m) i)=i:=by decide+kernel
def ro(b i n c:Nat)(a:Ad):Obj:={cls:= .type "set_iterator",data:= .fields #v[rawInt b,rawInt i,.ref a,rawInt n,rawInt c]}
section
variable{P:Pg}{w:World}{A:Ar}{E:VP}{s:Sh}{a it:Ad}{m c i:Nat}{b:List (Int×Vl)}
def Hf{Q:Option (Vl×Nat)->Sh->Prop}(g:m<32)(h:s.heap.get? a=some (m7 b c (gN (!w.params.followText "set-order") (cO m))))(k:Ents (cO m) b)(l:i<=(cO m).length)(q:Q (((mK w a c b)[i]?).map λe=>(e.2,mP (w.params.followText "set-order") (cO m) (i+1))) s):wpAny (model P w) A (setNext a (mP (w.params.followText "set-order") (cO m) i) i c) Q E s:=by
 have n:=k.len;have d:(gN (!w.params.followText "set-order") (cO m)).fits b.toArray.size=true:=by rw[e9,n];exact xT _ #[m,g]
 have r:(cO m).length<=5:=yb #[m,g];unfold setNext setsByText;refine cr (t7 h zZ d ?_);refine cr (cr (xF (cF ?_)));show wpAny _ _ (if w.params.followText "set-order"=true then _ else _) _ _ _;unfold mK at q;generalize o:w.params.followText "set-order"=p at q h d|-;cases p with
 |true=>
  rw[wB zZ];rw[wB zZ]at q;rw[wA (by simp)];unfold setWalk setsByText;refine cr (cr (t7 h zZ d (cr (cr (xF (cF ?_))))));show wpAny _ _ (if w.params.followText "set-order"=true then _ else _) _ _ _;rw[o,wB zZ];refine cr (xF (cF (cF ?_)));rw[lF]at q;cases i<;>exact q
 | false=>
  rw[wA (by decide)];rw[wA (by decide)]at q;rw[wA (by show ¬((!true&&_)=true);simp)];refine cr ?_;show wpAny _ _ (if(!true&& !b.toArray.isEmpty)=true then _ else _) _ _ _;rw[wA (by simp)];refine cF (cF ?_);show Q (match b.toArray[SetTable.below (cO m).toArray (mP false (cO m) i)]?,(cO m).toArray[SetTable.below (cO m).toArray (mP false (cO m) i)]? with|some (_,x),some j=>some (x,j+1)|_,_=>none) s;rw[K5 #[m,g] #[i,()] l]
  rcases Nat.lt_or_ge i (cO m).length with z|z
  .have f:i<b.length:=by lia
   rw[cA f]at q;simp only[List.getElem?_toArray,List.getElem?_eq_getElem f,List.getElem?_eq_getElem z];have e:mP false (cO m) (i+1)=(cO m)[i]+1:=by
    show(if false=true then 0 else(cO m).getD i 0+1)=_;rw[wA (by decide),eE,cA z];rfl
   rw[e]at q;exact q
  .have f:b.length<=i:=by lia
   rw[hJ f]at q;simp only[List.getElem?_toArray,List.getElem?_eq_none f];exact q
end
section
variable{P:Pg}{w:World}{A:Ar}{E:VP}{a it:Ad}{m d:Nat}{c:List (Int×Vl)}
def Jo{s:Sh}{i:Nat}{e:Int×Vl}{Q:Option Vl->Sh->Prop}(p:a≠it)(k:m<32)(l:Ents (cO m) c)(b:s.heap.get? it=some (ro (mP (w.params.followText "set-order") (cO m) i) i (cO m).length d a))(n:s.heap.get? a=some (m7 c d (gN (!w.params.followText "set-order") (cO m))))(r:i<(cO m).length) (t:(mK w a d c)[i]?=some e)(q:∀f,f.get? it=some (ro (mP (w.params.followText "set-order") (cO m) (i+1)) (i+1) (cO m).length d a)->Heap.SameBut it s.heap f->Q (some e.2) {s with heap:=f}):wpAny (model P w) A (pyNext (.ref it)) Q E s:=by
 have ty:s.TypeIs (.ref it) "set_iterator":=#[_,b,zZ];have o:=l.len;have g:(gN (!w.params.followText "set-order") (cO m)).fits c.toArray.size=true:=by rw[e9,o];exact xT _ #[m,k]
 unfold pyNext;refine cr (qv (pY (name:=Str.ofString "__next__") ty ft (jx ft ty Fh ?_ (IL _))));unfold ro at b;unfold Builtin.«set_iterator.__next__»;refine cr (m:=slotArgs _ _ _) (cF ?_);refine cr (uj b zZ ?_);show wpAny _ _ (setEntries a >>= _) _ _ _;unfold setEntries;refine cr (cr (t7 n zZ g (cF ?_)));have u:((((c.toArray.size:Nat):Int) != (((cO m).length:Nat):Int)))=false:=by rw[e9,o];simp
 show wpAny _ _ (if((((c.toArray.size:Nat):Int) != (((cO m).length:Nat):Int)))=true then _ else _) _ _ _;rw[u,wA (by decide)];show wpAny _ _ (setNext a ((mP (w.params.followText "set-order") (cO m) i:Nat):Int).toNat ((i:Nat):Int).toNat ((d:Nat):Int).toNat >>= _) _ _ _;simp only[Int.toNat_natCast];refine cr (Hf k n l (jp r) ?_);rw[t];show wpAny _ _ (setField (.ref it) 0 (rawInt _) >>= _) _ _ _;refine cr (oo b (by simp) λz v h=>?_);refine cr (oo v (by simp) λx y j=>?_);exact cF #[_,zZ,cF (q x y (h.trans j))]
def MZ{s:Sh}{Q:Option Vl->Sh->Prop}(p:A.handled=none)(r:a≠it)(i:m<32)(j:Ents (cO m) c)(f:s.heap.get? it=some (ro (mP (w.params.followText "set-order") (cO m) (cO m).length) (cO m).length (cO m).length d a))(k:s.heap.get? a=some (m7 c d (gN (!w.params.followText "set-order") (cO m))))(q:∀l,Heap.ExtBut it s.heap l->Q none {s with heap:=l}):wpAny (model P w) A (pyNext (.ref it)) Q E s:=by
 have ty:s.TypeIs (.ref it) "set_iterator":=#[_,f,zZ];have n:=j.len;have g:(gN (!w.params.followText "set-order") (cO m)).fits c.toArray.size=true:=by rw[e9,n];exact xT _ #[m,i]
 have t:(mK w a d c)[(cO m).length]?=none:=hJ (by rw[(D4 w a d c).length_eq];lia);unfold pyNext;refine cr (qv (pY (name:=Str.ofString "__next__") ty ft (jx ft ty Fh ?_ (IL _))));unfold ro at f;unfold Builtin.«set_iterator.__next__»;refine cr (m:=slotArgs _ _ _) (cF ?_);refine cr (uj f zZ ?_);show wpAny _ _ (setEntries a >>= _) _ _ _;unfold setEntries;refine cr (cr (t7 k zZ g (cF ?_)));have u:((((c.toArray.size:Nat):Int) != (((cO m).length:Nat):Int)))=false:=by rw[e9,n];simp
 show wpAny _ _ (if((((c.toArray.size:Nat):Int) != (((cO m).length:Nat):Int)))=true then _ else _) _ _ _;rw[u,wA (by decide)];show wpAny _ _ (setNext a ((mP (w.params.followText "set-order") (cO m) (cO m).length:Nat):Int).toNat (((cO m).length:Nat):Int).toNat ((d:Nat):Int).toNat >>= _) _ _ _;simp only[Int.toNat_natCast];refine cr (Hf i k j (cQ _) ?_);rw[t];show wpAny _ _ (setField (.ref it) 2 .none >>= _) _ _ _;refine cr (oo f (by simp) λx y h=>?_);refine cr (m:=newExc _ _) ?_;simp only[newExc,newTuple];refine cr (lM ?_ (by size_fits));refine cr (m:=firstArgMember _ _) (yG (a:=Value.none) (by first|rfl|(unfold firstArgMember;rfl)) (wpAny_newObj_type ?_ (by size_fits)));refine A9 (by simpa using p) (wpAny_bind (wpAny_isInstance (T:="StopIteration") (b:=true) #[_,Heap.get?_push_size _ zZ,zZ] isSubtype_stop (wpAny_pure ?_)));exact q _ λb o v e=>dC _ (dC _ (h.extBut b o v e))
def Je(t:A.handled=none)(f:a≠it)(n:m<32)(j:Ents (cO m) c):Walks P w A it [it,a] [it] (cO m).length (λi v=>∃e,(mK w a d c)[i]?=some e/\v=e.2) (λi h=>h.get? it=some (ro (mP (w.params.followText "set-order") (cO m) i) i (cO m).length d a)/\h.get? a=some (m7 c d (gN (!w.params.followText "set-order") (cO m)))) where
 sub:=λb u=>dL.mpr (.inl (cY.mp u))
 frame:=λi h g st k=>#[k it (dX ..) _ st.1,k a (eO _ (cY.mpr zZ)) _ st.2]
 item:=λi s Q E y st q=>by
  have C:(mK w a d c).length=(cO m).length:=by rw[(D4 w a d c).length_eq,j.len]
  obtain⟨e,p⟩:∃e,(mK w a d c)[i]?=some e:=#[_,cA ()];refine Jo f n j st.1 st.2 y p λg B r=>q e.2 g s.toks #[e,p,zZ] #[B,r.extBut _ _ f st.2] λb o l e=>r.extBut _ _ (λz=>l (cY.mpr z)) e
 done:=λs Q E st q=>MZ t f n j st.1 st.2 λg x=>q g s.toks λb o l e=>x b o (λz=>l (cY.mpr z)) e
 self:=λi s Q E st q=>by
  have ty:s.TypeIs (.ref it) "set_iterator":=#[_,st.1,zZ];refine uy ty Ie (jx Ie ty LW ?_ (NN _));exact show wpAny _ _ (ret (.ref it)) _ _ s from cF #[_,zZ,"set_iterator",_,ty,ft.lookup,q]
def wm{s:Sh}{Q:VP}(g:m<32)(h:Ents (cO m) c)(e:s.heap.get? a=some (m7 c d (gN (!w.params.followText "set-order") (cO m))))(q:Q (.ref s.heap.objs.size) {s with heap:=s.heap.push (ro 0 0 (cO m).length d a)}):wpAny (model P w) A (pyIter (.ref a)) Q E s:=by
 have ty:s.TypeIs (.ref a) "set":=#[_,e,zZ];have f:=h.len;have b:(gN (!w.params.followText "set-order") (cO m)).fits c.toArray.size=true:=by rw[e9,f];exact xT _ #[m,g]
 refine uy ty F.slot_set_iter (jx F.slot_set_iter ty JJ ?_ (F.args_set_iter_1 _));unfold Builtin.«frozenset.__iter__»;refine cr (m:=Builtin.Frozenset.slot0 _ _) (cF ?_);unfold Builtin.Frozenset.sizeOf setEntries;refine cr (cr (cr (t7 e zZ b (cF (cF ?_)))));unfold setDrawn setsByText;refine cr (cr (t7 e zZ b (cr (cr (xF (cF (cF ?_)))))));have nd:(!w.params.followText "set-order"&&(!true&&decide (c.toArray.size>1)))=false:=by simp
 show wpAny _ _ (if(!w.params.followText "set-order"&&(!true&&decide (c.toArray.size>1)))=true then _ else _) _ _ _;rw[nd,wA (by decide)];refine cr (cF (cr (wpAny_setEpoch_of e zZ b ?_)));refine cr (m:=newFields _ _) ?_;unfold newFields;refine lM ?_ (by size_fits);rw[<-f]at q;exact cF #[_,zZ,"set_iterator",_,#[_,fq _ zZ,zZ],ft.lookup,q]
def yp{s:Sh}{Q:Bool->Sh->Prop}(ty:s.TypeIs (.ref a) "set")(q:Q false s):wpAny (model P w) A (Builtin.List.listLengthHint (.ref a)) Q E s:=by
 unfold Builtin.List.listLengthHint;refine cr (wpAny_specialOf ty F.slot_set_len.lookup ?_);generalize g:("set.__len__":String)=name
 wp_delta
 rw[show splitId name=some ("set","__len__") by subst g;decide+kernel];subst g;refine cr (wpAny_isInstance (T:="set") (b:=true) ty (by rw[isSubtype_type];kernel_rfl) (Eh (λz=>wC z (by decide)) λ_=>?_));exact Eh (λ_=>cr (yW ty (cF q))) λz=>wC (by decide+kernel) z
def EH(b:m<32)(f:Ents (cO m) c):PySem.W.KdlSrc P w "set" a a (cO m).length (λi v=>∃e,(mK w a d c)[i]?=some e/\v=e.2) (λh=>h.get? a=some (m7 c d (gN (!w.params.followText "set-order") (cO m)))) where
 type:=λ_ e=>#[_,e,zZ]
 there:=λ_ e=>#[dm e,dm e]
 keep:=λ_ _ e k=>k a (.inl zZ) _ e
 notList:=by decide
 notTuple:=by decide
 hint:=λ_ _ _ _ e q=>yp #[_,e,zZ] q
 iter:=λ_ _ g e=>#[_,_,λ_ _ q=>wm b f e q,Je g (eB (dm e)) b f,fq _ zZ,dC _ e]
end
def fv(a:cn):cn:=(List.range 5).filter λi=>a.contains i
theorem IU(i:Nat):∀(ns:cn) (m:Nat),(ni m ns).testBit i=(m.testBit i || ns.contains i)
 | [],m=>by simp[ni]
 |n::ns,m=>by
  show(ni (m |||2 ^ n) ns).testBit i=_;rw[IU i ns,Nat.testBit_or,Nat.testBit_two_pow,w9,Bool.or_assoc]
  congr 2
  by_cases h:n=i
  .simp[h]
  .simp[h,Ne.symm h]
def Fq(a:cn):cO (ni 0 a)=fv a:=by
 unfold cO fv
 congr 1
 funext i
 rw[IU];simp
def NC(m:Nat):(cO m).Pairwise (· <= ·):=by
 unfold cO;exact List.Pairwise.filter _ (by decide)
theorem Di:∀{a:Vs} {is:Zs},IntsAre a is->Vals (is.map V.int) a
 |_,_,.nil=> .nil
 |_,_,.cons n t h=> .cons #[t,zZ] (Di h)
theorem G2:∀{a:List (Int×Vl)},(∀e∈a,∃t,e.2=.int e.1 t)->IntsAre (a.map (·.2)) (a.map (·.1))
 | [],_=> .nil
 |e::a,h=>by
  obtain⟨t,b⟩:=h e (dX ..);rw[h9,h9,b];exact .cons _ _ (G2 λx c=>h x (eO _ c))
section
variable{P:Pg}{w:World}{A:Ar}{E:VP}{a:Ad}{m:Nat}
def PD{s:Sh}{Q:VP}(M:A.handled=none)(N:IsSet5 s.heap a (!w.params.followText "set-order") m)(q:∀(j r:Heap) u d n,Vals ((cO m).map nv) d->(∀b o,s.heap.get? b=some o->j.get? b=some o)->(∀b o,j.get? b=some o->r.get? b=some o)->r.get? j.objs.size=some {cls:= .type "list",data:= .seq d.toArray n}->Q (.ref j.objs.size) {s with heap:=r,toks:=u}):
  wpAny (model P w) A (call (.builtin "sorted") [.ref a]) Q E s:=by
 obtain⟨I,v,B,O,p⟩:=N;have m5:(cO m).length<=5:=yb #[m,I];have J:=p.len;have c:=D4 w a B v;refine yr zU z6 Bg (args_sorted1 _) ?_;unfold Builtin.«sorted»;refine cr (m:=checkCount "sorted" 1 1 _) (cF ?_);refine cr (PySem.W.kdu_collect (A:=A.in1) (EH I p) (by simpa using M) O (by rw[sizeLine_eq];lia) λj u f keep l=>?_);have g:f.toList=(mK w a B v).map (·.2):=by
  refine wu (by rw[d9,l.1,cu,c.length_eq];exact J.symm) λi x y T L=>?_;obtain⟨e,C,D⟩:=l.2 i x (by rw[<-lF];exact T);rw[cV,C]at L;cases L;exact D
 have G:IntsAre f.toList ((mK w a B v).map (·.1)):=by
  rw[g];refine G2 λe U=>?_;obtain⟨n,_,C,t,D⟩:=p.mem (c.mem_iff.mp U);exact#[t,by rw[C,D]]
 have Y:f.toList.length=(cO m).length:=by rw[g,cu,c.length_eq,J]
 refine cr (vk ?_ (by rw[Y,dA];lia));have H:(j.push (seqObj "list" f.toList.toArray 0)).get? j.objs.size=some (seqObj "list" f.toList.toArray 0):=fq _ rfl;refine cr (iS (jx AS #[_,H,zZ] AW (list_sort_tree H G () λd js o1 o2 o3=>#[_,zZ,?_]) (args_list_sort _)));have k:js=(cO m).map λ(n:Nat)=>(n:Int):=by
  refine List.Perm.eq_of_pairwise (le:=(· <= ·)) (λx y _ _=>Int.le_antisymm) o3 ?_ (o2.trans ?_)
  .exact yC.mpr ((NC m).imp λh=>by lia)
  .rw[<-p.keys];exact c.map _
 obtain⟨n,eN⟩:=sortedHeap_at (out:=d) H;refine cF #[_,zZ,q j _ u d.toList n ?_ keep (λb o e=>?_) (by simpa using eN)]
 .have z:=Di o1;rw[k,hK]at z;exact z
 .have lt:=dm e;rw[sortedHeap_old (eB lt) (fJ lt (by rw[vK];exact pO _))];exact dC _ e
end
section
variable{X:Cx}
def t9(w:World)(a:Ad)(m:Nat):HO:= .ext λh=>IsSet5 h a (!w.params.followText "set-order") m
def IsSet5.ok{w:World}{h:Heap}{a:Ad}{m:Nat}{P:Pg}{d:World}{H:Hp}(x:IsSet5 h a (!w.params.followText "set-order") m):ObjOk P d H h a (t9 w a m):=by
 obtain⟨j,l,n,e,o⟩:=id x;exact#[x,#[_,e],λp q ⟨f,b,c,g,i⟩ k=>#[f,b,c,k _ g,i]]
def Inv.track{d:AO}{f:St}{H:Hp}{s:Sh}{D:Ad}{o:HO}(I:Inv X d f H s)(g:H D=none)(ok:ObjOk X.prog X.w (cq H D o) s.heap D o)(h:X.s₀.heap.objs.size<=D) (i:D≠X.env.locals) (j:∀x c,X.env.cells.lookup x=some c->c≠D) (k:∀p∈X.pn++d,p.1≠D):Inv X d f (cq H D o) s:=by
 have nd:∀b u,H b=some u->b≠D:=λb u q z=>by rw[z,g]at q;cases q
 have q:=I.step (h':=s.heap) (H':=cq H D o) (g':=s.gens) (t':=s.toks) (d':=s.drawn) (ch:=[D]) (λb a=>by
   have z:b=D:=by simpa using a
   subst z;exact#[.inr h,i,j,k])
  (λb o _ _ _ e _=>e) (λb o _ _ _ e _=>#[o.slots,e]) (λb o a _ n=>by rw[cz (λz=>a (by simp[z]))];exact n) (λb o _ e=>#[o,e])
  (λb l q=>by rw[cz (nd b _ q)];exact q) (λb o u q=>by rw[cz (nd b _ q)];exact q) (λb t q=>#[#v[],by rw[cz (nd b _ q),q];simp]) (λm r=>r) (λb u q=>?_) I.bare
 .exact q
 .by_cases a:b=D
  .subst a;rw[cw]at q;cases q;exact ok
  .rw[cz a]at q;exact(I.hok b u q).stay (λ_ _ _ z=>z) (λc z=>by rw[cz (nd c _ z)];exact z) λc l z=>by rw[cz (nd c _ z)];exact z
def Inv.trackNew{a:AO}{c:St}{H:Hp}{s s1:Sh}{o:HO}(I:Inv X a c H s)(d:Inv X a c H s1)(ok:ObjOk X.prog X.w (cq H s.heap.objs.size o) s1.heap s.heap.objs.size o):Inv X a c (cq H s.heap.objs.size o) s1:=by
 obtain⟨e,f,i,j,g,h⟩:=I.fpOk (b:=s.heap.objs.size) (H':=H) (cQ _) (I.hok.fresh (cQ _));exact d.track e ok I.sz f g h
inductive pT(K:P3)(w:World)(c:List V)(H:Hp)(Q:VK):Prop|mk:∀p b,c=[.ref p]->SqL K H p (b.map nv)->(∀n∈b,n<5)->(∀a,H a=none->Q (.ref a) (cq H a (t9 w a (ni 0 b))))->pT K w c H Q
def Pp(a:X.calm=true):CallR X (.type "set") (pT X.K X.w):=by
 intro b s c H n o Q I r h;obtain⟨p,t,rfl,d,e,q⟩:=h;obtain⟨u,rfl,f⟩:=jv r;cases f;obtain⟨g,i,j,_⟩:=I.list d;refine PQ (I.ok.hd a) j.isList i e λk l z keep=>?_;have m:Inv X b c H {s with heap:=k,toks:=l}:=I.kept keep;exact#[.ref s.heap.objs.size,_,Inv.trackNew I m z.ok,zZ,q _ I.fresh]
inductive nM(w:World)(b:List V)(H:Hp)(Q:VK):Prop|mk:∀a m,b=[.ref a]->H a=some (t9 w a m)->(∀l,H l=none->Q (.ref l) (cq H l (.lst ((cO m).map nv))))->nM w b H Q
def KQ(k:X.calm=true):CallR X (.builtin "sorted") (nM X.w):=by
 intro f s g H x y Q I r h;obtain⟨a,m,rfl,l,q⟩:=h;obtain⟨u,rfl,o⟩:=jv r;cases o;obtain⟨z,_,_⟩:=I.hok a _ l;refine PD (I.ok.hd k) z λb i j c n p t v e=>?_;have d:Inv X f g H {s with heap:=b,toks:=j}:=I.kept t;have w:Inv X f g H {s with heap:=i,toks:=j}:=d.kept v;have A:(cO m).length<=5:=yb #[m,z.1];have ok:ObjOk X.prog X.w (cq H b.objs.size (.lst ((cO m).map nv))) i b.objs.size (.lst ((cO m).map nv)):=#[by rw[cu,dA];lia,c,n,p,e];exact#[.ref b.objs.size,_,Inv.trackNew d w ok,zZ,q _ d.fresh]
end
section
variable{X:Cx}
inductive xS(K:P3)(a:List V)(H:Hp)(Q:VK):Prop|mk:∀(p:Ad) (bs:List Bool),a=[.ref p]->SqL K H p (bs.map V.bl)->Q (.bl (bs.any id)) H->xS K a H Q
def G7(n:X.calm=true):CallR X (.builtin "any") (xS X.K):=by
 intro G s J H L M Q I r h;obtain⟨p,bs,rfl,t,q⟩:=h;obtain⟨u,rfl,w⟩:=jv r;cases w;obtain⟨a,g,j,_⟩:=I.list t;have k:=j.isList;have f:p<s.heap.objs.size:=j.lt;have c:a.length=bs.length:=by rw[<-g.length,cu]
 refine call_any_walk (yu k #[_,_,_,_,_,_,λi=>bs.getD i false,zZ,Walks.list (A:=X.A.in1) (I.ok.hd n) _ p (eB f) a.toArray,#[#[_,fq _ zZ,zZ,zZ],k.push _],?_,λN O y=>?_])
 .intro i v T U Y B C;have d:a[i]?=some v:=by simpa using B
  have l:i<bs.length:=by rw[<-c];exact(cK.mp d).1
  obtain⟨u2,m,D⟩:=g.get (i:=i) (x:= .bl (bs.getD i false)) (by rw[cV,cA l,eE,cA l];rfl);rw[d]at m;cases m;cases(show v=Value.bool _ from D);exact tq C
 .have e:(List.range a.toArray.size).any (λi=>bs.getD i false)=bs.any id:=by
   rw[e9,c];have:bs=(List.range bs.length).map λi=>bs.getD i false:=by
    refine Bm (by simp) λi E h2=>?_;simp[List.getD_eq_getElem?_getD,E]
   conv=>rhs;rw[this,xH]
   rfl
  rw[e];exact#[.bl (bs.any id),H,I.kept λb o z=>y b o (by simp only[List.mem_singleton];exact Nat.ne_of_lt (Heap.lt_size z)) (Heap.get?_push_of_some _ z),zZ,q]
end
def drop(H:Hp)(c:Ad):Hp:=λb=>if b=c then none else H b
def vv{H:Hp}{c:Ad}:drop H c c=none:=by unfold drop;rw[wB zZ]
def d7{H:Hp}{b c:Ad}(h:b≠c):drop H c b=H b:=by unfold drop;rw[wA h]
def pL{H:Hp}{b c:Ad}(h:H b=none):drop H c b=none:=by
 by_cases e:b=c
 .rw[e];exact vv
 .rw[d7 e];exact h
def dY(c m:Ad)(o:Obj):HO:= .ext λh=>h.get? c=some o/\o.data=.cell (some (.ref m))
def iM(c:Ad)(q:Str):HO:= .ext λh=>h.CodeRec (.ref c) q
def gD(f:Ad)(a:Fd):HO:= .ext λh=>h.get? f=some {cls:= .type "function",data:= .func a}
def HOk.drop{P:Pg}{w:World}{H:Hp}{h:Heap}{c:Ad}{g:Heap->Prop}(x:HOk P w H h)(a:H c=some (.ext g)):HOk P w (drop H c) h:=λb o e=>by
 by_cases f:b=c
 .rw[f,vv]at e;cases e
 .rw[d7 f]at e;refine(x b o e).stay (λ_ _ _ z=>z) (λd z=>?_) λd i z=>?_
  .rw[d7 (λq=>by rw[q,a]at z;cases z)];exact z
  .rw[d7 (λq=>by rw[q,a]at z;cases z)];exact z
def HOk.back{P:Pg}{w:World}{H:Hp}{h:Heap}{c:Ad}{o:HO}(x:HOk P w H h)(a:H c=none)(ok:ObjOk P w (cq H c o) h c o):HOk P w (cq H c o) h:=λb u e=>by
 by_cases f:b=c
 .subst f;rw[cw]at e;cases e;exact ok
 .rw[cz f]at e;exact(x b u e).stay (λ_ _ _ z=>z) (λd z=>by rw[cz (dH z a)];exact z) λd g z=>by rw[cz (dH z a)];exact z
def Ep{P:Pg}{w:World}{H:Hp}{h:Heap}{c m:Ad}{o:Obj}(x:h.get? c=some o)(d:o.data=.cell (some (.ref m))):ObjOk P w H h c (dY c m o):=#[#[x,d],#[o,x],λa b e k=>#[k _ e.1,e.2]]
def Gb{P:Pg}{w:World}{H:Hp}{h:Heap}{f:Ad}{a:Fd}(x:h.get? f=some {cls:= .type "function",data:= .func a}):ObjOk P w H h f (gD f a):=#[x,#[_,x],λb c e k=>k _ e]
def Nb{P:Pg}{w:World}{H:Hp}{h:Heap}{c:Ad}{q:Str}(x:h.CodeRec (.ref c) q):ObjOk P w H h c (iM c q):=by
 obtain⟨b,o,m,t,d,e,n⟩:=id x;cases d;refine#[x,#[o,e],λp r ⟨b,f,a,g,i,j,l⟩ k=>?_];cases i;exact#[c,f,a,g,zZ,k _ j,l]
structure LamScope(ps:Ss)(y:Str)(sc:Scope):Prop where
 kind:sc.kind=.function
 co:sc.isCoroutine=false
 gen:sc.isGenerator=false
 nd:(ps++[y]).Nodup
 par:∀x∈ps,sc.names.lookup x=some .local
 fre:sc.names.lookup y=some .free
 only:∀z∈sc.names,z.2≠ .cell/\(z.2=.free->z.1=y)
abbrev eZ(d:Str)(a:Arguments)(e:Expr)(b:Scope)(y:Str)(c:Ad)(f g h:Vl):Fd:=PySem.W.kla_fn "<lambda>" d a e b [(y,c)] f g h
def o0(P:Pg)(w:World)(K:P3)(mg:SV)(base:Heap)(N:Ss)(b:Str)(a:Scope)(f:Ad)(c:Vl)(d:List (Str×Ad))(A:Ar)(outer:List Env)(s:Sh)(H:Hp):Cx where
 prog:=P
 w:=w
 K:=K
 mg:=mg
 base:=base
 A:=A.deeper (PySem.W.envX b a s.heap.objs.size f c d)
 N:=N
 s₀:=s
 H₀:=H
 env:=PySem.W.envX b a s.heap.objs.size f c d
 outer:=outer
 stack:=PySem.W.envX b a s.heap.objs.size f c d::outer
 ex:=[]
 calm:=true
 fn:=λ_=>false
 pn:=[]
 xe:=λ_ _=>False
theorem F7{x:Str}{u:Vl}:∀{l:List (Str×Vl)},(l.map (·.1)).Nodup->(x,u)∈l->l.lookup x=some u
 | (a,b)::l,nd,h=>by
  rw[h9,jw]at nd;rw[mO]
  rcases dL.mp h with e|e
  .cases e;rw[vL]
  .have ne:(x==a)=false:=oh.mpr λq=>nd.1 (cT.mpr #[(x,u),e,q]);rw[ne];exact F7 nd.2 e
def MC{c:Ss}{d:Vs}{i:Nat}{x:Str}{u:Vl}(nd:c.Nodup)(e:c[i]?=some x)(f:d[i]?=some u):(c.zip d).reverse.lookup x=some u:=by
 refine F7 ?_ (mL.mpr (gy.mpr #[i,List.getElem?_zip_eq_some.mpr #[e,f]]));have sub:∀(c:Ss) (d:Vs),((c.zip d).map (·.1)).Sublist c:=λc=>by
  induction c with
  |nil=>intro d;simp
  |cons a c g=>
   intro d;cases d with
   |nil=>simp
   |cons b d=>rw[List.zip_cons_cons,h9];exact(g d).cons₂ a
 rw[List.map_reverse];show List.Pairwise (· ≠ ·) _;rw[List.pairwise_reverse];exact(nd.sublist (sub c d)).imp eJ
def OY{P:Pg}{w:World}{K:P3}{mg:SV}{l:Heap}{n:Ss}{y B:Str}{g:Scope}{f c m:Ad}{O:Vl}{A:Ar}{k:List Env}{s:Sh}{H:Hp}{Q:Vs}{I:List V}{E:Heap}{U:Nat}(S:LamScope n y g) (Y:A.handled=none) (t:Env0 P w K mg l A k s H) (T:I.length=n.length) (r:Vals I Q) (hc:H c=none) (ic:s.heap.IsCell c (some (.ref m)))(L:E.Ns s.heap.objs.size (λx=>(n.zip Q).reverse.lookup x)) (sb:Heap.SameBut s.heap.objs.size (s.heap.push {cls:= .type "frame",data:= .dict #v[]}) E):
  Inv (o0 P w K mg l (n++[y]) B g f O [(y,c)] A k s H) [] (I.map some++[some (.ref m)]) H {s with heap:=E,toks:=U}:=by
 have M:∀b o,s.heap.get? b=some o->E.get? b=some o:=λb o e=>sb.extBut _ _ (eB (dm e)) (dC _ e);have J:E.IsCell c (some (.ref m)):=let⟨o,e,d⟩:=ic;#[o,M _ _ e,d]
 have one:∀{x:Str} {d:Ad},([(y,c)]:List (Str×Ad)).lookup x=some d->x=y/\d=c:=λ{x d} h=>by
  rw[mO]at h;cases q:x==y with
  |true=>rw[q]at h;cases h;exact#[eq_of_beq q,zZ]
  |false=>rw[q]at h;cases h
 have C:([(y,c)]:List (Str×Ad)).lookup y=some c:=by rw[mO,vL]
 have G:∀b:Ad,b∉(o0 P w K mg l (n++[y]) B g f O [(y,c)] A k s H).ex:=λb z=>wC (show b∈([]:As)from z) (by simp);refine#[#[t.mod,S.kind,zZ,zZ,cQ _,λa b d E h2=>(one E).1.trans (one h2).1.symm,λa ha=>?_,λa d h _=>wC (show false=true from h) gC,λ_=>Y,Around.frames_deeper t.frames,.inr #[zZ,zZ],λb z=>wC z (G b),t.bs,t.bsz,λb _ _=>G b,λb z=>wC z (G b),t.funs,t.frf],
  rfl,t.bare,Un.kept M,#[_,L,λi x v q1 D q3=>?_],λa d h=>?_,t.hok.fresh (cQ _),λa d h=>?_,λp hp=>wC (show p∈([]:AO)from hp) (by simp),t.hok.kept M,?_]
 .have N:g.names.lookup a=some .cell\/g.names.lookup a=some .free:=ha
  rcases N with z|z
  .exact wC zZ (S.only _ (oZ z)).1
  .have e:=(S.only _ (oZ z)).2 rfl;exact#[c,by rw[show a=y from e];exact C]
 .have j:(n++[y])[i]?=some x:=q1
  rcases Nat.lt_or_ge i n.length with z|z
  .rw[fu z]at j;rw[fu (by rw[cu];lia),cV]at D;cases e:I[i]? with
   |none=>rw[e]at D;cases D
   |some a=>
    rw[e]at D;cases D;obtain⟨u,hu,rv⟩:=r.get e;have kx:=S.par x (c8 j);refine#[u,rv,.inl #[kx,?_]];exact MC (S.nd.sublist (List.sublist_append_left _ _)) j hu
  .rw[fV z]at j;rw[fV (by rw[cu];lia),cu]at D;have e:i-n.length=0:=by
    rcases Nat.eq_zero_or_pos (i-n.length)with y0|y0
    .exact y0
    .rw[hJ (by simp;lia)]at j;cases j
   rw[e]at j;rw[T,e]at D;cases j;cases D;exact#[.ref m,zZ,.inr #[.inr S.fre,c,C,J]]
 .obtain⟨rfl,rfl⟩:=one (show([(y,c)]:List (Str×Ad)).lookup a=some d from h);exact#[_,J]
 .obtain⟨rfl,rfl⟩:=one (show([(y,c)]:List (Str×Ad)).lookup a=some d from h);exact hc
 .show(I.map some++[some (V.ref m)]).length=(n++[y]).length;simp[T]
def yO{P:Pg}{w:World}{K:P3}{mg:SV}{j:Heap}{k:Nat}{D:Ss}{y g:Str}{l:Arguments}{p:Expr}{a:Scope}{f c m G:Ad}{oc:Obj}{pm ct:Vl}{Y:Sp}(S:LamScope D y a) (len:∀B H Q E,Y B H Q E->B.length=D.length) (here:∀B H Q E,Y B H Q E->H f=some (gD f (eZ g l p a y c pm (.ref G) ct))/\H c=some (dY c m oc)/\H G=some (iM G g))(L:∀(A:Ar) (d:List Env) (s:Sh) (H:Hp) (B:List V) (Q:VK) (E:XK),Room k (A.deeper (PySem.W.envX g a s.heap.objs.size f (.ref G) [(y,c)]))->Y B H Q E->
   ∃t,PE (o0 P w K mg j (D++[y]) g a f (.ref G) [(y,c)] A d s (drop H c)) p t/\t (B.map some++[some (.ref m)]) (drop H c) λv U=>U c=none->Q v (cq U c (dY c m oc))):
  FnOk P w K mg j da (k+1) f (eZ g l p a y c pm (.ref G) ct) D Y:=by
 refine#[len,λA d s H args us B Q E hr h M r N=>?_];obtain⟨hf,O,aa⟩:=here _ _ _ _ N;have hl:=len _ _ _ _ N;obtain⟨ef,_,_⟩:=h.hok f _ hf;obtain⟨i,_,_⟩:=h.hok c _ O;obtain⟨T,_,_⟩:=h.hok G _ aa;have e1:Env0 P w K mg j A d s (drop H c):=#[h.frames,h.mod,λb o e=>#[(h.bs b o e).1,pL (h.bs b o e).2],h.bsz,h.funs,λb M=>pL (h.frf b M),h.hok.drop O,h.bare];have ab:s.heap.NoLimit:=h.mod.nolimit.keeps λb o e=>(h.bs b o e).1;refine PySem.W.kla_callFunE hr.depth ef zZ S.co S.gen zZ T (M _ _ _ _ ?_);refine wpAny_newFunctionEnv (λx hx=>(S.only x hx).1) (λx hx=>S.par _ (yA hx).1) (λh1 ae sb=>?_) S.kind;have hk:∀b o,s.heap.get? b=some o->h1.get? b=some o:=λb o e=>sb.extBut _ _ (eB (dm e)) (dC _ e);refine#[ab.keeps hk,PySem.W.kla_codeExpr ?_];obtain⟨t,ht,hq⟩:=L A d s H B Q E (hr.deeper _) N;have I:Inv (o0 P w K mg j (D++[y]) g a f (.ref G) [(y,c)] A d s (drop H c)) [] (B.map some++[some (.ref m)]) (drop H c) {s with heap:=h1,toks:=s.toks+(D.zip us).length}:=OY S hr.hd e1 hl r vv #[oc,i] ae sb;refine fL (ht [] _ _ _ _ I hq) (λv s' ⟨x,U,J,rx,q⟩=>?_) λe s' z=>wE z;have Hc:U c=none:=J.freeC y c (by show([(y,c)]:List (Str×Ad)).lookup y=some c;rw[mO,vL]);have af:s'.heap.get? c=some oc:=J.base.keep c oc i.1 vv (λz=>?_) (by simp[o0])
 .refine#[x,cq U c (dY c m oc),J.os,J.bare,#[λb o e n M _=>?_,λb o e n M _=>?_,λb o e n _=>?_,λb o e _=>J.base.there b o e (by simp[o0]),λb xs e=>?_,λb o u e=>?_,λb D e=>?_],J.hok.back Hc (Ep af i.2),rx,q Hc]
  .exact J.base.keep b o e (pL n) M (by simp[o0])
  .exact J.base.slot b o e (pL n) M (by simp[o0])
  .have C:b≠c:=λz=>by rw[z,O]at n;cases n
   rw[cz C];exact J.base.free b o e (pL n) (by simp[o0])
  .have C:b≠c:=λz=>by rw[z,O]at e;cases e
   rw[cz C];exact J.base.tups b xs (by show drop H c b=_;rw[d7 C];exact e)
  .have C:b≠c:=λz=>by rw[z,O]at e;cases e
   rw[cz C];exact J.base.frzs b o u (by show drop H c b=_;rw[d7 C];exact e)
  .have C:b≠c:=λz=>by rw[z,O]at e;cases e
   rw[cz C];exact J.base.tbls b D (by show drop H c b=_;rw[d7 C];exact e)
 .have:=h.frf c z;rw[O]at this;cases this
section
variable{X:Cx}
def Gm(X:Cx)(i:Nat)(t:TA):TE:=λb H Q=>dG i b H λv c=>∃st a,v=.ref st/\c st=some (gD st a)/\t b c λg d=>d st=some (gD st a)/\∃k e f,FnOk X.prog X.w X.K X.mg X.base da k st a e f/\Room k X.A/\Binds X.K a e []/\f g d Q E0
def Gq{a:AO}{b:St}{H:Hp}{s:Sh}{st:Ad}{c:Fd}(I:Inv X a b H s)(h:H st=some (gD st c)):PySem.W.FnAt st s.heap:=by
 obtain⟨e,_,_⟩:=I.hok st _ h;exact#[_,_,_,_,e]
def ID(i:Nat){x:Str}{e:Expr}{b:List Expr}{t:TA}{p a:Pos}(l:PE X (.Name x p) (dG i))(m:PA X (e::b) t)(n:starEach (e::b) X.env=(false,eval e X.env)::starEach b X.env:=by rfl)(c:(backTo a (starEach b X.env)).any (·.1)=false:=by rfl):
  PE X (.Call (.Name x p) (e::b) [] a) (Gm X i t):=by
 intro d s f H Q I h;refine n6 (cS (l d s f H _ I h) λu o ⟨v,w,g,y,st,L,A,B,q⟩=>?_);subst A;cases y;refine PySem.W.callWith_F (Gq g B) (cS (m a d o f w _ g q) λM N C=>?_) n c;obtain⟨O,T,j,r,D,k,U,Y,F,E,G,J⟩:=C;refine#[Gq j D,?_];have z:=Dr (dvs:=[]) (ds:=[]) F E G .nil zE j r (by rw[gS];exact J);exact z
def GD(g:Sp)(a:List V)(j:Nat)(c:Ad)(t:TA):TE:=λb H Q=>t b H λh d=>∃m,b[j]?=some (some (.ref m))/\∀e,d c=none->g (h++a) (cq d c (dY c m e)) (λr f=>f c=some (dY c m e)/\Q r (drop f c)) E0
def Inv.afterC{p:AO}{t:St}{H:Hp}{s s':Sh}{c m:Ad}{i:Obj}{Q:VK}{u:Vl}(I:Inv X p t H s)(k:H c=none)(x:s.heap.get? c=some i)(h:CE X.stack X.prog X.w (cq H c (dY c m i)) s (λr j=>j c=some (dY c m i)/\Q r (drop j c)) u s'):EP X p t Q u s':=by
 obtain⟨v,j,os,a,un,d,A,y,q⟩:=h;obtain⟨⟨f,_⟩,_,_⟩:=d c _ y;refine I.after #[v,drop j c,os,a,#[λb o e n l g=>?_,λb o e n l g=>?_,λb o e n g=>?_,un.there,λb B e=>?_,λb o w e=>?_,λb C e=>?_],d.drop y,A,q]
 .by_cases z:b=c
  .subst z;rw[x]at e;cases e;exact f
  .exact un.keep b o e (by rw[cz z];exact n) l g
 .by_cases z:b=c
  .subst z;rw[x]at e;cases e;exact#[i.slots,f]
  .exact un.slot b o e (by rw[cz z];exact n) l g
 .by_cases z:b=c
  .rw[z];exact vv
  .exact pL (un.free b o e (by rw[cz z];exact n) g)
 .have z:b≠c:=λz=>by rw[z,k]at e;cases e
  rw[d7 z];exact un.tups b B (by rw[cz z];exact e)
 .have z:b≠c:=λz=>by rw[z,k]at e;cases e
  rw[d7 z];exact un.frzs b o w (by rw[cz z];exact e)
 .have z:b≠c:=λz=>by rw[z,k]at e;cases e
  rw[d7 z];exact un.tbls b C (by rw[cz z];exact e)
def Pr{x:Str}{k j:Nat}{M:Ss}{U:Sp}{f c:Ad}{Y:Fd}{g:List V}{A:Vs}{y:Str}{e:Expr}{B:List Expr}{t:TA}{p l:Pos}(F:FnOk X.prog X.w X.K X.mg X.base da k f Y M U)(hr:Room k X.A)(hg:Gl X x)(hm:X.mg x=some (.ref f))(hk:PySem.W.keepIn X.K (.ref f)=true) (v:Binds X.K Y M A) (hd:Vals g A) (hN:X.N[j]?=some y) (J:X.env.cells.lookup y=some c) (C:X.env.scope.names.lookup y=some .cell) (N:X.fn y=true) (ha:PA X (e::B) t)(O:(x==("__debug__":Str))=false:=by decide) (he:starEach (e::B) X.env=(false,eval e X.env)::starEach B X.env:=by rfl) (T:(backTo l (starEach B X.env)).any (·.1)=false:=by rfl):
  PE X (.Call (.Name x p) (e::B) [] l) (GD U g j c t):=by
 intro za s σ H Q I h;refine n6 (oR I hg hm ?_ O);refine vN (h₀:=X.base) I.ok.mod.kin hk (cS (ha l za s σ H _ I h) λD L ⟨vs,H1,a,r,m,hj,q⟩=>#[a.kIn,?_]) he T;have n:H1 c=none:=a.freeC y c J;obtain⟨mm,hn,look⟩:=a.loc;obtain⟨u,ru,lk⟩:=look j y (.ref m) hN hj (.inr (.inl C));cases ru;obtain⟨oc,ec,dc⟩:L.heap.IsCell c (some (.ref m)):=by
  rcases lk with⟨z,_⟩|⟨_,c',E,ic⟩
  .have z':X.env.scope.names.lookup y=some .local:=z;rw[C]at z';cases z'
  .rw[J]at E;cases E;exact ic
 have q1:=q oc n;have r2:Vals (vs++g) (D++A):=r.append hd;have hl:(D++A).length=M.length:=by rw[<-r2.length];exact F.len _ _ _ _ q1
 have e1:Env0 X.prog X.w X.K X.mg X.base X.A X.stack L (cq H1 c (dY c m oc)):=by
  have i:=a.env0;have d:=a.ok.cab y c N J;have nb:∀b o,X.base.get? b=some o->b≠c:=λb o e z=>by
   subst z;exact wC (fJ (dm e) (dy a.ok.bsz d)) (mv _)
  have nf:∀b∈dD X.stack,b≠c:=λb v z=>by
   subst z
   rcases dL.mp (a.stkSub b v)with w|w
   .exact a.cne y b J w
   .obtain⟨_,o,ho,_⟩:=a.ok.funs.mem w;exact wC (fJ (dm ho) d) (mv _)
  exact#[i.frames,i.mod,λb o e=>#[(i.bs b o e).1,by rw[cz (nb b o e)];exact(i.bs b o e).2],i.bsz,i.funs,λb v=>by rw[cz (nf b v)];exact i.frf b v,i.hok.back n (Ep ec dc),i.bare]
 refine oF (mJ (F.run X.A X.stack L _ #[D,[]] (D++A) (vs++g) _ E0 hr e1 (v L D a.kIn hl) r2 q1) λr s' G=>?_);cases r with
 |error e=>exact G.elim
 |ok fl=>
  cases fl with
  |ret u=>exact a.afterC n ec G
  |next=>exact wE G
  |brk=>exact wE G
  |cont=>exact wE G
end
section
variable{X:Cx}
def m9(mg:SV)(h:Heap):Prop:=∃a o,mg "__builtins__"=some (.ref a)/\a≠builtinsNs/\h.get? a=some o/\o.cls=.type "module"/\o.dict=some builtinsNs/\o.data=.plain
abbrev jm(a:Pos)(b:Ad):AV:= #v[rawInt a.line,rawInt a.col,.ref b]
def r9(P:Ad)(a:Str)(b:Arguments)(g:Expr)(d:Scope)(y:Str)(c:Ad)(j:Vl)(h:Pos):TE:=λ_ H Q=>
 (H P=some (.tbl #v[])/\∀f e i,H f=none->H e=none->f≠e->Q (.ref f) (cq (cq (cq H P (.tbl (jm h e))) e (iM e a)) f (gD f (eZ a b g d y c j (.ref e) i))))\/
 ∃e,H P=some (.tbl (jm h e))/\H e=some (iM e a)/\∀f i,H f=none->Q (.ref f) (cq H f (gD f (eZ a b g d y c j (.ref e) i)))
def Bd{P cd c:Ad}{qual y:Str}{a:Arguments}{g:Expr}{f:Scope}{i:Pos}(G:X.env.code=.ref cd)(C:PySem.W.CodeHd X.base cd P)(bm:m9 X.mg X.base)(J:∀D E H s,Inv X D E H s->closureFor f X.env=pure [(y,c)])(aa:defaultsOf a X.env=([],[])) (hq:X.env.qual++"<lambda>"=qual):PE X (.Lambda a g f i) (r9 P qual a g f y c ((X.mg "__name__").getD .none) i):=by
 intro D s E H Q I h;rw[arm_eval_Lambda,aa,hq];have C':PySem.W.CodeHd s.heap cd P:=C.keeps I.bk;have hg:s.heap.Ns mainGlobals X.mg:=I.mod.glob.keeps I.bk;refine cr (m:=evalAll []) (cF (cr (m:=holding _ (evalAllOpt [])) (iS (cF ?_))));have track:∀L,H P=some (.tbl L)->s.heap.get? P=some (PySem.W.tabObj L)/\mainGlobals≠P/\s.heap.BuiltinsAt X.mg P:=λL e=>by
  have M:s.heap.get? P=some (PySem.W.tabObj L):=I.hok P _ e;have ng:mainGlobals≠P:=λz=>by
   obtain⟨o,es,ep,e1,_⟩:=I.mod.glob;have:=(I.bs _ _ e1).2
   rw[z,e]at this;cases this
  obtain⟨b,o,b1,b2,b3,b4,b5,b6⟩:=bm;refine#[M,ng,b,o,b1,b2,λz=>?_,λz=>?_,I.bk _ _ b3,b4,b5,b6]
  .obtain⟨o',es,ep,e1,d1,_⟩:=I.mod.glob;rw[z,e1]at b3;cases b3;rw[d1]at b6;cases b6
  .have:=(I.bs _ _ b3).2;rw[z,e]at this;cases this
 rcases h with⟨e,q⟩|⟨j,e,ag,q⟩
 .obtain⟨M,ng,hb⟩:=track _ e;refine PySem.W.kla_makeFunction (J D E H s I) I.ok.glob hg G C' M (by trivial) zZ ng hb λj p k tk hx r t N ab=>?_;have x:H j=none:=I.hok.fresh r;have A:H k.objs.size=none:=I.hok.fresh (dy r (jp t));have ae:P≠j:=dH e x;have af:P≠k.objs.size:=dH e A;have O:k.objs.size≠j:=mH t;generalize eo:PySem.W.kla_obj "<lambda>" qual a g f [(y,c)] ((X.mg "__name__").getD .none) j p=ob;have old:∀b u,H b=some u->b≠j/\b≠k.objs.size:=λb u z=>#[dH z x,dH z A];have T:∀b o,s.heap.get? b=some o->b≠j/\b≠k.objs.size:=λb o z=>#[eB (fJ (dm z) r),eB (fJ (dm z) (dy r (jp t)))];have U:∀b o,b≠P->s.heap.get? b=some o->(k.push ob).get? b=some o:=λb o n z=>dC _ (hx b o n z);have l:∀b,b≠P->b≠j->b≠k.objs.size->cq (cq (cq H P (.tbl (jm i j))) j (iM j qual)) k.objs.size (gD k.objs.size (eZ qual a g f y c ((X.mg "__name__").getD .none) (.ref j) p)) b=H b:=λb n1 n2 n3=>by rw[cz n3,cz n2,cz n1]
  have Y:cq (cq (cq H P (.tbl (jm i j))) j (iM j qual)) k.objs.size (gD k.objs.size (eZ qual a g f y c ((X.mg "__name__").getD .none) (.ref j) p)) P=some (.tbl (jm i j)):=by rw[cz af,cz ae,cw]
  have tP:(k.push ob).get? P=some (PySem.W.tabObj (jm i j)):=by
   refine dC _ ?_;rw[ab];rfl
  refine#[.ref k.objs.size,_,?_,zZ,q k.objs.size j p A x O];refine I.step (ch:=[]) (λ_ z=>nomatch z) (λb o _ _ _ z n=>U b o (λw=>by rw[w,e]at n;cases n) z) (λb o _ _ _ z n=>#[o.slots,U b o (λw=>by rw[w,e]at n;cases n) z])
   (λb o _ z n=>?_) (λb o _ z=>?_) (λb xs z=>?_) (λb o u z=>?_) (λb L z=>?_) (λm hm=>?_) (λb u z=>?_) I.bare
  .rw[l b (λw=>by rw[w,e]at n;cases n) (T b o z).1 (T b o z).2];exact n
  .by_cases w:b=P
   .rw[w];exact#[_,tP]
   .exact#[o,U b o w z]
  .rw[l b (λw=>by rw[w,e]at z;cases z) (old b _ z).1 (old b _ z).2];exact z
  .rw[l b (λw=>by rw[w,e]at z;cases z) (old b _ z).1 (old b _ z).2];exact z
  .by_cases w:b=P
   .subst w;rw[e]at z;cases z;exact#[jm i j,by rw[Y];rfl]
   .exact#[#v[],by rw[l b w (old b _ z).1 (old b _ z).2,z];simp]
  .exact hm.at' λo z=>U _ o (λw=>by have:=I.free;rw[w,e]at this;cases this) z
  .by_cases w3:b=k.objs.size
   .rw[w3,cw]at z;cases z;rw[w3];exact Gb (by rw[<-eo];exact fq _ zZ)
   .by_cases w2:b=j
    .rw[w2,cz O.symm,cw]at z;cases z;rw[w2];exact Nb (N.push _)
    .by_cases w1:b=P
     .rw[w1,Y]at z;cases z;rw[w1];exact tP
     .rw[l b w1 w2 w3]at z;refine(I.hok b u z).stay (λd o hd y=>U d o (λw=>?_) y) (λd y=>?_) λd xs y=>?_
      .rcases hd with v|v
       .exact w1 (v.symm.trans w)
       .rw[w,e]at v;cases v
      .rw[l d (λw=>by rw[w,e]at y;cases y) (old d _ y).1 (old d _ y).2];exact y
      .rw[l d (λw=>by rw[w,e]at y;cases y) (old d _ y).1 (old d _ y).2];exact y
 .obtain⟨M,ng,hb⟩:=track _ e;have B:codeAmong i (jm i j).toList=some (.ref j):=by
   show(if((i.line:Int)==(i.line:Int)&&(i.col:Int)==(i.col:Int))=true then _ else _)=_;rw[wB (by simp)]
  refine PySem.W.kla_makeFunctionHit (J D E H s I) I.ok.glob hg G C' M (by trivial) B hb λp k tk keep sz=>?_;have I1:Inv X D E H {s with heap:=k,toks:=tk}:=I.kept keep;have I2:Inv X D E H {s with heap:=k.push {cls:= .type "function",data:= .func (eZ qual a g f y c ((X.mg "__name__").getD .none) (.ref j) p)},toks:=tk}:=I1.kept λb o z=>dC _ z;have ok:ObjOk X.prog X.w (cq H k.objs.size (gD k.objs.size (eZ qual a g f y c ((X.mg "__name__").getD .none) (.ref j) p))) (k.push {cls:= .type "function",data:= .func (eZ qual a g f y c ((X.mg "__name__").getD .none) (.ref j) p)}) k.objs.size (gD k.objs.size (eZ qual a g f y c ((X.mg "__name__").getD .none) (.ref j) p)):=Gb (fq _ zZ);exact#[.ref k.objs.size,_,Inv.trackNew I1 I2 ok,zZ,q _ p I1.fresh]
end
def LV(K:P3)(c:As)(a:Ad)(o:Obj)(d:Zs):Hp:=λb=>if b∈c then some (.tbl #v[])else if b=a/\K.lookup a=none then some (.frz o (.lst (d.map V.int)))else none
def Oi{P:Pg}{w:World}{K:P3}{mg mb:SV}{k:Nat}{fa a:Ad}{fd:Fd}{x:Str}{sp:Sp}{f:Sh}{A:Vs}{D:Zs}{tabs:As}(KX:K.In f.heap) (I:f.heap.Ns mainGlobals mg) (g:f.heap.Ns builtinsNs mb) (aa:∀x:Str,x≠"__name__"->mb x=bootBuiltins x) (J:f.heap.NoLimit) (hg:f.gens= #v[]) (ab:m9 mg f.heap)(E:f.heap.get? a=some {cls:= .type "list",data:= .seq A.toArray}) (hi:IntsAre A D) (hl:D.length<=sizeLine) (hr:Room k callerA) (hT:∀q∈tabs,K.lookup q=none/\∃c,f.heap.TableAt c q #v[])
  (F:∀l:Heap,K.In l->l.Ns mainGlobals mg->m9 mg l->FnOk P w K mg l da k fa fd [x] sp) (G:∀(s:Sh) (u:Vl),BindsTo s fd #[[u],[]] [(x,u)])
  (ae:∀H:Hp,(∀q∈tabs,H q=some (.tbl #v[]))->SqL K H a (D.map V.int)->sp [.ref a] H (λv _=>v=.bl true) λ_ _ _=>False):
  codeAny (model P w) callerA (.call (.ref fa) #[[.ref a],[]]) (λr L=>r=.ok (.ret (.bool true))/\OldK f.heap L.heap/\L.os=f.os/\AllBare L.gens) f:=by
 have rv:=Ii hi;have M:=hi.length;have i:∀q∈tabs,f.heap.get? q=some (PySem.W.tabObj #v[]):=λq N=>let⟨_,c,t⟩:=hT q N;t.2
 have na:a∉tabs:=λN=>by
  have:=i a N;rw[E]at this;cases this
 generalize eH:LV K tabs a {cls:= .type "list",data:= .seq A.toArray} D=H;have O:∀q∈tabs,H q=some (.tbl #v[]):=λq N=>by rw[<-eH];exact wB N
 have B:∀b,b∉tabs->H b=if b=a/\K.lookup a=none then some (.frz {cls:= .type "list",data:= .seq A.toArray} (.lst (D.map V.int)))else none:=λb g=>by rw[<-eH];exact wA g
 have j:∀b u,H b=some u->(b∈tabs/\u=.tbl #v[])\/(b=a/\K.lookup a=none/\u=.frz {cls:= .type "list",data:= .seq A.toArray} (.lst (D.map V.int))):=λb u e=>by
  by_cases g:b∈tabs
  .rw[O b g]at e;cases e;exact .inl #[g,zZ]
  .rw[B b g]at e;by_cases h:b=a/\K.lookup a=none
   .rw[wB h]at e;cases e;exact .inr #[h.1,h.2,zZ]
   .rw[wA h]at e;cases e
 have af:HOk P w H f.heap:=λb u e=>by
  rcases j b u e with⟨g,rfl⟩|⟨rfl,_,rfl⟩
  .exact i b g
  .exact#[E,by rw[cu];exact hl,A,_,rv,E]
 have hS:SqL K H a (D.map V.int):=by
  cases Q:K.lookup a with
  |some o=>
   have e:=KX a o Q;rw[E]at e;cases e;exact .inr #[_,A.toArray,_,Q,zZ,zZ,zZ,by rw[e9,M];exact hl,by simpa using rv]
  |none=>exact .inl (.inr #[{cls:= .type "list",data:= .seq A.toArray},by rw[B a na,wB #[zZ,Q]]])
 have free:∀{b:Ad} {o:Obj},f.heap.get? b=some o->o.cls≠ .none->(∀T n,o.data≠ .seq T n)->H b=none:=λ{b o} e hc hd=>by
  cases q:H b with
  |none=>rfl
  | some u=>
   rcases j b u q with⟨g,_⟩|⟨rfl,_,_⟩
   .rw[i b g]at e;cases e;exact wC zZ hc
   .rw[E]at e;cases e;exact wC zZ (hd _ _)
 have p:∀{b:Ad} {m:SV},f.heap.Ns b m->(pz f.heap H).Ns b m:=λ{b m} ⟨o,es,ep,e,d,r⟩=>by
  refine#[o,es,ep,Dl e ?_,d,r];cases q:H b with
  |none=>rfl
  | some u=>
   rcases j b u q with⟨g,_⟩|⟨rfl,_,_⟩
   .rw[i b g]at e;cases e;cases d
   .rw[E]at e;cases e;cases d
 have U:K.In (pz f.heap H):=λb o e=>Dl (KX b o e) (by
  cases q:H b with
  |none=>rfl
  | some u=>
   rcases j b u q with⟨g,_⟩|⟨rfl,Q,_⟩
   .rw[(hT b g).1]at e;cases e
   .rw[Q]at e;cases e)
 have ag:m9 mg (pz f.heap H):=by
  obtain⟨bm,o,b1,b2,b3,b4,b5,b6⟩:=ab;exact#[bm,o,b1,b2,Dl b3 (free b3 (by rw[b4];nofun) (λT n z=>by rw[b6]at z;cases z)),b4,b5,b6]
 have hM:Mod K mg (pz f.heap H):=#[U,p I,#[mb,p g,aa],let⟨mc,h1,h2⟩:=J;#[mc,p h1,h2]];have e0:Env0 P w K mg (pz f.heap H) callerA [] f H:=#[zZ,hM,λb o e=>OR e,rz (Nk _ _),trivial,λb g=>wC (show b∈([]:As)from g) (by simp),af,.of_eq hg];refine mJ ((F _ U (p I) ag).run callerA [] f H #[[.ref a],[]] [.ref a] [.ref a] _ _ hr e0 (G f (.ref a)) (.cons zZ .nil) (ae H O hS)) λr L h=>?_;cases r with
 |error e=>exact h.elim
 | ok fl=>
  cases fl with
  |next=>exact wE h
  |brk=>exact wE h
  |cont=>exact wE h
  | ret u=>
   obtain⟨v,H',os,Y,un,C,r',q⟩:=h;have q':v=.bl true:=q;subst q'
   obtain rfl:u=Value.bool true:=r';refine#[zZ,#[λb o e=>?_,λb o e=>un.there b o e (by simp)],os,Y];cases z:H b with
   |none=>exact .inl (un.keep b o e z (by intro y;exact wC (show b∈([]:As)from y) (by simp)) (by simp))
   | some u=>
    rcases j b u z with⟨g,rfl⟩|⟨rfl,_,rfl⟩
    .obtain⟨more,z2⟩:=un.tbls b _ z;have e2:L.heap.get? b=some (PySem.W.tabObj (#v[]++more)):=C b _ z2;rw[i b g]at e;cases e;obtain⟨_,c,t⟩:=hT b g;exact .inr (.inl #[t.isCodeTable,zZ,#v[],more,zZ,e2])
    .obtain⟨e2,_⟩:=C b _ (un.frzs b _ _ z);rw[E]at e;cases e;exact .inl e2
def sl(u v:cn):Prop:=u.length<v.length\/(u.length=v.length/\fj u v=true)
def j4{a b:Nat}{c d:cn}(h:a≠b):fj (a::c) (b::d)=decide (a<b):=by
 unfold fj;rw[iv,wA h];rfl
def pQ{a:Nat}{c d:cn}:fj (a::c) (a::d)=fj c d:=by
 unfold fj;rw[iv,wB zZ];cases iv c d with
 |none=>simp
 |some b=>rfl
theorem E8:∀{i e j:cn},i.length=e.length->e.length=j.length->fj i e=true->fj e j=true->fj i j=true
 | [],[],_,_,_,h,_=>by rw[qd]at h;cases h
 | [],_::_,_,h,_,_,_=>by simp at h
 |_::_,[],_,h,_,_,_=>by simp at h
 |_::_,_::_,[],_,h,_,_=>by simp at h
 | a::i,b::e,c::j,l,m,f,d=>by
  by_cases k:a=b
  .subst k;rw[pQ]at f;by_cases g:a=c
   .subst g;rw[pQ]at d|-;exact E8 (by simpa using l) (by simpa using m) f d
   .rw[j4 g]at d|-;exact d
  .rw[j4 k]at f;have n:a<b:=gK f;by_cases g:b=c
   .subst g;rw[j4 k];exact f
   .rw[j4 g]at d;have o:b<c:=gK d;rw[j4 ()];exact dW ()
theorem Ib:∀{c d g i:cn},c.length=d.length->fj c d=true->fj (c++g) (d++i)=true
 | [],[],_,_,_,h=>by rw[qd]at h;cases h
 | [],_::_,_,_,h,_=>by simp at h
 |_::_,[],_,_,h,_=>by simp at h
 | a::c,b::d,g,i,j,e=>by
  by_cases f:a=b
  .subst f;rw[tF,tF,pQ];rw[pQ]at e;exact Ib (by simpa using j) e
  .rw[tF,tF,j4 f];rw[j4 f]at e;exact e
def Oh(c:cn){a b:Nat}(h:a<b):fj (c++[a]) (c++[b])=true:=by
 induction c with
 |nil=>exact(j4 ()).trans (dW h)
 |cons x c d=>rw[tF,tF,pQ];exact d
def pX{u v x:cn}(a:sl u v)(b:sl v x):sl u x:=by
 rcases a with a|⟨c,d⟩<;>rcases b with b|⟨e,f⟩
 .exact .inl ()
 .exact .inl ()
 .exact .inl ()
 .exact .inr #[(),E8 c e d f]
def y6{u:cn}(h:sl u u):False:=by
 rcases h with h|⟨_,h⟩
 .lia
 .rw[qd]at h;cases h
def B0{u v:cn}{a b:Nat}(h:sl u v):sl (u++[a]) (v++[b]):=by
 rcases h with h|⟨e,l⟩
 .exact .inl (by simp;lia)
 .exact .inr #[by simp[e],Ib e l]
def u0(u:cn){a b:Nat}(h:a<b):sl (u++[a]) (u++[b]):= .inr #[by simp,Oh u h]
def pJ(u v:cn):Prop:=u=v\/sl u v
def MB{u v x:cn}(h1:pJ u v)(h2:pJ v x):pJ u x:=by
 rcases h1 with rfl|h1
 .exact h2
 .rcases h2 with rfl|h2
  .exact .inr h1
  .exact .inr (pX h1 h2)
def No{u v:cn}{a:Nat}(h:pJ u v):pJ (u++[a]) (v++[a]):=by
 rcases h with rfl|h
 .exact .inl rfl
 .exact .inr (B0 h)
section
variable(f:cn->Nat->List Nat)(L:Nat)(x0:cn)
abbrev TW:=List (cn×cn)
def cJ(word:cn):cn:=word.foldl f x0
def Goes(a:TW)(p:cn×cn)(l:Nat):Prop:=∃u,(f p.1 l,u)∈a/\pJ u (p.2++[l])
structure Told(ws:TW):Prop where
 head:ws[0]?=some (x0,[])
 keys:(ws.map (·.1)).Nodup
 run:∀p∈ws,(∀l∈p.2,l<L)/\cJ f x0 p.2=p.1
 up:ws.Pairwise λp q=>sl p.2 q.2
 all:∀p∈ws,∀l,l<L->Goes f ws p l
 short:∀p∈ws,p.2.length<ws.length
structure Bfs(d:Nat)(ws wv fo:TW)(i j:Nat):Prop where
 head:ws[0]?=some (x0,[])
 keys:(ws.map (·.1)).Nodup
 run:∀p∈ws,(∀l∈p.2,l<L)/\cJ f x0 p.2=p.1
 up:ws.Pairwise λp q=>sl p.2 q.2
 len:∀p∈ws,p.2.length<=d+1
 wave:∀p∈wv,p∈ws/\p.2.length=d
 wup:wv.Pairwise λp q=>sl p.2 q.2
 foll:∀p∈fo,p∈ws/\p.2.length=d+1
 fup:fo.Pairwise λp q=>sl p.2 q.2
 front:∀p∈ws,∀t,wv[i]?=some t->sl p.2 (t.2++[j])
 done:∀p∈ws,p∈fo\/(∃a,i<=a/\wv[a]?=some p)\/∀l,l<L->Goes f ws p l
 part:∀t,wv[i]?=some t->∀l,l<j->Goes f ws t l
 short:∀p∈ws,p.2.length<ws.length
variable{f L x0}{d i j:Nat}{ws wv fo:TW}{t:cn×cn}
def Goes.more{p q:cn×cn}{l:Nat}(h:Goes f ws p l):Goes f (ws++[q]) p l:=by
 obtain⟨u,a,b⟩:=h;exact#[u,py _ a,b]
def Bfs.start:Bfs f L x0 0 [(x0,[])] [(x0,[])] [] 0 0 where
 head:=rfl
 keys:=by simp
 run:=λp a=>by
  rw[cY.mp a];exact#[λ_ h=>(nomatch h),zZ]
 up:=oS _ _
 len:=λp a=>by rw[cY.mp a];simp
 wave:=λp a=>#[a,by rw[cY.mp a];rfl]
 wup:=oS _ _
 foll:=λ_ h=>nomatch h
 fup:= .nil
 front:=λp a t _=>by
  rw[cY.mp a];exact .inl (by simp)
 done:=λp a=> .inr (.inl #[0,cQ _,by rw[cY.mp a];rfl])
 part:=λ_ _ _ h=>wC h (mQ _)
 short:=λp a=>by rw[cY.mp a];simp
def Bfs.old(b:Bfs f L x0 d ws wv fo i j)(ht:wv[i]?=some t)(k:f t.1 j∈ws.map (·.1)):Bfs f L x0 d ws wv fo i (j+1):=by
 obtain⟨p,h,e⟩:=cT.mp k;refine {b with front:=λq m c a=>?_,part:=λc a l g=>?_}
 .exact pX (b.front q m c a) (u0 _ (mN _))
 .rcases Nat.lt_succ_iff_lt_or_eq.mp g with g|rfl
  .exact b.part c a l g
  .rw[ht]at a;cases a;exact#[p.2,by rw[<-e];exact h,.inr (b.front p h t ht)]
def Bfs.new(b:Bfs f L x0 d ws wv fo i j)(ht:wv[i]?=some t)(n:j<L)(o:f t.1 j∉ws.map (·.1)):
  Bfs f L x0 d (ws++[(f t.1 j,t.2++[j])]) wv (fo++[(f t.1 j,t.2++[j])]) i (j+1):=by
 obtain⟨tw,tl⟩:=b.wave t (c8 ht);obtain⟨r,g⟩:=b.run t tw;have k:(t.2++[j]).length=d+1:=by simp[tl]
 have c:0<ws.length:=v9 tw;refine#[?_,?_,λp hp=>?_,?_,λp hp=>?_,λp hp=>#[py _ (b.wave p hp).1,(b.wave p hp).2],b.wup,λp hp=>?_,?_,λp hp s a=>?_,λp hp=>?_,λs a l hl=>?_,λp hp=>?_]
 .rw[fu c];exact b.head
 .rw[eV,zf];refine#[b.keys,by simp,λx u y m z=>?_];simp at m;subst m;exact o (z▸u)
 .rcases dh.mp hp with hp|hp
  .exact b.run p hp
  .rw[cY.mp hp];refine#[λl hl=>?_,?_]
   .rcases dh.mp hl with hl|hl
    .exact r l hl
    .rw[cY.mp hl];exact n
   .show cJ f x0 (t.2++[j])=f t.1 j;unfold cJ at g|-;rw[nB,g];rfl
 .rw[iJ];refine#[b.up,oS _ _,λp hp q e=>?_];rw[cY.mp e];exact b.front p hp t ht
 .rcases dh.mp hp with hp|hp
  .exact b.len p hp
  .rw[cY.mp hp];exact rz k
 .rcases dh.mp hp with hp|hp
  .exact#[py _ (b.foll p hp).1,(b.foll p hp).2]
  .exact#[gf _ hp,by rw[cY.mp hp];exact k]
 .rw[iJ];refine#[b.fup,oS _ _,λp hp q e=>?_];rw[cY.mp e];exact b.front p (b.foll p hp).1 t ht
 .rw[ht]at a;cases a
  rcases dh.mp hp with hp|hp
  .exact pX (b.front p hp t ht) (u0 _ (mN _))
  .rw[cY.mp hp];exact u0 _ (mN _)
 .rcases dh.mp hp with hp|hp
  .rcases b.done p hp with h|h|h
   .exact .inl (py _ h)
   .exact .inr (.inl h)
   .exact .inr (.inr λl hl=>(h l hl).more)
  .exact .inl (gf _ hp)
 .rw[ht]at a;cases a
  rcases Nat.lt_succ_iff_lt_or_eq.mp hl with hl|rfl
  .exact(b.part t ht l hl).more
  .exact#[t.2++[l],gf _ (cY.mpr zZ),.inl zZ]
 .rw[eh,pd]
  rcases dh.mp hp with hp|hp
  .exact Ci (b.short p hp)
  .rw[cY.mp hp];have z:=b.short t tw;show(t.2++[j]).length<_
   rw[eh,pd];lia
def Bfs.next(b:Bfs f L x0 d ws wv fo i L)(ht:wv[i]?=some t):Bfs f L x0 d ws wv fo (i+1) 0:=by
 refine {b with front:=λp g n j=>?_,done:=λp g=>?_,part:=λ_ _ l k=>wC k (mQ _)}
 .have m:=b.front p g t ht;have c:sl t.2 n.2:=by
   obtain⟨o,q⟩:=cK.mp ht;obtain⟨r,s⟩:=cK.mp j;rw[<-q,<-s];exact pc.mp b.wup i (i+1) o r (mN _)
  exact pX m (B0 c)
 .rcases b.done p g with h|⟨a,m,c⟩|h
  .exact .inl h
  .rcases Nat.eq_or_lt_of_le m with e|e
   .subst e;rw[ht]at c;cases c;exact .inr (.inr λl k=>b.part t ht l k)
   .exact .inr (.inl #[a,e,c])
  .exact .inr (.inr h)
def Bfs.wave'(b:Bfs f L x0 d ws wv fo wv.length 0):Bfs f L x0 (d+1) ws fo [] 0 0:=by
 refine#[b.head,b.keys,b.run,b.up,λp c=>Nat.le_succ_of_le (b.len p c),b.foll,b.fup,λ_ h=>(nomatch h),.nil,λp c t ht=>?_,λp c=>?_,λ_ _ l j=>wC j (mQ _),b.short]
 .have i:=b.len p c;have g:=(b.foll t (c8 ht)).2;exact .inl (by simp;lia)
 .rcases b.done p c with h|⟨a,i,g⟩|h
  .obtain⟨a,e⟩:=gy.mp h;exact .inr (.inl #[a,g7 _,e])
  .rw[hJ i]at g;cases g
  .exact .inr (.inr h)
def Bfs.told(b:Bfs f L x0 d ws [] [] 0 0):Told f L x0 ws:=#[b.head,b.keys,b.run,b.up,λp c=>by
 rcases b.done p c with h|⟨a,_,h⟩|h
 .nomatch h
 .simp at h
 .exact h,b.short]
theorem Told.least(T:Told f L x0 ws):∀(n:Nat) (v:cn),v.length=n->(∀l∈v,l<L)->∃u,(cJ f x0 v,u)∈ws/\pJ u v
 |0,v,a,_=>by
  have e:v=[]:=pP.mp a;subst e;exact#[[],c8 T.head,.inl zZ]
 | n+1,v,a,c=>by
  obtain⟨b,l,rfl⟩:∃b l,v=b++[l]:=#[v.dropLast,v.getLast (by intro z;rw[z]at a;cases a),(Hh _).symm];obtain⟨u,d,g⟩:=T.least n b (by simp at a;lia) λx h=>c x (List.mem_append_left _ h);obtain⟨i,j,k⟩:=T.all _ d l (c l (gf _ (cY.mpr zZ)));refine#[i,?_,MB k (No g)];have e:cJ f x0 (b++[l])=f (cJ f x0 b) l:=by
   unfold cJ;rw[nB];rfl
  rw[e];exact j
def mX{U:LN}(b:x0∈U)(c:∀x∈U,∀l,l<L->f x l∈U):∀word:cn,(∀l∈word,l<L)->cJ f x0 word∈U:=by
 have go:∀(word:cn) (x:cn),x∈U->(∀l∈word,l<L)->word.foldl f x∈U:=by
  intro word
  induction word with
  |nil=>intro x a _;exact a
  |cons l word d=>intro x a h;exact d _ (c x a l (h l (dX ..))) λy e=>h y (eO _ e)
 exact λword h=>go word x0 b h
def jf{U:LN}{l:LN}(nd:l.Nodup)(h:∀x∈l,x∈U):l.length<=U.length:=vb nd h
end
def HA{u v:cn}(a:sl u v)(b:sl v u):False:=y6 (pX a b)
def OW{u v:cn}(h1:pJ u v)(h2:pJ v u):u=v:=by
 rcases h1 with h1|h1
 .exact h1
 .rcases h2 with h2|h2
  .exact h2.symm
  .exact(HA h1 h2).elim
theorem G3:∀{a b:TW},(a.Pairwise λp q=>sl p.2 q.2)->(b.Pairwise λp q=>sl p.2 q.2)->(∀p,p∈a↔p∈b)->a=b
 | [],[],_,_,_=>rfl
 | [],q::b,_,_,h=>wC ((h q).mpr (dX ..)) (by simp)
 |p::a,[],_,_,h=>wC ((h p).mp (dX ..)) (by simp)
 | p::a,q::b,g,i,h=>by
  obtain⟨d,j⟩:=yR.mp g;obtain⟨f,k⟩:=yR.mp i;have l:p=q:=by
   rcases dL.mp ((h p).mp (dX ..))with e|e
   .exact e
   .rcases dL.mp ((h q).mpr (dX ..))with e'|e'
    .exact e'.symm
    .exact(HA (f p e) (d q e')).elim
  subst l;have rest:a=b:=G3 j k λr=>by
   constructor
   .intro c
    rcases dL.mp ((h r).mp (eO _ c))with e|e
    .subst e;exact(y6 (d r c)).elim
    .exact e
   .intro c
    rcases dL.mp ((h r).mpr (eO _ c))with e|e
    .subst e;exact(y6 (f r c)).elim
    .exact e
  rw[rest]
def Told.sub{f:cn->Nat->List Nat}{L:Nat}{b:cn}{g h:TW}(T:Told f L b g)(k:Told f L b h){p:cn×cn}(l:p∈g):p∈h:=by
 obtain⟨o,q⟩:=T.run p l;obtain⟨u,a,r⟩:=k.least _ p.2 zZ o;rw[q]at a;obtain⟨s,t⟩:=k.run _ a;obtain⟨v,m,n⟩:=T.least _ u zZ s;have e:cJ f b u=p.1:=t;rw[e]at m;have same:v=p.2:=by
  obtain⟨i,c⟩:=gy.mp m;obtain⟨j,d⟩:=gy.mp l;have w:i=j:=(ig (by rw[cu];exact(cK.mp c).1) T.keys).mp (by rw[cV,cV,c,d];rfl);subst w;rw[c]at d;have z:=gY d;rw[<-z]
 rw[same]at n;have x:u=p.2:=OW r n;rw[x]at a;exact a
def Told.uniq{f:cn->Nat->List Nat}{L:Nat}{b:cn}{c d:TW}(T:Told f L b c)(a:Told f L b d):c=d:=G3 T.up a.up λp=>#[λh=>T.sub a h,λh=>a.sub T h]
section
variable{P:Pg}{w:World}{A:Ar}{E:VP}{s:Sh}{it d:Ad}{i f:Nat}{j:Array DictEntry}
abbrev lH(k v:Vl):Obj:={cls:= .type "tuple",data:= .seq #v[k,v]}
abbrev qk(a:Vl)(b:Bool)(d:Ad)(i n f:Nat)(k v:Vl):Obj:={cls:= .type "dict_itemiterator",data:= .fields #v[a,.bool b,.ref d,.int i 0,.int n 0,.int f 0,k,v]}
def Lies(h:Heap)(d:Ad)(j:Array DictEntry)(f:Nat):Prop:=∃o,h.get? d=some o/\o.ExactDict/\o.data=.dict j f
def Goer(h:Heap)(it d:Ad)(i n f:Nat):Prop:=∃b c k v,h.get? it=some (qk b c d i n f k v)/\(b=.none\/∃a:Nat,b=rawInt a/\a≠it/\∃o,h.get? a=some o)
def Goer.keep{h j:Heap}{n:Nat}(g:Goer h it d i n f)(k:∀o,h.get? it=some o->j.get? it=some o)(l:∀b o,h.get? b=some o->∃q,j.get? b=some q):Goer j it d i n f:=by
 obtain⟨m,p,x,v,e,c⟩:=g;refine#[m,p,x,v,k _ e,c.imp id ?_];rintro⟨a,r,s,o,t⟩;exact#[a,r,s,l a o t]
def OM{j:Vl}{g:Bool}{n:Nat}{B C k v:Vl}{Q:VP}(e:s.heap.get? it=some (qk j g d i n f B C))(c:j=.none\/∃a:Nat,j=rawInt a/\a≠it/\∃o,s.heap.get? a=some o)(q:∀u,Goer u it d i n f->u.get? s.heap.objs.size=some (lH k v)->(∀b o,b≠it->s.heap.get? b=some o->u.get? b=some o)->Q (.ref s.heap.objs.size) {s with heap:=u}):
  wpAny (model P w) A (Builtin.Dict_items.pairFromOwner (.ref it) 6 k v) Q E s:=by
 have lt:it<s.heap.objs.size:=dm e;unfold Builtin.Dict_items.pairFromOwner;refine cr (wpAny_newTuple ?_);have h:=dC (lH k v) e;have l:(s.heap.push (lH k v)).get? s.heap.objs.size=some (lH k v):=fq _ rfl;have y:∀b o,s.heap.get? b=some o->(s.heap.push (lH k v)).get? b=some o:=λb o z=>dC _ z;have ne:s.heap.objs.size≠it:=mH lt
 rcases c with rfl|⟨a,rfl,D,o,N⟩
 .have free:∀{R:Bool->Sh->Prop} {G:Sh},G.heap.get? it=some (qk .none g d i n f B C)->R true G->wpAny (model P w) A (Builtin.Dict_items.ownedTupleIsFree (.ref it)) R E G:=λe r=>by
   unfold Builtin.Dict_items.ownedTupleIsFree;exact cr (mq e zZ (x:= .none) zZ (cF r))
  refine cr (free h ?_);rw[wB zZ];refine cr (mq h zZ (x:=B) zZ (cr (mq h zZ (x:=C) zZ ?_)));refine cr (oo h (by simp) λL H p=>wpAny_bind (wpAny_setField_rec H (by simp) λh3 O T=>?_));refine cr (oo O (by simp) λh4 U Y=>wpAny_bind (wpAny_setField_rec U (by simp) λh5 e5 s5=>wpAny_bind (wpAny_letGo (wpAny_pure ?_))));have M:=((p.trans T).trans Y).trans s5;have t:=M.extBut _ _ ne l;exact q h5 #[_,_,_,_,e5,.inr #[_,zZ,ne,_,t]] t λb o I z=>M.extBut _ _ I (y b o z)
 .have J:=y a o N;refine cr (m:=Builtin.Dict_items.ownedTupleIsFree _) ?_;unfold Builtin.Dict_items.ownedTupleIsFree;refine cr (mq h zZ (x:=rawInt a) zZ ?_);have alive:∀{R:Option Obj->Sh->Prop},R (some o) {s with heap:=s.heap.push (lH k v)}->wpAny (model P w) A (loadIfAlive ((a:Int).toNat)) R E {s with heap:=s.heap.push (lH k v)}:=λ{R} r=>by
   rw[iy];exact λ_ _ _=>show R ((s.heap.push (lH k v)).get? a) _ by rw[J];exact r
  refine show wpAny _ _ (loadIfAlive ((a:Int).toNat) >>= _) _ _ _ from cr (alive ?_)
  refine cr (m:=field _ _) (mq h zZ (x:= .bool g) zZ ?_);cases g with
  |true=>exact cF (cF (q _ #[_,_,_,_,h,.inr #[a,zZ,D,o,J]] l λb o _ z=>y b o z))
  |false=>
   refine cr (m:=setField _ _ _) (oo h (by simp) λL H p=>wpAny_pure (wpAny_pure ?_));exact q L #[_,_,_,_,H,.inr #[a,zZ,D,o,p.extBut _ _ D J]] (p.extBut _ _ ne l) λb o I z=>p.extBut _ _ I (y b o z)
end
section
variable{P:Pg}{w:World}{A:Ar}{E:VP}{s:Sh}{it d:Ad}{i g:Nat}{f:Array DictEntry}
def J5{h:DictEntry}{Q:Option Vl->Sh->Prop}(G:Goer s.heap it d i f.size g)(L:Lies s.heap d f g)(x:f[i]?=some h)(q:∀n,Goer n it d (i+1) f.size g->n.get? s.heap.objs.size=some (lH h.key h.val)->(∀b o,b≠it->s.heap.get? b=some o->n.get? b=some o)->Q (some (.ref s.heap.objs.size)) {s with heap:=n}):
  wpAny (model P w) A (pyNext (.ref it)) Q E s:=by
 obtain⟨p,r,I,J,e,c⟩:=G;obtain⟨o,y,_,B⟩:=L;have ty:s.TypeIs (.ref it) "dict_itemiterator":=#[_,e,zZ];have lt:i<f.size:=(nV.mp x).1;unfold pyNext;refine cr (qv (pY (name:=Str.ofString "__next__") ty we (jx we ty Gj ?_ (Hb _))));refine cr (cF (cr (cr ?_)));refine cr (yt ty (cF (cr (uj e zZ ?_))));have k:Builtin.Dict_items.ownsTuple "dict_itemiterator"=true:=by decide
 simp only[k,if_true];refine show wpAny _ _ (if(Value.ref d==Value.none)=true then _ else _) _ _ s from(wA (show ¬((Value.ref d==Value.none)=true)from gC))▸cr (cF (cr (td y B ?_)))
 rw[wA (by simp)];refine cr (cF (cr (vc y B ?_)));rw[wA (by simp)];refine cF ?_;have t:(if((i:Nat):Int)<0 then none else f[((i:Nat):Int).toNat]?)=some h:=by
  rw[wA (),iy];exact x
 show wpAny _ _ (match (if((i:Nat):Int)<0 then none else f[((i:Nat):Int).toNat]?)with|some e=>_|none=>_) _ _ s;rw[t];refine cr (cr (yt ty (cF (cr (D3 ty ?_)))));refine show wpAny _ _ (setField (.ref it) 3 (rawInt ((i:Int)+1)) >>= _) _ _ s from cr (oo e (by simp) λj M u=>wpAny_bind (wpAny_holding ?_))
 have l:j.get? it=some (qk p r d (i+1) f.size g I J):=by
  have z:((i+1:Nat):Int)=(i:Int)+1:=by lia
  unfold qk;rw[z];simpa[rawInt]using M
 have m:Shared.TypeIs {s with heap:=j} (.ref it) "dict_itemiterator":=#[_,l,rfl];refine cr (D3 m (cr (D3 m ?_)));have sz:j.objs.size=s.heap.objs.size:=u.1;refine show wpAny _ _ (Builtin.Dict_items.pairFromOwner (.ref it) 6 h.key h.val) _ _ {s with heap:=j}from OM (s:={s with heap:=j}) l (c.imp id ?_) λC N O T=>?_
 .rintro⟨a,U,D,Y,z⟩;exact#[a,U,D,Y,u.extBut _ _ D z]
 .have v:C.get? s.heap.objs.size=some (lH h.key h.val):=by rw[<-sz];exact O
  show wpAny _ _ (ret (.ref j.objs.size)) _ _ _;rw[sz];exact cF #[_,zZ,cF (q C N v λb o H z=>T b o H (u.extBut _ _ H z))]
def KW{Q:Option Vl->Sh->Prop}(p:A.handled=none)(G:Goer s.heap it d i f.size g)(L:Lies s.heap d f g)(r:f[i]?=none)(q:∀k,Heap.ExtBut it s.heap k->Q none {s with heap:=k}):wpAny (model P w) A (pyNext (.ref it)) Q E s:=by
 obtain⟨t,u,y,B,e,c⟩:=G;obtain⟨o,l,_,n⟩:=L;have ty:s.TypeIs (.ref it) "dict_itemiterator":=#[_,e,zZ];unfold pyNext;refine cr (qv (pY (name:=Str.ofString "__next__") ty we (jx we ty Gj ?_ (Hb _))));refine cr (cF (cr (cr ?_)));refine cr (yt ty (cF (cr (uj e zZ ?_))));have h:Builtin.Dict_items.ownsTuple "dict_itemiterator"=true:=by decide
 simp only[h,if_true];refine show wpAny _ _ (if(Value.ref d==Value.none)=true then _ else _) _ _ s from(wA (show ¬((Value.ref d==Value.none)=true)from gC))▸cr (cF (cr (td l n ?_)))
 rw[wA (by simp)];refine cr (cF (cr (vc l n ?_)));rw[wA (by simp)];refine cF ?_;have j:(if((i:Nat):Int)<0 then none else f[((i:Nat):Int).toNat]?)=none:=by
  rw[wA (),iy];exact r
 show wpAny _ _ (match (if((i:Nat):Int)<0 then none else f[((i:Nat):Int).toNat]?)with|some e=>_|none=>_) _ _ s;rw[j];refine cr (cr (yt ty (cF ?_)));refine show wpAny _ _ (setField (.ref it) 2 .none >>= _) _ _ s from cr (oo e (by simp) λC D v=>?_)
 refine cr (m:=newExc _ _) ?_;simp only[newExc,newTuple];refine cr (lM ?_ (by size_fits));refine cr (m:=firstArgMember _ _) (yG (a:=Value.none) (by first|rfl|(unfold firstArgMember;rfl)) (wpAny_newObj_type ?_ (by size_fits)));refine A9 (by simpa using p) (wpAny_bind (wpAny_isInstance (T:="StopIteration") (b:=true) #[_,Heap.get?_push_size _ zZ,zZ] isSubtype_stop (wpAny_pure ?_)));exact q _ λb o x z=>dC _ (dC _ (v.extBut b o x z))
end
structure PMade(es:Array DictEntry)(lo:Ad)(h:Heap)(as:As):Prop where
 far:∀a∈as,lo<a
 up:as.Pairwise (· < ·)
 is:∀(j:Nat) (a:Ad),as[j]?=some a->∃en:DictEntry,es[j]?=some en/\h.get? a=some (lH en.key en.val)
def PMade.nil{a:Array DictEntry}{lo:Ad}{h:Heap}:PMade a lo h []:=#[λ_ z=>(nomatch z),.nil,λ_ _ z=>by simp at z]
def PMade.here{c:Array DictEntry}{lo:Ad}{h:Heap}{b:As}(m:PMade c lo h b):∀a∈b,a<h.objs.size:=λa d=>by
 obtain⟨j,e⟩:=gy.mp d;obtain⟨_,_,g⟩:=m.is j a e;exact dm g
def PMade.keep{c:Array DictEntry}{lo:Ad}{h d:Heap}{f:As}(m:PMade c lo h f)(k:∀b o,lo<b->h.get? b=some o->d.get? b=some o):PMade c lo d f:=
 #[m.far,m.up,λj a e=>by
  obtain⟨i,x,g⟩:=m.is j a e;exact#[i,x,k a _ (m.far a (c8 e)) g]]
def PMade.more{i:Array DictEntry}{lo a:Ad}{h:Heap}{d:As}{f:DictEntry}(m:PMade i lo h d)(o:lo<a)(new:∀b∈d,b<a)(x:i[d.length]?=some f)(g:h.get? a=some (lH f.key f.val)):PMade i lo h (d++[a]):=
  #[λb k=>by
    rcases dh.mp k with z|z
    · exact m.far b z
    · rw[cY.mp z];exact o,
   iJ.mpr #[m.up,oS _ _,λb k c p=>by rw[cY.mp p];exact new b k],
   λj b e=>by
    by_cases l:j<d.length
    · rw[fu l]at e
      exact m.is j b e
    · rw[fV (zb l)]at e
      obtain⟨z,n⟩:=cK.mp e;have r:j-d.length=0:=by simp at z;lia
      have q:j=d.length:=by lia
      subst q;simp at n;subst n;exact#[f,x,g]]
section
variable{P:Pg}{w:World}{A:Ar}{R:Result->Sh->Prop}{S I d:Ad}{g:Nat}{a:Array DictEntry}{f:Vl}
abbrev ym(h:Heap)(S:Ad)(a:AV)(c:Nat):Prop:=h.get? S=some {cls:= .type "list",data:= .seq a c}
def ri(U:A.handled=none)(H:S<I)(Y:d≠S)(dI:d≠I)(aa:a.size<=sizeLine):∀(r i:Nat) (s:Sh) (h:As) (c:Nat),i+r=a.size->h.length=i->Goer s.heap I d i a.size g->Lies s.heap d a g->
      ym s.heap S (h.map Value.ref).toArray c->PMade a I s.heap h->
      (∀j bs v,bs.length=a.size->PMade a I j bs->ym j S (bs.map Value.ref).toArray v->(∀b o,b≠S->b≠I->s.heap.get? b=some o->j.get? b=some o)->R (.ok (.ret f)) {s with heap:=j})->
      codeAny (model P w) A (.builtin "list.extend.loop" #[[.ref S,.ref I,f],[]]) R s:=by
  have k:S≠I:=eB H;intro r
  induction r with
  | zero=>
    intro i s h c hi y G L t M q;refine t8 F.entry_extend_loop ?_;rw[uq xr _];refine show wpAny _ A.in1 (pyNext (.ref I) >>= _) _ _ s from cr (KW (by simpa using U) G L (Array.getElem?_eq_none ()) λj x=>wpAny_pure ?_)
    exact q j h c () (M.keep λb o l e=>x b o (mH l) e) (x S _ k t) λb o _ z e=>x b o z e
  | succ r ih=>
    intro i s h c hi y G L t M q;obtain⟨J,N⟩:∃J,a[i]?=some J:=#[a[i]'(),mB ()];have B:I<s.heap.objs.size:=by
      obtain⟨_,_,_,_,e,_⟩:=G;exact dm e
    have C:S<s.heap.objs.size:=dm t;refine t8 F.entry_extend_loop ?_;rw[uq xr _];refine show wpAny _ A.in1 (pyNext (.ref I) >>= _) _ _ s from cr (J5 G L N λm G1 p1 u=>?_)
    have n:=u S _ k t;refine show wpAny _ A.in1 (updateSeq S (·.push (Value.ref s.heap.objs.size)) >>= _) _ _ {s with heap:=m}from cr (A' n rfl (cF #[vd xr _,?_]) ?_ ?_)
    · have off:∀b o,b≠S->m.get? b=some o->(m.update S (Obj.mapSeq (·.push (Value.ref s.heap.objs.size)))).get? b=some o:=λb o z e=>(je _ _ (eJ z)).trans e
      have p:=pD (Obj.mapSeq (·.push (Value.ref s.heap.objs.size))) n rfl;obtain⟨D,h0,x0,y0⟩:=L;have M1:PMade a I m h:=M.keep λb o l e=>u b o (mH l) e
      refine ih (i+1) {s with heap:=m.update S (Obj.mapSeq (·.push (Value.ref s.heap.objs.size)))} (h++[s.heap.objs.size]) _ () (by simp[y]) (G1.keep (λo e=>off I o (Ne.symm k) e) λb o e=>?_)
        #[D,off d D Y (u d D dI h0),x0,y0] (by simpa[Obj.mapSeq,List.map_append]using p) ?_ λj bs v l' M' E k'=>q j bs v l' M' E λb o O Q e=>k' b o O Q (off b o O (u b o Q e))
      · by_cases T:b=S
        · subst T
          exact#[_,p]
        · exact#[o,off b o T e]
      · exact(M1.keep λb o l e=>off b o (mH (zR H l)) e).more B M.here (y▸N) (off _ _ (mH C) p1)
    · simp;lia
    · simp;lia
end
section
variable{P:Pg}{w:World}{A:Ar}{E:VP}{s:Sh}{v d:Ad}{g:Nat}{f:Array DictEntry}
abbrev tc(d:Ad):Obj:={cls:= .type "dict_items",data:= .fields #v[.ref d]}
def Lies.typeIs{s:Sh}(L:Lies s.heap d f g):s.TypeIs (.ref d) "dict":=let⟨o,h,x,_⟩:=L;#[o,h,x.1]
def Np{Q:VP}(nd:(d==sysModules)=false)(L:Lies s.heap d f g)(q:Q (.ref s.heap.objs.size) {s with heap:=s.heap.push (tc d)}):wpAny (model P w) A (call (.builtin "dict.items") [.ref d]) Q E s:=by
 refine call_meetsIn (S:=λ_ R s=>Lies s.heap d f g/\R (.ok (.ret (.ref s.heap.objs.size))) {s with heap:=s.heap.push (tc d)}) F.slot_dict_items L.typeIs F.entry_dict_items (F.args_dict_items_1 _) (.of_wp λA R s ⟨L,r⟩=>?_) #[L,q];unfold Builtin.«dict.items» Builtin.Dict.noArgs;refine cr (cr (wpAny_notOrdered_dict L.typeIs ?_));refine show wpAny _ _ (pure d) _ _ s from cF (show wpAny _ _ (Builtin.Dict.showsAll d >>= _) _ _ s from ?_)
 have all:Builtin.Dict.showsAll d=pure Unit.unit:=by
  unfold Builtin.Dict.showsAll;rw[nd];rfl
 rw[all];exact cr (cF (cr (lM (cF #[_,zZ,r]))))
def LU{Q:VP}(a:s.heap.get? v=some (tc d))(L:Lies s.heap d f g)(q:Q (.ref s.heap.objs.size) {s with heap:=s.heap.push (qk .none false d 0 f.size g .none .none)}):wpAny (model P w) A (pyIter (.ref v)) Q E s:=by
 have ty:s.TypeIs (.ref v) "dict_items":=#[_,a,zZ];obtain⟨o,b,_,c⟩:=L;refine uy ty F.slot_dict_items_iter (jx F.slot_dict_items_iter ty F.entry_dict_items_iter ?_ (F.args_dict_items_iter_1 _));unfold Builtin.«dict_items.__iter__» Builtin.Dict_items.dictOf Builtin.Dict_items.newIterator;refine cr (cF (cr (cr (mq a zZ (x:= .ref d) zZ (cF (cr (cr (td b c (cr (vc b c ?_))))))))));refine show wpAny _ _ (newFields "dict_itemiterator" [.none,.bool false,.ref d,rawInt 0,rawInt (f.size:Nat),rawInt (g:Nat),.none,.none]) _ _ s from lM (cF #[_,zZ,"dict_itemiterator",_,#[_,fq _ zZ,zZ],we.lookup,q]) (by size_fits)
def Jg{Q:Bool->Sh->Prop}(ty:s.TypeIs (.ref v) "dict_items")(q:Q false s):wpAny (model P w) A (Builtin.List.listLengthHint (.ref v)) Q E s:=PySem.W.kdx_hint ty q
def JW{Q:VP}(hh:A.handled=none)(U:s.heap.get? v=some (tc d))(L:Lies s.heap d f g)(G:f.size<=sizeLine)(q:∀j n c k,n.length=f.size->PMade f s.heap.objs.size j n->ym j s.heap.objs.size (n.map Value.ref).toArray c->(∀b o,s.heap.get? b=some o->j.get? b=some o)->Q (.ref s.heap.objs.size) {s with heap:=j,toks:=k}):
  wpAny (model P w) A (call (.type "list") [.ref v]) Q E s:=by
 let S:=s.heap.objs.size
 obtain⟨o,H,x,Y⟩:=id L;have ld:d<S:=dm H;have lv:v<S:=dm U;refine callType_codes (Q₁:=λobj p=>obj=.ref S/\p={s with heap:=s.heap.push {cls:= .type "list",data:= .seq #v[]}}) F.called_list (F.typeCall_list_1 _) F.entry_list_init (code_list_new _ #[rfl,rfl]) λobj s1 z=>?_;obtain⟨rfl,rfl⟩:=z;have D:ym (s.heap.push {cls:= .type "list",data:= .seq #v[]}) S #v[] 0:=fq _ rfl;refine#[#[_,D,zZ],F.args_list_init_2 _ _,?_];unfold Builtin.«list.__init__» Builtin.List.listItems;refine cr (cr (wpAny_seqItems D zZ (cF ?_)));refine cr (m:=updateSeq S _) (A' D zZ (cr (wpAny_letGo ?_)));have I:=pD (Obj.mapSeq (λ_=>(#v[]:AV))) D rfl
 let t:=(s.heap.push {cls:= .type "list",data:= .seq #v[]}).update S (Obj.mapSeq (λ_=>(#v[]:AV)))
 have J:∀b o,s.heap.get? b=some o->t.get? b=some o:=λb o e=>(je _ _ (mH (dm e))).trans (dC _ e);have M:t.objs.size=S+1:=by
  show(Heap.update _ _ _).objs.size=_;simp[Heap.update,Heap.push,S]
 have go:∀(l:Heap) (c k:Nat),ym l S #v[] c->(∀b o,b≠S->(t.push (qk .none false d 0 f.size g .none .none)).get? b=some o->l.get? b=some o)->
   codeAny (model P w) A.in1 (.builtin "list.extend.loop" #[[.ref S,.ref t.objs.size,.none],[]]) (wants (λr u=>r=Value.none/\Q (Value.ref S) u) E) {s with heap:=l,toks:=k}:=λl c k l2 k2=>by
  have y:S<t.objs.size:=by rw[M];exact mN _
  have B:∀b o,s.heap.get? b=some o->l.get? b=some o:=λb o e=>k2 b o (eB (dm e)) (dC _ (J b o e));refine ri (by simpa using hh) y (Nat.ne_of_lt ld) (Nat.ne_of_lt (Nat.lt_trans ld y)) G f.size 0 {s with heap:=l,toks:=k} [] c () rfl #[_,_,_,_,k2 _ _ (Nat.ne_of_gt y) (Heap.get?_push_size _ rfl),.inl rfl] #[o,B d o H,x,Y] l2 .nil λj n c' l' N O k'=>?_;refine#[zZ,q j n c' k l' #[λa ha=>zR y (N.far a ha),N.up,N.is] O λb o e=>?_];have lb:b<S:=dm e;exact k' b o (eB lb) (eB (zR lb y)) (B b o e)
 refine show wpAny _ _ (Builtin.List.listExtendWith (.ref S) (.ref v) .none) _ _ _ from ?_
 unfold Builtin.List.listExtendWith;have h:=J v _ U;refine cr (yW (T:="dict_items") #[_,h,zZ] ?_);have no:(Builtin.List.listSameRef (.ref S) (.ref v) || Value.type "dict_items"==Value.type "list" || Value.type "dict_items"==Value.type "tuple")=false:=by
  have z:Builtin.List.listSameRef (.ref S) (.ref v)=false:=by simp[Builtin.List.listSameRef,Nat.ne_of_gt lv]
  rw[z];decide
 rw[no,wA (by decide)];refine cr (LU h #[o,J d o H,x,Y] (cr (iS (Jg #[_,dC _ h,zZ] ?_))));have i:=dC (qk .none false d 0 f.size g .none .none) I;refine Eh (λ_=>?_) λ_=>cF #[vd xr _,go _ _ _ i λ_ _ _ e=>e];unfold Builtin.List.listTouch Builtin.List.listUpdate;refine cr (pE (cr (cr (m:=updateSeq S _) (A' i zZ ?_))));have C:=pD (Obj.mapSeq (·.push Value.none)) i rfl;refine show wpAny _ _ (updateSeq S (·.pop)) _ _ _ from A' (hz:=by seq_fits) C zZ (cF #[vd xr _,go _ _ _ (pD (Obj.mapSeq (·.pop)) C zZ) λb o nb e=>?_])
 rw[je _ _ (eJ nb),je _ _ (eJ nb)];exact e
end
def pN(H:Hp):List (Ad×HO)->Hp
 | []=>H
 |p::l=>pN (cq H p.1 p.2) l
theorem Bv:∀{l:List (Ad×HO)} {H:Hp} {b:Ad},(∀p∈l,b≠p.1)->pN H l b=H b
 | [],_,_,_=>rfl
 |p::l,H,b,n=>by
  show pN (cq H p.1 p.2) l b=_;rw[Bv λq a=>n q (eO _ a),cz (n p (dX ..))]
theorem Ef:∀{l:List (Ad×HO)} {H:Hp} {p:Ad×HO},(l.map (·.1)).Nodup->p∈l->pN H l p.1=some p.2
 | q::l,H,p,nd,hp=>by
  obtain⟨a,b⟩:=jw.mp nd
  rcases dL.mp hp with rfl|hp
  .show pN (cq H p.1 p.2) l p.1=_;rw[Bv λr c z=>a (cT.mpr #[r,c,z.symm]),cw]
  .exact Ef (l:=l) b hp
def At{c d:Type}{F:c->d->Prop}{l:List c}{m:List d}{j:Nat}{a:c}(r:Paired F l m)(e:l[j]?=some a):∃b,m[j]?=some b/\F a b:=by
 induction r generalizing j with
 |nil=>simp at e
 | cons h _ f=>
  cases j with
  |zero=>
   have z:=gY e;subst z;exact#[_,zZ,h]
  |succ j=>exact f (by simpa using e)
section
variable{X:Cx}
theorem Inv.tracks{a:AO}{c:St}{h:Hp}{s s1:Sh}(I:Inv X a c h s):∀(l:List (Ad×HO)) (H:Hp),Inv X a c H s1->(∀p∈l,s.heap.objs.size<=p.1/\H p.1=none/\∀i,ObjOk X.prog X.w i s1.heap p.1 p.2)->(l.map (·.1)).Nodup->
  Inv X a c (pN H l) s1
 | [],_,d,_,_=>d
 |p::l,H,d,ok,nd=>by
  obtain⟨j,k⟩:=jw.mp nd;obtain⟨f,n,o⟩:=ok p (dX ..);obtain⟨u,m,v,w,r,t⟩:=I.fpOk (b:=p.1) (H':=H) f n;refine Inv.tracks I l _ (d.track n (o _) (dy I.sz f) m r t) (λq g=>?_) k;obtain⟨x,y,z⟩:=ok q (eO _ g);exact#[x,by rw[cz λe=>j (cT.mpr #[q,g,e])];exact y,z]
structure Listed(H H':Hp)(kvs:List (List dq×V))(l:Ad)(as:As):Prop where
 new:H l=none
 news:∀a∈as,H a=none
 out:l∉as
 nd:as.Nodup
 len:as.length=kvs.length
 lst:H' l=some (.lst (as.map .ref))
 is:∀(j:Nat) (a:Ad),as[j]?=some a->∃k v b,kvs[j]?=some (k,v)/\H b=some (.tup (k.map kV))/\H' a=some (.tup [.ref b,v])
 rest:∀b,b≠l->b∉as->H' b=H b
def tA(v d:Ad):HO:= .ext λh=>h.get? v=some (tc d)
def Lq:V->List V->Hp->VK->Prop:=λx c H Q=>c=[]/\∃a b,x=.ref a/\H a=some (.dT b)/\∀v,H v=none->Q (.ref v) (cq H v (tA v a))
def E3:yY X "dict.items" Lq:=by
 intro n s p H x r u t Q I b c h;obtain⟨rfl,a,d,rfl,f,q⟩:=h;cases b;cases c;obtain⟨z,g,v,i,o,w,A,j,l,m,_⟩:=I.hok a _ f;refine Np g #[o,j,l,m] #[.ref s.heap.objs.size,_,I.laid (a:=s.heap.objs.size) (o:=tA s.heap.objs.size a) (t':=s.toks) (λ_ _ q=>dC _ q) (cQ _) ?_,zZ,q _ I.fresh];have e:(s.heap.push (tc a)).get? s.heap.objs.size=some (tc a):=fq _ rfl;exact#[e,#[_,e],λB C y k=>k _ y]
inductive gZ(c:List V)(H:Hp)(Q:VK):Prop|mk:∀v a b,c=[.ref v]->H v=some (tA v a)->H a=some (.dT b)->(∀l e d,Listed H d b l e->Q (.ref l) d)->gZ c H Q
def Gv(hc:X.calm=true):CallR X (.type "list") gZ:=by
 intro za s σ H xs us Q I r h;obtain⟨v,a,t,rfl,hv,ha,q⟩:=h;obtain⟨u,rfl,ru⟩:=jv r;cases ru;obtain⟨ev,_,_⟩:=I.hok v _ hv;obtain⟨z,na,ys,E,o,es,ep,e1,e2,e3,e4,_⟩:=I.hok a _ ha;have el:es.size=t.length:=by rw[Ax e4,<-pq E]
 refine JW (I.ok.hd hc) ev #[o,e1,e2,e3] () λD f c tk ln M lS k=>?_;have I1:Inv X za σ H {s with heap:=D,toks:=tk}:=I.kept k;have big:∀b,s.heap.objs.size<=b->H b=none:=λb n=>I.hok.fresh n;have nd:f.Nodup:=M.up.imp λz=>eB z;have A:s.heap.objs.size∉f:=λm=>mv _ (M.far _ m);have G:∀(j:Nat) (b:Ad),f[j]?=some b->∃k x y,t[j]?=some (k,x)/\H y=some (.tup (k.map kV))/\∃u,RelV x u/\D.get? b=some (lH (.ref y) u):=λj b d=>by
  obtain⟨en,ee,g⟩:=M.is j b d;obtain⟨jl,_⟩:=cK.mp d;obtain⟨⟨k,x⟩,ek⟩:∃p,t[j]?=some p:=#[_,cA ()];obtain⟨⟨k',y,u⟩,ey,p1,p2,p3⟩:=At E ek;rw[entry_at e4,ey]at ee;cases ee;exact#[k,x,y,ek,p2,u,p3,g]
 have w:∀b,∃o:HO,∀j:Nat,f[j]?=some b->∃k x y,t[j]?=some (k,x)/\H y=some (.tup (k.map kV))/\o=.tup [.ref y,x]/\∃u,RelV x u/\D.get? b=some (lH (.ref y) u):=λb=>by
  by_cases n:b∈f
  .obtain⟨j,d⟩:=gy.mp n;obtain⟨k,x,y,L,N,u,O,T⟩:=G j b d;refine#[.tup [.ref y,x],λi ei=>?_];have ij:j=i:=ig (cK.mp d).1 nd |>.mp (d.trans ei.symm)
   subst ij;exact#[k,x,y,L,N,zZ,u,O,T]
  .exact#[.tup [],λj d=>wC (c8 d) n]
 let J:Ad->HO:=λb=>Classical.choose (w b)
 have B:∀(j:Nat) (b:Ad),f[j]?=some b->∃k x y,t[j]?=some (k,x)/\H y=some (.tup (k.map kV))/\J b=.tup [.ref y,x]/\∃u,RelV x u/\D.get? b=some (lH (.ref y) u):=λj b d=>tz (w b) j d;have C:(f.map λb=>(b,J b)).map (·.1)=f:=by simp[List.map_map,Function.comp_def]
 have U:∀b∈f,∀Y,ObjOk X.prog X.w Y D b (J b):=λb n Y=>by
  obtain⟨j,d⟩:=gy.mp n;obtain⟨k,x,y,L,N,O,u,T,h5⟩:=B j b d;rw[O];exact#[by show 2<=sizeLine;decide,[.ref y,u],.cons zZ (.cons T .nil),_,h5,zZ,0,zZ,zZ]
 have vs:∀l:As,Vals (l.map V.ref) (l.map Value.ref):=λl=>by
  induction l with
  |nil=>exact .nil
  |cons x l ih=>exact .cons zZ ih
 have I2:=Inv.tracks (s1:={s with heap:=D,toks:=tk}) I ((s.heap.objs.size,.lst (f.map .ref))::f.map λb=>(b,J b)) H I1 (λp hp=>by
   rcases dL.mp hp with rfl|hp
   .exact#[cQ _,big _ (cQ _),λY=>#[by rw[cu];lia,_,c,vs f,lS]]
   .obtain⟨b,n,rfl⟩:=cT.mp hp;exact#[jp (M.far b n),big _ (jp (M.far b n)),U b n]) (by
   rw[h9,C];exact jw.mpr #[A,nd])
 refine#[.ref s.heap.objs.size,_,I2,zZ,q _ f _ #[big _ (cQ _),λb n=>big _ (jp (M.far b n)),A,nd,(),?_,λj b d=>?_,λb L N=>?_]]
 .exact Ef (p:=(s.heap.objs.size,.lst (f.map .ref))) (by rw[h9,C];exact jw.mpr #[A,nd]) (dX ..)
 .obtain⟨k,x,y,g1,g2,g3,_⟩:=B j b d;refine#[k,x,y,g1,g2,?_];rw[<-g3];exact Ef (p:=(b,J b)) (by rw[h9,C];exact jw.mpr #[A,nd]) (eO _ (cT.mpr #[b,c8 d,zZ]))
 .refine Bv λp hp=>?_
  rcases dL.mp hp with rfl|hp
  .exact L
  .obtain⟨y,hy,rfl⟩:=cT.mp hp;exact λe=>N (e▸hy)
end
def a3x(b:TW)(c:As):List (List dq×V):=List.zipWith (λp a=>(nk p.1,V.ref a)) b c
def CS{ws:TW}{as:As}{p:cn×cn}{a:Ad}(h:as.length=ws.length):a3x (ws++[p]) (as++[a])=a3x ws as++[(nk p.1,.ref a)]:=by
 unfold a3x;rw[List.zipWith_append h.symm];rfl
def vG{a:TW}{b:As}(h:b.length=a.length):(a3x a b).length=a.length:=by
 unfold a3x;rw[List.length_zipWith];lia
def Cy{b:TW}{c:As}{j:Nat}{p:cn×cn}{a:Ad}(d:b[j]?=some p)(e:c[j]?=some a):(a3x b c)[j]?=some (nk p.1,.ref a):=by
 unfold a3x;rw[List.getElem?_zipWith,d,e]
theorem vR:∀{b:TW} {c:As} {x:cn},x∉b.map (·.1)->fH (a3x b c) (nk x)=none
 | [],_,_,_=>rfl
 |_::_,[],_,_=>rfl
 |p::b,a::c,x,h=>by
  have d: ¬(nk p.1:List dq)=nk x:=λz=>h (cT.mpr #[p,dX ..,uc z]);exact(kq (p:=(nk p.1,V.ref a)) (r:=a3x b c) d).trans (vR λz=>h (eO _ z))
theorem Bs:∀{c:TW} {d:As} {j:Nat} {p:cn×cn} {a:Ad},(c.map (·.1)).Nodup->c[j]?=some p->d[j]?=some a->fH (a3x c d) (nk p.1)=some (.ref a)
 |q::c,b::d,0,p,a,_,e,f=>by
  cases e;cases f;exact mF (p:=(nk q.1,V.ref b)) (r:=a3x c d) rfl
 |q::c,b::d,j+1,p,a,nd,e,f=>by
  obtain⟨h,i⟩:=jw.mp nd;have g:c[j]?=some p:=by simpa using e
  have n: ¬(nk q.1:List dq)=nk p.1:=λz=>h (cT.mpr #[p,c8 g,(uc z).symm]);exact(kq (p:=(nk q.1,V.ref b)) (r:=a3x c d) n).trans (Bs i g (by simpa using f))
 | [],_,_,_,_,_,e,_=>by simp at e
 |_::_,[],_,_,_,_,_,f=>by simp at f
structure WordsAt(H:Hp)(D:Ad)(ws:TW)(as:As):Prop where
 len:as.length=ws.length
 dict:H D=some (.dT (a3x ws as))
 list:∀(j:Nat) (a:Ad) (p:cn×cn),as[j]?=some a->ws[j]?=some p->H a=some (.lst (p.2.map nv))
def WordsAt.same{H b:Hp}{D:Ad}{c:TW}{d:As}(W:WordsAt H D c d)(g:Same H b):WordsAt b D c d:=#[W.len,g _ _ W.dict,λj a p e f=>g _ _ (W.list j a p e f)]
def WordsAt.word{H:Hp}{D:Ad}{b:TW}{c:As}{p:cn×cn}(W:WordsAt H D b c)(nd:(b.map (·.1)).Nodup)(f:p∈b):∃a,fH (a3x b c) (nk p.1)=some (.ref a)/\H a=some (.lst (p.2.map nv)):=by
 obtain⟨j,e⟩:=gy.mp f;obtain⟨g,_⟩:=cK.mp e;obtain⟨a,d⟩:∃a,c[j]?=some a:=#[_,cA (by rw[W.len];exact g)];exact#[a,Bs nd e d,W.list j a p d e]
def WordsAt.put{H:Hp}{D l:Ad}{c:TW}{e:As}{p:cn×cn}(W:WordsAt H D c e)(f:H l=some (.lst (p.2.map nv))):WordsAt (cq H D (.dT (a3x c e++[(nk p.1,.ref l)]))) D (c++[p]) (e++[l]):=by
 have g:∀{a:Ad} {k:List V},H a=some (.lst k)->a≠D:=λh=>nE h W.dict;refine#[by simp[W.len],by rw[cw,CS W.len],λj a q d b=>?_];by_cases i:j<c.length
 .rw[fu (by rw[W.len];exact i)]at d;rw[fu i]at b;have z:=W.list j a q d b;rw[cz (g z)];exact z
 .rw[fV (by rw[W.len];lia)]at d;rw[fV ()]at b;have z:j-c.length=0:=by
   have:=(cK.mp b).1;simp at this;lia
  rw[W.len,z]at d;rw[z]at b;cases d;cases b;rw[cz (g f)];exact f
def noT(H:Hp):Hp:=λa=>match H a with
 |some (.tbl _)=>none
 |o=>o
def pI{H:Hp}{a:Ad}{o:HO}(h:H a=some o)(n:∀b,o≠ .tbl b):noT H a=some o:=by
 unfold noT;rw[h];cases o<;>first|rfl|exact wC zZ (n _)
def Ko:HO->Bool
 |.tbl _=>true
 |_=>false
def nU{H:Hp}{a:Ad}{o:HO}(h:H a=some o)(d:Ko o=false:=by rfl):noT H a=some o:=pI h λb e=>by subst e;cases d
def qw{H:Hp}{a:Ad}{o:HO}(h:noT H a=some o):H a=some o/\∀b,o≠ .tbl b:=by
 unfold noT at h;split at h
 .cases h
 .rename_i n
  exact#[h,λb z=>n b (by rw[h,z])]
def FL{H:Hp}{a:Ad}(h:H a=none):noT H a=none:=by
 unfold noT;rw[h]
def Keeps(H a:Hp):Prop:=Same (noT H) a
def Same.keeps{H b:Hp}(g:Same H b):Keeps H b:=λa o h=>g a o (qw h).1
def Keeps.refl(H:Hp):Keeps H H:=(Same.refl H).keeps
def Keeps.trans{H d e:Hp}(a:Keeps H d)(b:Keeps d e):Keeps H e:=λc o h=>b c o (pI (a c o h) (qw h).2)
def TabOk(a:Str)(b:Pos)(H:Hp)(T:Ad):Prop:=H T=some (.tbl #v[])\/∃c,H T=some (.tbl (jm b c))/\H c=some (iM c a)
def TabOk.same{a:Str}{b:Pos}{H c:Hp}{T:Ad}(t:TabOk a b H T)(g:Same H c):TabOk a b c T:=by
 rcases t with t|⟨d,e,f⟩
 .exact .inl (g _ _ t)
 .exact .inr #[d,g _ _ e,g _ _ f]
def DefAt(K:P3)(x:Str)(st:Stmt)(f:Ad)(b:Fd)(g e:Vl):Prop:=
 PySem.W.codeIn K e x=true/\(∃kV a h i j,b=PySem.W.fnOf x x (gL st) (fg st) (cN st) g kV a h i e j)/\∃c d sl,K.lookup f=some #[c,d,.func b,sl]
section
variable{P:Pg}{w:World}{K:P3}{mg:SV}{a:Heap}{x:Str}{st:Stmt}{f:Ad}{l:Fd}{n m:Vl}{N i:Ss}{k:Nat}{g:Sp}
def Px(P:Pg)(w:World)(K:P3)(mg:SV)(a:Heap)(x:Str)(st:Stmt)(f:Ad)(m:Vl)(N:Ss)(k:Nat)(g:Sp):Prop:=
 ∀A b s H c Q E,g c H Q E->Room k (A.deeper (envOfC x (cN st) s.heap.objs.size f m))->∃t:TS,t #[λ_ d=>Q .non d,Q,λ_ _=>False,λ_ _=>False] (start N c) H/\PSs (nR da P w K mg a N x (cN st) f m A b s H E).nox (fg st) t
def DefAt.fnOk(d:DefAt K x st f l n m)(p:FnScope N i (cN st))(len:∀j H Q E,g j H Q E->j.length=i.length)(b:Px P w K mg a x st f m N k g):FnOk P w K mg a da (k+1) f l i g:=by
 obtain⟨c,⟨kV,r,v,y,z,rfl⟩,_,_,_,lk⟩:=d;refine zA lk c p len λA e s H j Q E u o=>?_;obtain⟨t,q,h⟩:=b A e s H j Q E o u;exact#[t,h.nox,q]
def xA(P:Pg)(w:World)(K:P3)(mg:SV)(a:Heap)(x:Str)(k:Nat)(i:Ss)(g:Sp)(b:List V):Prop:=
 ∃f l c,FnOk P w K mg a da k f l i g/\mg x=some (.ref f)/\PySem.W.keepIn K (.ref f)=true/\Binds K l i c/\Vals b c
def DR{X:Cx}{x y:Str}{k j:Nat}{i:Ss}{g:Sp}{c:Ad}{a:List V}{e:Expr}{b:List Expr}{t:TA}{p d:Pos}(q:xA X.prog X.w X.K X.mg X.base x k i g a)(r:Room k X.A)(s:Gl X x)(u:X.N[j]?=some y)(v:X.env.cells.lookup y=some c)(h:X.env.scope.names.lookup y=some .cell) (m:X.fn y=true) (w:PA X (e::b) t) (n:(x==("__debug__":Str))=false:=by decide) (z:starEach (e::b) X.env=(false,eval e X.env)::starEach b X.env:=by rfl)
  (o:(backTo d (starEach b X.env)).any (·.1)=false:=by rfl):PE X (.Call (.Name x p) (e::b) [] d) (GD g a j c t):=by
 obtain⟨f,l,E,F,A,B,C,D⟩:=q;exact Pr F r s A B C D u v h m w n z o
end
def yo{X:Cx}{P:Pg}{w:World}:nC (CX1 P w) X E0:=λ_ _ _ _ _ _ _ ⟨_,_,_,_,_,_,_,_,_,_,h⟩=>h.elim
def Ev(P:Pg)(w:World)(K:P3)(mg:SV)(base:Heap)(x:Str)(k:Nat)(a:Ss)(c:Sp):Prop:=
 ∃f b,FnOk P w K mg base (CX1 P w) k f b a c/\mg x=some (.ref f)/\PySem.W.keepIn K (.ref f)=true/\Binds K b a []
def Al{X:Cx}{x:Str}{k:Nat}{h:Ss}{g:Sp}{e:Expr}{a:List Expr}{t:TA}{p d:Pos}{E:XK}(c:Ev X.prog X.w X.K X.mg X.base x k h g)(i:Room k X.A)(j:nC (CX1 X.prog X.w) X E)(l:Gl X x)(n:PA X (e::a) t)(o:(x==("__debug__":Str))=false:=by decide) (q:starEach (e::a) X.env=(false,eval e X.env)::starEach a X.env:=by rfl) (r:(backTo d (starEach a X.env)).any (·.1)=false:=by rfl):
  PE X (.Call (.Name x p) (e::a) [] d) (qp g [] E t):=by
 obtain⟨f,u,F,m,s,b⟩:=c;exact B8 F i l m s b .nil j n o q r
def CalleeDX(P:Pg)(w:World)(K:P3)(mg:SV)(base:Heap)(x:Str)(k:Nat)(b:Ss)(e:Sp)(a:List V):Prop:=
 ∃f c d,FnOk P w K mg base (CX1 P w) k f c b e/\mg x=some (.ref f)/\PySem.W.keepIn K (.ref f)=true/\Binds K c b d/\Vals a d
def CG{X:Cx}{x:Str}{k:Nat}{i:Ss}{h:Sp}{a:List V}{e:Expr}{d:List Expr}{t:TA}{p g:Pos}{E:XK}(c:CalleeDX X.prog X.w X.K X.mg X.base x k i h a)(j:Room k X.A)(l:nC (CX1 X.prog X.w) X E)(n:Gl X x)(o:PA X (e::d) t)(q:(x==("__debug__":Str))=false:=by decide) (r:starEach (e::d) X.env=(false,eval e X.env)::starEach d X.env:=by rfl) (s:(backTo g (starEach d X.env)).any (·.1)=false:=by rfl):
  PE X (.Call (.Name x p) (e::d) [] g) (qp h a E t):=by
 obtain⟨f,w,y,F,m,u,b,v⟩:=c;exact B8 F j n m u b v l o q r s
section
variable{X:Cx}{g:AO}{a:St}{H i:Hp}{s:Sh}
def Fn{k:Nat}{A:Ss}{B:Sp}{b:List V}{x:Str}{p d:Pos}{e:Expr}{j:List Expr}{t:TA}(c:CalleeDX X.prog X.w X.K X.mg X.base x k A B b)(J:Room k X.A)(L:Gl X x)(M:PA X.nox (e::j) t) (n:(x==("__debug__":Str))=false:=by decide) (N:starEach (e::j) X.env=(false,eval e X.env)::starEach j X.env:=by rfl)
  (o:(backTo d (starEach j X.env)).any (·.1)=false:=by rfl):GI X (.Call (.Name x p) (e::j) [] d) (λE=>qp B b E t):=by
 obtain⟨f,fd,w,F,O,T,U,Y⟩:=c;intro g s a H Q E Ex I h hx;refine n6 (oR I L O ?_ n);refine vN (h₀:=X.base) I.ok.mod.kin T (fL (M d g s a H _ (I.wish _) h) (λl y ⟨C,D,i,r,q⟩=>?_) λ_ _ z=>wE z) N o;have i:=i.unwish;refine#[i.kIn,?_];have G:Vals (C++b) (l++w):=r.append Y;have hl:(l++w).length=A.length:=by rw[<-G.length];exact F.len _ _ _ _ q
 refine oF (mJ (F.run X.A X.stack y D #[l,[]] (l++w) (C++b) Q E J i.env0 (U y l i.kIn hl) G q) λr s' m=>?_);cases r with
 |error v=>exact hx D y v s' i m
 |ok fl=>
  cases fl with
  |ret u=>exact i.after m
  |next=>exact wE m
  |brk=>exact wE m
  |cont=>exact wE m
def Mc(h:Sp)(e:List V)(E:XK)(j:Nat)(c:Ad)(t:TA):TE:=λa H Q=>t a H λi g=>∃m,a[j]?=some (some (.ref m))/\∀f,g c=none->h (i++e) (cq g c (dY c m f)) (λr b=>b c=some (dY c m f)/\Q r (drop b c)) (λv d b=>b c=some (dY c m f)/\E v d (drop b c))
def CX1.afterC{c m:Ad}{j:Obj}{E:XK}{v:Vl}{x:Sh}(l:H c=none)(y:s.heap.get? c=some j)(h:CX1 X.prog X.w X.stack (cq H c (dY c m j)) s (λv d k=>k c=some (dY c m j)/\E v d (drop k c)) v x):CX1 X.prog X.w X.stack H s E v x:=by
 obtain⟨e,C,d,k,rfl,os,f,un,g,⟨ne,B,D,G,T,I,J,L,a,p,t,M,N,O,Q,U,r⟩,A,q⟩:=h;obtain⟨⟨i,_⟩,_,_⟩:=g c _ A;refine#[e,C,d,drop k c,zZ,os,f,#[λb o e n u a=>?_,λb o e n u a=>?_,λb o e n a=>?_,un.there,λb Y e=>?_,λb o w e=>?_,λb ps e=>?_],g.drop A,#[ne,pL B,D,G,T,I,J,L,a,p,t,M,N,O,Q,pL U,r],q]
 .by_cases z:b=c
  .subst z;rw[y]at e;cases e;exact i
  .exact un.keep b o e (by rw[cz z];exact n) u a
 .by_cases z:b=c
  .subst z;rw[y]at e;cases e;exact#[j.slots,i]
  .exact un.slot b o e (by rw[cz z];exact n) u a
 .by_cases z:b=c
  .rw[z];exact vv
  .exact pL (un.free b o e (by rw[cz z];exact n) a)
 .have z:b≠c:=λz=>by rw[z,l]at e;cases e
  rw[d7 z];exact un.tups b Y (by rw[cz z];exact e)
 .have z:b≠c:=λz=>by rw[z,l]at e;cases e
  rw[d7 z];exact un.frzs b o w (by rw[cz z];exact e)
 .have z:b≠c:=λz=>by rw[z,l]at e;cases e
  rw[d7 z];exact un.tbls b ps (by rw[cz z];exact e)
def OK{x y:Str}{k j:Nat}{ps:Ss}{sp:Sp}{c:Ad}{l:List V}{e:Expr}{C:List Expr}{t:TA}{p A:Pos}{E:XK}(cl:CalleeDX X.prog X.w X.K X.mg X.base x k ps sp l)(hr:Room k X.A)(hx:nC (CX1 X.prog X.w) X E)(hg:Gl X x)(hN:X.N[j]?=some y) (N:X.env.cells.lookup y=some c) (D:X.env.scope.names.lookup y=some .cell) (O:X.fn y=true) (ha:PA X (e::C) t)(T:(x==("__debug__":Str))=false:=by decide) (he:starEach (e::C) X.env=(false,eval e X.env)::starEach C X.env:=by rfl) (U:(backTo A (starEach C X.env)).any (·.1)=false:=by rfl):
  PE X (.Call (.Name x p) (e::C) [] A) (Mc sp l E j c t):=by
 obtain⟨f,fd,Y,F,hm,hk,B,hd⟩:=cl;intro g s a H Q I h;refine n6 (oR I hg hm ?_ T);refine vN (h₀:=X.base) I.ok.mod.kin hk (cS (ha A g s a H _ I h) λG J ⟨vs,H1,d,r,m,hj,q⟩=>#[d.kIn,?_]) he U;have n:H1 c=none:=d.freeC y c N;obtain⟨mm,hn,look⟩:=d.loc;obtain⟨u,ru,lk⟩:=look j y (.ref m) hN hj (.inr (.inl D));cases ru;obtain⟨oc,ec,dc⟩:J.heap.IsCell c (some (.ref m)):=by
  rcases lk with⟨z,_⟩|⟨_,c',L,ic⟩
  .have z':X.env.scope.names.lookup y=some .local:=z;rw[D]at z';cases z'
  .rw[N]at L;cases L;exact ic
 have q1:=q oc n;have r2:Vals (vs++l) (G++Y):=r.append hd;have hl:(G++Y).length=ps.length:=by rw[<-r2.length];exact F.len _ _ _ _ q1
 have e1:Env0 X.prog X.w X.K X.mg X.base X.A X.stack J (cq H1 c (dY c m oc)):=by
  have v:=d.env0;have i:=d.ok.cab y c O N;have nb:∀b o,X.base.get? b=some o->b≠c:=λb o e z=>by
   subst z;exact wC (fJ (dm e) (dy d.ok.bsz i)) (mv _)
  have nf:∀b∈dD X.stack,b≠c:=λb B z=>by
   subst z
   rcases dL.mp (d.stkSub b B)with w|w
   .exact d.cne y b N w
   .obtain⟨_,o,ho,_⟩:=d.ok.funs.mem w;exact wC (fJ (dm ho) i) (mv _)
  exact#[v.frames,v.mod,λb o e=>#[(v.bs b o e).1,by rw[cz (nb b o e)];exact(v.bs b o e).2],v.bsz,v.funs,λb B=>by rw[cz (nf b B)];exact v.frf b B,v.hok.back n (Ep ec dc),v.bare]
 refine oF (mJ (F.run X.A X.stack J _ #[G,[]] (G++Y) (vs++l) _ _ hr e1 (B J G d.kIn hl) r2 q1) λr s' M=>?_);cases r with
 |error e=>exact hx g a H1 J e s' d (CX1.afterC n ec M)
 |ok fl=>
  cases fl with
  |ret u=>exact d.afterC n ec M
  |next=>exact wE M
  |brk=>exact wE M
  |cont=>exact wE M
end
section
variable{P:Pg}{w:World}{K:P3}{mg:SV}{a:Heap}{x:Str}{st:Stmt}{f:Ad}{i:Fd}{j g:Vl}{N c:Ss}{k:Nat}{e:Sp}
def DefAt.fnOkX(d:DefAt K x st f i j g)(p:FnScope N c (cN st))(len:∀m H Q E,e m H Q E->m.length=c.length)(b:∀A l s H m Q E,e m H Q E->Room k (A.deeper (envOfC x (cN st) s.heap.objs.size f g))->∃t:TS,t #[λ_ r=>Q .non r,Q,λ_ _=>False,λ_ _=>False] (start N m) H/\PSs (nR (CX1 P w) P w K mg a N x (cN st) f g A l s H E) (fg st) t):FnOk P w K mg a (CX1 P w) (k+1) f i c e:=by
 obtain⟨n,⟨kV,u,y,z,B,rfl⟩,_,_,_,lk⟩:=d;refine zA lk n p len λA l s H m Q E v o=>?_;obtain⟨t,q,h⟩:=b A l s H m Q E o v;exact#[t,h,q]
end
def FnOk.calm{P:Pg}{w:World}{K:P3}{mg:SV}{a:Heap}{k:Nat}{f:Ad}{g:Fd}{i:Ss}{j d:Sp}(F:FnOk P w K mg a (CX1 P w) k f g i j)(h:∀c H Q E,d c H Q E->j c H Q E0):FnOk P w K mg a da k f g i d:=
 #[λc H Q E q=>F.len c H Q E0 (h _ _ _ _ q),λA b s H args m c Q E n o p t u=>mJ (F.run A b s H args m c Q E0 n o p t (h _ _ _ _ u)) λr x l=>by
  cases r with
  |error e=>
   obtain⟨_,_,_,_,_,_,_,_,_,_,z⟩:=l;exact z.elim
  |ok v=>cases v<;>exact l]
def CalleeDX.calm{P:Pg}{w:World}{K:P3}{mg:SV}{base:Heap}{x:Str}{k:Nat}{j:Ss}{l g:Sp}{i:List V}(c:CalleeDX P w K mg base x k j l i)(h:∀m H Q E,g m H Q E->l m H Q E0):xA P w K mg base x k j g i:=
 let⟨f,n,o,F,a,b,d,e⟩:=c;#[f,n,o,F.calm h,a,b,d,e]
def CalleeDX.imp{P:Pg}{w:World}{K:P3}{mg:SV}{base:Heap}{x:Str}{k:Nat}{j:Ss}{l g:Sp}{i:List V}(c:CalleeDX P w K mg base x k j l i)(h:∀m H Q E,g m H Q E->l m H Q E):CalleeDX P w K mg base x k j g i:=
 let⟨f,n,o,F,a,b,d,e⟩:=c;#[f,n,o,F.imp h,a,b,d,e]
def c8d{l:PySem.W.OpenLaw}{n k:Nat}{q:Pg}{i:Ss}{Q:SV->Heap->Prop}{z:World->Heap->Prop}{d:DefRec}{K:Params->P3}{sp:World->Sp}{x:Str}{tabs:As}(T:l.most=some n) (A:n<=sizeLine) (B:d.params.defaults=[]) (U:Room k callerA) (hY:∀(w:World) (h:Heap),z w h->(K w.params).In h)(hT:∀w:World,∀t∈tabs,(K w.params).lookup t=none/\((∃y c,PySem.W.tabIn (K w.params) y=some (c,t)/\∃e,(recsOf q).find? (λr=>r.name==y)=some e)\/((∃c,PySem.W.codeHdIn (K w.params) c t=true)/\∀h,z w h->h.get? t=some (PySem.W.tabObj #v[]))))(F:∀(w:World) (mg:SV) (fa:Ad) (h:Heap),(K w.params).In h->h.Ns mainGlobals mg->mg d.name=some (.ref fa)->
   ∃D:Fd,(∀(s:Sh) (u:Vl),BindsTo s D #[[u],[]] [(x,u)])/\∀b:Heap,(K w.params).In b->b.Ns mainGlobals mg->m9 mg b->FnOk l.prog w (K w.params) mg b da k fa D [x] (sp w))(E:∀(w:World) (H:Hp) (a:Ad) (p:Zs),p.length<=n->(∀t∈tabs,H t=some (.tbl #v[]))->SqL (K w.params) H a (p.map V.int)->sp w [.ref a] H (λv _=>v=.bl true) λ_ _ _=>False):
  PySem.W.WalkO q i Q z l.row.toRowW d [] (λf L=>PySem.call f L):=by
 refine Att.attach_call T B λw M N mg mb fa o pm cd aa a L p G Y ho hd ab hmg m j g hg=>?_;have KX:=hY w _ Y;obtain⟨D,hb,hF⟩:=F w mg fa _ KX G.T.g hmg;refine Oi (tabs:=tabs) KX G.T.g G.T.b G.T.builtins G.T.nolimit hg G.T.bmain m j (dy g A) U (λt ht=>?_) hF hb (λH hH hS=>E w H a p g hH hS);obtain⟨O,⟨y,c,I,e,J⟩|⟨⟨c,I⟩,J⟩⟩:=hT w t ht
 .obtain⟨C,eP⟩:=PySem.W.tab_of G.T KX J I;exact#[O,c,C.tab eP]
 .exact#[O,c,(PySem.W.codeHd_of_K KX I).tab (J _ Y)]
section
variable{X:Cx}
def ET(d e:TE):TE:=λc H Q=>∀p,H p=none->d c (cq H p (.dT [])) λx f=>e c f λy a=>a p=some (.dT [])/\∃b k,x=.ref b/\a b=some (.tup (k.map kV))/\Q (.ref p) (cq a p (.dT [(k,y)]))
def Em{k v:Expr}{A B:TE}{pos:Pos}(hu:X.A.units+1<cLine)(D:PE X k A)(E:PE X v B):PE X (.Dict [some k] [v] pos) (ET A B):=by
 intro J s L H Q I q;have M:=I.hok.fresh (cQ s.heap.objs.size);have N:=I.laid (a:=s.heap.objs.size) (o:= .dT []) (h':=s.heap.push {cls:= .type "dict",data:= .dict #v[]}) (t':=s.toks) (λ_ _ q=>dC _ q) (cQ _) (Gy s.heap I.big);have pairs:=Lu (X:=X) (pos:=pos) D E MD;have O:=q s.heap.objs.size M;rw[arm_eval_Dict];refine cr (vS ?_);have d:(evalEachOpt [some k] X.env).zip ((evalEach [v] X.env).map λv=>do let x <-v;standAt pos;pure x)=(pairTrees [some k] [v] X.env pos).map λp=>(some p.1,p.2):=rfl;rw[d,dictDisplay_pairs _ (by intro z;cases z) (by show 1<17;decide)];refine cr ?_;unfold subDict;refine cr (wpAny_alloc (cr (iS ?_)));rw[wB (by show 1<=15;decide)]
 let G:List (V×V)->Hp->Prop:=λf i=>match f with| [(x,y)]=>i s.heap.objs.size=some (.dT [])/\∃b k,x=.ref b/\i b=some (.tup (k.map kV))/\Q (.ref s.heap.objs.size) (cq i s.heap.objs.size (.dT [(k,y)]))|_=>False
 refine cr (cS (pairs J _ L _ G N O) λT s2 ⟨f,i,l,m,g⟩=>?_);obtain⟨x,y,rfl⟩:∃x y,f=[(x,y)]:=by
  cases f with
  |nil=>exact wE g
  |cons p f=>
   cases f with
   |nil=>exact#[p.1,p.2,zZ]
   |cons _ _=>exact wE g
 obtain⟨e,b,c,rfl,n,U⟩:=g;obtain⟨u,r,rfl,Y,rr⟩:∃u r,T=[(u,r)]/\RelV (.ref b) u/\RelV y r:=by
  cases m with
  | @cons _ q _ qs h t=>
   cases t;exact#[q.1,q.2,zZ,h.1,h.2]
 cases Y;obtain⟨z,hd,xs,kt,dd⟩:=DP l.hok e;cases kt;refine iS ?_;simp only[List.forIn_cons,List.forIn_nil];refine cr (cr (cr (wpAny_dictSet_heap (show X.A.units<cLine by lia) (vy l.hok n) dd (λh' w hs=>?_) (by show 0<=_;exact g7 _))));refine cF (cF (cF (cF ?_)));obtain⟨o,es,ep,C,h2,h3,h4,_,h5⟩:=w;have j:cq i s.heap.objs.size (.dT [(c,y)]) b=some (.tup (c.map kV)):=by
  rw[cz (nE n e)];exact n
 have ok:ObjOk X.prog X.w (cq i s.heap.objs.size (.dT [(c,y)])) h' s.heap.objs.size (.dT [(c,y)]):=#[by show 1<=sizeLine;decide,hd,_,.cons #[zZ,j,rr] .nil,o,es,ep,C,h2,h3,h4,h5];exact cF #[.ref s.heap.objs.size,_,CC l (by rw[e];exact True.intro) hs #[o,C] ok,rfl,U]
end
inductive dJ(G:Hp->Prop)(U:LN)(L:Nat)(g:cn->Nat->List Nat)(b:List V)(H:Hp)(Q:VK)(a:XK):Prop|mk:∀(t:Ad) (x:cn) (l:Nat),b=[.ref t,nv l]->G H->H t=some (.tup (x.map nv))->x∈U->l<L->vz H ((g x l).map nv) Q->dJ G U L g b H Q a
def ThAt(H:Hp)(l:Ad)(b:TW):Prop:=∃a:As,H l=some (.lst (a.map .ref))/\a.length=b.length/\∀(j:Nat) (t:Ad) (p:cn×cn),a[j]?=some t->b[j]?=some p->H t=some (.tup (p.1.map nv))
def ThAt.same{H a:Hp}{l:Ad}{b:TW}(h:ThAt H l b)(g:Same H a):ThAt a l b:=by
 obtain⟨c,d,e,f⟩:=h;exact#[c,g _ _ d,e,λj t p i k=>g _ _ (f j t p i k)]
def ThAt.more{H:Hp}{l t:Ad}{c:TW}{d:As}{p:cn×cn}(i:H l=some (.lst (d.map .ref)))(f:d.length=c.length)(k:∀(j:Nat) (t:Ad) (p:cn×cn),d[j]?=some t->c[j]?=some p->H t=some (.tup (p.1.map nv)))(ht:H t=some (.tup (p.1.map nv))):
  ThAt (cq H l (.lst (d.map .ref++[.ref t]))) l (c++[p]):=by
 have g:∀{a:Ad} {m:List V},H a=some (.tup m)->a≠l:=λh=>nE h i;refine#[d++[t],by rw[cw,eV];rfl,by simp[f],λj a q e b=>?_];by_cases n:j<c.length
 .rw[fu ()]at e;rw[fu n]at b;have z:=k j a q e b;rw[cz (g z)];exact z
 .rw[fV ()]at e;rw[fV ()]at b;have z:j-c.length=0:=by
   have:=(cK.mp b).1;simp at this;lia
  rw[f,z]at e;rw[z]at b;cases e;cases b;rw[cz (g ht)];exact ht
structure Srch(H0 H:Hp)(D wa fa:Ad)(ts:As)(ws wv fo:TW)(as:As):Prop where
 g:Same H0 H
 nD:H0 D=none
 nF:H0 fa=none
 W:WordsAt H D ws as
 wl:H wa=some (.lst (ts.map .ref))
 wt:∀(j:Nat) (t:Ad) (p:cn×cn),ts[j]?=some t->wv[j]?=some p->H t=some (.tup (p.1.map nv))
 foll:ThAt H fa fo
 wf:wa≠fa
 fas:fa∉as
 new:∀b∈as,H0 b=none
def Srch.same{a H b:Hp}{D c fa:Ad}{d:As}{e f g:TW}{h:As}(S:Srch a H D c fa d e f g h)(k:Same H b):Srch a b D c fa d e f g h:=
 #[S.g.trans k,S.nD,S.nF,S.W.same k,k _ _ S.wl,λj t p i l=>k _ _ (S.wt j t p i l),S.foll.same k,S.wf,S.fas,S.new]
def Srch.more{k H:Hp}{D n fa l t:Ad}{tw:As}{f v g:TW}{i d:As}{p:cn×cn}(S:Srch k H D n fa tw f v g i)(y:H l=some (.lst (p.2.map nv)))(w:l≠fa)(A:k l=none)(ht:H t=some (.tup (p.1.map nv)))(o:H fa=some (.lst (d.map .ref))) (B:d.length=g.length) (C:∀(j:Nat) (t:Ad) (p:cn×cn),d[j]?=some t->g[j]?=some p->H t=some (.tup (p.1.map nv))):
  Srch k (cq (cq H D (.dT (a3x f i++[(nk p.1,.ref l)]))) fa (.lst (d.map .ref++[.ref t]))) D n fa tw (f++[p]) v (g++[p]) (i++[l]):=by
 have x:fa≠D:=nE o S.W.dict;have r:∀{a:Ad} {s:List V},H a=some (.tup s)->a≠D:=λh=>nE h S.W.dict;have E:n≠D:=nE S.wl S.W.dict;have G:∀{a:Ad} {s:List V},H a=some (.tup s)->a≠fa:=λh=>nE h o;have u:=S.W.put (l:=l) (p:=p) y;have I:(cq H D (.dT (a3x f i++[(nk p.1,.ref l)]))) fa=some (.lst (d.map .ref)):=by rw[cz x];exact o
 refine#[i6 (i6 S.g S.nD) S.nF,S.nD,S.nF,#[u.len,?_,λj a q c e=>?_],?_,λj a q c e=>?_,?_,S.wf,?_,λb J=>(dh.mp J).elim (S.new b) λm=>by rw[cY.mp m];exact A]
 .rw[cz (eJ x)];exact u.dict
 .have L:a≠fa:=λz=>by
   subst z
   rcases dh.mp (c8 c)with m|m
   .exact S.fas m
   .exact w (cY.mp m).symm
  rw[cz L];exact u.list j a q c e
 .rw[cz S.wf,cz E];exact S.wl
 .have z:=S.wt j a q c e;rw[cz (G z),cz (r z)];exact z
 .refine ThAt.more I B (λj a q c e=>?_) ?_
  .have z:=C j a q c e;rw[cz (r z)];exact z
  .rw[cz (r ht)];exact ht
 .intro m
  rcases dh.mp m with m|m
  .exact S.fas m
  .exact w (cY.mp m).symm
section
variable{X:Cx}{c:Hp}{a st D e fa:Ad}{k:Fd}{h:Ss}{b:cn}{L:Nat}{U:LN}{g:cn->Nat->List Nat}
def Kb{d i j:Nat}{a c e:TW}(h:b∈U)(k:∀x∈U,∀l,l<L->g x l∈U)(B:Bfs g L b d a c e i j):a.length<=U.length:=by
 rw[<-cu (f:=(·.1)) (as:=a)];exact jf B.keys λx m=>by
  obtain⟨p,n,rfl⟩:=cT.mp m;obtain⟨o,q⟩:=B.run p n;rw[<-q];exact mX h k p.2 o
end
abbrev se(G:TW->Prop)(b:Sp)(c:V)(d:XK)(g:cn->Nat->List Nat)(L:Nat)(e:cn)(f:Hp):Prop:=∀(H:Hp) (D:Ad) (a:TW) (h:As) (Q:VK),Same f H->WordsAt H D a h->(a.map (·.1)).Nodup->(∀p∈a,(∀l∈p.2,l<L)/\cJ g e p.2=p.1)->(G a->Q .non H)->b [.ref D,c] H Q d
section
variable{G:TW->Prop}{sR:Sp}{mo:V}{EE:XK}{X:Cx}{n:Hp}{a st D r fa:Ad}{s:Fd}{u:Ss}{o:cn}{L:Nat}{U:LN}{g:cn->Nat->List Nat}
abbrev Ga(X:Cx)(sR:Sp)(EE:XK):TS:=m8 (pG (Gm X 2 (jd (dG 7) (jd (dG 8) jh))) (iw 9)) (tm (tB (IN (dG 9) (dG 4)))
 (m8 (Iw (dG 4) (dG 9) (wq (mZ X.K) (Fu (dG 4) (dG 7)) (x6 (jd (dG 8) jh)))) (m8 (xv (qp sR [] EE (jd (dG 4) (jd (dG 3) jh)))) (xv (Bo X.K "list" gP (dG 6) (jd (dG 9) jh))))) G6)
def IX{d i j:Nat}{b Q M:TW}{T ts:As}{C:Ad}{t:cn×cn}{H:Hp}{En:Ends}{o9:Option V}(hR:se G sR mo EE g L o n)(hr:Room 5 X.A)(Y:n st=some (gD st s))(h0:o∈U)(hU:∀x∈U,∀l,l<L->g x l∈U)(few:U.length<=4000)(hF:FnOk X.prog X.w X.K X.mg X.base da 5 st s u (dJ (Same n) U L g)) (hB:Binds X.K s u []) (gw:G b) (B:Bfs g L o d b Q M i j) (ht:Q[i]?=some t) (hj:j<L) (hd:d+1<=b.length) (S:Srch n H D r fa ts b Q M T) (aa:H C=some (.tup (t.1.map nv)))(next:∀A I ae H' v,G A->Bfs g L o d A Q I i (j+1)->Srch n H' D r fa ts A Q I ae->A.length+M.length=b.length+I.length->H' C=some (.tup (t.1.map nv))->En.nx [some (.ref a),some (nv L),some (.ref st),some mo,some (.ref D),some (.ref r),some (.ref fa),some (.ref C),some (nv j),some v] H'):
  Ga X sR EE En [some (.ref a),some (nv L),some (.ref st),some mo,some (.ref D),some (.ref r),some (.ref fa),some (.ref C),some (nv j),o9] H:=by
 have tw:=(B.wave t (c8 ht)).1;have tU:t.1∈U:=by
  obtain⟨r1,r2⟩:=B.run t tw;rw[<-r2];exact mX h0 hU t.2 r1
 have ai:b.length<=4000:=by
  have z:(b.map (·.1)).length<=U.length:=jf B.keys λx hx=>by
   obtain⟨p,w,rfl⟩:=cT.mp hx;obtain⟨r1,r2⟩:=B.run p w;rw[<-r2];exact mX h0 hU p.2 r1
  rw[cu]at z;lia
 refine#[_,zZ,st,s,zZ,S.g _ _ Y,_,zZ,_,zZ,S.g _ _ Y,5,u,_,hF,hr,hB,C,t.1,j,zZ,S.g,aa,tU,hj,λfn H1 g1 N=>?_];have E:=S.same g1;have m:=g1 _ _ aa;refine#[_,zZ,_,zZ,D,_,zZ,DGet.t E.W.dict (by rw[iu];exact N),_,zZ,?_];by_cases O:g t.1 j∈b.map (·.1)
 .obtain⟨p,w,e⟩:=cT.mp O;obtain⟨c,v1,_⟩:=E.W.word B.keys w;rw[<-e,v1];rw[wA (by simp)];exact next b M T H1 _ gw (B.old ht O) E zZ m
 .rw[vR O];refine gJ ?_;obtain⟨tw,tl⟩:=B.wave t (c8 ht);obtain⟨c,v1,v2⟩:=E.W.word B.keys tw;have dg:DGet H1 D (.ref C) (some (.ref c)):=v1▸DGet.t E.W.dict (by rw[iu];exact m);refine#[_,zZ,_,zZ,D,_,zZ,dg,_,zZ,by show 1<=sizeLine;decide,λp w=>?_];have k2:=cM w (.lst [nv j]);refine#[c,p,_,_,zZ,zZ,P1 (k2 _ _ v2),P1 cw,by rw[cu,tl,dA];show d+1<=_;lia,λl hl=>?_];have k3:=k2.trans (cM hl (.lst (t.2.map nv++[nv j])));have y:=E.same k3;have e3:=k3 _ _ N;have J:cq (cq H1 p (.lst [nv j])) l (.lst (t.2.map nv++[nv j])) l=some (.lst ((t.2++[j]).map nv)):=by rw[cw,eV];rfl
  have k:=k3 _ _ m;obtain⟨tf,f1,f2,f3⟩:=y.foll;have lf:l≠fa:=λz=>by
   obtain⟨_,q1,_⟩:=E.foll;have q2:=k2 _ _ q1;rw[<-z,hl]at q2;cases q2
  generalize cq (cq H1 p (.lst [nv j])) l (.lst (t.2.map nv++[nv j]))=H3 at y e3 J k f1 f3|-;refine#[_,zZ,_,zZ,D,_,zZ,DPut.t y.W.dict (by rw[iu];exact e3) (by rw[vG y.W.len,dA];lia),?_];rw[wL _ (vR O)];have fD:fa≠D:=nE f1 y.W.dict;have af:C≠D:=nE k y.W.dict;have ag:C≠fa:=nE k f1;have ab:(cq H3 D (.dT (a3x b T++[(nk (g t.1 j),.ref l)]))) fa=some (.lst (tf.map .ref)):=by rw[cz fD];exact f1
  have fl:tf.length<=4000:=by
   have z:(M.map (·.1)).length<=b.length:=by
    rw[<-cu (f:=(·.1)) (as:=b)];refine jf ?_ λx hx=>?_
    .refine(yC.mpr (B.fup.imp_of_mem λ{p q} w hq h z=>?_));have r1:=(B.run p (B.foll p w).1).2;have r2:=(B.run q (B.foll q hq).1).2;obtain⟨i1,N⟩:=gy.mp (B.foll p w).1;obtain⟨i2,e2⟩:=gy.mp (B.foll q hq).1;have ii:i1=i2:=(ig (by rw[cu];exact(cK.mp N).1) B.keys).mp (by rw[cV,cV,N,e2];exact dw some z);subst ii;rw[N]at e2;cases e2;exact y6 h
    .obtain⟨p,w,rfl⟩:=cT.mp hx;exact cT.mpr #[p,(B.foll p w).1,zZ]
   rw[cu]at z;lia
  have Bn:=B.new ht hj O;refine#[_,zZ,_,zZ,hR _ D (b++[(g t.1 j,t.2++[j])]) (T++[l]) _ (i6 y.g y.nD) (y.W.put (l:=l) (p:=(g t.1 j,t.2++[j])) J) Bn.keys Bn.run λah=>?_];refine#[_,zZ,.inl #[zZ,_,P1 ab],_,zZ,fa,_,_,zZ,zZ,ab,by rw[cu,dA];lia,?_];exact next (b++[(g t.1 j,t.2++[j])]) (M++[(g t.1 j,t.2++[j])]) (T++[l]) _ _ ah (B.new ht hj O) (y.more (p:=(g t.1 j,t.2++[j])) J lf ((E.g.trans k2).free hl) e3 f1 f2 f3) (by simp;lia) (by rw[cz ag,cz af];exact k)
abbrev GG(X:Cx)(sR:Sp)(EE:XK):TS:=ua (HK X.K (dG 5)) (iw 7) (ua (IV (jd (dG 1) jh)) (iw 8) (Ga X sR EE))
def OC{d:Nat}{c f:TW}{C y:As}{H:Hp}{En:Ends}{A k m:Option V}(hR:se G sR mo EE g L o n)(hr:Room 5 X.A)(T:n st=some (gD st s))(h0:o∈U)(hU:∀x∈U,∀l,l<L->g x l∈U)(few:U.length<=4000)(aa:L<=4000)(hF:FnOk X.prog X.w X.K X.mg X.base da 5 st s u (dJ (Same n) U L g)) (hB:Binds X.K s u []) (gw:G c) (B:Bfs g L o d c f [] 0 0) (hd:d+1<=c.length) (S:Srch n H D r fa y c f [] C) (lt:y.length=f.length)(next:∀b e h q A k m,G b->Bfs g L o d b f e f.length 0->Srch n q D r fa y b f e h->b.length=c.length+e.length->En.nx [some (.ref a),some (nv L),some (.ref st),some mo,some (.ref D),some (.ref r),some (.ref fa),A,k,m] q):
  GG X sR EE En [some (.ref a),some (nv L),some (.ref st),some mo,some (.ref D),some (.ref r),some (.ref fa),A,k,m] H:=by
 let Pv:Nat->L2.St->Hp->Prop:=λi w q=>∃b e h A k m,G b/\Bfs g L o d b f e i 0/\Srch n q D r fa y b f e h/\b.length=c.length+e.length/\
  w=[some (.ref a),some (nv L),some (.ref st),some mo,some (.ref D),some (.ref r),some (.ref fa),A,k,m]
 refine#[_,zZ,r,zZ,#[_,P1 S.wl],yf (xs:=y.map .ref) Pv #[c,[],C,A,k,m,gw,B,S,by simp,zZ] (λi w q _ p=>?_) (λi x w q hx p=>?_) (λw q p=>?_)]
 .obtain⟨_,_,_,_,_,_,_,_,E,_⟩:=p;exact P1 E.wl
 .obtain⟨b,e,h,p7,Y,p9,g1,O,E,l1,rfl⟩:=p;rw[cV]at hx;obtain⟨th,I,rfl⟩:=eW.mp hx;obtain⟨hi,_⟩:=cK.mp I;obtain⟨t,ht⟩:∃t,f[i]?=some t:=#[_,cA ()]
  let Pj:Nat->L2.St->Hp->Prop:=λj w H2=>∃b e h k m,G b/\Bfs g L o d b f e i j/\Srch n H2 D r fa y b f e h/\b.length=c.length+e.length/\
   w=[some (.ref a),some (nv L),some (.ref st),some mo,some (.ref D),some (.ref r),some (.ref fa),some (.ref th),k,m]
  refine#[_,zZ,(L:Int),zZ,(),(),oX Pj #[b,e,h,Y,p9,g1,O,E,l1,zZ] (λj w H2 hj p=>?_) (λw H2 p=>?_)]
  .obtain⟨J,M,N,q8,q9,g2,B2,Q,l2,rfl⟩:=p;have z:(0:Int)+((j:Nat):Int)=((j:Nat):Int):=by lia
   rw[z];refine IX (t:=t) hR hr T h0 hU few hF hB g2 B2 ht (by simpa using hj) () Q (Q.wt i th t I ht) λw3 f3 a3 H3 v g3 B3 S3 l3 _=>#[w3,f3,a3,_,_,g3,B3,S3,(),zZ]
  .obtain⟨J,M,N,q8,q9,g2,B2,Q,l2,rfl⟩:=p;exact#[J,M,N,_,_,_,g2,Bfs.next (by simpa using B2) ht,Q,l2,zZ]
 .obtain⟨b,e,h,p7,Y,p9,g1,O,E,l1,rfl⟩:=p;rw[cu,lt]at O;exact next b e h q p7 Y p9 g1 O E l1
abbrev LK(X:Cx)(sR:Sp)(EE:XK):TS:=m8 (pG (ET (dG 0) (x6 jh)) (iw 4)) (m8 (xv (qp sR [] EE (jd (dG 4) (jd (dG 3) jh)))) (m8 (pG (x6 (jd (dG 0) jh)) (iw 5))
 (m8 (Fw (λc a Q=>dG 5 c a λx b=>∃k,sv X.K x b k/\Q k b) (m8 (pG (x6 jh) (iw 6)) (m8 (GG X sR EE) (pG (dG 6) (iw 5))))) (sf (dG 4)))))
def Fj{En:Ends}(hR:se G sR mo EE g L o n)(hr:Room 5 X.A)(ha:n a=some (.tup (o.map nv)))(aa:n st=some (gD st s))(h0:o∈U)(hU:∀x∈U,∀l,l<L->g x l∈U)(few:U.length<=4000)(I:L<=4000)(hF:FnOk X.prog X.w X.K X.mg X.base da 5 st s u (dJ (Same n) U L g)) (hB:Binds X.K s u []) (q:∀D c k C,Same n C->WordsAt C D c k->(∀b∈D::k,n b=none)->Told g L o c->G c->En.rt (.ref D) C):
  LK X sR EE En [some (.ref a),some (nv L),some (.ref st),some mo,none,none,none,none,none,none] n:=by
 intro D O;have kD:=cM O (.dT []);refine#[_,zZ,by show 0<=sizeLine;decide,λl E=>?_];have kl:=cM E (.lst []);refine#[kl _ _ cw,a,nk o,zZ,by rw[iu];exact(kD.trans kl) _ _ ha,?_];have lD:l≠D:=λz=>by
  subst z;rw[cw]at E;cases E
 have W0:WordsAt (cq (cq (cq n D (.dT [])) l (.lst [])) D (.dT [(nk o,.ref l)])) D [(o,[])] [l]:=#[zZ,cw,λj b p v J=>by
  cases j with
  |zero=>
   cases v;cases J;rw[cz lD,cw];rfl
  |succ j=>simp at v]
 have Q:Same n (cq (cq (cq n D (.dT [])) l (.lst [])) D (.dT [(nk o,.ref l)])):=i6 (kD.trans kl) O;generalize cq (cq (cq n D (.dT [])) l (.lst [])) D (.dT [(nk o,.ref l)])=H1 at W0 Q|-;refine#[_,zZ,_,zZ,hR _ D [(o,[])] [l] _ Q W0 (by simp) (λp hp=>by rw[List.mem_singleton.mp hp];exact#[λl E=>(nomatch E),zZ]) λT=>?_];refine#[_,zZ,by show 1<=sizeLine;decide,λr hw=>?_];have kw:=cM hw (.lst [.ref a])
 let Wv:Nat->L2.St->Hp->Prop:=λm σ H=>∃(d:Nat) (c y:TW) (k:As) (r:Ad) (i:As) (o6 o7 o8 o9:Option V),G c/\Bfs g L o d c y [] 0 0/\WordsAt H D c k/\H r=some (.lst (i.map .ref))/\(∀(j:Nat) (t:Ad) (p:cn×cn),i[j]?=some t->y[j]?=some p->H t=some (.tup (p.1.map nv)))/\i.length=y.length/\Same n H/\(∀b∈k,n b=none)/\
   (y≠[]->d+1<=c.length)/\m=2 * (U.length-c.length)+(if y=[]then 0 else 1)/\σ=[some (.ref a),some (nv L),some (.ref st),some mo,some (.ref D),some (.ref r),o6,o7,o8,o9]
 refine#[Wv,#[_,0,[(o,[])],[(o,[])],[l],r,[a],none,none,none,none,T,Bfs.start,W0.same kw,cw,?_,zZ,Q.trans kw,λb hb=>(by rw[cY.mp hb];exact kD.free E),λ_=>cQ _,zZ,zZ],λm σ H P=>?_]
 .intro j t p v J;cases j with
  |zero=>
   cases v;cases J;exact(Q.trans kw) _ _ ha
  |succ j=>simp at v
 .obtain⟨d,c,y,k,r,i,o6,o7,o8,o9,T,B,W,wl,wt,lt,gg,nw,A,hm,rfl⟩:=P;refine#[_,zZ,!(i.map V.ref).isEmpty,.inl #[_,P1 wl,zZ],?_];by_cases f:y=[]
  .subst f;have e:i=[]:=pP.mp lt;subst e;rw[wA (by simp)];exact#[_,zZ,q D c k H gg W (λb hb=>(dL.mp hb).elim (λe=>e▸O) (nw b)) B.told T]
  .have ne:i≠[]:=λz=>f (pP.mp (by rw[<-lt,z];rfl));have c1:(!(i.map V.ref).isEmpty)=true:=by
    cases i with
    |nil=>exact wC zZ ne
    |cons=>rfl
   rw[c1];refine gJ ?_;refine#[λM C=>∃m',m'<m/\Wv m' M C,λM C h=>h,by show 0<=sizeLine;decide,λfa w=>?_];have Y:=cM w (.lst []);have ab:fa∉k:=λm=>by
    obtain⟨j,e⟩:=gy.mp m;obtain⟨hj,_⟩:=cK.mp e;have z:=W.list j fa _ e (cA (by rw[<-W.len];exact hj));rw[w]at z;cases z
   have S:Srch n (cq H fa (.lst [])) D r fa i c y [] k:=#[gg.trans Y,O,gg.free w,W.same Y,Y _ _ wl,λj t p v J=>Y _ _ (wt j t p v J),#[[],cw,zZ,λj t p v _=>by simp at v],dH wl w,ab,nw];refine OC (En:={En with nx:=_,ct:=_,bk:=_}) hR hr aa h0 hU few I hF hB T B (A f) S lt λN fo ae C p7 p8 p9 af B' S' l'=>?_;obtain⟨tf,f1,f2,f3⟩:=S'.foll;have z1:=Kb h0 hU B';have z2:=A f;refine#[_,zZ,2 * (U.length-N.length)+(if fo=[]then 0 else 1),?_,d+1,N,fo,ae,fa,tf,_,_,_,_,af,B'.wave',S'.W,f1,f3,f2,S'.g,S'.new,λnf=>?_,zZ,zZ]
   .rw[hm,wA f];by_cases hf:fo=[]
    .subst hf;rw[wB zZ];simp at l';lia
    .have:=List.length_pos_iff.mpr hf;rw[wA hf];lia
   .have:=List.length_pos_iff.mpr nf;lia
end
structure Que(f:cn->Nat->List Nat)(L:Nat)(x0:cn)(ws:TW)(i j:Nat):Prop where
 head:ws[0]?=some (x0,[])
 keys:(ws.map (·.1)).Nodup
 run:∀p∈ws,(∀l∈p.2,l<L)/\cJ f x0 p.2=p.1
 up:ws.Pairwise λp q=>sl p.2 q.2
 done:∀(a:Nat) p,a<i->ws[a]?=some p->∀l,l<L->Goes f ws p l
 part:∀p,ws[i]?=some p->∀l,l<j->Goes f ws p l
 front:∀t,ws[i]?=some t->∀p∈ws,sl p.2 (t.2++[j])
 short:∀(a:Nat) p,ws[a]?=some p->p.2.length<=a
section
variable{f:cn->Nat->List Nat}{L:Nat}{c:cn}{b:TW}{i j:Nat}{t:cn×cn}
def Que.start:Que f L c [(c,[])] 0 0 where
 head:=rfl
 keys:=by simp
 run:=λp b=>by
  rw[cY.mp b];exact#[λl d=>(nomatch d),zZ]
 up:=oS _ _
 done:=λa p h=>wC h (mQ _)
 part:=λp _ l h=>wC h (mQ _)
 front:=λt _ p b=>by
  rw[cY.mp b];exact .inl (by simp)
 short:=λa p h=>by
  have z:p∈[(c,([]:cn))]:=c8 h;rw[cY.mp z];exact g7 _
def Que.old(q:Que f L c b i j)(ht:b[i]?=some t)(h:f t.1 j∈b.map (·.1)):Que f L c b i (j+1):=by
 refine#[q.head,q.keys,q.run,q.up,q.done,λp a l n=>?_,λo d p a=>?_,q.short]
 .by_cases e:l<j
  .exact q.part p a l e
  .have k:l=j:=by lia
   subst k;rw[ht]at a;cases a;obtain⟨r,g,m⟩:=cT.mp h;exact#[r.2,by rw[<-m];exact g,.inr (q.front t ht r g)]
 .rw[ht]at d;cases d;exact pX (q.front t ht p a) (u0 _ (mN _))
def Que.new(q:Que f L c b i j)(ht:b[i]?=some t)(u:j<L)(h:f t.1 j∉b.map (·.1)):Que f L c (b++[(f t.1 j,t.2++[j])]) i (j+1):=by
 obtain⟨G,_⟩:=cK.mp ht;have g:∀{a:Nat} {p:cn×cn},a<=i->(b++[(f t.1 j,t.2++[j])])[a]?=some p->b[a]?=some p:=λ{a p} o e=>by
  rwa[fu ()]at e
 refine#[?_,?_,λp d=>?_,?_,λa p o d l m=>?_,λp d l m=>?_,λH n p d=>?_,λa p d=>?_]
 .rw[fu ()];exact q.head
 .rw[eV,zf];refine#[q.keys,by simp,λx v y w=>?_];have e:y=f t.1 j:=by simpa using w
  subst e;exact λz=>h (z▸v)
 .rcases dh.mp d with z|z
  .exact q.run p z
  .rw[cY.mp z];obtain⟨A,B⟩:=q.run t (c8 ht);refine#[λl m=>?_,?_]
   .rcases dh.mp m with y|y
    .exact A l y
    .rw[cY.mp y];exact u
   .show(t.2++[j]).foldl f c=f t.1 j;rw[nB,<-B];rfl
 .refine iJ.mpr #[q.up,oS _ _,λp d r C=>?_];rw[cY.mp C];exact q.front t ht p d
 .exact(q.done a p o (g () d) l m).more
 .have k:=g (cQ _) d;by_cases e:l<j
  .exact(q.part p k l e).more
  .have D:l=j:=by lia
   subst D;rw[ht]at k;cases k;exact#[_,gf _ (cY.mpr zZ),.inl zZ]
 .have e:=g (cQ _) n;rw[ht]at e;cases e
  rcases dh.mp d with z|z
  .exact pX (q.front t ht p z) (u0 _ (mN _))
  .rw[cY.mp z];exact u0 _ (mN _)
 .by_cases e:a<b.length
  .rw[fu e]at d;exact q.short a p d
  .have s:=(cK.mp d).1;rw[eh]at s;have E:a=b.length:=by
    have:a<b.length+1:=s;lia
   rw[E,fV (cQ _),oN]at d;cases d;have:=q.short i t ht
   simp;lia
def Que.next(q:Que f L c b i L)(ht:b[i]?=some t):Que f L c b (i+1) 0:=by
 refine#[q.head,q.keys,q.run,q.up,λa p r d=>?_,λp _ l h=>wC h (mQ _),λs g p d=>?_,q.short]
 .by_cases e:a<i
  .exact q.done a p e d
  .have j:a=i:=by lia
   subst j;exact q.part p d
 .obtain⟨k,m⟩:=cK.mp ht;obtain⟨n,o⟩:=cK.mp g;have up:=pc.mp q.up i (i+1) k n (mN _);rw[m,o]at up;exact pX (q.front t ht p d) (B0 up)
def Que.told(q:Que f L c b i j)(h:b.length<=i):Told f L c b:=by
 refine#[q.head,q.keys,q.run,q.up,λp d=>?_,λp d=>?_]
 .obtain⟨a,e⟩:=gy.mp d;exact q.done a p (by have:=(cK.mp e).1;lia) e
 .obtain⟨a,e⟩:=gy.mp d;have:=(cK.mp e).1;have:=q.short a p e;lia
end
def N9{g:TW}{d:As}{k:List dq}{a:Ad}(h:fH (a3x g d) k=some (.ref a)):a∈d:=by
 unfold fH at h;obtain⟨m,j,l⟩:=eW.mp h;obtain⟨i,c⟩:=gy.mp (List.mem_of_find?_eq_some j);unfold a3x at c;rw[List.getElem?_zipWith]at c;cases e:g[i]? with
 |none=>rw[e]at c;cases c
 | some p=>
  cases f:d[i]? with
  |none=>rw[e,f]at c;cases c
  |some b=>
   rw[e,f]at c;cases c;cases l;exact c8 f
section
variable{X:Cx}
inductive yj(K:P3)(a:Bool)(x y:V)(H:Hp)(Q:VK):Prop|mk:∀(l:Ad) (n:Nat) (d:Dt) (c:List Dt) (e:List V),y=.ref l->SqL K H l e->e.length=c.length->Rep K H n d x->((∀(i:Nat) f v,c[i]?=some f->e[i]?=some v->Rep K H n f v))->n<=30->(∀b,(b=true↔d∈c)->Q (.bl (if a then !b else b)) H)->yj K a x y H Q
def Hx{K:P3}{H:Hp}{n:Nat}{d f:Dt}{y z:V}{u:Vl}(g:Rep K H n d y)(j:Rep K H n f z)(k:RelV y u)(l:RelV z u):y=z:=by
 have c:∀{y:V} {d:Dt},Rep K H n d y->RelV y u->(y=.non/\u=.none)\/(∃i t,y=.int i/\u=.int i t)\/(∃x t,y=.str x/\u=.str x t)\/∃a,y=.ref a/\u=.ref a:=λh r=>by
  cases h with
  |non=>exact .inl #[zZ,r]
  |int _ i=>
   obtain⟨t,e⟩:=r;exact .inr (.inl #[i,t,zZ,e])
  |str _ x=>
   obtain⟨t,e⟩:=r;exact .inr (.inr (.inl #[x,t,zZ,e]))
  |lst=>exact .inr (.inr (.inr #[_,zZ,r]))
  |tup=>exact .inr (.inr (.inr #[_,zZ,r]))
 rcases c g k with⟨rfl,e⟩|⟨i,t,rfl,e⟩|⟨x,t,rfl,e⟩|⟨a,rfl,e⟩<;>rcases c j l with⟨rfl,b⟩|⟨o,m,rfl,b⟩|⟨p,m,rfl,b⟩|⟨q,rfl,b⟩<;>rw[e]at b<;>cases b<;>rfl
def Kn{M:AO}{N:St}{H:Hp}{s:Sh}{x:V}{v:Vl}{n:Nat}{d:Dt}{k:List Dt}{l:List V}{c:Vs}(hu:X.A.units+64<cLine)(I:Inv X M N H s)(O:RelV x v)(r:Vals l c)(hl:l.length=k.length)(Q:Rep X.K H n d x)(q:∀(i:Nat) a v,k[i]?=some a->l[i]?=some v->Rep X.K H n a v) (hn:n<=30):∃e:Vl->Bool,(∀u∈c,SeqAt.EqAt X.A.in1 s u v (e u))/\(c.any e=true↔d∈k):=by
 have one:∀(i:Nat) u,c[i]?=some u->∃b a,k[i]?=some a/\SeqAt.EqAt X.A.in1 s u v b/\(b=true↔a=d):=λi u g=>by
  obtain⟨C,_⟩:=cK.mp g;have t:=r.length;obtain⟨y,m⟩:∃y,l[i]?=some y:=#[_,cA ()];obtain⟨a,o⟩:∃a,k[i]?=some a:=#[_,cA ()];obtain⟨u',p,T⟩:=Vals.get r m;rw[g]at p;cases p;obtain⟨b,w,G⟩:=wS I n (A:=X.A.in1) (by show X.A.units+1+n<cLine;lia) (q i a y o m) Q T O;exact#[b,a,o,w,G]
 have f:∀u,∃b,(∃i:Nat,c[i]?=some u)->SeqAt.EqAt X.A.in1 s u v b/\∃(i:Nat) (a:Dt),c[i]?=some u/\k[i]?=some a/\(b=true↔a=d):=λu=>by
  by_cases h:∃i:Nat,c[i]?=some u
  .obtain⟨i,B⟩:=h;obtain⟨b,a,C,t,w⟩:=one i u B;exact#[b,λ_=>#[t,i,a,B,C,w]]
  .exact#[true,λz=>wC z h]
 refine#[λu=>Classical.choose (f u),λu g=>(tz (f u) (gy.mp g)).1,?_];rw[zN];constructor
 .rintro⟨u,g,U⟩;obtain⟨_,i,a,C,t,w⟩:=tz (f u) (gy.mp g);rw[<-w.mp U];exact c8 t
 .intro Y;obtain⟨i,o⟩:=gy.mp Y;obtain⟨C,_⟩:=cK.mp o;have t:=r.length;obtain⟨u,p⟩:∃u,c[i]?=some u:=#[_,cA ()];refine#[u,c8 p,?_];obtain⟨_,j,a,g1,D,g3⟩:=tz (f u) #[i,p];refine g3.mpr ?_;obtain⟨y,m⟩:∃y,l[i]?=some y:=#[_,cA ()];obtain⟨G,_⟩:=cK.mp D;obtain⟨z,E⟩:∃z,l[j]?=some z:=#[_,cA ()];obtain⟨u1,J,r1⟩:=Vals.get r m;obtain⟨u2,L,r2⟩:=Vals.get r E;rw[p]at J;rw[g1]at L;cases J;cases L;have yz:y=z:=Hx (q i d y o m) (q j a z D E) r1 r2;subst yz;exact DL I n (q j a y D E) (q i d y o m)
def L1(b:X.A.units+64<cLine):OpR X (compareOp .NotIn) (yj X.K true):=by
 intro z s A H x y v u Q I c f h;obtain⟨l,n,d,B,C,rfl,g,i,j,k,m,q⟩:=h;cases f;obtain⟨a,r,o,D⟩:=I.list g;obtain⟨e,p,t⟩:=Kn b I c r i j k m;refine SeqAt.notIn_listAt e o.isList (λw hw=>p w (by simpa using hw)) #[.bl _,H,I,zZ,?_];rw[show a.toArray.any e=a.any e by simp];exact q _ t
def zu{x y:Str}{p q e:Pos}{k:Nat}{a:Scope}(S:CompScope X [x,y] a)(f:X.calm=true)(b:a.names.lookup x=some .local)(c:a.names.lookup y=some .local):
  ∀C s H d,PG (gV X [x,y] a C s H d) (.Tuple [.Name x p,.Name y q] k e) (ue X.K 2 (lN (iw 0) (lN (iw 1) wP))):=λC s H d=>
 wH f (nX (gB S.nd zZ (.inl (ut b)) (.inr (ut b))) (nX (gB S.nd zZ (.inl (ut c)) (.inr (ut c))) xu))
end
section
variable{X:Cx}
inductive iT(K:P3)(x:V)(c:List V)(H:Hp)(Q:VK):Prop|mk:∀(l:Ad) (y:V) (n:Nat) (d:Dt) (a:List Dt) (b:List V) (j:Nat),x=.ref l->c=[y]->SqL K H l b->b.length=a.length->Rep K H n d y->((∀(i:Nat) e v,a[i]?=some e->b[i]?=some v->Rep K H n e v))->n<=30->a[j]?=some d->((∀i:Nat,i<j->a[i]? ≠some d))->Q (.int (j:Nat)) H->iT K x c H Q
def Pb{M:AO}{N:St}{H:Hp}{s:Sh}{x:V}{v:Vl}{n:Nat}{d:Dt}{k:List Dt}{l:List V}{c:Vs}(hu:X.A.units+64<cLine)(I:Inv X M N H s)(O:RelV x v)(r:Vals l c)(hl:l.length=k.length)(Q:Rep X.K H n d x)(p:∀(i:Nat) a v,k[i]?=some a->l[i]?=some v->Rep X.K H n a v) (hn:n<=30):∃e:Vl->Bool,(∀u∈c,SeqAt.EqAt X.A.in1 s u v (e u))/\∀(i:Nat) u a,c[i]?=some u->k[i]?=some a->(e u=true↔a=d):=by
 have E:=r.length;have one:∀(i:Nat) u,c[i]?=some u->∃b a,k[i]?=some a/\SeqAt.EqAt X.A.in1 s u v b/\(b=true↔a=d):=λi u g=>by
  obtain⟨w,_⟩:=cK.mp g;obtain⟨y,m⟩:∃y,l[i]?=some y:=#[_,cA ()];obtain⟨a,o⟩:∃a,k[i]?=some a:=#[_,cA ()];obtain⟨u',q,T⟩:=Vals.get r m;rw[g]at q;cases q;obtain⟨b,B,G⟩:=wS I n (A:=X.A.in1) (by show X.A.units+1+n<cLine;lia) (p i a y o m) Q T O;exact#[b,a,o,B,G]
 have f:∀u,∃b,(∃i:Nat,c[i]?=some u)->SeqAt.EqAt X.A.in1 s u v b/\∃(i:Nat) (a:Dt),c[i]?=some u/\k[i]?=some a/\(b=true↔a=d):=λu=>by
  by_cases h:∃i:Nat,c[i]?=some u
  .obtain⟨i,t⟩:=h;obtain⟨b,a,w,E,B⟩:=one i u t;exact#[b,λ_=>#[E,i,a,t,w,B]]
  .exact#[true,λz=>wC z h]
 refine#[λu=>Classical.choose (f u),λu g=>(tz (f u) (gy.mp g)).1,λi u d0 q o=>?_];obtain⟨_,j,a,U,C,Y⟩:=tz (f u) #[i,q];rw[Y];obtain⟨w,_⟩:=cK.mp o;obtain⟨y,m⟩:∃y,l[i]?=some y:=#[_,cA ()];obtain⟨G,_⟩:=cK.mp C;obtain⟨z,D⟩:∃z,l[j]?=some z:=#[_,cA ()];obtain⟨u1,J,r1⟩:=Vals.get r m;obtain⟨u2,L,r2⟩:=Vals.get r D;rw[q]at J;rw[U]at L;cases J;cases L;have yz:y=z:=Hx (p i d0 y o m) (p j a z C D) r1 r2;subst yz;have dd:a=d0:=DL I n (p j a y C D) (p i d0 y o m);rw[dd]
def CP(w:X.A.units+64<cLine):yY X "list.index" (iT X.K):=by
 intro za s σ H x vs v us Q I A B h;obtain⟨l,y,m,d,C,xs,j,rfl,rfl,D,E,G,J,L,f,no,q⟩:=h;cases A;obtain⟨u,rfl,M⟩:=B.one;obtain⟨a,r,⟨⟨c1,d1,k1,N⟩,n,e,g,i,o⟩,O⟩:=I.list D;simp only at g i o;subst g i o;obtain⟨b,T,p⟩:=Pb w I M r E G J L;have lr:=r.length;have lj:=(cK.mp f).1;rw[dA]at O;refine call_meets F.slot_list_index #[_,e,zZ] F.entry_list_index (F.args_list_index_2 _ _) (SeqAt.list_indexAt l a.toArray n none N u b j (by simp only[List.size_toArray];lia) () ?_ ?_)
  #[e,λy U=>T y (by simpa using U),#[.int (j:Nat),H,I.tok _,#[_,zZ],q]]
 .show b a[j]=true;exact(p j _ d (cA ()) f).mpr rfl
 .intro k Y c;show b a[k]=false;have t:k<C.length:=by lia
  cases z:b a[k]with
  |false=>rfl
  |true=>
   have z2:=(p k _ _ (cA ()) (cA t)).mp z;exact wC (by rw[cA t,z2]) (no k c)
def IR{X:Cx}{K:P3}{e:Expr}{T:String}{to:TE}{t:TA}(r:P3->V->List V->Hp->VK->Prop)(a:X.K=K)(h:PE X e (Bo X.K T (r X.K) to t)):PE X e (Bo K T (r K) to t):=a▸h
end
section
variable{P:Pg}{w:World}{A:Ar}{E:VP}{s:Sh}{it d:Ad}{i f:Nat}{c:Array DictEntry}
abbrev qm(d:Ad)(i n f:Nat):Obj:={cls:= .type "dict_keyiterator",data:= .fields #v[.ref d,.int i 0,.int n 0,.int f 0]}
def HY{g:DictEntry}{Q:Option Vl->Sh->Prop}(G:s.heap.get? it=some (qm d i c.size f))(L:Lies s.heap d c f)(p:c[i]?=some g)(q:∀j,j.get? it=some (qm d (i+1) c.size f)->Heap.SameBut it s.heap j->Q (some g.key) {s with heap:=j}):wpAny (model P w) A (pyNext (.ref it)) Q E s:=by
 obtain⟨o,m,_,n⟩:=L;have ty:s.TypeIs (.ref it) "dict_keyiterator":=#[_,G,zZ];unfold pyNext;refine cr (qv (pY (name:=Str.ofString "__next__") ty tD (jx tD ty Hv ?_ (Fs _))));refine cr (cF (cr (cr ?_)));refine cr (zO ty (cF (cr (uj G zZ ?_))));have a:Builtin.Dict_items.ownsTuple "dict_keyiterator"=false:=by decide
 simp only[a,Bool.false_eq_true,if_false];refine show wpAny _ _ (if(Value.ref d==Value.none)=true then _ else _) _ _ s from(wA (show ¬((Value.ref d==Value.none)=true)from gC))▸cr (cF (cr (td m n ?_)))
 rw[wA (by simp)];refine cr (cF (cr (vc m n ?_)));rw[wA (by simp)];refine cF ?_;have k:(if((i:Nat):Int)<0 then none else c[((i:Nat):Int).toNat]?)=some g:=by
  rw[wA (),iy];exact p
 show wpAny _ _ (match (if((i:Nat):Int)<0 then none else c[((i:Nat):Int).toNat]?)with|some e=>_|none=>_) _ _ s;rw[k];refine cr (cr (zO ty (cF (cr (wpAny_isOneOf_keyiter ty ?_)))));refine show wpAny _ _ (setField (.ref it) 1 (rawInt ((i:Int)+1)) >>= _) _ _ s from cr (oo G (by simp) λh r t=>wpAny_bind (wpAny_holding ?_))
 have b:h.get? it=some (qm d (i+1) c.size f):=by
  have z:((i+1:Nat):Int)=(i:Int)+1:=by lia
  unfold qm;rw[z];simpa[rawInt]using r
 have l:Shared.TypeIs {s with heap:=h} (.ref it) "dict_keyiterator":=#[_,b,rfl];refine cr (wpAny_isOneOf_keyiter l ?_);exact show wpAny _ _ (pure g.key) _ _ {s with heap:=h}from cF (cF #[_,rfl,cF (q h b t)])
def HV{Q:Option Vl->Sh->Prop}(n:A.handled=none)(G:s.heap.get? it=some (qm d i c.size f))(L:Lies s.heap d c f)(p:c[i]?=none)(q:∀j,Heap.ExtBut it s.heap j->Q none {s with heap:=j}):wpAny (model P w) A (pyNext (.ref it)) Q E s:=by
 obtain⟨o,k,_,l⟩:=L;have ty:s.TypeIs (.ref it) "dict_keyiterator":=#[_,G,zZ];unfold pyNext;refine cr (qv (pY (name:=Str.ofString "__next__") ty tD (jx tD ty Hv ?_ (Fs _))));refine cr (cF (cr (cr ?_)));refine cr (zO ty (cF (cr (uj G zZ ?_))));have g:Builtin.Dict_items.ownsTuple "dict_keyiterator"=false:=by decide
 simp only[g,Bool.false_eq_true,if_false];refine show wpAny _ _ (if(Value.ref d==Value.none)=true then _ else _) _ _ s from(wA (show ¬((Value.ref d==Value.none)=true)from gC))▸cr (cF (cr (td k l ?_)))
 rw[wA (by simp)];refine cr (cF (cr (vc k l ?_)));rw[wA (by simp)];refine cF ?_;have h:(if((i:Nat):Int)<0 then none else c[((i:Nat):Int).toNat]?)=none:=by
  rw[wA (),iy];exact p
 show wpAny _ _ (match (if((i:Nat):Int)<0 then none else c[((i:Nat):Int).toNat]?)with|some e=>_|none=>_) _ _ s;rw[h];refine cr (cr (zO ty (cF ?_)));refine show wpAny _ _ (setField (.ref it) 0 .none >>= _) _ _ s from cr (oo G (by simp) λu v r=>?_)
 refine cr (m:=newExc _ _) ?_;simp only[newExc,newTuple];refine cr (lM ?_ (by size_fits));refine cr (m:=firstArgMember _ _) (yG (a:=Value.none) (by first|rfl|(unfold firstArgMember;rfl)) (wpAny_newObj_type ?_ (by size_fits)));refine A9 (by simpa using n) (wpAny_bind (wpAny_isInstance (T:="StopIteration") (b:=true) #[_,Heap.get?_push_size _ zZ,zZ] isSubtype_stop (wpAny_pure ?_)));exact q _ λb o t z=>dC _ (dC _ (r.extBut b o t z))
def G8{Q:VP}(nd:(d==sysModules)=false)(L:Lies s.heap d c f)(q:Q (.ref s.heap.objs.size) {s with heap:=s.heap.push (qm d 0 c.size f)}):wpAny (model P w) A (pyIter (.ref d)) Q E s:=by
 obtain⟨o,a,x,b⟩:=L;have ty:s.TypeIs (.ref d) "dict":=#[o,a,x.1];refine uy ty F.slot_dict_iter (jx F.slot_dict_iter ty F.entry_dict_iter ?_ (F.args_dict_iter_1 _));unfold Builtin.«dict.__iter__» Builtin.Dict.dictSlotNone;refine cr (cr (wpAny_notOrdered_dict ty ?_));refine show wpAny _ _ (pure (Value.ref d)) _ _ s from cF (show wpAny _ _ (Builtin.Dict.showsAll d >>= _) _ _ s from ?_)
 have all:Builtin.Dict.showsAll d=pure Unit.unit:=by
  unfold Builtin.Dict.showsAll;rw[nd];rfl
 rw[all];refine cr (cF (cr (td a b (cr (vc a b ?_)))));exact cr (lM (cF #[_,zZ,"dict_keyiterator",_,#[_,fq _ zZ,zZ],tD.lookup,q]))
def NI(p:A.handled=none)(j:d≠it):Walks P w A it [it,d] [it] c.size (λi v=>∃a,c[i]?=some a/\v=a.key) (λi h=>h.get? it=some (qm d i c.size f)/\Lies h d c f) where
 sub:=λb r=>dL.mpr (.inl (cY.mp r))
 frame:=λi h g st k=>#[k it (dX ..) _ st.1,let⟨o,e,x⟩:=st.2;#[o,k d (eO _ (cY.mpr zZ)) _ e,x]]
 item:=λi s Q E t st q=>by
  obtain⟨a,m⟩:∃a,c[i]?=some a:=#[_,mB t];refine HY st.1 st.2 m λg u n=>q a.key g s.toks #[a,m,zZ] #[u,let⟨o,e,x⟩:=st.2;#[o,n.extBut _ _ j e,x]] λb o l e=>n.extBut _ _ (λz=>l (cY.mpr z)) e
 done:=λs Q E st q=>HV p st.1 st.2 (DH (cQ _)) λg x=>q g s.toks λb o l e=>x b o (λz=>l (cY.mpr z)) e
 self:=λi s Q E st q=>by
  have ty:s.TypeIs (.ref it) "dict_keyiterator":=#[_,st.1,zZ];refine uy ty Ag (jx Ag ty GA ?_ (Fo _));exact show wpAny _ _ (ret (.ref it)) _ _ s from cF #[_,zZ,"dict_keyiterator",_,ty,tD.lookup,q]
def vY(nd:(d==sysModules)=false):PySem.W.KdlSrc P w "dict" d d c.size (λi v=>∃a,c[i]?=some a/\v=a.key) (λh=>Lies h d c f) where
 type:=λ_ e=>e.typeIs
 there:=λ_ ⟨_,e,_⟩=>#[dm e,dm e]
 keep:=λ_ _ ⟨o,e,x⟩ k=>#[o,k d (.inl zZ) _ e,x]
 notList:=by decide
 notTuple:=by decide
 hint:=λ_ _ _ _ e q=>PySem.W.kdl_hint_dict e.typeIs q
 iter:=λ_ _ b e=>#[_,_,λ_ _ q=>G8 nd e q,NI b (eB (let⟨_,z,_⟩:=e;dm z)),fq _ zZ,let⟨o,z,x⟩:=e;#[o,dC _ z,x]]
end
open PySem PySem.W PyProof.Rows
section
variable(n:Nat)(k:Nat->Int)
def KOk{b:Type}:KasT b->(b->Prop)->Prop
 |.ret a,R=>R a
 |.ask i j f,R=>i<n/\j<n/\KOk (f (decide (k i<k j))) R
def Arr(p:Array Nat):Prop:=p.Perm (List.range n).toArray
def rg(p:Array Nat)(m:Nat):Prop:=∀a b,a<b->b<m->k (p.getD a 0)<k (p.getD b 0)
def PR(p:Array Nat)(m:Nat):Prop:=∀a b,a<b->b<m->k (p.getD b 0)<k (p.getD a 0)
variable{n k}
theorem KOk.bind{b c:Type}{f:b->KasT c}{R:b->Prop}{d:c->Prop}(h:∀a,R a->KOk n k (f a) d):∀t:KasT b,KOk n k t R->KOk n k (t.bind f) d
 |.ret a,q=>h a q
 |.ask i j g,q=>#[q.1,q.2.1,KOk.bind h (g _) q.2.2]
theorem KOk.wp{c:Type}{b:Nat->Nat->(Bool->Sh->Prop)->Sh->Prop}{s:Sh}{R:c->Prop}{Q:c->Sh->Prop}(d:∀i j (C:Bool->Sh->Prop),i<n->j<n->C (decide (k i<k j)) s->b i j C s)(e:∀a,R a->Q a s):
  ∀t:KasT c,KOk n k t R->t.kasWp b Q s
 |.ret a,q=>e a q
 |.ask i j g,q=>d i j _ q.1 q.2.1 (KOk.wp d e (g _) q.2.2)
def Arr.size{p:Array Nat}(h:Arr n p):p.size=n:=by
 have z:=(n7.mp h).length_eq;simpa using z
def Arr.at{p:Array Nat}(h:Arr n p){i:Nat}(b:i<n):p.getD i 0<n/\p[i]?=some (p.getD i 0):=by
 have c:=h.size;have e:p[i]?=some (p.getD i 0):=by
  rw[pS,mB ()];rfl
 refine#[?_,e];have m:p.getD i 0∈p:=Dq e;have a:=(BY h).mp m;simpa using a
def Arr.inj{p:Array Nat}(h:Arr n p){i j:Nat}(b:i<n)(d:j<n)(e:p.getD i 0=p.getD j 0):i=j:=by
 have nd:p.toList.Nodup:=(n7.mp h).nodup_iff.mpr (by simpa using List.nodup_range);have c:=(h.at b).2;have a:=(h.at d).2;rw[<-e]at a;rw[<-lF]at c a;exact(ig (by rw[d9,h.size];exact b) nd).mp (c.trans a.symm)
variable(inj:∀i j,i<n->j<n->k i=k j->i=j)
include inj
end
end L2
namespace L2
open PySem PySem.Spec PySem.W PyProof.Rows
section
variable{P:Pg}{w:World}{A:Ar}{E:VP}{s:Sh}{a:Ad}{c d:Vs}{k:Nat->Int}
def BV(P:Pg)(w:World)(A:Ar)(d:Vs)(lt:Nat->Nat->Bool)(s:Sh):Prop:=
 wpAny (model P w) A (keyKind' d.toArray) (λa b=>b=s/\∀i j (C:Bool->Sh->Prop),i<d.length->j<d.length->C (lt i j) s->kas_ask P w A a d i j C s) (λ_ _=>False) s
abbrev hX(c:Vs)(p:Array Nat):Vs:=p.toList.map λi=>c.getD i Value.none
def Iy(c:Vs):hX c (List.range c.length).toArray=c:=by
 unfold hX;refine l6 λi=>?_;rw[zy,cV];by_cases h:i<c.length
 .rw[lK h,cA h];show some (c.getD i Value.none)=_;rw[eE,cA h];rfl
 .rw[hJ (by simp;lia),List.getElem?_eq_none ()];rfl
def HX(a:d.length=c.length):(d.toArray.zip c.toArray).map (·.2)=c.toArray:=by
 apply Array.toList_inj.mp;rw[z9,ksk_zip];exact List.map_snd_zip (by simp[a])
def AG{a:Heap}{b:Ad}{x:Obj}(e:a.get? b=some x)(c d:Obj):((a.push c).push d).get? b=some x:=dC _ (dC _ e)
end
theorem CH{a:Type}{p q:a->Bool}:∀{xs:List a},(∀z∈xs,p z=true->q z=true)->(∃z∈xs,p z=false/\q z=true)->xs.countP p<xs.countP q
 | [],_,h=>by obtain⟨z,hz,_⟩:=h;cases hz
 | x::xs,mono,h=>by
  have g:xs.countP p<=xs.countP q:=List.countP_mono_left λz hz=>mono z (eO _ hz);rw[Bk,Bk];obtain⟨z,hz,b,c⟩:=h
  rcases dL.mp hz with e|hz
  .subst e;rw[b,c];simp;lia
  .have i:=CH (xs:=xs) (λy d=>mono y (eO _ d)) #[z,hz,b,c];have m:=mono x (dX ..);cases f:p x with
   |false=>cases q x<;>simp<;>lia
   |true=>rw[m f];simp;lia
structure Total{α:Type}(lt:α->α->Bool)(xs:List α):Prop where
 irr:∀x,lt x x=false
 trans:∀x y z,lt x y=true->lt y z=true->lt x z=true
 tot:∀x∈xs,∀y∈xs,x≠y->lt x y=true\/lt y x=true
def j7{a:Type}(lt:a->a->Bool)(xs:List a)(x:a):Int:=((xs.countP λy=>lt y x):Nat)
section
variable{a:Type}{lt:a->a->Bool}{xs:List a}(T:Total lt xs)
include T
def Total.up{x y:a}(b:x∈xs)(h:lt x y=true):j7 lt xs x<j7 lt xs y:=by
 unfold j7;have z:=CH (xs:=xs) (p:=λz=>lt z x) (q:=λz=>lt z y) (λz _ c=>T.trans _ _ _ c h) #[x,b,T.irr x,h];lia
def Total.asks{x y:a}(b:x∈xs)(c:y∈xs):decide (j7 lt xs x<j7 lt xs y)=lt x y:=by
 by_cases e:x=y
 .subst e;rw[T.irr];exact fZ (Int.lt_irrefl _)
 .rcases T.tot x b y c e with h|h
  .rw[h];exact dW (T.up b h)
  .have:=T.up c h;rw[fZ ()];cases z:lt x y with
   |false=>rfl
   |true=>
    have:=T.up b z;lia
def Total.same{x y:a}(b:x∈xs)(c:y∈xs)(h:j7 lt xs x=j7 lt xs y):x=y:=by
 refine ou λe=>?_
 rcases T.tot x b y c e with z|z
 .have:=T.up b z;lia
 .have:=T.up c z;lia
end
theorem CI:∀(a b:cn),a≠b->fj a b=true\/fj b a=true
 | [],[],h=>wC zZ h
 | [],y::b,_=> .inl (by unfold fj;rw[show iv [] (y::b)=none from rfl];simp)
 |x::a,[],_=> .inr (by unfold fj;rw[show iv [] (x::a)=none from rfl];simp)
 | x::a,y::b,h=>by
  by_cases e:x=y
  .subst e
   rcases CI a b (λz=>h (by rw[z]))with q|q
   .exact .inl (by rw[pQ];exact q)
   .exact .inr (by rw[pQ];exact q)
  .rw[j4 e,j4 (eJ e)]
   rcases Nat.lt_or_gt_of_ne e with q|q
   .exact .inl (dW q)
   .exact .inr (dW q)
theorem A6:∀(xs a d:cn),fj xs a=true->fj a d=true->fj xs d=true
 | xs,a,[],_,b=>by
  have:fj a []=false:=by
   unfold fj;rw[show iv a []=none by cases a<;>rfl];simp
  rw[this]at b;cases b
 | [],a,z::d,_,_=>by unfold fj;rw[show iv [] (z::d)=none from rfl];simp
 | x::xs,[],z::d,c,_=>by
  have:fj (x::xs) []=false:=by
   unfold fj;rw[show iv (x::xs) []=none from rfl];simp
  rw[this]at c;cases c
 | x::xs,y::a,z::d,c,b=>by
  by_cases f:x=y
  .subst f;by_cases e:x=z
   .subst e;rw[pQ]at c b|-;exact A6 xs a d c b
   .rw[j4 e]at b|-;exact b
  .rw[j4 f]at c;have g:=gK c;by_cases e:y=z
   .subst e;rw[j4 f];exact c
   .rw[j4 e]at b;have h:=gK b;rw[j4 ()];exact dW ()
def O4(a:LN):Total fj a:=#[qd,A6,λx _ y _ e=>CI x y e]
section
variable{P:Pg}{w:World}{A:Ar}{E:VP}{s:Sh}
def GK{i j:Int}{t u:Tok}(f:Bool){Q:Bool->Sh->Prop}(h:Q (decide (i<j)) s):wpAny (model P w) A (oneLt' f (.int i t) (.int j u)) Q E s:=by
 cases f with
 |true=>exact oneLt_int h
 |false=>exact kat_one _ _ (PyProof.Rows.lt_int h)
theorem HF{fin:Bool}{Q:Bool->Sh->Prop}:∀{b a:cn} {c d:Vs} (i:Nat),Vals (b.map nv) c->Vals (a.map nv) d->Q ((iv b a).getD fin) s->KatLex P w A true fin Q (c.zip d) i s
 | [],a,_,_,i,.nil,_,q=>by
  rw[show iv [] a=none by cases a<;>rfl]at q;rw[List.zip_nil_left];exact kat_nil q
 |n::b,[],_,_,i,.cons _ _,.nil,q=>by
  rw[List.zip_nil_right];exact kat_nil q
 | n::b,m::a,_,_,i,.cons ⟨t,f⟩ g,.cons ⟨u,h⟩ k,q=>by
  subst f h;refine kat_cons ?_;have z:=f6 (A:=A) (s:=s) (i:=(n:Int)) (j:=(m:Int)) (t:=t) (u:=u);by_cases e:n=m
  .rw[dW ()]at z;rw[iv,wB e]at q;exact z P w _ _ (kat_yes (HF (i+1) g k q))
  .rw[fZ ()]at z;rw[iv,wA e]at q;refine z P w _ _ (kat_no (GK _ ?_));have l:decide ((n:Int)<(m:Int))=decide (n<m):=by simp
   rw[l];exact q
def oP(h:Heap)(v:Vl)(d:cn):Prop:=∃a o b c,v=.ref a/\h.get? a=some o/\o.cls=.type "tuple"/\o.data=.seq b c/\Vals (d.map nv) b.toList
theorem FJ{h:Heap}:∀{vs:Vs} {ts:LN},vs.length=ts.length->(∀(i:Nat) v t,vs[i]?=some v->ts[i]?=some t->oP h v t/\t≠[])->∃fs:Vs,KatTups h vs fs/\fs.length=vs.length/\∀f∈fs,∃i t,f=.int i t
 | [],[],_,_=>#[[],.nil,zZ,λ_ z=>nomatch z]
 | [],_::_,l,_=>by simp at l
 |_::_,[],l,_=>by simp at l
 | v::vs,t::ts,l,g=>by
  obtain⟨fs,k,m,k3⟩:=FJ (h:=h) (vs:=vs) (ts:=ts) (by simpa using l) λi v t p q=>g (i+1) v t (by simpa using p) (by simpa using q);obtain⟨⟨a,o,d,c,rfl,s,u,w,x⟩,ne⟩:=g 0 v t zZ rfl;obtain⟨n,b,rfl⟩:∃n b,t=n::b:=by
   cases t with
   |nil=>exact wC zZ ne
   |cons n b=>exact#[n,b,zZ]
  obtain⟨j⟩:=d;cases x with
  | cons r _=>
   obtain⟨y,rfl⟩:=r;exact#[_::fs,.cons s u w zZ k,by simp[m],λf hf=>by
    rcases dL.mp hf with e|hf
    .exact#[_,_,e]
    .exact k3 f hf]
def NU{a:Vs}{b:LN}(l:a.length=b.length)(L:1<=a.length)(e:∀(i:Nat) v t,a[i]?=some v->b[i]?=some t->oP s.heap v t/\t≠[]):BV P w A a (λi j=>fj (b.getD i []) (b.getD j [])) s:=by
 obtain⟨fs,k,M,k3⟩:=FJ l e;refine kat_kind (T:= .type "int") k () (λf m=>?_) (by decide) #[zZ,λi j C d n o=>?_]
 .obtain⟨i,t,rfl⟩:=k3 f m;exact .now
 .have c:∀{i:Nat},i<a.length->oP s.heap (a.getD i Value.none) (b.getD i []):=λ{i} d=>by
   have p:a[i]?=some (a.getD i Value.none):=by rw[eE,cA d];rfl
   have q:b[i]?=some (b.getD i []):=by rw[eE,cA ()];rfl
   exact(e i _ _ p q).1
  obtain⟨x,N,r,O,u,z,Q,B,g⟩:=c d;obtain⟨y,U,D,Y,E,G,y2,H,h⟩:=c n;show wpAny (model P w) A (keyLt' _ (a.getD i Value.none) (a.getD j Value.none)) C _ s;rw[u,E];refine kat_lt z B G H (HF 0 g h ?_);have I:(b.getD i []).length=r.size:=by have:=g.length;simpa using this
  have J:(b.getD j []).length=D.size:=by have:=h.length;simpa using this
  rw[<-I,<-J];exact o
end
def Fp{b:Type}{a:List b}{p:Array Nat}{d:b}(c:Arr a.length p):(p.toList.map λi=>a.getD i d).Perm a:=by
 have z:=(n7.mp c).map λi=>a.getD i d;refine z.trans (.of_eq ?_);refine l6 λi=>?_;rw[zy,cV];by_cases h:i<a.length
 .rw[lK h,cA h];show some (a.getD i d)=_;rw[eE,cA h];rfl
 .rw[hJ (by simp;lia),List.getElem?_eq_none ()];rfl
def G0{p:Array Nat}{n i:Nat}(a:Arr n p)(b:i<n):p.toList[i]?=some (p.getD i 0):=by
 rw[lF];exact(a.at b).2
def FD{c:Type}{lt:c->c->Bool}{a:List c}{d:c}{p:Array Nat}(T:Total lt a)(b:Arr a.length p)(up:rg (λi=>j7 lt a (a.getD i d)) p a.length):(p.toList.map λi=>a.getD i d).Pairwise λx y=>lt x y=true:=by
 rw[pc];intro i j e f o;have k:i<a.length:=by rw[cu,d9,b.size]at e;exact e
 have g:j<a.length:=by rw[cu,d9,b.size]at f;exact f
 have l:(p.toList.map λi=>a.getD i d)[i]?=some (a.getD (p.getD i 0) d):=by rw[cV,G0 b k];rfl
 have n:(p.toList.map λi=>a.getD i d)[j]?=some (a.getD (p.getD j 0) d):=by rw[cV,G0 b g];rfl
 rw[cA e]at l;rw[cA f]at n;rw[gY l,gY n];have u:=up i j o g;have m:∀{i:Nat},i<a.length->a.getD (p.getD i 0) d∈a:=λ{i} h=>by
  have:=(b.at h).1;rw[eE,cA this];exact iD _
 rw[<-T.asks (m k) (m g)];exact dW u
structure TupsAt(H:Hp)(bs:As)(us:LN):Prop where
 len:bs.length=us.length
 is:∀(i:Nat) (b:Ad) (u:cn),bs[i]?=some b->us[i]?=some u->H b=some (.tup (u.map nv))
def TupsAt.same{H a:Hp}{bs:As}{c:LN}(h:TupsAt H bs c)(g:Same H a):TupsAt a bs c:=#[h.len,λi b u d e=>g _ _ (h.is i b u d e)]
def TupsAt.pick{H:Hp}{bs:As}{a:LN}(h:TupsAt H bs a){p:Array Nat}(f:Arr a.length p):TupsAt H (p.toList.map λi=>bs.getD i 0) (p.toList.map λi=>a.getD i []):=by
 refine#[by simp,λi b u d c=>?_];rw[cV]at d c;obtain⟨j,e,rfl⟩:=eW.mp d;rw[e]at c;cases c;have g:j<a.length:=by
  have m:=(n7.mp f).mem_iff.mp (c8 e);simpa using m
 have k:=h.len;refine h.is j _ _ ?_ ?_
 .rw[eE,cA ()];rfl
 .show a[j]?=some (a.getD j []);rw[eE,cA g];rfl
section
variable{X:Cx}
def xN{P:Pg}{w:World}{H:Hp}{h:Heap}{a:Ad}{t:cn}(ok:HOk P w H h)(e:H a=some (.tup (t.map nv))):oP h (.ref a) t:=by
 obtain⟨_,b,r,o,d,f,c,g,_⟩:=(show ObjOk P w H h a (.tup (t.map nv))from ok a _ e);exact#[a,o,b.toArray,c,zZ,d,f,g,by simpa using r]
def on{b:Type}{a:List b}{d:b}{i:Nat}(h:i<a.length):a[i]?=some (a.getD i d)/\a.getD i d∈a:=by
 have e:a[i]?=some (a.getD i d):=by
  rw[eE,cA h];rfl
 exact#[e,c8 e]
def HE{b:Type}{lt:b->b->Bool}{a:List b}{d:b}(T:Total lt a)(nd:a.Nodup):∀i j,i<a.length->j<a.length->j7 lt a (a.getD i d)=j7 lt a (a.getD j d)->i=j:=λi j c f e=>by
 have z:=T.same (on c).2 (on f).2 e;refine(ig c nd).mp ?_;rw[(on (d:=d) c).1,(on (d:=d) f).1,z]
end
abbrev d0:Keyed:=(Value.none,Value.none)
structure Asks(M:Model)(A:Ar)(s:Sh)(κ:SortKind)(r:Keyed->Int)(a₀:Array Keyed):Prop where
 lt:∀(x y:Keyed) (C:Bool->Sh->Prop),x∈a₀->y∈a₀->C (decide (r x<r y)) s->wpAny M A (keyLt' κ x.1 y.1) C (λ_ _=>False) s
 ne:∀i j,i<a₀.size->j<a₀.size->i≠j->r (a₀.getD i d0)≠r (a₀.getD j d0)
structure StOk(κ:SortKind)(a₀:Array Keyed)(st:SortSt):Prop where
 kind:kindOf st=κ
 perm:(arrOf st).Perm a₀
 ok:failedOf st=none
section
variable{M:Model}{A:Ar}{E:VP}{s:Sh}{o:SortKind}{r:Keyed->Int}{f xs g:Array Keyed}
abbrev kx(r:Keyed->Int)(xs:Array Keyed)(i:Nat):Int:=r (xs.getD i d0)
def rc{i:Nat}(h:i<xs.size):xs[i]?=some (xs.getD i d0):=by
 rw[pS,mB h];rfl
def vr{i:Nat}{x:Keyed}(h:xs[i]?=some x):xs.getD i d0=x:=by
 rw[pS,h];rfl
def oQ{i j:Nat}(h:xs[i]?=g[j]?):xs.getD i d0=g.getD j d0:=by
 rw[pS,pS,h]
def qo(p:xs.Perm f):xs.size=f.size:=by
 have z:=(n7.mp p).length_eq;simpa using z
def Ao(p:xs.Perm f){i:Nat}(h:i<f.size):xs.getD i d0∈f:=(BY p).mp (Dq (rc (by rw[qo p];exact h)))
def Asks.pairs(K:Asks M A s o r f):(f.toList.map r).Nodup:=by
 refine pc.mpr λi j a b c=>?_;rw[qu,qu];rw[cu,d9]at a b;have z:=K.ne i j a b ();rw[pS,pS,mB a,mB b]at z;exact z
def Asks.apart(K:Asks M A s o r f)(p:xs.Perm f){i j:Nat}(a:i<f.size)(b:j<f.size)(c:i≠j):kx r xs i≠kx r xs j:=by
 have nd:(xs.toList.map r).Nodup:=((n7.mp p).map r).nodup_iff.mpr K.pairs;have sz:=qo p;intro z;have e:∀k,k<f.size->(xs.toList.map r)[k]?=some (kx r xs k):=λk d=>by
  rw[cV,lF,rc ()];rfl
 exact c ((ig (by rw[cu,d9];lia) nd).mp (by rw[e i a,e j b,z]))
def wy{st:SortSt}{x y:Keyed}{Q:Option Bool->SortSt->Prop}(K:Asks M A s o r f)(c:kindOf st=o)(d:x∈f)(e:y∈f)(h:Q (some (decide (r x<r y))) st):wpS M A E s (lt' x y) Q st:=by
 rw[lt'_eq];refine cW (mS ?_);rw[c];refine cW (sE (qv (fL (K.lt x y (λb a=>a=s/\b=decide (r x<r y)) d e #[zZ,zZ]) (λb a g=>?_) λ_ _ z=>z.elim)));obtain⟨rfl,rfl⟩:=g;exact#[zZ,c7 h]
def gX{a:SortSt}{i:Nat}{Q:Keyed->SortSt->Prop}(b:i<xs.size)(h:Q (xs.getD i d0) a):wpS M A E s (elem' xs i) Q a:=by
 rw[elem'_eq,rc b];exact c7 h
def wx{st:SortSt}{i j:Nat}{Q:Option Bool->SortSt->Prop}(K:Asks M A s o r f)(B:StOk o f st)(a:i<f.size)(b:j<f.size)(h:Q (some (decide (kx r (arrOf st) i<kx r (arrOf st) j))) st):wpS M A E s (ltAt' i j) Q st:=by
 have sz:=qo B.perm;rw[ltAt'_eq];refine cW (mS ?_);exact cW (gX () (cW (gX () (wy K B.kind (Ao B.perm a) (Ao B.perm b) h))))
def Ris(r:Keyed->Int)(xs:Array Keyed)(lo c:Nat):Prop:=∀a b,lo<=a->a<b->b<c->kx r xs a<kx r xs b
def Fal(r:Keyed->Int)(xs:Array Keyed)(lo c:Nat):Prop:=∀a b,lo<=a->a<b->b<c->kx r xs b<kx r xs a
def Out(xs g:Array Keyed)(lo a:Nat):Prop:=∀k,k<lo\/a<=k->g[k]?=xs[k]?
def Out.refl(xs:Array Keyed)(lo a:Nat):Out xs xs lo a:=λ_ _=>rfl
def Out.trans{b:Array Keyed}{lo a:Nat}(h:Out xs g lo a)(c:Out g b lo a):Out xs b lo a:=λk z=>(c k z).trans (h k z)
def Out.wide{lo c a b:Nat}(h:Out xs g lo c)(d:a<=lo)(e:c<=b):Out xs g a b:=λk z=>h k ()
def Out.ris{lo c a b:Nat}(h:Out xs g lo c)(e:Ris r xs a b)(d:b<=lo\/c<=a):Ris r g a b:=λi j f k l=>by
 show r (g.getD i d0)<r (g.getD j d0);rw[oQ (h i ()),oQ (h j ())];exact e i j f k l
def Ris.one{lo:Nat}:Ris r xs lo (lo+1):=λa b c d e=>by lia
def Ris.snoc{lo c:Nat}(h:Ris r xs lo c)(i:lo<c)(l:kx r xs (c-1)<kx r xs c):Ris r xs lo (c+1):=λa b d f j=>by
 by_cases e:b=c
 .subst e;by_cases g:a=b-1
  .subst g;exact l
  .have:=h a (b-1) d () ();lia
 .exact h a b d f ()
def Fal.snoc{lo c:Nat}(h:Fal r xs lo c)(i:lo<c)(l:kx r xs c<kx r xs (c-1)):Fal r xs lo (c+1):=λa b d f j=>by
 by_cases e:b=c
 .subst e;by_cases g:a=b-1
  .subst g;exact l
  .have:=h a (b-1) d () ();lia
 .exact h a b d f ()
def StOk.set{st:SortSt}(B:StOk o f st)(p:g.Perm (arrOf st)):StOk o f (setArr st g):=#[B.kind,p.trans B.perm,B.ok]
def Ip{i j:Nat}(b:j<=xs.size)(k:Nat):kx r (mirror xs i j ((j-i) /2)) k=if i<=k/\k<j then kx r xs (i+j-1-k)else kx r xs k:=by
 have e:=getElem?_mirror_all (i:=i) b k;by_cases a:i<=k/\k<j
 .rw[wB a]at e|-;exact dw r (oQ e)
 .rw[wA a]at e|-;exact dw r (oQ e)
def Kl{st:SortSt}{lo g:Nat}{Q:Option Nat->SortSt->Prop}(K:Asks M A s o r f)(B:StOk o f st)(hn:lo+g<=f.size)(G:1<=g)(h:∀n l,StOk o f l->pendingOf l=pendingOf st->gallopOf l=gallopOf st->Out (arrOf st) (arrOf l) lo (lo+g)->1<=n->n<=g->Ris r (arrOf l) lo (lo+n)->Q (some n) l):wpS M A E s (countRun' lo g) Q st:=by
 rw[countRun'_eq];have x:∀(m:Nat) (l:SortSt) (H:Option (Option Nat)×Nat->SortSt->Prop),StOk o f l->1<=m->m<=g->Ris r (arrOf l) lo (lo+m)->(∀n,m<=n->n<=g->Ris r (arrOf l) lo (lo+n)->(n<g->kx r (arrOf l) (lo+n)<kx r (arrOf l) (lo+n-1))->H (none,n) l)->
   wpS M A E s (forIn [m:g] ((none,m):Option (Option Nat)×Nat) λ_ p=>do
    let J <-ltAt' (lo+p.snd) (lo+p.snd-1)
    match J with
    |some t=>if t=true then pure (ForInStep.done (none,p.snd))else pure (ForInStep.yield (none,p.snd+1))
    |_=>pure (ForInStep.done (some none,p.snd))) H l:=λm l H U m1 L up q=>by
  refine i' (I:=λi c d=>d=l/\c=(none,i)/\Ris r (arrOf l) lo (lo+i)) (λi c d pR yi v=>?_) (λc d v=>?_) #[zZ,zZ,up]
  .obtain⟨rfl,rfl,u⟩:=v;refine cW (wx K U (by show lo+i<_;lia) (by show lo+i-1<_;lia) ?_);by_cases c:kx r (arrOf d) (lo+i)<kx r (arrOf d) (lo+i-1)
   .rw[dW c];exact c7 (q i pR () u λ_=>c)
   .rw[fZ c];have ne:=K.apart U.perm (i:=lo+i) (j:=lo+i-1) () () ();exact c7 #[zZ,zZ,u.snoc () ()]
  .obtain⟨rfl,rfl,u⟩:=v;rw[show max m g=g by lia]at u|-;exact q g L (cQ _) u λz=>wC z (mv _)
 refine cW (x 1 st _ B (cQ _) G Ris.one λn N D up stop=>?_);dsimp only;by_cases e:n=g
 .rw[wB (by simpa using e)];exact c7 (h n st B zZ zZ (Out.refl _ _ _) N D up)
 rw[wA (by simpa using e)];have O:=stop ();by_cases Y:n>1
 .rw[wB Y];refine cW (wx K B () () ?_);rw[dW (up lo (lo+n-1) (cQ _) () ())];exact c7 (h n st B zZ zZ (Out.refl _ _ _) N D up)
 rw[wA Y];have en:n=1:=by lia
 subst en;refine cW (sE (pE #[zZ,?_]));have y:Fal r (arrOf st) lo (lo+2):=λa b G h2 h3=>by
  have ea:a=lo:=by lia
  have eb:b=lo+1:=by lia
  subst ea eb;exact O
 refine cW (jr (i' (I:=λi c d=>d=st/\c=(none,i,0)/\Fal r (arrOf st) lo (lo+i)) (Q:=λc d=>d=st/\∃m,c=(none,m,0)/\2<=m/\m<=g/\Fal r (arrOf st) lo (lo+m)) (λi c d pR yi v=>?_) (λc d v=>?_) #[zZ,zZ,y]) ?_)
 .obtain⟨rfl,rfl,fa⟩:=v;refine cW (wx K B (by show lo+i<_;lia) (by show lo+i-1<_;lia) ?_);by_cases c:kx r (arrOf d) (lo+i)<kx r (arrOf d) (lo+i-1)
  .rw[dW c];exact c7 #[zZ,zZ,fa.snoc () c]
  .rw[fZ c];have ne:=K.apart B.perm (i:=lo+i) (j:=lo+i-1) () () ();refine cW (wx K B (by show lo+i-1<_;lia) (by show lo+i<_;lia) ?_);rw[dW (by show kx r (arrOf d) (lo+i-1)<kx r (arrOf d) (lo+i);lia)];exact c7 #[zZ,i,zZ,(),(),fa]
 .obtain⟨rfl,rfl,fa⟩:=v;refine#[zZ,_,zZ,(),(),fa]
 .rintro c d ⟨rfl,m,rfl,m2,L,fa⟩;dsimp only;obtain⟨m,rfl⟩:∃k,m=k+1:=qi λz=>by rw[z]at m2;exact wC m2 (by decide)
  rw[wA (mv 0)];rw[reverseSlice'_eq];have sz:=qo B.perm;have w:lo+(m+1)<=(arrOf d).size:=by lia
  have B2:StOk o f (setArr d (mirror (arrOf d) lo (lo+(m+1)) ((lo+(m+1)-lo) /2))):=B.set (mirror_perm _ _ _ _);have T:Ris r (mirror (arrOf d) lo (lo+(m+1)) ((lo+(m+1)-lo) /2)) lo (lo+(m+1)):=λa b G h2 h3=>by
   rw[Ip w,Ip w,wB (),wB ()];exact fa _ _ (show lo<=lo+(lo+m)-b from Bt ()) (show lo+(lo+m)-b<lo+(lo+m)-a from Nat.sub_lt_sub_left () h2) (show lo+(lo+m)-a<lo+(m+1)from xJ () ())
  have C:Out (arrOf d) (mirror (arrOf d) lo (lo+(m+1)) ((lo+(m+1)-lo) /2)) lo (lo+g):=λk hk=>by
   rw[getElem?_mirror_all w,wA ()]
  refine cW (oE (cW (x (m+1) _ _ B2 () L T λn N D up stop=>?_)));exact c7 (h n _ B2 zZ zZ C () D up)
end
section
variable{M:Model}{A:Ar}{E:VP}{s:Sh}{b:SortKind}{r:Keyed->Int}{a f g:Array Keyed}
def EL{a d:Nat}(g:a<f.size)(h:d<=a)(k:Nat):kx r (bubble f a d) k=if k=a-d then kx r f a else if a-d<k/\k<=a then kx r f (k-1)else kx r f k:=by
 have e:=getElem?_bubble g d h k;by_cases b:k=a-d
 .rw[wB b]at e|-;exact dw r (oQ e)
 .rw[wA b]at e|-;by_cases c:a-d<k/\k<=a
  .rw[wB c]at e|-;exact dw r (oQ e)
  .rw[wA c]at e|-;exact dw r (oQ e)
def Jy{st:SortSt}{lo n ok:Nat}{Q:Bool->SortSt->Prop}(K:Asks M A s b r a)(B:StOk b a st)(hn:lo+n<=a.size)(aa:ok<=n)(hs:Ris r (arrOf st) lo (lo+ok))(h:∀e,StOk b a e->pendingOf e=pendingOf st->gallopOf e=gallopOf st->Out (arrOf st) (arrOf e) lo (lo+n)->Ris r (arrOf e) lo (lo+n)->Q true e):wpS M A E s (binarySort' lo n ok) Q st:=by
 rw[binarySort'_eq];refine cW (jr (i' (I:=λk c e=>c=(none,Unit.unit)/\StOk b a e/\pendingOf e=pendingOf st/\gallopOf e=gallopOf st/\Out (arrOf st) (arrOf e) lo (lo+n)/\Ris r (arrOf e) lo (lo+min k n))
  (Q:=λc e=>c=(none,Unit.unit)/\StOk b a e/\pendingOf e=pendingOf st/\gallopOf e=gallopOf st/\Out (arrOf st) (arrOf e) lo (lo+n)/\Ris r (arrOf e) lo (lo+n)) ?step ?fin ?init) ?post)
 case post=>
  rintro c e ⟨rfl,y,H,J,o,u⟩;exact c7 (h e y H J o u)
 case init=>
  refine#[zZ,B,zZ,zZ,Out.refl _ _ _,λi j v C h3=>?_];exact hs i j v C ()
 case fin=>
  rintro c e ⟨hc,y,H,J,o,u⟩;refine#[hc,y,H,J,o,?_];rwa[show min (max (max ok 1) n) n=n by lia]at u
 case step=>
  rintro k c e ab ae ⟨rfl,y,H,J,o,w⟩;rw[show min k n=k by lia]at w;have sz:=qo y.perm;refine cW (jr (i' (I:=λx c f=>f=e/\∃l q,c=(none,l,q)/\l<=q/\q<=k/\q+x<=k+l/\
    (∀i,i<l->kx r (arrOf e) (lo+i)<kx r (arrOf e) (lo+k))/\(∀i,q<=i->i<k->kx r (arrOf e) (lo+k)<kx r (arrOf e) (lo+i)))
   (Q:=λc f=>f=e/\∃l q,c=(none,l,q)/\l<=k/\
    (∀i,i<l->kx r (arrOf e) (lo+i)<kx r (arrOf e) (lo+k))/\(∀i,l<=i->i<k->kx r (arrOf e) (lo+k)<kx r (arrOf e) (lo+i))) ?istep ?ifin ?iinit) ?ipost)
  case iinit=>exact#[zZ,0,k,zZ,(),(),(),λi hi=>by lia,λi v C=>by lia]
  case ifin=>
   rintro c f ⟨rfl,l,q,rfl,N,t,hm,m,p⟩;have:l=q:=by lia
   subst this;exact#[zZ,l,l,zZ,t,m,p]
  case istep=>
   rintro x c f _ af ⟨rfl,l,q,rfl,N,t,hm,m,p⟩;dsimp only;by_cases D:l>=q
   .rw[wB D];have:l=q:=by lia
    subst this;exact c7 #[zZ,l,l,zZ,t,m,p]
   .rw[wA D];have Y:l<=(l+q) /2:=by lia
    have O:(l+q) /2<q:=by lia
    clear D;generalize(l+q) /2=d at Y O|-;have dk:d<k:=fJ O t;refine cW (wx K y () () ?_);by_cases g:kx r (arrOf f) (lo+k)<kx r (arrOf f) (lo+d)
    .simp only[g,decide_true,if_true];refine c7 #[zZ,l,d,zZ,Y,jp dk,(),m,λi v C=>?_];by_cases z:i=d
     .subst z;exact g
     .exact xI g (w (lo+d) (lo+i) (oO ..) (zz (xC v (eJ z)) _) (zz C _))
    .simp only[g,decide_false,Bool.false_eq_true,if_false];have ne:=K.apart y.perm (i:=lo+k) (j:=lo+d) () () ();refine c7 #[zZ,d+1,q,zZ,O,t,(),λi v=>?_,p];by_cases z:i=d
     .subst z;exact Int.lt_iff_le_and_ne.mpr #[Int.not_lt.mp g,ne.symm]
     .exact Int.lt_of_lt_of_le (w (lo+i) (lo+d) (oO ..) (zz (xC (zV v) z) _) (zz dk _)) (Int.not_lt.mp g)
  case ipost=>
   rintro c f ⟨rfl,l,q,rfl,L,m,p⟩;show wpS _ _ _ _ (do moveDown' (lo+k) (lo+l);pure (ForInStep.yield (none,Unit.unit))) _ _
   rw[moveDown'_eq];have G:lo+k<(arrOf f).size:=by lia
   refine cW (oE (c7 #[zZ,y.set (bubble_perm _ _ _),H,J,o.trans λj hj=>?_,?_]))
   .show(bubble (arrOf f) (lo+k) (lo+k-(lo+l)))[j]?=_;rw[getElem?_bubble G _ (),Nat.sub_sub_self (wK L lo),wA (),wA ()]
   .rw[show min (k+1) n=k+1 by lia];intro i j v C h3;show kx r (bubble (arrOf f) (lo+k) (lo+k-(lo+l))) i<kx r (bubble (arrOf f) (lo+k) (lo+k-(lo+l))) j
    rw[EL G (),EL G (),Nat.sub_sub_self (wK L lo)];have T:∀i,lo<=i->i<lo+l->kx r (arrOf f) i<kx r (arrOf f) (lo+k):=λi v C=>by
     have:=m (i-lo) ();rwa[show lo+(i-lo)=i by lia]at this
    have U:∀i,lo+l<=i->i<lo+k->kx r (arrOf f) (lo+k)<kx r (arrOf f) i:=λi v C=>by
     have:=p (i-lo) () ();rwa[show lo+(i-lo)=i by lia]at this
    repeat' split
    all_goals first
     |(exfalso;lia)
     |exact T _ () ()
     |exact U _ () ()
     |exact w _ _ () () ()
def qj:Bool->Keyed->Array Keyed->Nat->Nat->Nat->StateT SortSt Sem (Option Nat):=sortPriv%PySem.Builtin.gallop
def Op(left:Bool)(e:Keyed)(g:Array Keyed)(d n a:Nat):qj left e g d n a=(do
 let c (i:Nat):StateT SortSt Sem (Option Bool):=do
  let x <-elem' g (d+i)
  if left then lt' x e else return (<-lt' e x).map (!·)
 let mut lastofs:=0
 let mut ofs:=1
 let mut lo:=0
 let mut hi:=0
 let some right <-c a|return none
 if right then
  let b:=n-a
  for _ in[0:n] do
   if ofs>=b then break
   let some more <-c (a+ofs)|return none
   if !more then break
   lastofs:=ofs
   ofs:=2 * ofs+1
  lo:=a+lastofs+1
  hi:=a+min ofs b
 else
  let b:=a+1
  for _ in[0:n] do
   if ofs>=b then break
   let some f <-c (a-ofs)|return none
   if f then break
   lastofs:=ofs
   ofs:=2 * ofs+1
  lo:=a+1-min ofs b
  hi:=a-lastofs
 for _ in[0:n] do
  if lo>=hi then break
  let m:=lo+(hi-lo) /2
  let some more <-c m|return none
  if more then lo:=m+1 else hi:=m
 return some hi):=rfl
end
section
variable{M:Model}{A:Ar}{E:VP}{s:Sh}{b:SortKind}{r:Keyed->Int}{a d m:Array Keyed}
def u9{st:SortSt}{left:Bool}{t:Keyed}{p:Array Keyed}{d n m:Nat}{Q:Option Nat->SortSt->Prop}(K:Asks M A s b r a)(hk:kindOf st=b)(hz:d+n<=p.size)(mem:∀i,i<n->p.getD (d+i) d0∈a)(mk:t∈a)(ne:∀i,i<n->kx r p (d+i)≠r t)(up:Ris r p d (d+n)) (T:m<n) (q:∀k,k<=n->(∀i,i<k->kx r p (d+i)<r t)->(∀i,k<=i->i<n->r t<kx r p (d+i))->Q (some k) st):wpS M A E s (qj left t p d n m) Q st:=by
 rw[Op];have D:∀(i:Nat) (Q:Option Bool->SortSt->Prop),i<n->Q (some (decide (kx r p (d+i)<r t))) st->wpS M A E s (do
   let x <-elem' p (d+i)
   if left then lt' x t else return (<-lt' t x).map (!·)) Q st:=λi Q w hQ=>by
  refine cW (gX () ?_);cases left with
  |true=>exact wy K hk (mem i w) mk hQ
  | false=>
   refine cW (wy K hk mk (mem i w) (c7 ?_));have e:(!decide (r t<r (p.getD (d+i) d0)))=decide (kx r p (d+i)<r t):=by
    have:=ne i w;by_cases z:kx r p (d+i)<r t
    .rw[dW z,fZ (show ¬r t<r (p.getD (d+i) d0)from λy=>by have:r t<kx r p (d+i):=y;lia)];rfl
    .rw[fZ z,dW (show r t<r (p.getD (d+i) d0)from by show r t<kx r p (d+i);lia)];rfl
   show Q (some (!decide (r t<r (p.getD (d+i) d0)))) st;rw[e];exact hQ
 have Y:∀i j,i<=j->j<n->kx r p (d+j)<r t->kx r p (d+i)<r t:=λi j ij jn l=>by
  by_cases z:i=j
  .subst z;exact l
  .have:=up (d+i) (d+j) () () ();lia
 have L:∀i j,i<=j->j<n-> ¬kx r p (d+i)<r t->r t<kx r p (d+j):=λi j ij jn l=>by
  have n1:=ne i ();by_cases z:i=j
  .subst z;lia
  .have:=up (d+i) (d+j) () () ();lia
 have fin:∀(lo w:Nat) (u:SortSt) (f:Nat->Option (Option Nat)×Nat×Nat->StateT SortSt Sem (ForInStep (Option (Option Nat)×Nat×Nat))) (g:Option (Option Nat)×Nat×Nat->StateT SortSt Sem (Option Nat)),u=st->lo<=w->w<=n->(∀i,i<lo->kx r p (d+i)<r t)->(∀i,w<=i->i<n->r t<kx r p (d+i))->
   (∀x l h (R:ForInStep (Option (Option Nat)×Nat×Nat)->SortSt->Prop),l>=h->R (.done (none,l,h)) st->wpS M A E s (f x (none,l,h)) R st)->
   (∀x l h (R:ForInStep (Option (Option Nat)×Nat×Nat)->SortSt->Prop),l<h->h<=n->R (.yield (if kx r p (d+(l+(h-l) /2))<r t then(none,l+(h-l) /2+1,h)else(none,l,l+(h-l) /2))) st->wpS M A E s (f x (none,l,h)) R st)->
   (∀h,Q (some h) st->wpS M A E s (g (none,h,h)) Q st)->wpS M A E s (forIn [0:n] (none,lo,w) f >>= g) Q u:=λlo w u f g e lh hn dl du f1 f2 f3=>by
  subst e;refine cW (jr (i' (I:=λx c v=>v=u/\∃l h,c=(none,l,h)/\l<=h/\h<=n/\h+x<=n+l/\(∀i,i<l->kx r p (d+i)<r t)/\∀i,h<=i->i<n->r t<kx r p (d+i))
   (Q:=λc v=>v=u/\∃h,c=(none,h,h)/\h<=n/\(∀i,i<h->kx r p (d+i)<r t)/\∀i,h<=i->i<n->r t<kx r p (d+i)) ?step ?stop #[zZ,lo,w,zZ,lh,hn,(),dl,du]) ?post)
  case step=>
   rintro x c v _ hx ⟨rfl,l,h,rfl,B,G,l3,N,O⟩;by_cases z:l>=h
   .have:l=h:=by lia
    subst this;exact f1 x l l _ z #[zZ,l,zZ,G,N,O]
   .refine f2 x l h _ () G ?_;by_cases c:kx r p (d+(l+(h-l) /2))<r t
    .rw[wB c];exact#[zZ,_,_,zZ,(),(),(),λi w=>Y i _ () () c,O]
    .rw[wA c];exact#[zZ,_,_,zZ,(),(),(),N,λi H J=>L _ i H J c]
  case stop=>
   rintro c v ⟨rfl,l,h,rfl,B,G,l3,N,O⟩;have:l=h:=by lia
   subst this;exact#[zZ,l,zZ,G,N,O]
  case post=>
   rintro c v ⟨rfl,h,rfl,J,N,O⟩;exact f3 h (q h J N O)
 refine cW (D m _ T ?_);by_cases U:kx r p (d+m)<r t
 .rw[dW U];dsimp only;rw[wB zZ];refine cW (jr (i' (I:=λx c u=>u=st/\∃l o,c=(none,l,o)/\l<o/\x+1<=o/\l<n-m/\kx r p (d+(m+l))<r t)
   (Q:=λc u=>u=st/\∃l o,c=(none,l,o)/\l<o/\l<n-m/\kx r p (d+(m+l))<r t/\(o<n-m-> ¬kx r p (d+(m+o))<r t)) ?step ?stop #[zZ,0,1,zZ,(),(),(),U]) ?post)
  case step=>
   rintro x c u _ hx ⟨rfl,l,o,rfl,B,G,l3,l4⟩;dsimp only;by_cases z:o>=n-m
   .rw[wB z];exact c7 #[zZ,l,o,zZ,B,l3,l4,λy=>by lia]
   .rw[wA z];refine cW (D _ _ () ?_);by_cases c:kx r p (d+(m+o))<r t
    .rw[dW c];exact c7 #[zZ,o,_,zZ,(),(),(),c]
    .rw[fZ c];exact c7 #[zZ,l,o,zZ,B,l3,l4,λ_=>c]
  case stop=>
   rintro c u ⟨rfl,l,o,rfl,B,G,l3,l4⟩;exact#[zZ,l,o,zZ,B,l3,l4,λy=>by lia]
  case post=>
   rintro c u ⟨rfl,l,o,rfl,B,l3,l4,l5⟩;dsimp only;refine fin (m+l+1) (m+min o (n-m)) _ _ _ zZ (wK (Nat.le_min.mpr #[B,l3]) m) (dy (wK (Nat.min_le_right ..) m) (rz (oH (jp T)))) (λi w=>Y i (m+l) (zV w) (Nat.add_lt_of_lt_sub' l3) l4) (λi H J=>by
    by_cases z:o<n-m
    .exact L (m+o) i (by rw[u3 (jp z)]at H;exact H) J (l5 z)
    .rw[Nat.min_eq_right (zb z),oH (jp T)]at H;exact wC J (Nat.not_lt.mpr H)) (λx l h R z C=>?_) (λx l h R z hn C=>?_) (λh hq=>c7 hq)
   .dsimp only;rw[wB z];exact c7 C
   .dsimp only;rw[wA ()];refine cW (D _ _ () ?_);by_cases c:kx r p (d+(l+(h-l) /2))<r t
    .rw[wB c]at C;rw[dW c];exact c7 C
    .rw[wA c]at C;rw[fZ c];exact c7 C
 .rw[fZ U];dsimp only;rw[wA (by decide)];refine cW (jr (i' (I:=λx c u=>u=st/\∃l o,c=(none,l,o)/\l<o/\x+1<=o/\l<m+1/\ ¬kx r p (d+(m-l))<r t)
   (Q:=λc u=>u=st/\∃l o,c=(none,l,o)/\l<o/\l<m+1/\ ¬kx r p (d+(m-l))<r t/\(o<m+1->kx r p (d+(m-o))<r t)) ?step ?stop #[zZ,0,1,zZ,(),(),(),U]) ?post)
  case step=>
   rintro x c u _ hx ⟨rfl,l,o,rfl,B,G,l3,l4⟩;dsimp only;by_cases z:o>=m+1
   .rw[wB z];exact c7 #[zZ,l,o,zZ,B,l3,l4,λy=>by lia]
   .rw[wA z];refine cW (D _ _ () ?_);by_cases c:kx r p (d+(m-o))<r t
    .rw[dW c];exact c7 #[zZ,l,o,zZ,B,l3,l4,λ_=>c]
    .rw[fZ c];exact c7 #[zZ,o,_,zZ,(),(),(),c]
  case stop=>
   rintro c u ⟨rfl,l,o,rfl,B,G,l3,l4⟩;exact#[zZ,l,o,zZ,B,l3,l4,λy=>by lia]
  case post=>
   rintro c u ⟨rfl,l,o,rfl,B,l3,l4,l5⟩;dsimp only;refine fin (m+1-min o (m+1)) (m-l) _ _ _ zZ (dy (Nat.sub_le_sub_left (Nat.le_min.mpr #[B,l3]) _) (rz (Nat.add_sub_add_right ..))) (dy (Nat.sub_le ..) (jp T)) (λi w=>by
    by_cases z:o<m+1
    .rw[u3 (jp z),Nat.succ_sub (zV z)]at w;exact Y i (m-o) (zV w) (v3 (Nat.sub_le ..) T) (l5 z)
    .rw[Nat.min_eq_right (zb z),oN]at w;exact wC w (mQ _)) (λi H J=>L (m-l) i H J l4) (λx l h R z C=>?_) (λx l h R z hn C=>?_) (λh hq=>c7 hq)
   .dsimp only;rw[wB z];exact c7 C
   .dsimp only;rw[wA ()];refine cW (D _ _ () ?_);by_cases c:kx r p (d+(l+(h-l) /2))<r t
    .rw[wB c]at C;rw[dW c];exact c7 C
    .rw[wA c]at C;rw[fZ c];exact c7 C
end
abbrev T5:Type:=Option (Array Keyed)×Array Keyed×Nat×Nat×Nat
abbrev T6:Type:=Option (Array Keyed)×Array Keyed×Nat×Nat×Nat×Nat
abbrev T7:Type:=Option (Array Keyed)×Array Keyed×Nat×Nat×Nat×Nat×Nat
def CY:Array Keyed->Array Keyed->StateT SortSt Sem (Array Keyed):=sortPriv%PySem.Builtin.mergeLo
def D6:Array Keyed->Array Keyed->StateT SortSt Sem (Array Keyed):=sortPriv%PySem.Builtin.mergeHi
def vQ:Nat->StateT SortSt Sem Unit:=sortPriv%PySem.Builtin.setMinGallop
def KI(g:Nat):vQ g=modify λst=>SortSt.mk' (kindOf st) (arrOf st) (pendingOf st) g (failedOf st):=rfl
section
variable(a b:Array Keyed)
abbrev lX(c:Array Keyed)(d e:Nat):Array Keyed:=c++a.extract d a.size++b.extract e b.size
abbrev oG(c:Array Keyed)(d e:Nat):Array Keyed:=c++b.extract e b.size++a.extract d a.size
def Cq(mg:Nat)(c:T6):StateT SortSt Sem (ForInStep T6):=do
 let some d <-lt' (<-elem' b c.2.2.2.1) (<-elem' a c.2.2.1)|pure (.done (some (lX a b c.2.1 c.2.2.1 c.2.2.2.1),c.2.1,c.2.2.1,c.2.2.2.1,c.2.2.2.2.1,c.2.2.2.2.2))
 if d then
  let x <-elem' b c.2.2.2.1
  if c.2.2.2.1+1==b.size then pure (.done (some (lX a b (c.2.1.push x) c.2.2.1 (c.2.2.2.1+1)),c.2.1.push x,c.2.2.1,c.2.2.2.1+1,0,c.2.2.2.2.2+1))
  else if c.2.2.2.2.2+1>=mg then pure (.done (none,c.2.1.push x,c.2.2.1,c.2.2.2.1+1,0,c.2.2.2.2.2+1))
  else pure (.yield (none,c.2.1.push x,c.2.2.1,c.2.2.2.1+1,0,c.2.2.2.2.2+1))
 else
  let x <-elem' a c.2.2.1
  if c.2.2.1+1+1==a.size then pure (.done (some (oG a b (c.2.1.push x) (c.2.2.1+1) c.2.2.2.1),c.2.1.push x,c.2.2.1+1,c.2.2.2.1,c.2.2.2.2.1+1,0))
  else if c.2.2.2.2.1+1>=mg then pure (.done (none,c.2.1.push x,c.2.2.1+1,c.2.2.2.1,c.2.2.2.2.1+1,0))
  else pure (.yield (none,c.2.1.push x,c.2.2.1+1,c.2.2.2.1,c.2.2.2.2.1+1,0))
def pA(c:Array Keyed)(d e mg k f:Nat):StateT SortSt Sem (ForInStep T7):=do
 let x <-elem' a d
 if d+1+1==a.size then pure (.done (some (oG a b (c.push x) (d+1) e),c.push x,d+1,e,mg,k,f))
 else if k<7&&f<7 then pure (.done (none,c.push x,d+1,e,mg,k,f))
 else pure (.yield (none,c.push x,d+1,e,mg,k,f))
def pj(d:Array Keyed)(f c mg k g:Nat):StateT SortSt Sem (ForInStep T7):=do
 let y <-elem' b c
 if c+1==b.size then pure (.done (some (lX a b (d.push y) f (c+1)),d.push y,f,c+1,mg,k,g))
 else do
  let some e <-qj true (<-elem' a f) b (c+1) (b.size-(c+1)) 0|pure (.done (some (lX a b (d.push y) f (c+1)),d.push y,f,c+1,mg,k,g))
  if e>0 then
   if c+1+e==b.size then pure (.done (some (lX a b (d.push y++b.extract (c+1) (c+1+e)) f (c+1+e)),d.push y++b.extract (c+1) (c+1+e),f,c+1+e,mg,k,e))
   else pA a b (d.push y++b.extract (c+1) (c+1+e)) f (c+1+e) mg k e
  else pA a b (d.push y) f (c+1) mg k e
def pH(c:T7)(mg:Nat):StateT SortSt Sem (ForInStep T7):=do
 vQ mg
 let some k <-qj false (<-elem' b c.2.2.2.1) a c.2.2.1 (a.size-c.2.2.1) 0|pure (.done (some (lX a b c.2.1 c.2.2.1 c.2.2.2.1),c.2.1,c.2.2.1,c.2.2.2.1,mg,c.2.2.2.2.2.1,c.2.2.2.2.2.2))
 if k>0 then
  if c.2.2.1+k+1==a.size then pure (.done (some (oG a b (c.2.1++a.extract c.2.2.1 (c.2.2.1+k)) (c.2.2.1+k) c.2.2.2.1),c.2.1++a.extract c.2.2.1 (c.2.2.1+k),c.2.2.1+k,c.2.2.2.1,mg,k,c.2.2.2.2.2.2))
  else if c.2.2.1+k==a.size then pure (.done (some (lX a b (c.2.1++a.extract c.2.2.1 (c.2.2.1+k)) (c.2.2.1+k) c.2.2.2.1),c.2.1++a.extract c.2.2.1 (c.2.2.1+k),c.2.2.1+k,c.2.2.2.1,mg,k,c.2.2.2.2.2.2))
  else pj a b (c.2.1++a.extract c.2.2.1 (c.2.2.1+k)) (c.2.2.1+k) c.2.2.2.1 mg k c.2.2.2.2.2.2
 else pj a b c.2.1 c.2.2.1 c.2.2.2.1 mg k c.2.2.2.2.2.2
def De(c:T7):StateT SortSt Sem (ForInStep T7):=if c.2.2.2.2.1>1 then pH a b c (c.2.2.2.2.1-1)else pH a b c c.2.2.2.2.1
def Cf(c:T5):StateT SortSt Sem (ForInStep T5):=do
 let e <-forIn [0:a.size+b.size] ((none,c.2.1,c.2.2.1,c.2.2.2.1,0,0):T6) λ_ e=>Cq a b c.2.2.2.2 e
 match e.1 with
 |some r=>pure (.done (some r,e.2.1,e.2.2.1,e.2.2.2.1,c.2.2.2.2))
 | none=>do
  rule "list.sort.gallop"
  let d <-forIn [0:a.size+b.size] ((none,e.2.1,e.2.2.1,e.2.2.2.1,c.2.2.2.2+1,e.2.2.2.2.1,e.2.2.2.2.2):T7) λ_ d=>De a b d
  match d.1 with
  |some r=>pure (.done (some r,d.2.1,d.2.2.1,d.2.2.2.1,d.2.2.2.2.1))
  |none=>do
   vQ (d.2.2.2.2.1+1)
   pure (.yield (none,d.2.1,d.2.2.1,d.2.2.2.1,d.2.2.2.2.1+1))
def Hn:StateT SortSt Sem (Array Keyed):=do
 rule "list.sort.merge-lo"
 let x <-elem' b 0
 if 1==b.size then pure (lX a b #v[x] 0 1)
 else if 0+1==a.size then pure (oG a b #v[x] 0 1)
 else do
  let st <-get
  let c <-forIn [0:a.size+b.size] ((none,#v[x],0,1,gallopOf st):T5) λ_ c=>Cf a b c
  match c.1 with
  |some r=>pure r
  |none=>unsupported "internal:list.sort.merge-bound"
def Ni:CY a b=Hn a b:=by
 refine dw (bind _) (funext λ_=>?_);refine dw (bind (elem' b 0)) (funext λx=>?_);refine vq zZ (λ_=>rfl) (λ_=>?_);refine vq zZ (λ_=>rfl) (λ_=>?_);refine dw (bind get) (funext λst=>?_);refine congr (dw bind (dw (forIn [0:a.size+b.size] _) (funext λu=>funext λc=>?_))) (funext λc=>?_)
 .refine congr (dw bind (dw (forIn [0:a.size+b.size] _) (funext λu=>funext λd=>rfl))) (funext λd=>?_);obtain⟨e,f,h,i,j,k⟩:=d;cases e with
  |some e=>rfl
  | none=>
   refine dw (bind _) (funext λ_=>?_);refine congr (dw bind (dw (forIn [0:a.size+b.size] _) (funext λu=>funext λg=>?_))) (funext λg=>?_)
   .refine vq zZ (λ_=>?_) (λ_=>?_)
    .rfl
    .rfl
   .obtain⟨l,_⟩:=g;cases l<;>rfl
 .obtain⟨r,_⟩:=c;cases r<;>rfl
end
abbrev Up(r:Keyed->Int)(l:List Keyed):Prop:=l.Pairwise λx y=>r x<r y
structure Mg(r:Keyed->Int)(la lb out:List Keyed)(ia ib:Nat):Prop where
 perm:(out++la.drop ia++lb.drop ib).Perm (la++lb)
 so:Up r out
 oa:∀x∈out,∀y∈la.drop ia,r x<r y
 ob:∀x∈out,∀y∈lb.drop ib,r x<r y
section
variable{r:Keyed->Int}{a b out:List Keyed}{c d:Nat}
def zK{l:List Keyed}(h:Up r l)(i:Nat):Up r (l.drop i):=vj (List.drop_sublist i l) h
def Gi{l:List Keyed}(h:Up r l)(i k:Nat):Up r ((l.drop i).take k)/\∀x∈(l.drop i).take k,∀y∈l.drop (i+k),r x<r y:=by
 have z:=zK h i;rw[<-n9 k (l.drop i)]at z;obtain⟨b,_,a⟩:=iJ.mp z;rw[List.drop_drop]at a;exact#[b,a]
def Mg.len(m:Mg r a b out c d)(e:c<=a.length)(f:d<=b.length):out.length+(a.length-c)+(b.length-d)=a.length+b.length:=by
 have z:=m.perm.length_eq;rw[eh,eh,eh,ww,ww]at z;exact z
def Mg.moveA(m:Mg r a b out c d)(i:Up r a)(k:Nat)(h:∀x∈(a.drop c).take k,∀y∈b.drop d,r x<r y):Mg r a b (out++(a.drop c).take k) (c+k) d:=by
 obtain⟨j,l⟩:=Gi i c k;have e:(a.drop c).take k++a.drop (c+k)=a.drop c:=by rw[<-List.drop_drop];exact n9 k _
 have sub:∀y∈a.drop (c+k),y∈a.drop c:=λy f=>by rw[<-e];exact dh.mpr (.inr f)
 refine#[?_,iJ.mpr #[m.so,j,λx g y f=>m.oa x g y (vo f)],λx g y f=>?_,λx g y f=>?_]
 .have z:=m.perm;rw[<-e,<-f']at z;exact z
 .rcases dh.mp g with z|z
  .exact m.oa x z y (sub y f)
  .exact l x z y f
 .rcases dh.mp g with z|z
  .exact m.ob x z y f
  .exact h x z y f
def Mg.moveB(m:Mg r a b out c d)(i:Up r b)(k:Nat)(h:∀x∈(b.drop d).take k,∀y∈a.drop c,r x<r y):Mg r a b (out++(b.drop d).take k) c (d+k):=by
 obtain⟨j,l⟩:=Gi i d k;have e:(b.drop d).take k++b.drop (d+k)=b.drop d:=by rw[<-List.drop_drop];exact n9 k _
 have sub:∀y∈b.drop (d+k),y∈b.drop d:=λy f=>by rw[<-e];exact dh.mpr (.inr f)
 refine#[?_,iJ.mpr #[m.so,j,λx g y f=>m.ob x g y (vo f)],λx g y f=>?_,λx g y f=>?_]
 .have z:=m.perm;rw[<-e]at z;refine List.Perm.trans ?_ z;rw[f',f',f'];refine wr _ ?_;rw[<-f',<-f'];exact Bp _ y4
 .rcases dh.mp g with z|z
  .exact m.oa x z y f
  .exact h x z y f
 .rcases dh.mp g with z|z
  .exact m.ob x z y (sub y f)
  .exact l x z y f
def gM(r:Keyed->Int)(a b out:List Keyed):Prop:=out.Perm (a++b)/\Up r out
def Mg.endB(m:Mg r a b out c d)(e:Up r a)(h:b.length<=d):gM r a b (out++a.drop c++b.drop d):=by
 refine#[m.perm,?_];rw[List.drop_of_length_le h,gS];exact iJ.mpr #[m.so,zK e c,m.oa]
def Mg.endA(m:Mg r a b out c d)(e:Up r b)(h:a.length<=c):gM r a b (out++a.drop c++b.drop d):=by
 refine#[m.perm,?_];rw[List.drop_of_length_le h,gS];exact iJ.mpr #[m.so,zK e d,m.ob]
def Mg.last(m:Mg r a b out c d)(f:Up r b)(h:c+1=a.length)(top:∀y∈b,∀x∈a.drop c,r y<r x):gM r a b (out++b.drop d++a.drop c):=by
 refine#[List.Perm.trans ?_ m.perm,?_]
 .rw[f',f'];exact wr _ y4
 .obtain⟨x,g⟩:∃x,a.drop c=[x]:=List.length_eq_one_iff.mp (by rw[ww];lia);refine iJ.mpr #[iJ.mpr #[m.so,zK f d,m.ob],by rw[g];exact oS _ _,λy i x e=>?_]
  rcases dh.mp i with z|z
  .exact m.oa y z x e
  .exact top y (DN z) x e
end
structure Eqv(st st':SortSt):Prop where
 kind:kindOf st'=kindOf st
 arr:arrOf st'=arrOf st
 pend:pendingOf st'=pendingOf st
 ok:failedOf st'=failedOf st
def Eqv.refl(st:SortSt):Eqv st st:=#[zZ,zZ,zZ,zZ]
def Eqv.trans{a b c:SortSt}(h:Eqv a b)(d:Eqv b c):Eqv a c:=#[d.kind.trans h.kind,d.arr.trans h.arr,d.pend.trans h.pend,d.ok.trans h.ok]
section
variable{M:Model}{A:Ar}{E:VP}{s:Sh}{κ:SortKind}{r:Keyed->Int}{a₀ a b out:Array Keyed}{ia ib:Nat}
def A7{g:Nat}{st:SortSt}{Q:Unit->SortSt->Prop}(h:∀a,Eqv st a->Q ⟨⟩ a):wpS M A E s (vQ g) Q st:=by
 rw[KI];exact oE (h _ #[zZ,zZ,zZ,zZ])
def Ba(a:Array Keyed)(i:Nat):(a.extract i a.size).toList=a.toList.drop i:=by
 rw[A4,Ab,Bb (by rw[ww,d9];exact cQ _)]
def HD(a:Array Keyed)(i k:Nat):(a.extract i (i+k)).toList=(a.toList.drop i).take k:=by
 rw[A4,Ab,A1]
def xm:(lX a b out ia ib).toList=out.toList++a.toList.drop ia++b.toList.drop ib:=by
 rw[mW,mW,Ba,Ba]
def AZ:(oG a b out ia ib).toList=out.toList++b.toList.drop ib++a.toList.drop ia:=by
 rw[mW,mW,Ba,Ba]
def Cd{i:Nat}(h:i<a.size):a.toList.drop i=a.getD i d0::a.toList.drop (i+1):=by
 have z:=rc h;rw[<-lF]at z;obtain⟨b,c⟩:=cK.mp z;rw[Ai b,c]
def yK{i:Nat}{x:Keyed}(h:x∈a.toList.drop i):∃j,i<=j/\j<a.size/\a.getD j d0=x:=by
 obtain⟨j,b⟩:=lU h;rw[zx,lF]at b;exact#[i+j,(),(nV.mp b).1,vr b]
def BA{i k:Nat}{x:Keyed}(h:x∈(a.toList.drop i).take k):∃j,j<k/\i+j<a.size/\a.getD (i+j) d0=x:=by
 obtain⟨j,b⟩:=lU h;rw[Df]at b;split at b
 .next l=>
  rw[zx,lF]at b;exact#[j,l,(nV.mp b).1,vr b]
 .cases b
def u6{lo b:Nat}(h:Up r a.toList)(n:b<=a.size):Ris r a lo b:=λi j _ c o=>by
 have e:∀k,k<a.size->a.toList[k]?=some (a.getD k d0):=λk d=>by rw[lF];exact rc d
 obtain⟨f,g⟩:=cK.mp (e i ());obtain⟨l,m⟩:=cK.mp (e j ());have z:=pc.mp h i j f l c;rw[g,m]at z;exact z
def iF{i:Nat}(h:i<a.size):a.getD i d0∈a.toList:=by
 rw[Ce];exact Dq (rc h)
structure Two(κ:SortKind)(r:Keyed->Int)(a₀ a b:Array Keyed):Prop where
 ma:∀x∈a.toList,x∈a₀
 mb:∀x∈b.toList,x∈a₀
 sa:Up r a.toList
 sb:Up r b.toList
 ap:∀x∈a.toList,∀y∈b.toList,r x≠r y
 a1:0<a.size
 b1:0<b.size
 lo:∀x∈a.toList,r (b.getD 0 d0)<r x
 top:∀y∈b.toList,r y<r (a.getD (a.size-1) d0)
abbrev Gd(r:Keyed->Int)(a b m:Array Keyed):Prop:=gM r a.toList b.toList m.toList
def Two.tops(t:Two κ r a₀ a b){i:Nat}(h:i+1=a.size):∀y∈b.toList,∀x∈a.toList.drop i,r y<r x:=λy c x d=>by
 obtain⟨j,f,g,rfl⟩:=yK d;have e:j=a.size-1:=by lia
 subst e;exact t.top y c
def zW{x:Keyed}:(out.push x).toList=out.toList++[x]:=vw
def GU(t:Two κ r a₀ a b)(m:Mg r a.toList b.toList out.toList ia ib)(c:ia<a.size)(h:∀y∈b.toList.drop ib,r (a.getD ia d0)<r y):Mg r a.toList b.toList (out.push (a.getD ia d0)).toList (ia+1) ib:=by
 have e:(a.toList.drop ia).take 1=[a.getD ia d0]:=by rw[Cd c];rfl
 have z:=m.moveA t.sa 1 (by rw[e];intro x d;rw[cY.mp d];exact h);rw[e]at z;rw[zW];exact z
def CB(t:Two κ r a₀ a b)(m:Mg r a.toList b.toList out.toList ia ib)(c:ib<b.size)(h:∀y∈a.toList.drop ia,r (b.getD ib d0)<r y):Mg r a.toList b.toList (out.push (b.getD ib d0)).toList ia (ib+1):=by
 have e:(b.toList.drop ib).take 1=[b.getD ib d0]:=by rw[Cd c];rfl
 have z:=m.moveB t.sb 1 (by rw[e];intro x d;rw[cY.mp d];exact h);rw[e]at z;rw[zW];exact z
def below{x:Int}{i:Nat}(b:Up r a.toList)(f:i<a.size)(h:x<r (a.getD i d0)):∀y∈a.toList.drop i,x<r y:=λy c=>by
 obtain⟨j,g,d,rfl⟩:=yK c;by_cases e:j=i
 .subst e;exact h
 .have:=u6 (lo:=0) b (cQ _) i j (g7 _) () d;show x<kx r a j;have:x<kx r a i:=h;lia
def OE{e:SortSt}{mg old t:Nat}{c:T6}{st:SortSt}{Q:ForInStep T6->SortSt->Prop}(K:Asks M A s κ r a₀)(T:Two κ r a₀ a b)(n:Eqv e st)(o:kindOf e=κ)(p:c=(none,out,ia,ib,c.2.2.2.2.1,c.2.2.2.2.2))(m:Mg r a.toList b.toList out.toList ia ib)(q:ia+1<a.size)(d:ib<b.size)(B:old+t<=out.size)(k:∀w rest,Gd r a b w->Q (.done (some w,rest)) st) (l:∀out ia ib x y,Mg r a.toList b.toList out.toList ia ib->ia+1<a.size->ib<b.size->old+t+1<=out.size->Q (.done (none,out,ia,ib,x,y)) st/\Q (.yield (none,out,ia,ib,x,y)) st):wpS M A E s (Cq a b mg c) Q st:=by
 have h:=n.kind.trans o;unfold Cq;rw[p];dsimp only;have u:=T.ma _ (iF (show ia<a.size by lia));have v:=T.mb _ (iF d);refine cW (gX d (cW (gX () (cW (wy K h v u ?_)))));by_cases w:r (b.getD ib d0)<r (a.getD ia d0)
 .rw[dW w];refine cW (gX d ?_);have f:=CB T m d (below T.sa () w);by_cases z:ib+1=b.size
  .rw[wB (by simpa using z)];refine c7 (k _ _ ?_);show gM r _ _ (lX a b _ _ _).toList
   rw[xm];exact f.endB T.sa (by rw[d9];lia)
  .rw[wA (by simpa using z)];obtain⟨i,j⟩:=l _ _ _ 0 (c.2.2.2.2.2+1) f q () (by rw[pK];lia);by_cases g:c.2.2.2.2.2+1>=mg
   .rw[wB g];exact c7 i
   .rw[wA g];exact c7 j
 .rw[fZ w];refine cW (gX () ?_);have ne:=T.ap _ (iF (show ia<a.size by lia)) _ (iF d);have f:=GU T m () (below T.sb d ());by_cases z:ia+1+1=a.size
  .rw[wB (by simpa using z)];refine c7 (k _ _ ?_);show gM r _ _ (oG a b _ _ _).toList
   rw[AZ];exact f.last T.sb (by rw[d9];lia) (T.tops ())
  .rw[wA (by simpa using z)];obtain⟨i,j⟩:=l _ _ _ (c.2.2.2.2.1+1) 0 f () d (by rw[pK];lia);by_cases g:c.2.2.2.2.1+1>=mg
   .rw[wB g];exact c7 i
   .rw[wA g];exact c7 j
end
section
variable{M:Model}{A:Ar}{E:VP}{s:Sh}{κ:SortKind}{r:Keyed->Int}{a₀ a b out:Array Keyed}{ia ib:Nat}
structure Rnd(r:Keyed->Int)(a b:Array Keyed)(st0:SortSt)(old:Nat)(Q:ForInStep T7->SortSt->Prop):Prop where
 q1:∀st w rest,Eqv st0 st->Gd r a b w->Q (.done (some w,rest)) st
 q2:∀st (out:Array Keyed) ia ib x y z,Eqv st0 st->Mg r a.toList b.toList out.toList ia ib->ia+1<a.size->ib<b.size->old<=out.size->Q (.done (none,out,ia,ib,x,y,z)) st/\Q (.yield (none,out,ia,ib,x,y,z)) st
def Fk{c st:SortSt}{mg k d old:Nat}{Q:ForInStep T7->SortSt->Prop}(T:Two κ r a₀ a b)(e:Eqv c st)(m:Mg r a.toList b.toList out.toList ia ib)(l:ia+1<a.size)(h:ib<b.size)(n:old<=out.size)(lt:∀y∈b.toList.drop ib,r (a.getD ia d0)<r y)(q:Rnd r a b c old Q):wpS M A E s (pA a b out ia ib mg k d) Q st:=by
 unfold pA;refine cW (gX () ?_);have f:=GU T m () lt;by_cases z:ia+1+1=a.size
 .rw[wB (by simpa using z)];refine c7 (q.q1 _ _ _ e ?_);show gM r _ _ (oG a b _ _ _).toList;rw[AZ];exact f.last T.sb (by rw[d9];lia) (T.tops ())
 .rw[wA (by simpa using z)];obtain⟨i,j⟩:=q.q2 st _ _ _ mg k d e f () h (by rw[pK];lia);by_cases g:(decide (k<7)&&decide (d<7))=true
  .rw[wB g];exact c7 i
  .rw[wA g];exact c7 j
def EZ{c st:SortSt}{mg k I old:Nat}{Q:ForInStep T7->SortSt->Prop}(K:Asks M A s κ r a₀)(J:kindOf c=κ)(T:Two κ r a₀ a b)(f:Eqv c st)(m:Mg r a.toList b.toList out.toList ia ib)(w:ia+1<a.size)(B:ib<b.size)(U:old<=out.size)(lt:∀y∈a.toList.drop ia,r (b.getD ib d0)<r y)(q:Rnd r a b c old Q):wpS M A E s (pj a b out ia ib mg k I) Q st:=by
 have p:=f.kind.trans J;unfold pj;refine cW (gX B ?_);have o:=CB T m B lt;have h:old<=(out.push (b.getD ib d0)).size:=by rw[pK];lia
 generalize out.push (b.getD ib d0)=l at o h;by_cases z:ib+1=b.size
 .rw[wB (by simpa using z)];refine c7 (q.q1 _ _ _ f ?_);show gM r _ _ (lX a b _ _ _).toList;rw[xm];exact o.endB T.sa (by rw[d9];lia)
 rw[wA (by simpa using z)];have C:=iF (show ia<a.size by lia);refine cW (gX () (cW (u9 K p () (λi L=>T.mb _ (iF ())) (T.ma _ C) (λi L=>(T.ap _ C _ (iF (show ib+1+i<b.size by lia))).symm) (u6 T.sb ()) () λd Y N k3=>?_)));dsimp only;have D:∀y∈b.toList.drop (ib+1+d),r (a.getD ia d0)<r y:=λy t=>by
  obtain⟨j,n,G,rfl⟩:=yK t;have:=k3 (j-(ib+1)) (Bt (Nat.add_comm .. ▸n)) (Nat.sub_lt_sub_right (dy (oO ..) n) G);rw[oH (dy (oO ..) n)]at this;exact this
 by_cases g:d>0
 .rw[wB g];have u:=o.moveB T.sb d (λx O y t=>by
   obtain⟨j,n,G,rfl⟩:=BA O;exact below T.sa () (N j n) y t)
  rw[<-HD,<-mW]at u;have v:old<=(l++b.extract (ib+1) (ib+1+d)).size:=by rw[AK];lia
  by_cases H:ib+1+d=b.size
  .rw[wB (by simpa using H)];refine c7 (q.q1 _ _ _ f ?_);show gM r _ _ (lX a b _ _ _).toList
   rw[xm];exact u.endB T.sa (by rw[d9];lia)
  .rw[wA (by simpa using H)];exact Fk T f u w () v D q
 .rw[wA g];have e:d=0:=Nat.eq_zero_of_not_pos g;subst e;exact Fk T f o w () h D q
def FE{d st:SortSt}{c:T7}{mg old:Nat}{Q:ForInStep T7->SortSt->Prop}(K:Asks M A s κ r a₀)(o:kindOf d=κ)(T:Two κ r a₀ a b)(D:Eqv d st)(G:c.2.1=out/\c.2.2.1=ia/\c.2.2.2.1=ib)(m:Mg r a.toList b.toList out.toList ia ib)(H:ia+1<a.size)(f:ib<b.size)(I:old<=out.size)(q:Rnd r a b d old Q):wpS M A E s (pH a b c mg) Q st:=by
 obtain⟨J,L,N⟩:=G;unfold pH;rw[J,L,N];refine cW (A7 λO U=>?_);have h:=D.trans U;have p:=h.kind.trans o;have v:=iF f;refine cW (gX f (cW (u9 K p () (λi Y=>T.ma _ (iF ())) (T.mb _ v) (λi Y=>T.ap _ (iF (show ia+i<a.size by lia)) _ v) (u6 T.sa ()) () λk kn k2 k3=>?_)));dsimp only;have w:∀y∈a.toList.drop (ia+k),r (b.getD ib d0)<r y:=λy t=>by
  obtain⟨j,l,z,rfl⟩:=yK t;have:=k3 (j-ia) (Bt (Nat.add_comm .. ▸l)) (Nat.sub_lt_sub_right (dy (oO ..) l) z);rw[oH (dy (oO ..) l)]at this;exact this
 by_cases g:k>0
 .rw[wB g];have n:=m.moveA T.sa k (λx hx y t=>by
   obtain⟨j,l,z,rfl⟩:=BA hx;exact below T.sb f (k2 j l) y t)
  rw[<-HD,<-mW]at n;have u:old<=(out++a.extract ia (ia+k)).size:=by rw[AK];lia
  by_cases B:ia+k+1=a.size
  .rw[wB (by simpa using B)];refine c7 (q.q1 _ _ _ h ?_);show gM r _ _ (oG a b _ _ _).toList
   rw[AZ];exact n.last T.sb (by rw[d9];lia) (T.tops ())
  rw[wA (by simpa using B)];by_cases C:ia+k=a.size
  .rw[wB (by simpa using C)];refine c7 (q.q1 _ _ _ h ?_);show gM r _ _ (lX a b _ _ _).toList
   rw[xm];exact n.endA T.sb (by rw[d9];lia)
  rw[wA (by simpa using C)];exact EZ K o T h n () f u w q
 .rw[wA g];have e:k=0:=Nat.eq_zero_of_not_pos g;subst e;exact EZ K o T h m H f I w q
def Ma{d st:SortSt}{c:T7}{old:Nat}{Q:ForInStep T7->SortSt->Prop}(K:Asks M A s κ r a₀)(e:kindOf d=κ)(T:Two κ r a₀ a b)(f:Eqv d st)(g:c.2.1=out/\c.2.2.1=ia/\c.2.2.2.1=ib)(m:Mg r a.toList b.toList out.toList ia ib)(h:ia+1<a.size)(i:ib<b.size)(j:old<=out.size)(q:Rnd r a b d old Q):wpS M A E s (De a b c) Q st:=by
 unfold De;split
 .exact FE K e T f g m h i j q
 .exact FE K e T f g m h i j q
def Nl{f st:SortSt}{c:T5}{Q:ForInStep T5->SortSt->Prop}{mg:Nat}(K:Asks M A s κ r a₀)(hk:kindOf f=κ)(T:Two κ r a₀ a b)(e0:Eqv f st)(ec:c=(none,out,ia,ib,mg))(m:Mg r a.toList b.toList out.toList ia ib)(ha:ia+1<a.size)(hb:ib<b.size)(q1:∀st w rest,Eqv f st->Gd r a b w->Q (.done (some w,rest)) st) (q2:∀st (k:Array Keyed) ia ib g,Eqv f st->Mg r a.toList b.toList k.toList ia ib->ia+1<a.size->ib<b.size->out.size+1<=k.size->Q (.yield (none,k,ia,ib,g)) st):wpS M A E s (Cf a b c) Q st:=by
 subst ec;unfold Cf;dsimp only;have aa:0<a.size+b.size:=by lia
 refine cW (jr (i' (I:=λx (q:T6) d=>Eqv f d/\∃(o:Array Keyed) (i j u v:Nat),q=(none,o,i,j,u,v)/\Mg r a.toList b.toList o.toList i j/\i+1<a.size/\j<b.size/\out.size+x<=o.size)
  (Q:=λq d=>Eqv f d/\((∃w rest,q=(some w,rest)/\Gd r a b w)\/∃(o:Array Keyed) (i j u v:Nat),q=(none,o,i,j,u,v)/\Mg r a.toList b.toList o.toList i j/\i+1<a.size/\j<b.size/\out.size+1<=o.size)) ?step ?stop #[e0,out,ia,ib,0,0,zZ,m,ha,hb,cQ _]) ?post)
 case step=>
  rintro x q d _ hx ⟨p,o,i,j,u,v,rfl,C,D,G,h3⟩;refine OE (old:=out.size) (t:=x) K T p hk zZ C D G h3 (λw rest g=>#[p,.inl #[w,rest,zZ,g]]) λH J L u' v' N l n y=>#[#[p,.inr #[H,J,L,u',v',zZ,N,l,n,()]],#[p,H,J,L,u',v',zZ,N,l,n,()]]
 case stop=>
  rintro q d ⟨p,o,i,j,u,v,rfl,C,D,G,h3⟩;exact#[p,.inr #[o,i,j,u,v,zZ,C,D,G,()]]
 case post=>
  rintro q d ⟨p,h⟩
  rcases h with⟨w,rest,rfl,g⟩|⟨o,i,j,u,v,rfl,C,D,G,h3⟩
  .exact c7 (q1 _ _ _ p g)
  dsimp only;refine cW (sE (pE #[zZ,?_]));refine cW (jr (i' (I:=λx (z:T7) d=>Eqv f d/\∃(o:Array Keyed) (i j u v w:Nat),z=(none,o,i,j,u,v,w)/\Mg r a.toList b.toList o.toList i j/\i+1<a.size/\j<b.size/\out.size+1<=o.size)
   (Q:=λz d=>Eqv f d/\((∃w rest,z=(some w,rest)/\Gd r a b w)\/∃(o:Array Keyed) (i j u v w:Nat),z=(none,o,i,j,u,v,w)/\Mg r a.toList b.toList o.toList i j/\i+1<a.size/\j<b.size/\out.size+1<=o.size)) ?step2 ?stop2 #[p,o,i,j,mg+1,u,v,zZ,C,D,G,h3]) ?post2)
  case step2=>
   rintro x z O _ hx ⟨B,o,i,j,u,v,w,rfl,U,Y,g2,g3⟩;exact Ma K hk T B #[zZ,zZ,zZ] U Y g2 g3 #[λst w rest e g=>#[e,.inl #[w,rest,zZ,g]],λst H J L x' y' z' e N l n y=>#[#[e,.inr #[H,J,L,x',y',z',zZ,N,l,n,y]],#[e,H,J,L,x',y',z',zZ,N,l,n,y]]]
  case stop2=>
   rintro z O ⟨B,o,i,j,u,v,w,rfl,U,Y,g2,g3⟩;exact#[B,.inr #[o,i,j,u,v,w,zZ,U,Y,g2,g3]]
  case post2=>
   rintro z O ⟨B,h⟩
   rcases h with⟨w,rest,rfl,g⟩|⟨o,i,j,u,v,w,rfl,U,Y,g2,g3⟩
   .exact c7 (q1 _ _ _ B g)
   .dsimp only;exact cW (A7 λab x3=>c7 (q2 _ _ _ _ _ (B.trans x3) U Y g2 g3))
def L8{st:SortSt}{Q:Array Keyed->SortSt->Prop}(K:Asks M A s κ r a₀)(C:kindOf st=κ)(T:Two κ r a₀ a b)(q:∀m d,Eqv st d->Gd r a b m->Q m d):wpS M A E s (CY a b) Q st:=by
 rw[Ni];unfold Hn;refine cW (sE (pE #[zZ,cW (gX T.b1 ?_)]));have D:Mg r a.toList b.toList (#v[]:Array Keyed).toList 0 0:=#[by simp,List.Pairwise.nil,λx f=>(nomatch f),λx f=>(nomatch f)];have k:Mg r a.toList b.toList (#v[b.getD 0 d0]:Array Keyed).toList 0 1:=CB (out:= #v[]) T D T.b1 (λy G=>T.lo y G);have a1:=T.a1;have b1:=T.b1;by_cases t:1=b.size
 .rw[wB (by simpa using t)];refine c7 (q _ _ (Eqv.refl _) ?_);show gM r _ _ (lX a b _ _ _).toList;rw[xm];exact k.endB T.sa (by rw[d9];lia)
 rw[wA (by simpa using t)];by_cases u:0+1=a.size
 .rw[wB (by simpa using u)];refine c7 (q _ _ (Eqv.refl _) ?_);show gM r _ _ (oG a b _ _ _).toList;rw[AZ];exact k.last T.sb (by rw[d9];lia) (T.tops ())
 rw[wA (by simpa using u)];refine cW (mS (cW (jr (i' (I:=λx (c:T5) d=>Eqv st d/\∃(o:Array Keyed) (i j g:Nat),c=(none,o,i,j,g)/\Mg r a.toList b.toList o.toList i j/\i+1<a.size/\j<b.size/\x+1<=o.size)
  (Q:=λc d=>Eqv st d/\∃w rest,c=(some w,rest)/\Gd r a b w) ?step ?stop #[Eqv.refl _,_,0,1,_,zZ,k,(),(),cQ _]) ?post)))
 case step=>
  rintro x c d _ f ⟨h,o,i,j,g,rfl,l,v,B,H⟩;exact Nl K C T h zZ l v B (λst w rest e g=>#[e,w,rest,zZ,g]) λd J L N O e U n p Y=>#[e,J,L,N,O,zZ,U,n,p,()]
 case stop=>
  rintro c d ⟨h,o,i,j,g,rfl,l,v,B,H⟩;have z:=l.len (by rw[d9];lia) (by rw[d9];lia);rw[d9,d9,d9]at z
  exfalso
  lia
 case post=>
  rintro c d ⟨h,w,rest,rfl,g⟩;exact c7 (q _ _ h g)
end
abbrev U5:Type:=Option (Array Keyed)×Nat×Nat×Array Keyed×Nat
abbrev U6:Type:=Option (Array Keyed)×Nat×Nat×Array Keyed×Nat×Nat
abbrev U7:Type:=Option (Array Keyed)×Nat×Nat×Array Keyed×Nat×Nat×Nat
section
variable(a b:Array Keyed)
abbrev lT(c:Array Keyed)(d e:Nat):Array Keyed:=a.extract 0 d++b.extract 0 e++c.reverse
abbrev px(c:Array Keyed)(d e:Nat):Array Keyed:=b.extract 0 e++a.extract 0 d++c.reverse
def pR(mg:Nat)(c:U6):StateT SortSt Sem (ForInStep U6):=do
 let some d <-lt' (<-elem' b (c.2.2.1-1)) (<-elem' a (c.2.1-1))|pure (.done (some (lT a b c.2.2.2.1 c.2.1 c.2.2.1),c.2.1,c.2.2.1,c.2.2.2.1,c.2.2.2.2.1,c.2.2.2.2.2))
 if d then
  let x <-elem' a (c.2.1-1)
  if c.2.1-1==0 then pure (.done (some (lT a b (c.2.2.2.1.push x) (c.2.1-1) c.2.2.1),c.2.1-1,c.2.2.1,c.2.2.2.1.push x,c.2.2.2.2.1+1,0))
  else if c.2.2.2.2.1+1>=mg then pure (.done (none,c.2.1-1,c.2.2.1,c.2.2.2.1.push x,c.2.2.2.2.1+1,0))
  else pure (.yield (none,c.2.1-1,c.2.2.1,c.2.2.2.1.push x,c.2.2.2.2.1+1,0))
 else
  let x <-elem' b (c.2.2.1-1)
  if c.2.2.1-1==1 then pure (.done (some (px a b (c.2.2.2.1.push x) c.2.1 (c.2.2.1-1)),c.2.1,c.2.2.1-1,c.2.2.2.1.push x,0,c.2.2.2.2.2+1))
  else if c.2.2.2.2.2+1>=mg then pure (.done (none,c.2.1,c.2.2.1-1,c.2.2.2.1.push x,0,c.2.2.2.2.2+1))
  else pure (.yield (none,c.2.1,c.2.2.1-1,c.2.2.2.1.push x,0,c.2.2.2.2.2+1))
def oJ(d e:Nat)(c:Array Keyed)(mg k f:Nat):StateT SortSt Sem (ForInStep U7):=do
 let x <-elem' a (d-1)
 if d-1==0 then pure (.done (some (lT a b (c.push x) (d-1) e),d-1,e,c.push x,mg,k,f))
 else if k<7&&f<7 then pure (.done (none,d-1,e,c.push x,mg,k,f))
 else pure (.yield (none,d-1,e,c.push x,mg,k,f))
def pF(e d:Nat)(c:Array Keyed)(mg k f:Nat):StateT SortSt Sem (ForInStep U7):=do
 let y <-elem' b (d-1)
 if d-1==1 then pure (.done (some (px a b (c.push y) e (d-1)),e,d-1,c.push y,mg,k,f))
 else do
  let some t <-qj true (<-elem' a (e-1)) b 0 (d-1) (d-1-1)|pure (.done (some (lT a b (c.push y) e (d-1)),e,d-1,c.push y,mg,k,f))
  if d-1-t>0 then
   if t==1 then pure (.done (some (px a b (c.push y++(b.extract t (d-1)).reverse) e t),e,t,c.push y++(b.extract t (d-1)).reverse,mg,k,d-1-t))
   else if t==0 then pure (.done (some (lT a b (c.push y++(b.extract t (d-1)).reverse) e t),e,t,c.push y++(b.extract t (d-1)).reverse,mg,k,d-1-t))
   else oJ a b e t (c.push y++(b.extract t (d-1)).reverse) mg k (d-1-t)
  else oJ a b e (d-1) (c.push y) mg k (d-1-t)
def pM(c:U7)(mg:Nat):StateT SortSt Sem (ForInStep U7):=do
 vQ mg
 let some t <-qj false (<-elem' b (c.2.2.1-1)) a 0 c.2.1 (c.2.1-1)|pure (.done (some (lT a b c.2.2.2.1 c.2.1 c.2.2.1),c.2.1,c.2.2.1,c.2.2.2.1,mg,c.2.2.2.2.2.1,c.2.2.2.2.2.2))
 if c.2.1-t>0 then
  if t==0 then pure (.done (some (lT a b (c.2.2.2.1++(a.extract t c.2.1).reverse) t c.2.2.1),t,c.2.2.1,c.2.2.2.1++(a.extract t c.2.1).reverse,mg,c.2.1-t,c.2.2.2.2.2.2))
  else pF a b t c.2.2.1 (c.2.2.2.1++(a.extract t c.2.1).reverse) mg (c.2.1-t) c.2.2.2.2.2.2
 else pF a b c.2.1 c.2.2.1 c.2.2.2.1 mg (c.2.1-t) c.2.2.2.2.2.2
def yi(c:U7):StateT SortSt Sem (ForInStep U7):=if c.2.2.2.2.1>1 then pM a b c (c.2.2.2.2.1-1)else pM a b c c.2.2.2.2.1
def C9(c:U5):StateT SortSt Sem (ForInStep U5):=do
 let e <-forIn [0:a.size+b.size] ((none,c.2.1,c.2.2.1,c.2.2.2.1,0,0):U6) λ_ e=>pR a b c.2.2.2.2 e
 match e.1 with
 |some r=>pure (.done (some r,e.2.1,e.2.2.1,e.2.2.2.1,c.2.2.2.2))
 | none=>do
  rule "list.sort.gallop"
  let d <-forIn [0:a.size+b.size] ((none,e.2.1,e.2.2.1,e.2.2.2.1,c.2.2.2.2+1,e.2.2.2.2.1,e.2.2.2.2.2):U7) λ_ d=>yi a b d
  match d.1 with
  |some r=>pure (.done (some r,d.2.1,d.2.2.1,d.2.2.2.1,d.2.2.2.2.1))
  |none=>do
   vQ (d.2.2.2.2.1+1)
   pure (.yield (none,d.2.1,d.2.2.1,d.2.2.2.1,d.2.2.2.2.1+1))
def F0:StateT SortSt Sem (Array Keyed):=do
 rule "list.sort.merge-hi"
 let x <-elem' a (a.size-1)
 if a.size-1==0 then pure (lT a b #v[x] (a.size-1) b.size)
 else if b.size==1 then pure (px a b #v[x] (a.size-1) b.size)
 else do
  let st <-get
  let c <-forIn [0:a.size+b.size] ((none,a.size-1,b.size,#v[x],gallopOf st):U5) λ_ c=>C9 a b c
  match c.1 with
  |some r=>pure r
  |none=>unsupported "internal:list.sort.merge-bound"
def Lp:D6 a b=F0 a b:=by
 refine dw (bind _) (funext λ_=>?_);refine dw (bind (elem' a (a.size-1))) (funext λx=>?_);refine vq zZ (λ_=>rfl) (λ_=>?_);refine vq zZ (λ_=>rfl) (λ_=>?_);refine dw (bind get) (funext λst=>?_);refine congr (dw bind (dw (forIn [0:a.size+b.size] _) (funext λu=>funext λc=>?_))) (funext λc=>?_)
 .refine congr (dw bind (dw (forIn [0:a.size+b.size] _) (funext λu=>funext λd=>rfl))) (funext λd=>?_);obtain⟨e,f,h,i,j,k⟩:=d;cases e with
  |some e=>rfl
  | none=>
   refine dw (bind _) (funext λ_=>?_);refine congr (dw bind (dw (forIn [0:a.size+b.size] _) (funext λu=>funext λg=>?_))) (funext λg=>?_)
   .refine vq zZ (λ_=>?_) (λ_=>?_)
    .rfl
    .rfl
   .obtain⟨l,_⟩:=g;cases l<;>rfl
 .obtain⟨r,_⟩:=c;cases r<;>rfl
end
structure Mh(r:Keyed->Int)(la lb out:List Keyed)(na nb:Nat):Prop where
 perm:(la.take na++lb.take nb++out.reverse).Perm (la++lb)
 so:Up r out.reverse
 ao:∀x∈la.take na,∀y∈out,r x<r y
 bo:∀x∈lb.take nb,∀y∈out,r x<r y
section
variable{r:Keyed->Int}{b a out:List Keyed}{f d:Nat}
def FQ{l:List Keyed}(h:Up r l){n t:Nat}(ht:t<=n):l.take t++(l.take n).drop t=l.take n/\Up r ((l.take n).drop t)/\∀x∈l.take t,∀y∈(l.take n).drop t,r x<r y:=by
 have e:l.take t++(l.take n).drop t=l.take n:=by
  have z:=n9 t (l.take n);rwa[List.take_take,u3 ht]at z
 have z:Up r (l.take n):=vj (vi n l) h;rw[<-e]at z;obtain⟨_,a,b⟩:=iJ.mp z;exact#[e,a,b]
def Mh.len(m:Mh r b a out f d)(c:f<=b.length)(e:d<=a.length):f+d+out.length=b.length+a.length:=by
 have z:=m.perm.length_eq;rw[eh,eh,eh,hG,hG,nI]at z;lia
def Mh.moveA(m:Mh r b a out f d)(l:Up r b){t:Nat}(ht:t<=f)(h:∀x∈a.take d,∀y∈(b.take f).drop t,r x<r y):Mh r b a (out++((b.take f).drop t).reverse) t d:=by
 obtain⟨e,u,c⟩:=FQ l ht;have sub:∀x∈b.take t,x∈b.take f:=λx g=>by rw[<-e];exact dh.mpr (.inl g)
 have i:∀x∈(b.take f).drop t,x∈b.take f:=λx g=>DN g;have k:(out++((b.take f).drop t).reverse).reverse=(b.take f).drop t++out.reverse:=by rw[List.reverse_append,AQ]
 refine#[?_,?_,λx g y j=>?_,λx g y j=>?_]
 .rw[k];refine List.Perm.trans ?_ m.perm
  conv=>rhs;rw[<-e]
  rw[f',f',f'];refine wr _ ?_;rw[<-f',<-f'];exact Bp _ y4
 .rw[k];exact iJ.mpr #[u,m.so,λx g y j=>m.ao x (i x g) y (mL.mp j)]
 .rcases dh.mp j with z|z
  .exact m.ao x (sub x g) y z
  .exact c x g y (mL.mp z)
 .rcases dh.mp j with z|z
  .exact m.bo x g y z
  .exact h x g y (mL.mp z)
def Mh.moveB(m:Mh r b a out f d)(l:Up r a){t:Nat}(ht:t<=d)(h:∀x∈b.take f,∀y∈(a.take d).drop t,r x<r y):Mh r b a (out++((a.take d).drop t).reverse) f t:=by
 obtain⟨e,u,c⟩:=FQ l ht;have sub:∀x∈a.take t,x∈a.take d:=λx g=>by rw[<-e];exact dh.mpr (.inl g)
 have i:∀x∈(a.take d).drop t,x∈a.take d:=λx g=>DN g;have k:(out++((a.take d).drop t).reverse).reverse=(a.take d).drop t++out.reverse:=by rw[List.reverse_append,AQ]
 refine#[?_,?_,λx g y j=>?_,λx g y j=>?_]
 .rw[k];refine List.Perm.trans ?_ m.perm
  conv=>rhs;rw[<-e]
  rw[f',f',f']
 .rw[k];exact iJ.mpr #[u,m.so,λx g y j=>m.bo x (i x g) y (mL.mp j)]
 .rcases dh.mp j with z|z
  .exact m.ao x g y z
  .exact h x g y (mL.mp z)
 .rcases dh.mp j with z|z
  .exact m.bo x (sub x g) y z
  .exact c x g y (mL.mp z)
def Mh.endA(m:Mh r b a out f d)(c:Up r a)(h:f=0):gM r b a (b.take f++a.take d++out.reverse):=by
 refine#[m.perm,?_];subst h;rw[List.take_zero,Eg];exact iJ.mpr #[vj (vi d a) c,m.so,λx e y g=>m.bo x e y (mL.mp g)]
def Mh.endB(m:Mh r b a out f d)(c:Up r b)(h:d=0):gM r b a (b.take f++a.take d++out.reverse):=by
 refine#[m.perm,?_];subst h;rw[List.take_zero,gS];exact iJ.mpr #[vj (vi f b) c,m.so,λx e y g=>m.ao x e y (mL.mp g)]
def Mh.first(m:Mh r b a out f d)(g:Up r b)(h:Up r a)(bot:∀y∈a.take d,∀x∈b,r y<r x):gM r b a (a.take d++b.take f++out.reverse):=by
 refine#[List.Perm.trans (Bp _ y4) m.perm,?_];refine iJ.mpr #[iJ.mpr #[vj (vi d a) h,vj (vi f b) g,λy c x e=>bot y c x (vo e)],m.so,λx e y c=>?_]
 rcases dh.mp e with z|z
 .exact m.bo x z y (mL.mp c)
 .exact m.ao x z y (mL.mp c)
end
section
variable{M:Model}{A:Ar}{E:VP}{s:Sh}{κ:SortKind}{r:Keyed->Int}{a₀ a b out:Array Keyed}{na nb:Nat}
def y8(a:Array Keyed)(i:Nat):(a.extract 0 i).toList=a.toList.take i:=by
 rw[A4,Ab,List.drop_zero,Nat.sub_zero]
def CT(a:Array Keyed)(t n:Nat):(a.extract t n).toList=(a.toList.take n).drop t:=by
 rw[A4,Ab,List.drop_take]
def yk:(lT a b out na nb).toList=a.toList.take na++b.toList.take nb++out.toList.reverse:=by
 rw[mW,mW,y8,y8,Am]
def AU:(px a b out na nb).toList=b.toList.take nb++a.toList.take na++out.toList.reverse:=by
 rw[mW,mW,y8,y8,Am]
def zr{n:Nat}{x:Keyed}(h:x∈a.toList.take n):∃j,j<n/\j<a.size/\a.getD j d0=x:=by
 obtain⟨j,d,b,c⟩:=BA (i:=0) (k:=n) (by rw[List.drop_zero];exact h);rw[uv]at b c;exact#[j,d,b,c]
def Aj{t n:Nat}{x:Keyed}(h:x∈(a.toList.take n).drop t):∃j,t<=j/\j<n/\j<a.size/\a.getD j d0=x:=by
 obtain⟨j,b⟩:=lU h;rw[zx,Df]at b;split at b
 .next l=>
  rw[lF]at b;exact#[t+j,(),l,(nV.mp b).1,vr b]
 .cases b
def AY{n:Nat}(h:n<a.size):(a.toList.take (n+1)).drop n=[a.getD n d0]:=by
 rw[List.drop_take,Cd h,A1];rfl
def zF{x:Int}{n:Nat}(b:Up r a.toList)(c:n<a.size)(h:r (a.getD n d0)<x):∀y∈a.toList.take (n+1),r y<x:=λy d=>by
 obtain⟨j,f,g,rfl⟩:=zr d;by_cases e:j=n
 .subst e;exact h
 .have:=u6 (lo:=0) b (cQ _) j n (g7 _) () c;show kx r a j<x;have:kx r a n<x:=h;lia
def DM(t:Two κ r a₀ a b)(m:Mh r a.toList b.toList out.toList (na+1) nb)(c:na<a.size)(h:∀y∈b.toList.take nb,r y<r (a.getD na d0)):Mh r a.toList b.toList (out.push (a.getD na d0)).toList na nb:=by
 have z:=m.moveA t.sa (t:=na) (pO _) (by rw[AY c];intro x d y e;rw[cY.mp e];exact h x d);rw[AY c]at z;rw[zW];exact z
def GO(t:Two κ r a₀ a b)(m:Mh r a.toList b.toList out.toList na (nb+1))(c:nb<b.size)(h:∀y∈a.toList.take na,r y<r (b.getD nb d0)):Mh r a.toList b.toList (out.push (b.getD nb d0)).toList na nb:=by
 have z:=m.moveB t.sb (t:=nb) (pO _) (by rw[AY c];intro x d y e;rw[cY.mp e];exact h x d);rw[AY c]at z;rw[zW];exact z
def Two.bot(t:Two κ r a₀ a b):∀y∈b.toList.take 1,∀x∈a.toList,r y<r x:=λy c x d=>by
 obtain⟨j,f,g,rfl⟩:=zr c;have e:j=0:=by lia
 subst e;exact t.lo x d
def KP{h:SortSt}{mg old t:Nat}{c:U6}{st:SortSt}{Q:ForInStep U6->SortSt->Prop}(K:Asks M A s κ r a₀)(T:Two κ r a₀ a b)(p:Eqv h st)(q:kindOf h=κ)(u:c=(none,na+1,nb+2,out,c.2.2.2.2.1,c.2.2.2.2.2))(m:Mh r a.toList b.toList out.toList (na+1) (nb+2))(d:na<a.size)(e:nb+1<b.size)(C:old+t<=out.size)(n:∀w rest,Gd r a b w->Q (.done (some w,rest)) st) (o:∀na nb (out:Array Keyed) x y,Mh r a.toList b.toList out.toList (na+1) (nb+2)->na<a.size->nb+1<b.size->old+t+1<=out.size->Q (.done (none,na+1,nb+2,out,x,y)) st/\Q (.yield (none,na+1,nb+2,out,x,y)) st):wpS M A E s (pR a b mg c) Q st:=by
 have j:=p.kind.trans q;unfold pR;rw[u];dsimp only;have v:=T.ma _ (iF d);have B:=T.mb _ (iF e);rw[show nb+2-1=nb+1 by lia,show na+1-1=na by lia];refine cW (gX e (cW (gX d (cW (wy K j B v ?_)))));by_cases w:r (b.getD (nb+1) d0)<r (a.getD na d0)
 .rw[dW w];refine cW (gX d ?_);have i:=DM T m d (zF T.sb e w);by_cases z:na=0
  .rw[wB (by simpa using z)];refine c7 (n _ _ ?_);show gM r _ _ (lT a b _ _ _).toList
   rw[yk];exact i.endA T.sb z
  .rw[wA (by simpa using z)];obtain⟨f,rfl⟩:∃f,na=f+1:=qi (by first|assumption|lia);obtain⟨k,l⟩:=o f nb _ (c.2.2.2.2.1+1) 0 i () e (by rw[pK];lia);by_cases g:c.2.2.2.2.1+1>=mg
   .rw[wB g];exact c7 k
   .rw[wA g];exact c7 l
 .rw[fZ w];refine cW (gX e ?_);have ne:=T.ap _ (iF d) _ (iF e);have i:=GO T m e (zF T.sa d ());by_cases z:nb+1=1
  .rw[wB (by simpa using z)];refine c7 (n _ _ ?_);show gM r _ _ (px a b _ _ _).toList
   rw[AU];exact i.first T.sa T.sb (by rw[z];exact T.bot)
  .rw[wA (by simpa using z)];obtain⟨f,rfl⟩:∃f,nb=f+1:=qi (by first|assumption|lia);obtain⟨k,l⟩:=o na f _ 0 (c.2.2.2.2.2+1) i d () (by rw[pK];lia);by_cases g:c.2.2.2.2.2+1>=mg
   .rw[wB g];exact c7 k
   .rw[wA g];exact c7 l
structure RndH(r:Keyed->Int)(a b:Array Keyed)(st0:SortSt)(old:Nat)(Q:ForInStep U7->SortSt->Prop):Prop where
 q1:∀st w rest,Eqv st0 st->Gd r a b w->Q (.done (some w,rest)) st
 q2:∀st na nb (out:Array Keyed) x y z,Eqv st0 st->Mh r a.toList b.toList out.toList (na+1) (nb+2)->na<a.size->nb+1<b.size->old<=out.size->Q (.done (none,na+1,nb+2,out,x,y,z)) st/\Q (.yield (none,na+1,nb+2,out,x,y,z)) st
def Hu{c st:SortSt}{mg k d old:Nat}{Q:ForInStep U7->SortSt->Prop}(T:Two κ r a₀ a b)(f:Eqv c st)(m:Mh r a.toList b.toList out.toList (na+1) (nb+2))(h:na<a.size)(j:nb+1<b.size)(o:old<=out.size)(lt:∀y∈b.toList.take (nb+2),r y<r (a.getD na d0))(q:RndH r a b c old Q):wpS M A E s (oJ a b (na+1) (nb+2) out mg k d) Q st:=by
 unfold oJ;rw[show na+1-1=na by lia];refine cW (gX h ?_);have i:=DM T m h lt;by_cases z:na=0
 .rw[wB (by simpa using z)];refine c7 (q.q1 _ _ _ f ?_);show gM r _ _ (lT a b _ _ _).toList;rw[yk];exact i.endA T.sb z
 .rw[wA (by simpa using z)];obtain⟨e,rfl⟩:∃e,na=e+1:=qi (by first|assumption|lia);obtain⟨l,n⟩:=q.q2 st e nb _ mg k d f i () j (by rw[pK];lia);by_cases g:(decide (k<7)&&decide (d<7))=true
  .rw[wB g];exact c7 l
  .rw[wA g];exact c7 n
def Gp{c st:SortSt}{mg k J old:Nat}{Q:ForInStep U7->SortSt->Prop}(K:Asks M A s κ r a₀)(L:kindOf c=κ)(T:Two κ r a₀ a b)(d:Eqv c st)(m:Mh r a.toList b.toList out.toList (na+1) (nb+2))(f:na<a.size)(G:nb+1<b.size)(hz:old<=out.size)(lt:∀y∈a.toList.take (na+1),r y<r (b.getD (nb+1) d0))(q:RndH r a b c old Q):wpS M A E s (pF a b (na+1) (nb+2) out mg k J) Q st:=by
 have u:=d.kind.trans L;unfold pF;rw[show nb+2-1=nb+1 by lia,show na+1-1=na by lia];refine cW (gX G ?_);have o:=GO T m G lt;have h:old<=(out.push (b.getD (nb+1) d0)).size:=by rw[pK];lia
 generalize out.push (b.getD (nb+1) d0)=l at o h;by_cases z:nb+1=1
 .rw[wB (by simpa using z)];refine c7 (q.q1 _ _ _ d ?_);show gM r _ _ (px a b _ _ _).toList;rw[AU];exact o.first T.sa T.sb (by rw[z];exact T.bot)
 rw[wA (by simpa using z)];have H:=iF f;refine cW (gX f (cW (u9 K u () (λi N=>T.mb _ (iF ())) (T.ma _ H) (λi N=>(T.ap _ H _ (iF (show 0+i<b.size by lia))).symm) (u6 T.sb ()) () λt kn O k3=>?_)));dsimp only;have I:∀y∈b.toList.take t,r y<r (a.getD na d0):=λy v=>by
  obtain⟨j,w,U,rfl⟩:=zr v;have:=O j w;rw[uv]at this;exact this
 by_cases g:nb+1-t>0
 .rw[wB g];have p:=o.moveB T.sb (t:=t) () (λx Y y v=>by
   obtain⟨j,w,U,h3,rfl⟩:=Aj v;have:=k3 j w ()
   rw[uv]at this;exact zF T.sa f this x Y)
  rw[<-CT,<-Am,<-mW]at p;have B:old<=(l++(b.extract t (nb+1)).reverse).size:=by rw[AK];lia
  by_cases C:t=1
  .rw[wB (by simpa using C)];refine c7 (q.q1 _ _ _ d ?_);show gM r _ _ (px a b _ _ _).toList
   rw[AU];exact p.first T.sa T.sb (by rw[C];exact T.bot)
  rw[wA (by simpa using C)];by_cases D:t=0
  .rw[wB (by simpa using D)];refine c7 (q.q1 _ _ _ d ?_);show gM r _ _ (lT a b _ _ _).toList
   rw[yk];exact p.endB T.sa D
  rw[wA (by simpa using D)];obtain⟨n,rfl⟩:∃n,t=n+2:=#[t-2,()];exact Hu T d p f () B I q
 .rw[wA g];have e:t=nb+1:=by lia
  obtain⟨n,rfl⟩:∃n,nb=n+1:=qi (by first|assumption|lia);subst e;exact Hu T d o f () h I q
def Hg{d st:SortSt}{c:U7}{mg old:Nat}{Q:ForInStep U7->SortSt->Prop}(K:Asks M A s κ r a₀)(k:kindOf d=κ)(T:Two κ r a₀ a b)(C:Eqv d st)(D:c.2.1=na+1/\c.2.2.1=nb+2/\c.2.2.2.1=out)(m:Mh r a.toList b.toList out.toList (na+1) (nb+2))(G:na<a.size)(f:nb+1<b.size)(H:old<=out.size)(q:RndH r a b d old Q):wpS M A E s (pM a b c mg) Q st:=by
 obtain⟨I,J,L⟩:=D;unfold pM;rw[I,J,L];rw[show nb+2-1=nb+1 by lia,show na+1-1=na by lia];refine cW (A7 λN O=>?_);have h:=C.trans O;have l:=h.kind.trans k;have w:=iF f;refine cW (gX f (cW (u9 K l () (λi U=>T.ma _ (iF ())) (T.mb _ w) (λi U=>T.ap _ (iF (show 0+i<a.size by lia)) _ w) (u6 T.sa ()) () λt kn Y k3=>?_)));dsimp only;have z:∀y∈a.toList.take t,r y<r (b.getD (nb+1) d0):=λy n=>by
  obtain⟨j,o,h2,rfl⟩:=zr n;have:=Y j o;rw[uv]at this;exact this
 by_cases g:na+1-t>0
 .rw[wB g];have p:=m.moveA T.sa (t:=t) () (λx hx y n=>by
   obtain⟨j,o,h2,h3,rfl⟩:=Aj n;have:=k3 j o ()
   rw[uv]at this;exact zF T.sb f this x hx)
  rw[<-CT,<-Am,<-mW]at p;have u:old<=(out++(a.extract t (na+1)).reverse).size:=by rw[AK];lia
  by_cases v:t=0
  .rw[wB (by simpa using v)];refine c7 (q.q1 _ _ _ h ?_);show gM r _ _ (lT a b _ _ _).toList
   rw[yk];exact p.endA T.sb v
  rw[wA (by simpa using v)];obtain⟨B,rfl⟩:∃B,t=B+1:=qi (by first|assumption|lia);exact Gp K k T h p () f u z q
 .rw[wA g];have e:t=na+1:=by lia
  subst e;exact Gp K k T h m G f H z q
def O6{d st:SortSt}{c:U7}{old:Nat}{Q:ForInStep U7->SortSt->Prop}(K:Asks M A s κ r a₀)(e:kindOf d=κ)(T:Two κ r a₀ a b)(f:Eqv d st)(g:c.2.1=na+1/\c.2.2.1=nb+2/\c.2.2.2.1=out)(m:Mh r a.toList b.toList out.toList (na+1) (nb+2))(h:na<a.size)(i:nb+1<b.size)(j:old<=out.size)(q:RndH r a b d old Q):wpS M A E s (yi a b c) Q st:=by
 unfold yi;split
 .exact Hg K e T f g m h i j q
 .exact Hg K e T f g m h i j q
def Ky{f st:SortSt}{c:U5}{Q:ForInStep U5->SortSt->Prop}{mg:Nat}(K:Asks M A s κ r a₀)(hk:kindOf f=κ)(T:Two κ r a₀ a b)(e0:Eqv f st)(ec:c=(none,na+1,nb+2,out,mg))(m:Mh r a.toList b.toList out.toList (na+1) (nb+2))(ha:na<a.size)(hb:nb+1<b.size)(q1:∀st w rest,Eqv f st->Gd r a b w->Q (.done (some w,rest)) st) (q2:∀st na nb (k:Array Keyed) g,Eqv f st->Mh r a.toList b.toList k.toList (na+1) (nb+2)->na<a.size->nb+1<b.size->out.size+1<=k.size->Q (.yield (none,na+1,nb+2,k,g)) st):wpS M A E s (C9 a b c) Q st:=by
 subst ec;unfold C9;dsimp only;have aa:0<a.size+b.size:=by lia
 refine cW (jr (i' (I:=λx (q:U6) d=>Eqv f d/\∃(i j:Nat) (o:Array Keyed) (u v:Nat),q=(none,i+1,j+2,o,u,v)/\Mh r a.toList b.toList o.toList (i+1) (j+2)/\i<a.size/\j+1<b.size/\out.size+x<=o.size)
  (Q:=λq d=>Eqv f d/\((∃w rest,q=(some w,rest)/\Gd r a b w)\/∃(i j:Nat) (o:Array Keyed) (u v:Nat),q=(none,i+1,j+2,o,u,v)/\Mh r a.toList b.toList o.toList (i+1) (j+2)/\i<a.size/\j+1<b.size/\out.size+1<=o.size)) ?step ?stop #[e0,na,nb,out,0,0,zZ,m,ha,hb,cQ _]) ?post)
 case step=>
  rintro x q d _ hx ⟨p,i,j,o,u,v,rfl,C,D,G,h3⟩;refine KP (old:=out.size) (t:=x) K T p hk zZ C D G h3 (λw rest g=>#[p,.inl #[w,rest,zZ,g]]) λH J L u' v' N l n y=>#[#[p,.inr #[H,J,L,u',v',zZ,N,l,n,()]],#[p,H,J,L,u',v',zZ,N,l,n,()]]
 case stop=>
  rintro q d ⟨p,i,j,o,u,v,rfl,C,D,G,h3⟩;exact#[p,.inr #[i,j,o,u,v,zZ,C,D,G,()]]
 case post=>
  rintro q d ⟨p,h⟩
  rcases h with⟨w,rest,rfl,g⟩|⟨i,j,o,u,v,rfl,C,D,G,h3⟩
  .exact c7 (q1 _ _ _ p g)
  dsimp only;refine cW (sE (pE #[zZ,?_]));refine cW (jr (i' (I:=λx (z:U7) d=>Eqv f d/\∃(i j:Nat) (o:Array Keyed) (u v w:Nat),z=(none,i+1,j+2,o,u,v,w)/\Mh r a.toList b.toList o.toList (i+1) (j+2)/\i<a.size/\j+1<b.size/\out.size+1<=o.size)
   (Q:=λz d=>Eqv f d/\((∃w rest,z=(some w,rest)/\Gd r a b w)\/∃(i j:Nat) (o:Array Keyed) (u v w:Nat),z=(none,i+1,j+2,o,u,v,w)/\Mh r a.toList b.toList o.toList (i+1) (j+2)/\i<a.size/\j+1<b.size/\out.size+1<=o.size)) ?step2 ?stop2 #[p,i,j,o,mg+1,u,v,zZ,C,D,G,h3]) ?post2)
  case step2=>
   rintro x z O _ hx ⟨B,i,j,o,u,v,w,rfl,U,Y,g2,g3⟩;exact O6 K hk T B #[zZ,zZ,zZ] U Y g2 g3 #[λst w rest e g=>#[e,.inl #[w,rest,zZ,g]],λst H J L x' y' z' e N l n y=>#[#[e,.inr #[H,J,L,x',y',z',zZ,N,l,n,y]],#[e,H,J,L,x',y',z',zZ,N,l,n,y]]]
  case stop2=>
   rintro z O ⟨B,i,j,o,u,v,w,rfl,U,Y,g2,g3⟩;exact#[B,.inr #[i,j,o,u,v,w,zZ,U,Y,g2,g3]]
  case post2=>
   rintro z O ⟨B,h⟩
   rcases h with⟨w,rest,rfl,g⟩|⟨i,j,o,u,v,w,rfl,U,Y,g2,g3⟩
   .exact c7 (q1 _ _ _ B g)
   .dsimp only;exact cW (A7 λab x3=>c7 (q2 _ _ _ _ _ (B.trans x3) U Y g2 g3))
def Jx{st:SortSt}{Q:Array Keyed->SortSt->Prop}(K:Asks M A s κ r a₀)(L:kindOf st=κ)(T:Two κ r a₀ a b)(q:∀m d,Eqv st d->Gd r a b m->Q m d):wpS M A E s (D6 a b) Q st:=by
 rw[Lp];unfold F0;have a1:=T.a1;have b1:=T.b1;obtain⟨n,hn⟩:∃n,a.size=n+1:=qi (by first|assumption|lia);have G:a.size-1=n:=by lia
 rw[G];refine cW (sE (pE #[zZ,cW (gX () ?_)]));have N:Mh r a.toList b.toList (#v[]:Array Keyed).toList (n+1) b.size:=#[by rw[Bb (by rw[d9];lia),Bb (by rw[d9];exact cQ _)];simp,List.Pairwise.nil,λx _ y f=>(nomatch f),λx _ y f=>(nomatch f)];have k:Mh r a.toList b.toList (#v[a.getD n d0]:Array Keyed).toList n b.size:=DM (out:= #v[]) T N () (λy f=>by have:=T.top y (vo f);rw[G]at this;exact this);by_cases p:n=0
 .rw[wB (by simpa using p)];refine c7 (q _ _ (Eqv.refl _) ?_);show gM r _ _ (lT a b _ _ _).toList;rw[yk];exact k.endA T.sb p
 rw[wA (by simpa using p)];by_cases t:b.size=1
 .rw[wB (by simpa using t)];refine c7 (q _ _ (Eqv.refl _) ?_);show gM r _ _ (px a b _ _ _).toList;rw[AU];exact k.first T.sa T.sb (by rw[t];exact T.bot)
 rw[wA (by simpa using t)];obtain⟨u,rfl⟩:∃u,n=u+1:=qi (by first|assumption|lia);obtain⟨v,h⟩:∃v,b.size=v+2:=#[b.size-2,()];rw[h]at k;refine cW (mS (cW (jr (i' (I:=λx (c:U5) d=>Eqv st d/\∃(i j:Nat) (o:Array Keyed) (g:Nat),c=(none,i+1,j+2,o,g)/\Mh r a.toList b.toList o.toList (i+1) (j+2)/\i<a.size/\j+1<b.size/\x+1<=o.size)
  (Q:=λc d=>Eqv st d/\∃w rest,c=(some w,rest)/\Gd r a b w) ?step ?stop #[Eqv.refl _,u,v,_,_,by rw[h],k,(),(),cQ _]) ?post)))
 case step=>
  rintro x c d _ hx ⟨l,i,j,o,g,rfl,B,H,J,O⟩;exact Ky K L T l zZ B H J (λst w rest e g=>#[e,w,rest,zZ,g]) λd U Y o' g' e m' C D aa=>#[e,U,Y,o',g',zZ,m',C,D,()]
 case stop=>
  rintro c d ⟨l,i,j,o,g,rfl,B,H,J,O⟩;have z:=B.len (by rw[d9];lia) (by rw[d9];lia);rw[d9,d9,d9]at z
  exfalso
  lia
 case post=>
  rintro c d ⟨l,w,rest,rfl,g⟩;exact c7 (q _ _ l g)
end
def JT(i:Nat):mergeAt' i=(do
 let s <-get
 let(some (b,c,d),some (f,e,_)):=((pendingOf s)[i]?,(pendingOf s)[i+1]?)|unsupported "internal:list.sort.pending"
 set (setPending s (((pendingOf s).setIfInBounds i (b,c+e,d)).eraseIdxIfInBounds (i+1)))
 let some k <-qj false (<-elem' (arrOf s) f) (arrOf s) b c 0|return false
 let(b,c):=(b+k,c-k)
 if c==0 then return true
 let some e <-qj true (<-elem' (arrOf s) (b+c-1)) (arrOf s) f e (e-1)|return false
 if e==0 then return true
 let x:=(arrOf s).extract b f
 let y:=(arrOf s).extract f (f+e)
 let merged <-if c<=e then CY x y else D6 x y
 modify λs=>setArr s (merged.toList.zipIdx.foldl (λa (p,j)=>a.setIfInBounds (b+j) p) (arrOf s))
 return (failedOf (<-get)).isNone):=rfl
section
variable{M:Model}{A:Ar}{E:VP}{s:Sh}{g:SortKind}{r:Keyed->Int}{d xs f:Array Keyed}
def LD{st a:SortSt}{Q:PUnit->SortSt->Prop}(h:Q ⟨⟩ a):wpS M A E s (set a:StateT SortSt Sem PUnit) Q st:=by
 unfold wpS;rw[StateT.run_set];exact cF #[zZ,h]
theorem laid:∀(c:List Keyed) (j b:Nat) (xs:Array Keyed),b+j+c.length<=xs.size->((c.zipIdx j).foldl (λa (p,j)=>a.setIfInBounds (b+j) p) xs).toList=xs.toList.take (b+j)++c++xs.toList.drop (b+j+c.length)
 | [],j,b,xs,_=>by
  rw[gS,Dd,x4];exact(n9 _ _).symm
 | m::c,j,b,xs,h=>by
  rw[jz]at h;rw[List.zipIdx_cons,List.foldl_cons,laid c (j+1) b _ (by rw[Array.size_setIfInBounds];lia),GP,jz];have d:b+j<xs.toList.length:=by rw[d9];lia
  have e:(xs.toList.set (b+j) m).take (b+(j+1))=xs.toList.take (b+j)++[m]:=by
   rw[show b+(j+1)=b+j+1 by lia,List.take_succ_eq_append_getElem (by rw[si];exact d),List.getElem_set_self,List.take_set_of_le (cQ _)]
  have f:(xs.toList.set (b+j) m).drop (b+(j+1)+c.length)=xs.toList.drop (b+j+(c.length+1)):=by
   rw[List.drop_set_of_lt ()]
   congr 1
   lia
  rw[e,f,f',f',f'];rfl
def zS(xs:Array Keyed)(t n:Nat):(xs.extract t n).toList=(xs.toList.take n).drop t:=CT xs t n
def yQ{t n:Nat}(h:n<=xs.size):(xs.extract t n).size=n-t:=by rw[Array.size_extract];lia
def Cp{t n i:Nat}(h:n<=xs.size)(a:t+i<n):(xs.extract t n).getD i d0=xs.getD (t+i) d0:=by
 refine oQ ?_;rw[Array.getElem?_extract,wB ()]
def GC{l:List Keyed}{f:Array Keyed}(h:f.toList=l)(i:Nat):f[i]?=l[i]? :=by rw[<-h,lF]
def KJ{st:SortSt}{i b o pw sb N ag:Nat}{Q:Bool->SortSt->Prop}(K:Asks M A s g r d)(B:StOk g d st)(h1:(pendingOf st)[i]?=some (b,o,pw))(h2:(pendingOf st)[i+1]?=some (sb,N,ag))(es:sb=b+o)(aq:1<=o)(ar:1<=N)(hz:sb+N<=d.size)(O:Ris r (arrOf st) b (b+o)) (U:Ris r (arrOf st) sb (sb+N))(q:∀u,StOk g d u->pendingOf u=((pendingOf st).setIfInBounds i (b,o+N,pw)).eraseIdxIfInBounds (i+1)->Out (arrOf st) (arrOf u) b (sb+N)->Ris r (arrOf u) b (sb+N)->Q true u):wpS M A E s (mergeAt' i) Q st:=by
 have sz:=qo B.perm;subst es;rw[JT];refine cW (mS ?_);rw[h1,h2];dsimp only;refine cW (LD ?_);generalize hP:((pendingOf st).setIfInBounds i (b,o+N,pw)).eraseIdxIfInBounds (i+1)=P at q|-;have B1:StOk g d (setPending st P):=#[B.kind,B.perm,B.ok];generalize G:arrOf st=xs at O U q sz|-;have pm:xs.Perm d:=G▸B.perm;have mem:∀j,j<d.size->xs.getD j d0∈d:=λj I=>Ao pm I;have ap:∀i j,i<d.size->j<d.size->i≠j->kx r xs i≠kx r xs j:=λi j hi I ij=>K.apart pm hi I ij;refine cW (gX () (cW (u9 K B1.kind () (λj I=>mem _ ()) (mem _ ()) (λj I=>ap _ _ () () ()) O () λk kn k2 k3=>?_)));dsimp only;by_cases z0:o-k=0
 .rw[wB (by simpa using z0)];refine c7 (q _ B1 zZ (by show Out xs (arrOf st) _ _;rw[G];exact Out.refl _ _ _) ?_);show Ris r (arrOf st) _ _;rw[G];intro i j w C H;by_cases c1:j<b+o
  .exact O i j w C c1
  by_cases c2:b+o<=i
  .exact U i j c2 C H
  have D:=k2 (i-b) ();rw[oH w]at D;have D:kx r xs i<kx r xs (b+o):=D;by_cases c3:j=b+o
  .rw[c3];exact D
  .exact xI D (U (b+o) j (cQ _) (xC (Nat.not_lt.mp c1) (eJ c3)) H)
 rw[wA (by simpa using z0)];have kl:k<o:=by lia
 clear z0;have dk:∀_:Unit,b+k+(o-k)=b+o:=λ_=>by lia
 rw[dk Unit.unit];refine cW (gX () (cW (u9 K B1.kind () (λj I=>mem _ ()) (mem _ ()) (λj I=>ap _ _ () () ()) U () λv nn ah ae=>?_)));dsimp only;have bk:kx r xs (b+o)<kx r xs (b+k):=by
  have:=k3 k (cQ _) ();exact this
 have aa:kx r xs (b+k)<=kx r xs (b+o-1):=by
  by_cases c:b+k=b+o-1
  .rw[c];exact Int.le_refl _
  .exact Int.le_of_lt (O (b+k) (b+o-1) () () ())
 have ai:v≠0:=λz=>by
  subst z;have:=ae 0 (cQ _) ();rw[x4]at this;exact wC this (Int.not_lt.mpr (Int.le_trans (Int.le_of_lt bk) aa))
 rw[wA (by simpa using ai)];have sx:(xs.extract (b+k) (b+o)).size=o-k:=by rw[yQ ()];exact Nat.add_sub_add_left ..
 have sy:(xs.extract (b+o) (b+o+v)).size=v:=by rw[yQ ()];exact A1 ..
 have mx:∀x∈(xs.extract (b+k) (b+o)).toList,∃j,b+k<=j/\j<b+o/\xs.getD j d0=x:=λx G=>by
  rw[zS]at G;obtain⟨j,w,C,_,H⟩:=Aj G;exact#[j,w,C,H]
 have my:∀x∈(xs.extract (b+o) (b+o+v)).toList,∃j,b+o<=j/\j<b+o+v/\xs.getD j d0=x:=λx G=>by
  rw[zS]at G;obtain⟨j,w,C,_,H⟩:=Aj G;exact#[j,w,C,H]
 have af:∀(t n:Nat),n<=xs.size->Ris r xs t n->Up r (xs.extract t n).toList:=λt n hn ur=>by
  refine pc.mpr λi j hi I ij=>?_;rw[d9,yQ hn]at hi I;have e:∀c (hc:c<(xs.extract t n).toList.length),(xs.extract t n).toList[c]=xs.getD (t+c) d0:=λc hc=>by
   rw[d9,yQ hn]at hc;rw[<-Cp hn (),Array.getElem_toList];exact(vr (mB _)).symm
  rw[e,e];exact ur (t+i) (t+j) () () ()
 have aj:∀_:Unit,b+k+(o-k-1)=b+o-1:=λ_=>by rw[<-dk Unit.unit];exact(Nat.add_sub_assoc (Nat.sub_pos_of_lt kl) _).symm
 have J:∀_:Unit,b+k+(o-k+v)=b+o+v:=λ_=>by rw[<-Nat.add_assoc,dk Unit.unit]
 have T:Two g r d (xs.extract (b+k) (b+o)) (xs.extract (b+o) (b+o+v)):=by
  refine#[λx G=>?_,λx G=>?_,af _ _ () λi j w C H=>O i j () C H,af _ _ () λi j w C H=>U i j w C (),λx G y hy=>?_,(),(),λx G=>?_,λy hy=>?_]
  .obtain⟨j,w,C,rfl⟩:=mx x G;exact mem j ()
  .obtain⟨j,w,C,rfl⟩:=my x G;exact mem j ()
  .obtain⟨j,w,C,rfl⟩:=mx x G;obtain⟨l,H,g4,rfl⟩:=my y hy;exact ap j l () () ()
  .obtain⟨j,w,C,rfl⟩:=mx x G;rw[Cp () (),x4];show kx r xs (b+o)<kx r xs j
   by_cases c:j=b+k
   .rw[c];exact bk
   .exact xI bk (O (b+k) j (oO ..) (xC w (eJ c)) C)
  .obtain⟨j,w,C,rfl⟩:=my y hy;rw[sx,Cp () (),show b+k+(o-k-1)=b+o-1 from aj Unit.unit];have:=ah (j-(b+o)) (xJ w C)
   rw[oH w]at this;exact this
 have fin:∀m u,Eqv (setPending st P) u->Gd r (xs.extract (b+k) (b+o)) (xs.extract (b+o) (b+o+v)) m->wpS M A E s (do
   modify λs=>setArr s (m.toList.zipIdx.foldl (λa (p,j)=>a.setIfInBounds (b+k+j) p) (arrOf s))
   return (failedOf (<-get)).isNone) Q u:=λm u ev gd=>by
  have ea:arrOf u=xs:=ev.arr.trans G;have ml:m.toList.length=o-k+v:=by
   have:=gd.1.length_eq;rw[eh,d9 (xs:=xs.extract _ _),d9 (xs:=xs.extract _ _),sx,sy]at this;exact this
  refine cW (oE (cW (mS ?_)));rw[ea];have tl:=laid m.toList 0 (b+k) xs (by rw[ml];lia);rw[x4,ml]at tl;generalize as:m.toList.zipIdx.foldl (λa (p,j)=>a.setIfInBounds (b+k+j) p) xs=f at tl|-;have ak:(failedOf (setArr u f)).isNone=true:=by
   show(failedOf u).isNone=true;rw[ev.ok];show(failedOf st).isNone=true
   rw[B.ok];rfl
  rw[ak];have mid:xs.toList=xs.toList.take (b+k)++((xs.extract (b+k) (b+o)).toList++(xs.extract (b+o) (b+o+v)).toList)++xs.toList.drop (b+k+(o-k+v)):=by
   rw[zS,zS];have e1:xs.toList.take (b+k)++(xs.toList.take (b+o)).drop (b+k)=xs.toList.take (b+o):=by
    have z:=n9 (b+k) (xs.toList.take (b+o));rwa[List.take_take,u3 ()]at z
   have e2:xs.toList.take (b+o)++(xs.toList.take (b+o+v)).drop (b+o)=xs.toList.take (b+o+v):=by
    have z:=n9 (b+o) (xs.toList.take (b+o+v));rwa[List.take_take,u3 ()]at z
   rw[<-f',e1,e2,J Unit.unit,n9]
  have al:f.Perm xs:=by
   refine n7.mpr ?_;rw[tl]
   conv=>rhs;rw[mid]
   exact Bp _ (wr _ gd.1)
  have lx:xs.toList.length=d.size:=by rw[d9];exact sz
  have mn:min (b+k) xs.toList.length=b+k:=u3 ();have Y:∀j,j<b+k\/b+o+v<=j->f[j]?=xs[j]? :=λj I=>by
   rw[GC tl j,<-lF]
   rcases I with h|h
   .rw[fu (by rw[eh,hG,mn];exact Nat.lt_add_right _ h),fu (by rw[hG,mn];exact h),Df,wB h]
   .rw[fV (by rw[eh,hG,ml,mn,J Unit.unit];exact h),zx]
    congr 1
    rw[eh,hG,ml,mn,J Unit.unit];exact oH h
  have ab:∀j,b+k<=j->j<b+o+v->∃h:j-(b+k)<m.toList.length,f.getD j d0=m.toList[j-(b+k)]:=λj w C=>by
   have hl:j-(b+k)<m.toList.length:=by rw[ml];exact xJ w (by rw[J Unit.unit];exact C)
   refine#[hl,vr ?_];rw[GC tl j,fu (by rw[eh,hG,ml,mn,J Unit.unit];exact C),fV (by rw[hG,mn];exact w),hG,mn,cA hl]
  have L:∀j,b+k<=j->j<b+o+v->∃l,b+k<=l/\l<b+o+v/\f.getD j d0=xs.getD l d0:=λj w C=>by
   obtain⟨hl,e⟩:=ab j w C;have mm:f.getD j d0∈(xs.extract (b+k) (b+o)).toList++(xs.extract (b+o) (b+o+v)).toList:=by
    rw[e];exact(List.Perm.mem_iff gd.1).mp (iD hl)
   rcases dh.mp mm with z|z
   .obtain⟨l,D,l2,l3⟩:=mx _ z;exact#[l,D,(),l3.symm]
   .obtain⟨l,D,l2,l3⟩:=my _ z;exact#[l,(),l2,l3.symm]
  refine c7 (q _ #[ev.kind.trans B1.kind,al.trans pm,by show failedOf u=none;rw[ev.ok];exact B.ok] ev.pend (λj I=>Y j ()) λi j w C H=>?_);show kx r f i<kx r f j;have oe:∀c,c<b+k\/b+o+v<=c->kx r f c=kx r xs c:=λc hc=>dw r (oQ (Y c hc));have hd:∀c l,b<=c->c<b+k->b+k<=l->l<b+o+N->kx r xs c<kx r xs l:=λc l c1 c2 c3 c4=>by
   by_cases c5:l<b+o
   .exact O c l c1 () c5
   .have D:=k2 (c-b) (xJ c1 c2);rw[oH c1]at D;have D:kx r xs c<kx r xs (b+o):=D;by_cases c6:l=b+o
    .rw[c6];exact D
    .exact xI D (U (b+o) l (cQ _) (xC (Nat.not_lt.mp c5) (eJ c6)) c4)
  have am:∀l c,b+k<=l->l<b+o+v->b+o+v<=c->c<b+o+N->kx r xs l<kx r xs c:=λl c c1 c2 c3 c4=>by
   by_cases c5:b+o<=l
   .exact U l c c5 () c4
   .have c0:=dy (oO ..) c3;have D:=ae (c-(b+o)) (Nat.le_sub_of_add_le' c3) (xJ c0 c4);rw[oH c0]at D;have D:kx r xs (b+o-1)<kx r xs c:=D;by_cases c6:l=b+o-1
    .rw[c6];exact D
    .exact xI (O l (b+o-1) () () ()) D
  by_cases i1:i<b+k
  .rw[oe i (.inl i1)];by_cases j1:j<b+k
   .rw[oe j (.inl j1)];exact O i j w C ()
   .by_cases j2:j<b+o+v
    .obtain⟨l,D,l2,l3⟩:=L j () j2;show kx r xs i<r (f.getD j d0);rw[l3];exact hd i l w i1 D ()
    .rw[oe j (.inr ())];exact hd i j w i1 () H
  .by_cases i2:i<b+o+v
   .by_cases j2:j<b+o+v
    .obtain⟨an,e1⟩:=ab i () i2;obtain⟨ao,e2⟩:=ab j () j2;show r (f.getD i d0)<r (f.getD j d0)
     rw[e1,e2];exact pc.mp gd.2 _ _ an ao ()
    .obtain⟨l,D,l2,l3⟩:=L i () i2;rw[oe j (.inr ())];show r (f.getD i d0)<kx r xs j
     rw[l3];exact am l j D l2 () H
   .rw[oe i (.inr ()),oe j (.inr ())];exact U i j () C H
 by_cases c:o-k<=v
 .rw[wB c];exact cW (L8 K B1.kind T fin)
 .rw[wA c];exact cW (Jx K B1.kind T fin)
end
def Runs(r:Keyed->Int)(a:Array Keyed):Nat->List (Nat×Nat×Nat)->Nat->Prop
 |s,[],e=>s=e
 |s,u::l,e=>u.1=s/\1<=u.2.1/\Ris r a s (s+u.2.1)/\Runs r a (s+u.2.1) l e
section
variable{r:Keyed->Int}{j k:Array Keyed}
theorem zL:∀{l:List (Nat×Nat×Nat)} {s e:Nat},Runs r j s l e->s+l.length<=e
 | [],s,e,h=>by
  have:s=e:=h;simp;lia
 |u::l,s,e,h=>by
  have:=zL h.2.2.2;have:=h.2.1;rw[jz];lia
theorem dQ:∀{l c:List (Nat×Nat×Nat)} {s e:Nat},Runs r j s (l++c) e↔ ∃m,Runs r j s l m/\Runs r j m c e
 | [],c,s,e=>#[λh=>#[s,zZ,h],λ⟨m,a,b⟩=>by have:s=m:=a;subst this;exact b]
 | u::l,c,s,e=>by
  constructor
  .rintro⟨a,b,d,i⟩;obtain⟨m,f,g⟩:=dQ.mp i;exact#[m,#[a,b,d,f],g]
  .rintro⟨m,⟨a,b,d,f⟩,g⟩;exact#[a,b,d,dQ.mpr #[m,f,g]]
theorem ya{lo a:Nat}(o:Out j k lo a):∀{l:List (Nat×Nat×Nat)} {s e:Nat},Runs r j s l e->e<=lo\/a<=s->Runs r k s l e
 | [],_,_,h,_=>h
 |u::l,s,e,h,d=>by
  have:=zL h.2.2.2;exact#[h.1,h.2.1,o.ris h.2.2.1 (),ya o h.2.2.2 ()]
def Mi{p:Array (Nat×Nat×Nat)}{i:Nat}(h:i+1<p.size):∃a u v d,p.toList=a++u::v::d/\a.length=i/\p[i]?=some u/\p[i+1]?=some v:=by
 have e:p.toList.length=p.size:=d9;refine#[p.toList.take i,p[i]'(),p[i+1],p.toList.drop (i+2),?_,by rw[hG];lia,mB _,mB _];have b:p.toList.drop i=p.toList[i]'()::p.toList.drop (i+1):=Ai ();have c:p.toList.drop (i+1)=p.toList[i+1]'()::p.toList.drop (i+2):=Ai ();rw[Array.getElem_toList]at b c;rw[<-c,<-b,n9]
def Lr{p:Array (Nat×Nat×Nat)}{i:Nat}{a b:List (Nat×Nat×Nat)}{u v w:Nat×Nat×Nat}(h:p.toList=a++u::v::b)(c:a.length=i):((p.setIfInBounds i w).eraseIdxIfInBounds (i+1)).toList=a++w::b:=by
 rw[Array.toList_eraseIdxIfInBounds,GP,h,List.set_append_right _ _ (),c,oN,List.eraseIdx_append_of_length_le (),c,A1];rfl
variable{M:Model}{A:Ar}{E:VP}{s:Sh}{b:SortKind}{a:Array Keyed}
def Cr{st:SortSt}{i lo:Nat}{Q:Bool->SortSt->Prop}(K:Asks M A s b r a)(B:StOk b a st)(y:i+1<(pendingOf st).size)(R:Runs r (arrOf st) 0 (pendingOf st).toList lo)(z:lo<=a.size)(q:∀c,StOk b a c->(pendingOf c).size+1=(pendingOf st).size->Out (arrOf st) (arrOf c) 0 lo->Runs r (arrOf c) 0 (pendingOf c).toList lo->Q true c):wpS M A E s (mergeAt' i) Q st:=by
 obtain⟨T,u,v,C,e,D,G,H⟩:=Mi y;rw[e]at R;obtain⟨m,I,R2⟩:=dQ.mp R;obtain⟨l,n,p,h,t,x,j⟩:=R2;obtain⟨d,g,pw⟩:=u;obtain⟨J,f,L⟩:=v;dsimp only at l n p h t x j;subst l;have U:=zL j;refine KJ K B G H h n t () p (by rw[h];exact x) λc N O o up=>?_;have k:=Lr (w:=(d,g+f,pw)) e D;rw[<-O]at k;refine q c N ?_ (o.wide (g7 _) ()) ?_
 .have l3:(pendingOf c).toList.length+1=(pendingOf st).toList.length:=by
   rw[k,e];simp;lia
  rwa[d9,d9]at l3
 .rw[k];refine dQ.mpr #[d,ya o I (.inl (cQ _)),zZ,by show 1<=g+f;lia,?_,?_]
  .show Ris r (arrOf c) d (d+(g+f));rw[show d+(g+f)=J+f by lia];exact up
  .show Runs r (arrOf c) (d+(g+f)) C lo;rw[show d+(g+f)=d+g+f by lia];exact ya o j (.inr ())
theorem BF{f:Nat->Nat}:∀{l:List (Nat×Nat×Nat)} {s e i:Nat},Runs r j s l e->Runs r j s (l.modify i λu=>(u.1,u.2.1,f u.2.2)) e
 | [],_,_,_,h=>by simpa using h
 |u::l,s,e,0,h=>h
 |u::l,s,e,i+1,h=>#[h.1,h.2.1,h.2.2.1,BF h.2.2.2]
def LQ{st:SortSt}{Q:Unit->SortSt->Prop}(K:Asks M A s b r a)(B:StOk b a st)(hp:pendingOf st= #v[])(h1:1<=a.size)(q:∀d,StOk b a d->Ris r (arrOf d) 0 a.size->Q ⟨⟩ d):wpS M A E s sortRuns' Q st:=by
 have sz:=qo B.perm;rw[sortRuns'_eq];refine cW (mS ?_);dsimp only;rw[sz];refine cW (jr (i' (I:=λx c d=>∃lo,c=(none,lo)/\x<=lo/\lo<=a.size/\StOk b a d/\Runs r (arrOf d) 0 (pendingOf d).toList lo)
  (Q:=λc d=>c=(none,a.size)/\StOk b a d/\Runs r (arrOf d) 0 (pendingOf d).toList a.size) ?step ?stop #[0,zZ,cQ _,g7 _,B,by rw[hp];rfl]) ?post)
 case stop=>
  rintro c d ⟨lo,rfl,h1,h2,B',R⟩;have e:lo=a.size:=by lia
  subst e;exact#[zZ,B',R]
 case step=>
  rintro x c aa _ hx ⟨lo,rfl,af,O,Y,T⟩;dsimp only;by_cases z:lo>=a.size
  .rw[wB z];have e:lo=a.size:=by lia
   subst e;exact c7 #[zZ,Y,T]
  rw[wA z];refine cW (Kl K Y () () λn j H p2 L o2 N nn U=>?_);dsimp only;have R2:Runs r (arrOf j) 0 (pendingOf j).toList lo:=by rw[p2];exact ya o2 T (.inl (cQ _))
  by_cases mr:n<minRun' a.size a.size 0
  .rw[wB mr];refine cW (sE (pE #[zZ,?_]));refine cW (Jy K H () () U λt C p3 g3 o3 v=>?_);rw[wA (by decide)];have J:Runs r (arrOf t) 0 (pendingOf t).toList lo:=by rw[p3];exact ya o3 R2 (.inl (cQ _))
   have N:1<=min (a.size-lo) (minRun' a.size a.size 0):=by lia
   have nn:lo+min (a.size-lo) (minRun' a.size a.size 0)<=a.size:=by lia
   generalize min (a.size-lo) (minRun' a.size a.size 0)=D at v N nn|-;refine cW (mS ?_);cases eb:(pendingOf t).back? with
   |none=>
    dsimp only;refine cW (oE (c7 #[lo+D,zZ,(),(),#[C.kind,C.perm,C.ok],?_]));show Runs r (arrOf t) 0 ((pendingOf t).push (lo,D,0)).toList (lo+D)
    rw[vw];exact dQ.mpr #[lo,J,zZ,N,v,zZ]
   | some u=>
    obtain⟨w,m,w1⟩:=u;dsimp only;refine cW (jr (i' (I:=λx c d=>c=(none,Unit.unit)/\StOk b a d/\Runs r (arrOf d) 0 (pendingOf d).toList lo/\Ris r (arrOf d) lo (lo+D))
     (Q:=λc d=>c=(none,Unit.unit)/\StOk b a d/\Runs r (arrOf d) 0 (pendingOf d).toList lo/\Ris r (arrOf d) lo (lo+D)) ?step2 ?stop2 #[zZ,C,J,v]) ?post2)
    case stop2=>
     rintro c i h;exact h
    case step2=>
     rintro y c i _ _ ⟨rfl,o,G,k⟩;refine cW (mS ?_);by_cases g:(pendingOf i).size>1
     .rw[wB g,mB ()];generalize(pendingOf i)[(pendingOf i).size-2]=u2;obtain⟨a2,b2,p⟩:=u2;dsimp only;by_cases L:p<=power' a.size (2 * w+m) (2 * w+m+m+D) a.size
      .rw[wB L];exact c7 #[zZ,o,G,k]
      .rw[wA L];refine cW (Cr K o () G O λab B5 _ o5 R5=>?_);exact c7 #[zZ,B5,R5,o5.ris k (.inr (cQ _))]
     .rw[wA g];exact c7 #[zZ,o,G,k]
    case post2=>
     rintro c i ⟨rfl,o,G,k⟩;dsimp only;refine cW (oE (cW (oE (c7 #[lo+D,zZ,(),(),#[o.kind,o.perm,o.ok],?_]))));show Runs r (arrOf i) 0 (((pendingOf i).modify ((pendingOf i).size-1) λx=>(x.fst,x.2.fst,power' a.size (2 * w+m) (2 * w+m+m+D) a.size)).push (lo,D,0)).toList (lo+D)
     rw[vw,Array.toList_modify];exact dQ.mpr #[lo,BF (f:=λ_=>power' a.size (2 * w+m) (2 * w+m+m+D) a.size) G,zZ,N,k,zZ]
  .rw[wA mr];have C:=H;have J:=R2;have v:=U;refine cW (mS ?_);cases eb:(pendingOf j).back? with
   |none=>
    dsimp only;refine cW (oE (c7 #[lo+n,zZ,(),(),#[C.kind,C.perm,C.ok],?_]));show Runs r (arrOf j) 0 ((pendingOf j).push (lo,n,0)).toList (lo+n)
    rw[vw];exact dQ.mpr #[lo,J,zZ,N,v,zZ]
   | some u=>
    obtain⟨w,m,w1⟩:=u;dsimp only;refine cW (jr (i' (I:=λx c d=>c=(none,Unit.unit)/\StOk b a d/\Runs r (arrOf d) 0 (pendingOf d).toList lo/\Ris r (arrOf d) lo (lo+n))
     (Q:=λc d=>c=(none,Unit.unit)/\StOk b a d/\Runs r (arrOf d) 0 (pendingOf d).toList lo/\Ris r (arrOf d) lo (lo+n)) ?step2 ?stop2 #[zZ,C,J,v]) ?post2)
    case stop2=>
     rintro c i h;exact h
    case step2=>
     rintro y c i _ _ ⟨rfl,o,G,k⟩;refine cW (mS ?_);by_cases g:(pendingOf i).size>1
     .rw[wB g,mB ()];generalize(pendingOf i)[(pendingOf i).size-2]=u2;obtain⟨a2,b2,p⟩:=u2;dsimp only;by_cases L:p<=power' a.size (2 * w+m) (2 * w+m+m+n) a.size
      .rw[wB L];exact c7 #[zZ,o,G,k]
      .rw[wA L];refine cW (Cr K o () G O λab B5 _ o5 R5=>?_);exact c7 #[zZ,B5,R5,o5.ris k (.inr (cQ _))]
     .rw[wA g];exact c7 #[zZ,o,G,k]
    case post2=>
     rintro c i ⟨rfl,o,G,k⟩;dsimp only;refine cW (oE (cW (oE (c7 #[lo+n,zZ,(),(),#[o.kind,o.perm,o.ok],?_]))));show Runs r (arrOf i) 0 (((pendingOf i).modify ((pendingOf i).size-1) λx=>(x.fst,x.2.fst,power' a.size (2 * w+m) (2 * w+m+m+n) a.size)).push (lo,n,0)).toList (lo+n)
     rw[vw,Array.toList_modify];exact dQ.mpr #[lo,BF (f:=λ_=>power' a.size (2 * w+m) (2 * w+m+m+n) a.size) G,zZ,N,k,zZ]
 case post=>
  rintro c aa ⟨rfl,Y,T⟩;dsimp only;refine cW (jr (i' (I:=λx c d=>c=(none,Unit.unit)/\StOk b a d/\Runs r (arrOf d) 0 (pendingOf d).toList a.size/\(pendingOf d).size+x<=a.size)
   (Q:=λc d=>c=(none,Unit.unit)/\StOk b a d/\Runs r (arrOf d) 0 (pendingOf d).toList a.size/\(pendingOf d).size<=1) ?step3 ?stop3 #[zZ,Y,T,by have:=zL T;rw[d9]at this;lia]) ?post3)
  case stop3=>
   rintro c j ⟨hc,H,R2,hz⟩;exact#[hc,H,R2,()]
  case step3=>
   rintro x c j _ hx ⟨rfl,H,R2,hz⟩;refine cW (mS ?_);by_cases g:(pendingOf j).size<=1
   .rw[wB g];exact c7 #[zZ,H,R2,g]
   .rw[wA g];refine cW (Cr K H ?_ R2 (cQ _) λt C z3 o3 J=>?_)
    .have ae:∀(c:Prop) [Decidable c],(if c then(pendingOf j).size-2-1 else(pendingOf j).size-2)+1<(pendingOf j).size:=λc _=>by
      by_cases h:c
      .rw[wB h];lia
      .rw[wA h];lia
     exact ae _
    .exact c7 #[zZ,C,J,()]
  case post3=>
   rintro c j ⟨rfl,H,R2,hz⟩;refine c7 (q j H ?_);have hl:(pendingOf j).toList.length<=1:=by rw[d9];exact hz
   generalize(pendingOf j).toList=l at R2 hl
   match l,R2,hl with
   | [],R2,_=>
    have:0=a.size:=R2;lia
   | [u],R2,_=>
    have e:0+u.2.1=a.size:=R2.2.2.2;rw[<-e];exact R2.2.2.1
end
section
variable{P:Pg}{w:World}{A:Ar}{E:VP}{s:Sh}{a:Ad}{vs ks:Vs}{k:Nat->Int}{d:SortKind}
noncomputable def il (ks:Vs) (x:Keyed):Nat:=Classical.epsilon λi=>ks[i]?=some x.1
def vT(nd:ks.Nodup){i:Nat}{x:Keyed}(h:ks[i]?=some x.1):il ks x=i:=by
 have z:ks[il ks x]?=some x.1:=Classical.epsilon_spec (p:=λi=>ks[i]?=some x.1) #[i,h];exact(ig (cK.mp z).1 nd).mp (z.trans h.symm)
def EN{Q:SortSt->Sh->Prop}(t:ks.length=vs.length)(M:1<=vs.length)(nd:ks.Nodup)(inj:∀i j,i<vs.length->j<vs.length->k i=k j->i=j)(ask:∀i j (C:Bool->Sh->Prop),i<ks.length->j<ks.length->C (decide (k i<k j)) s->kas_ask P w A d ks i j C s)(G:∀p a,Arr vs.length p->rg k p vs.length->(arrOf a).map (·.2)=(hX vs p).toArray->failedOf a=none->Q a s):
  wpAny (model P w) A ((sortRuns').run (SortSt.mk' d (ks.toArray.zip vs.toArray) #v[] 7 none)) (λr u=>Q r.2 u) E s:=by
 have sz:(ks.toArray.zip vs.toArray).size=vs.length:=by simp[t]
 have n:∀i,i<vs.length->(ks.toArray.zip vs.toArray).getD i d0=(ks.getD i Value.none,vs.getD i Value.none):=λi b=>kat_item t i;have o:∀i,i<vs.length->ks[i]?=some (ks.getD i Value.none):=λi b=>by
  rw[eE,cA ()];rfl
 have f:∀i,i<vs.length->il ks ((ks.toArray.zip vs.toArray).getD i d0)=i:=λi b=>vT nd (by rw[n i b];exact o i b);have c:∀x∈ks.toArray.zip vs.toArray,∃i,i<vs.length/\x=(ks.toArray.zip vs.toArray).getD i d0:=λx l=>by
  obtain⟨i,b,e⟩:=Array.getElem_of_mem l;exact#[i,(),(vr (nV.mpr #[b,e])).symm]
 have K:Asks (model P w) A s d (λx=>k (il ks x)) (ks.toArray.zip vs.toArray):=by
  refine#[λx y C l H v=>?_,λi j b g I z=>?_]
  .obtain⟨i,b,rfl⟩:=c x l;obtain⟨j,g,rfl⟩:=c y H;have z:=ask i j C () () (by rw[f i b,f j g]at v;exact v);unfold kas_ask at z;rw[n i b,n j g];exact z
  .rw[sz]at b g;rw[f i b,f j g]at z;exact I (inj i j b g z)
 have run:=LQ (E:=E) (st:=SortSt.mk' d (ks.toArray.zip vs.toArray) #v[] 7 none) (Q:=λ_ a=>Q a s) K #[zZ,Cs _,zZ] zZ () λa B up=>?_
 .unfold wpS at run;exact fL run (λr u h=>by obtain⟨rfl,h⟩:=h;exact h) λ_ _ e=>e
 .have q:=qo B.perm;rw[sz]at up q;have mem:∀i,i<vs.length->(arrOf a).getD i d0∈ks.toArray.zip vs.toArray:=λi b=>Ao B.perm ();have J:Arr vs.length ((arrOf a).map (il ks)):=by
   refine n7.mpr ?_;rw[z9];refine((n7.mp B.perm).map (il ks)).trans (.of_eq ?_);refine l6 λi=>?_;rw[cV,lF,zy];by_cases b:i<vs.length
   .rw[rc (),lK b];exact dw some (f i b)
   .rw[DH (),hJ (by simp;lia)];rfl
  have m:∀i,i<vs.length->((arrOf a).map (il ks)).getD i 0=il ks ((arrOf a).getD i d0):=λi b=>by
   rw[pS,Array.getElem?_map,rc ()];rfl
  refine G ((arrOf a).map (il ks)) a J (λx y L D=>?_) ?_ B.ok
  .rw[m x (),m y D];exact up x y (g7 _) L D
  .apply Array.toList_inj.mp;rw[z9];show _=hX vs _
   unfold hX;rw[z9,hK];refine i9 λx l=>?_;obtain⟨i,b,rfl⟩:=c x ((BY B.perm).mp (Ce.mp l));show((ks.toArray.zip vs.toArray).getD i d0).2=vs.getD (il ks ((ks.toArray.zip vs.toArray).getD i d0)) Value.none
   rw[f i b,n i b]
def K9{n:Nat}{R:PySem.Fin->Sh->Prop}(z:s.heap.get? a=some (seqObj "list" vs.toArray n))(few:vs.length<=4000)(nd:vs.Nodup)(inj:∀i j,i<vs.length->j<vs.length->k i=k j->i=j)(ask:∀r,(∀b o,b≠a->s.heap.get? b=some o->r.get? b=some o)->2<=vs.length->BV P w A vs (λi j=>decide (k i<k j)) {s with heap:=r})
  (q:∀p r c,Arr vs.length p->rg k p vs.length->r.get? a=some (seqObj "list" (hX vs p).toArray c)->(∀b o,b≠a->s.heap.get? b=some o->r.get? b=some o)->R (.done (.ret .none)) {s with heap:=r}):
  wpAny (model P w) A (Builtin.«list.sort» #[[.ref a],[]]) R E s:=by
 have la:a<s.heap.objs.size:=dm z
 let D:=s.heap.update a (Obj.mapSeq λ_=>(#v[]:AV))
 obtain⟨B,u⟩:∃B,D.get? a=some (seqObj "list" #v[] B):=#[_,vW z λ_=> #v[]]
 let h:=(D.push (seqObj "tuple" vs.toArray 0)).push (seqObj "list" #v[] 0)
 have N:∀b o,b≠a->s.heap.get? b=some o->D.get? b=some o:=λb o t e=>(je _ _ (eJ t)).trans e;have k3:∀b o,b≠a->s.heap.get? b=some o->h.get? b=some o:=λb o t e=>AG (N b o t e) _ _;have l:h.get? a=some (seqObj "list" #v[] B):=AG u _ _;rw[list_sort_plain];refine cr (listItems_at z zZ ?_);refine cr (ui z zZ ?_ (by rw[e9,dA];lia) (g7 _));refine cr (zG u zZ ?_);refine cr (wpAny_newTuple ?_ (by show vs.length<=_;rw[dA];lia));refine cr (vk ?_ (g7 _));refine iS ?_;show wpAny (model P w) A _ R E {s with heap:=h};dsimp only;have fin:∀(st:SortSt) (p:Array Nat),Arr vs.length p->rg k p vs.length->(arrOf st).map (·.2)=(hX vs p).toArray->failedOf st=none->∀G,G=h->
   wpAny (model P w) A (do
    let f:=(<-seqEpoch a) != B
    Builtin.List.listUpdate (.ref a) λ_=>(arrOf st).map (·.2)
    if let some e:=failedOf st then rule "list.sort.comparison-raised";throw e
    if f then rule "list.sort.modified";raiseError "ValueError" "list modified during sort"
    ret .none) R E {s with heap:=G}:=λst p C up g H G O=>by
  subst O;rw[g];have sz:(hX vs p).toArray.size=vs.length:=by
   rw[e9,cu,d9,C.size]
  obtain⟨I,J⟩:∃I,(h.update a (Obj.mapSeq λ_=>(hX vs p).toArray)).get? a=some (seqObj "list" (hX vs p).toArray I):=#[_,vW l λ_=>(hX vs p).toArray];refine cr (zG l zZ ?_);refine cr (ui l zZ ?_ (g7 _) (dy (rz sz) (by rw[dA];lia)));rw[H];simp only[bne_self_eq_false,Bool.false_eq_true,if_false];exact cF (q p _ I C up J λb o t e=>(je _ _ (eJ t)).trans (k3 b o t e))
 by_cases T:2<=vs.length
 .have v: ¬vs.toArray.size<2:=by rw[e9];lia
  rw[wA v,wA v];refine cr (fL (ask h k3 T) (λd s0 L=>?_) λ_ _ x=>x.elim);obtain⟨rfl,L⟩:=L;refine cr (fL (EN (ks:=vs) (vs:=vs) (k:=k) (Q:=λm M=>M={s with heap:=h}/\∃p:Array Nat,Arr vs.length p/\rg k p vs.length/\(arrOf m).map (·.2)=(hX vs p).toArray/\failedOf m=none) rfl () nd inj L λp m U Y a3 a4=>#[rfl,p,U,Y,a3,a4]) ?_ λ_ _ x=>x);rintro⟨⟨⟩,st⟩ M ⟨rfl,p,C,up,g,H⟩;exact fin st p C up g H _ rfl
 .have v:vs.toArray.size<2:=by rw[e9];lia
  rw[wB v,wB v];refine cr (cF (cr (cF ?_)));refine fin _ (List.range vs.length).toArray (Cs _) (λx y xy yn=>by lia) ?_ zZ _ rfl;rw[Iy];exact HX rfl
end
def IZ{H:Hp}{e:As}{d:LN}(c:TupsAt H e d)(nd:d.Nodup):(e.map Value.ref).Nodup:=by
 refine pc.mpr λi j g k o z=>?_;rw[qu,qu]at z;rw[cu]at g k;have z:=Value.ref.inj z;have p:=c.len;have l:=c.is i e[i] (d[i]'()) (cA g) (cA _);have m:=c.is j e[j] (d[j]'()) (cA k) (cA _);rw[z,m]at l;have n:d[j]'()=d[i]'():=by
  have y:=gY l;injection y with y
  exact(List.map_inj_right (f:=nv) λa b h=>AM (V.int.inj h)).mp y
 have q:=(ig (i:=j) (j:=i) () nd).mp (by rw[cA (),cA (),n]);lia
def jg(g:cn->Int)(t u:cn):Bool:=xL (g t) t (g u) u
def ph(g:cn->Int)(f:LN):Total (jg g) f:=by
 refine#[λx=>?_,λx y z b a=>?_,λx _ y _ ne=>?_]
 .unfold jg xL;rw[wB zZ,qd]
 .unfold jg xL at b a|-;by_cases d:g x=g y
  .rw[wB d]at b;by_cases c:g y=g z
   .rw[wB c]at a;rw[wB ()];exact A6 _ _ _ b a
   .rw[wA c]at a;have:=gK a;rw[wA ()];exact dW ()
  .rw[wA d]at b;have h:=gK b;by_cases c:g y=g z
   .rw[wA ()];exact dW ()
   .rw[wA c]at a;have i:=gK a;rw[wA ()];exact dW ()
 .unfold jg xL;by_cases e:g x=g y
  .rw[wB e,wB e.symm];exact CI x y ne
  .rw[wA e,wA λz=>e z.symm]
   rcases Int.lt_or_gt_of_ne e with q|q
   .exact .inl (dW q)
   .exact .inr (dW q)
def vX(H:Hp)(g:cn->Int)(b a:Ad)(t:cn):Prop:=H b=some (.tup [.int (g t),.ref a])/\H a=some (.tup (t.map nv))
structure KeysAt(H:Hp)(g:cn->Int)(κs as:As)(ts:LN):Prop where
 l1:κs.length=ts.length
 l2:as.length=ts.length
 is:∀(i:Nat) κ a t,κs[i]?=some κ->as[i]?=some a->ts[i]?=some t->vX H g κ a t
section
variable{X:Cx}{d:AO}{b:St}{H:Hp}{s:Sh}{g:cn->Int}
def B7{i a:Ad}{t:cn}(I:Inv X d b H s)(h:vX H g i a t):∃o j e n,s.heap.get? i=some o/\o.cls=.type "tuple"/\o.data=.seq #v[.int (g t) j,.ref a] n/\Vals (t.map nv) e/\SeqObj "tuple" s.heap a e:=by
 obtain⟨_,e,r,o,m,p,c,q,_⟩:=(show ObjOk X.prog X.w H s.heap i (.tup [.int (g t),.ref a])from I.hok i _ h.1);obtain⟨k,l,rfl,⟨j,rfl⟩,u⟩:∃k l,e=k::l/\RelV (.int (g t)) k/\Vals [.ref a] l:=by
  cases r with
  |cons x y=>exact#[_,_,zZ,x,y]
 obtain⟨A,rfl,v⟩:=jv u;cases v;obtain⟨f,w,z,_⟩:=I.tuple (P2 (K:=X.K) h.2);exact#[o,j,f,c,m,p,q,w,IW z]
def Pu{A:Ar}{f a c h:Ad}{t u:cn}{Q:Bool->Sh->Prop}{E:VP}(U:A.units+8<cLine)(I:Inv X d b H s)(k:vX H g f a t)(l:vX H g c h u)(q:Q (jg g t u) s):
  wpAny (model X.prog X.w) A (keyLt' (tuples' true) (.ref f) (.ref c)) Q E s:=by
 obtain⟨Y,m,v,n1,w,x2,x,n,y⟩:=B7 I k;obtain⟨o2,o,B,n2,C,y2,D,p,G⟩:=B7 I l;refine kat_lt w x C D ?_;show KatLex _ _ _ _ _ _ [(Value.int (g t) m,Value.int (g u) o),(Value.ref a,Value.ref h)] 0 s;have z:=f6 (A:=A) (s:=s) (i:=g t) (j:=g u) (t:=m) (u:=o);refine kat_cons ?_;unfold jg xL at q;by_cases e:g t=g u
 .rw[dW e]at z;rw[wB e]at q;refine z _ _ _ _ (kat_yes (kat_cons ?_));obtain⟨J,L,M⟩:=wS I 1 (A:=A) () (iQ (P2 (K:=X.K) k.2)) (iQ (P2 (K:=X.K) l.2)) zZ rfl;refine L _ _ _ _ ?_;cases J with
  |true=>
   have N:=dS.mp (M.mp zZ);subst N;rw[qd]at q;refine kat_yes (kat_nil ?_);exact q
  |false=>
   refine kat_no (kat_one _ _ ?_);have O:t.length=v.length:=by simpa using n.length
   have T:u.length=B.length:=by simpa using p.length
   have r:=ME (A:=A) y G () (Ou n p);rw[<-O,<-T]at r;exact show wpAny _ _ (richCompare .Lt _ _) _ _ _ from r _ _ _ _ q
 .rw[fZ e]at z;rw[wA e]at q;exact z _ _ _ _ (kat_no (GK _ q))
theorem FY{g:cn->Int}(I:Inv X d b H s):∀{κs as:As} {ts:LN},KeysAt H g κs as ts->∃fs:Vs,KatTups s.heap (κs.map Value.ref) fs/\fs.length=κs.length/\∀f∈fs,∃i t,f=.int i t
 | [],as,ts,_=>#[[],.nil,zZ,λ_ z=>nomatch z]
 |κ::κs,[],ts,h=>by have:=h.l1;have:=h.l2;simp at *;lia
 |κ::κs,a::as,[],h=>by have:=h.l1;simp at this
 | κ::κs,a::as,t::ts,h=>by
  obtain⟨fs,c,j,k3⟩:=FY I (κs:=κs) (as:=as) (ts:=ts) #[by simpa using h.l1,by simpa using h.l2,λi κ a t k l m=>h.is (i+1) κ a t (by simpa using k) (by simpa using l) (by simpa using m)];obtain⟨o,v,p,n,q,r,u,_⟩:=B7 I (h.is 0 κ a t zZ zZ zZ);exact#[_::fs,.cons q r u zZ c,by simp[j],λf hf=>by
   rcases dL.mp hf with e|hf
   .exact#[_,_,e]
   .exact k3 f hf]
def Pn{A:Ar}{c p:As}{k:LN}(r:A.units+8<cLine)(I:Inv X d b H s)(B:1<=k.length)(h:KeysAt H g c p k):BV X.prog X.w A (c.map Value.ref) (λi j=>jg g (k.getD i []) (k.getD j [])) s:=by
 obtain⟨fs,u,D,k3⟩:=FY I h;have E:=h.l1;have G:=h.l2;refine kat_kind (T:= .type "int") u () (λf v=>?_) (by decide) #[zZ,λi j C m q w=>?_]
 .obtain⟨i,t,rfl⟩:=k3 f v;exact .now
 .rw[cu]at m q;have l:∀{i:Nat},i<c.length->∃e a,(c.map Value.ref).getD i Value.none=.ref e/\vX H g e a (k.getD i []):=λ{i} m=>by
   obtain⟨e,n⟩:∃e,c[i]?=some e:=#[_,cA m];obtain⟨a,o⟩:∃a,p[i]?=some a:=#[_,cA ()];refine#[e,a,?_,h.is i e a _ n o (on ()).1];rw[eE,cV,n];rfl
  obtain⟨e,a,n,x⟩:=l m;obtain⟨y,J,o,z⟩:=l q;show wpAny (model X.prog X.w) A (keyLt' _ ((c.map Value.ref).getD i Value.none) ((c.map Value.ref).getD j Value.none)) C _ s;rw[n,o];exact Pu r I x z w
end
inductive hI(g:cn->Int)(d:List V)(H:Hp)(Q:VK)(b:XK):Prop|mk:∀(a:Ad) (t:cn),d=[.ref a]->H a=some (.tup (t.map nv))->(∀e c,Same H c->c e=some (.tup [.int (g t),.ref a])->Q (.ref e) c)->hI g d H Q b
section
variable{X:Cx}{d:AO}{j:St}{n:Nat}{f:Ad}{m:Fd}{l:Ss}{g:cn->Int}
def O8{c:Sp}{H:Hp}{s:Sh}{Q:VK}{us:Vs}{vs:List V}(F:FnOk X.prog X.w X.K X.mg X.base da n f m l c)(g:Room n X.A.in1.in1)(i:Binds X.K m l [])(I:Inv X d j H s)(r:Vals vs us)(h:c vs H Q E0):
  wpAny (model X.prog X.w) X.A.in1.in1 (call (.ref f) us) (EP X d j Q) (λ_ _=>False) s:=by
 have k:(us++[]).length=l.length:=by rw[gS,<-r.length];exact F.len _ _ _ _ h
 have b:=i s us I.kIn k;rw[gS]at b;refine oF (mJ (F.run X.A.in1.in1 X.stack s H #[us,[]] us vs Q E0 g I.env0.in1.in1 b r h) λr p a=>?_);cases r with
 |error e=>exact a.elim
 |ok o=>
  cases o with
  |ret u=>exact I.after a
  |next=>exact wE a
  |brk=>exact wE a
  |cont=>exact wE a
def Inv.pin2{H:Hp}{s:Sh}{b c:Ad}{o u:Obj}(I:Inv X d j H s)(a:FpOk X d H b)(e:FpOk X d H c)(f:s.heap.get? b=some o)(g:s.heap.get? c=some u)(h:∀v,o.data≠ .cell v)(i:∀v,u.data≠ .cell v):Inv X ((b,o)::(c,u)::d) j H s:=
 I.pins_of λp hp=>by
  rcases dL.mp hp with rfl|hp
  .exact#[f,a.1,a.2.1,a.2.2.1,h]
  .rcases dL.mp hp with rfl|hp
   .exact#[g,e.1,e.2.1,e.2.2.1,i]
   .exact I.pin p (gf _ hp)
def Inv.unpin2{H:Hp}{s:Sh}{b c:Ad}{o u:Obj}(I:Inv X ((b,o)::(c,u)::d) j H s):Inv X d j H s:=
 I.pins_of λp a=>I.pin p (gf _ (eO _ (eO _ a)))
def FpOk.to{H a:Hp}{b:Ad}(h:FpOk X d H b)(e:a b=none):FpOk X d a b:=#[e,h.2]
theorem FP{E:VP}{y D:Ad}{J:Nat}{A:Vl->PUnit->Sem (ForInStep PUnit)}{Q:Sh->Prop}(F:FnOk X.prog X.w X.K X.mg X.base da n f m l (hI g))(hr:Room n X.A.in1.in1)(hb:Binds X.K m l [])(ne:y≠D)(B:∀x (s:Sh) (C:VP) (Qy:Sh->Prop),wpAny (model X.prog X.w) X.A.in1.in1 (call (.ref f) [x]) C (λ_ _=>False) s->
   (∀k s',C k s'->∃aa c,s'.heap.get? y=some (seqObj "list" aa c)/\aa.size<64/\Qy {s' with heap:=s'.heap.update y (Obj.mapSeq (·.push k))})->wpAny (model X.prog X.w) X.A.in1.in1 (A x ⟨⟩) (λr s'=>r=.yield ⟨⟩/\Qy s') E s):
  ∀(r:As) (rt:LN) (H:Hp) (h:As) (c:Nat) (s:Sh),Inv X d j H s->TupsAt H r rt->s.heap.get? y=some (seqObj "list" (h.map Value.ref).toArray c)->s.heap.get? D=some (seqObj "list" #v[] J)->FpOk X d H y->FpOk X d H D->h.length+r.length<64->
   (∀L G c2 s2,Inv X d j L s2->Same H L->KeysAt L g G r rt->s2.heap.get? y=some (seqObj "list" ((h++G).map Value.ref).toArray c2)->s2.heap.get? D=some (seqObj "list" #v[] J)->FpOk X d L y->FpOk X d L D->Q s2)->
   wpAny (model X.prog X.w) X.A.in1.in1 (forIn (r.map Value.ref) PUnit.unit A) (λ_ s'=>Q s') E s
 | [],[],H,h,c,s,I,T,eS,eD,M,f2,_,q=>by
  rw[zM,List.forIn_nil];exact cF (q H [] c s I (Same.refl _) #[zZ,zZ,λi p a t e=>by simp at e] (by rw[List.append_nil];exact eS) eD M f2)
 | [],_::_,H,h,c,s,I,T,eS,eD,M,f2,_,q=>by have:=T.len;simp at this
 |_::_,[],H,h,c,s,I,T,eS,eD,M,f2,_,q=>by have:=T.len;simp at this
 | a::r,t::rt,H,h,c,s,I,T,eS,eD,M,f2,ae,q=>by
  rw[jz]at ae;rw[h9,List.forIn_cons];have ha:H a=some (.tup (t.map nv)):=T.is 0 a t zZ rfl;have I1:=I.pin2 M f2 eS eD (λ_ z=>nomatch z) (λ_ z=>nomatch z);have go:=O8 (Q:=λv w=>∃p,v=.ref p/\Same H w/\w p=some (.tup [.int (g t),.ref a])) F hr hb I1 (us:=[.ref a]) (vs:=[.ref a]) (.cons zZ .nil) #[a,t,zZ,ha,λp w N e=>#[p,zZ,N,e]];refine cr (fL (B _ s _ (λs'=>∃p w O,Inv X d j w s'/\Same H w/\w p=some (.tup [.int (g t),.ref a])/\s'.heap.get? y=some (seqObj "list" ((h++[p]).map Value.ref).toArray O)/\s'.heap.get? D=some (seqObj "list" #v[] J)/\FpOk X d w y/\FpOk X d w D) go λk s' hk=>?_) (λx s' hx=>?_) λ_ _ z=>z)
  .obtain⟨v,w,I',rv,p,rfl,N,U⟩:=hk;cases rv;obtain⟨p1,p2,p3,p4,_⟩:=I'.pin (y,_) (gf _ (dX ..));obtain⟨d1,d2,d3,d4,_⟩:=I'.pin (D,_) (gf _ (eO _ (dX ..)));obtain⟨O,af⟩:∃O,(s'.heap.update y (Obj.mapSeq (·.push (Value.ref p)))).get? y=some (seqObj "list" ((h++[p]).map Value.ref).toArray O):=by
    have ea:(List.map Value.ref h).toArray.push (.ref p)=((h++[p]).map Value.ref).toArray:=by simp
    rw[<-ea];exact#[_,vW p1 (·.push (Value.ref p))]
   refine#[_,_,p1,by rw[e9,cu];lia,p,w,O,?_,N,U,af,?_,M.to p2,f2.to d2]
   .obtain⟨_,w1,w2,w3,w4,w5⟩:=M;exact I'.unpin2.turned (t':=s'.toks) (λb o nb e=>(je _ _ (eJ nb)).trans e) p2 w1 w3 w4 w5
   .exact(je _ _ ne).trans d1
  .obtain⟨rfl,p,w,O,I',N,U,ag,ah,g1,g2⟩:=hx;show wpAny _ _ (forIn (r.map Value.ref) PUnit.unit A) _ E s';refine FP F hr hb ne B r rt w (h++[p]) O s' I' #[by simpa using T.len,λi b u J e2=>N _ _ (T.is (i+1) b u (by simpa using J) (by simpa using e2))] ag ah g1 g2 (by rw[List.length_append];show h.length+1+r.length<64;lia) λL G c2 s2 I2 Y K2 ab ai h1 h2=>?_;refine q L (p::G) c2 s2 I2 (N.trans Y) #[by simp[K2.l1],by simp[K2.l2],λi aj b u J e2 e3=>?_] (by rw[List.append_assoc]at ab;exact ab) ai h1 h2;cases i with
   |zero=>
    cases J;cases e2;cases e3;exact#[Y _ _ U,(N.trans Y) _ _ ha]
   |succ i=>exact K2.is i aj b u (by simpa using J) (by simpa using e2) (by simpa using e3)
end
section
variable{X:Cx}{t:AO}{u:St}{H:Hp}{s:Sh}{B:Nat}{f D:Ad}{v:Fd}{w:Ss}{g:cn->Int}{r:As}{m:LN}{E:VP}
def OT{R:PySem.Fin->Sh->Prop}{n:Nat}(F:FnOk X.prog X.w X.K X.mg X.base da B f v w (hI g))(hr:Room B X.A.in1.in1)(hb:Binds X.K v w [])(hu:X.A.units+64<cLine)(I:Inv X t u H s)(T:TupsAt H r m)(nd:m.Nodup)(am:m.length<64)(ho:s.heap.get? D=some (seqObj "list" (r.map Value.ref).toArray n)) (fD:FpOk X t H D)(q:∀U p s2 c,Inv X t u U s2->Same H U->Arr m.length p->rg (λi=>j7 (jg g) m (m.getD i [])) p m.length->s2.heap.get? D=some (seqObj "list" (hX (r.map Value.ref) p).toArray c)->FpOk X t U D->R (.done (.ret .none)) s2):
  wpAny (model X.prog X.w) X.A.in1.in1 (ksk_tree D (.ref f) false) R E s:=by
 have la:=T.len;have Y:(r.map Value.ref).length=m.length:=by rw[cu,la]
 have lD:D<s.heap.objs.size:=dm ho;obtain⟨d0,d1,d2,d3,d4,d5⟩:=fD
 let h1:=s.heap.update D (Obj.mapSeq λ_=>(#v[]:AV))
 obtain⟨L,aa⟩:∃L,h1.get? D=some (seqObj "list" #v[] L):=#[_,vW ho λ_=> #v[]];have I1:Inv X t u H {s with heap:=h1}:=I.turned (t':=s.toks) (λb o nb e=>(je _ _ (eJ nb)).trans e) d0 d1 d3 d4 d5
 let G:=h1.push (seqObj "tuple" (r.map Value.ref).toArray 0)
 have I3:Inv X t u H {s with heap:=G.push (seqObj "list" #v[] 0)}:=I1.kept (t':=s.toks) λb o e=>AG e _ _;have ag:(G.push (seqObj "list" #v[] 0)).get? D=some (seqObj "list" #v[] L):=AG aa _ _;have ah:(G.push (seqObj "list" #v[] 0)).get? G.objs.size=some (seqObj "list" ((([]:As)).map Value.ref).toArray 0):=fq _ rfl;have lk:s.heap.objs.size<=G.objs.size:=by
  show _<=(h1.push _).objs.size;rw[size_push'];show _<=(s.heap.update D _).objs.size+1;rw[Heap.size_update];exact pO _
 have fk:FpOk X t H G.objs.size:=I.fpOk lk (I.hok.fresh lk);have ne:G.objs.size≠D:=mH (fJ lD lk);unfold ksk_tree;refine cr (listItems_at ho zZ ?_);refine cr (ui ho zZ ?_ (by rw[e9,dA];lia) (g7 _));refine cr (zG aa zZ ?_);refine cr (wpAny_newTuple ?_ (by show(r.map Value.ref).length<=_;rw[dA];lia));refine cr (vk ?_ (g7 _));refine iS ?_;show wpAny (model X.prog X.w) X.A.in1.in1 (ksk_rest D (.ref f) false (r.map Value.ref).toArray L (.ref G.objs.size)) R E {s with heap:=G.push (seqObj "list" #v[] 0)};unfold ksk_rest;refine cr (pE ?_);rw[List.forIn_toArray];refine cr (FP F hr hb ne (λx s0 C Qy hx hC=>?_) r m H [] 0 _ I3 T ah ag fk #[d0,d1,d2,d3,d4,d5] (by simp;lia) λU J c2 s2 I2 gg K2 eS eD f1 f2=>?_)
 .refine cr (qv (fL hx (λk s' hk=>?_) λ_ _ z=>z.elim));obtain⟨ai,c,e,l,qy⟩:=hC k s' hk;refine cr (ui e zZ ?_ (by rw[dA];lia) (by show(ai.push k).size<=_;rw[pK,dA];lia));exact cF #[zZ,qy]
 rw[Eg]at eS;have ab:(J.map Value.ref).length=(r.map Value.ref).length:=by rw[cu,Y,K2.l1]
 refine cr (listItems_at eS zZ ?_);have fin:∀(st:SortSt) (p:Array Nat),Arr m.length p->rg (λi=>j7 (jg g) m (m.getD i [])) p m.length->(arrOf st).map (·.2)=(hX (r.map Value.ref) p).toArray->failedOf st=none->
   wpAny (model X.prog X.w) X.A.in1.in1 (ksk_tail D false L (.ref G.objs.size) st) R E s2:=λst p ar up M hf=>by
  have sz:(hX (r.map Value.ref) p).toArray.size=m.length:=by
   rw[e9,cu,d9,ar.size]
  unfold ksk_tail
  try dsimp only
  rw[M];have I4:Inv X t u U {s2 with heap:=s2.heap.update G.objs.size (Obj.mapSeq λ_=>(#v[]:AV))}:=by
   obtain⟨w0,w1,w2,w3,w4,w5⟩:=f1;exact I2.turned (t':=s2.toks) (λb o nb e=>(je _ _ (eJ nb)).trans e) w0 w1 w3 w4 w5
  have N:(s2.heap.update G.objs.size (Obj.mapSeq λ_=>(#v[]:AV))).get? D=some (seqObj "list" #v[] L):=(je _ _ ne).trans eD;obtain⟨c5,aj⟩:∃c5,((s2.heap.update G.objs.size (Obj.mapSeq λ_=>(#v[]:AV))).update D (Obj.mapSeq λ_=>(hX (r.map Value.ref) p).toArray)).get? D=some (seqObj "list" (hX (r.map Value.ref) p).toArray c5):=#[_,vW N λ_=>(hX (r.map Value.ref) p).toArray];refine cr (ui eS zZ ?_ (by rw[e9,dA];lia) (g7 _));refine cr (wpAny_letGo ?_);refine cr (zG N zZ ?_);refine cr (ui N zZ ?_ (g7 _) (by show(hX (r.map Value.ref) p).toArray.size<=_;rw[sz,dA];lia));rw[hf];simp only[bne_self_eq_false,Bool.false_eq_true,if_false];refine cF (q U p _ c5 ?_ gg ar up aj f2);obtain⟨w0,w1,w2,w3,w4,w5⟩:=f2;exact I4.turned (t':=s2.toks) (λb o nb e=>(je _ _ (eJ nb)).trans e) w0 w1 w3 w4 w5
 unfold ksk_end;simp only[Bool.false_eq_true,if_false];by_cases an:2<=m.length
 .have n2: ¬(r.map Value.ref).toArray.size<2:=by rw[e9];lia
  rw[wA n2,wA n2];have To:=ph g m;have inj:=HE (d:=([]:cn)) To nd;refine cr (fL (Pn (A:=X.A.in1.in1) (by show X.A.units+1+1+8<cLine;lia) I2 () K2) (λκ s0 hk=>?_) λ_ _ x=>x.elim);obtain⟨rfl,hk⟩:=hk;have al:J.length=m.length:=K2.l1;have ae:(J.map Value.ref).Nodup:=by
   refine pc.mpr λi j hi hj ij z=>?_;rw[qu,qu]at z;rw[cu]at hi hj;have z:=Value.ref.inj z;have L:=K2.is i J[i] (r[i]'()) (m[i]'()) (cA hi) (cA _) (cA _);have e2:=K2.is j J[j] (r[j]'()) (m[j]'()) (cA hj) (cA _) (cA _);obtain⟨L,ak⟩:=L;obtain⟨e2,af⟩:=e2;rw[z,e2]at L;have ea:r[j]'()=r[i]'():=by
    have y:=gY L;injection y with y
    injection y with _ y
    injection y with y
    exact V.ref.inj y
   rw[ea]at af;have et:m[j]'()=m[i]'():=by
    have y:=gY (af.symm.trans ak);injection y with y
    exact(List.map_inj_right (f:=nv) λa b h=>AM (V.int.inj h)).mp y
   have e4:=(ig (i:=j) (j:=i) () nd).mp (by rw[cA (),cA (),et]);lia
  refine cr (fL (EN (ks:=J.map Value.ref) (vs:=r.map Value.ref) (k:=λi=>j7 (jg g) m (m.getD i [])) (Q:=λO s'=>s'=s0/\∃p:Array Nat,Arr m.length p/\rg (λi=>j7 (jg g) m (m.getD i [])) p m.length/\(arrOf O).map (·.2)=(hX (r.map Value.ref) p).toArray/\failedOf O=none) ab () ae (by rw[Y];exact inj) (λi j C li lj hC=>hk i j C () () (by
   have e:=To.asks (on (d:=([]:cn)) (show i<m.length by lia)).2 (on (d:=([]:cn)) (show j<m.length by lia)).2;show C (jg g (m.getD i []) (m.getD j [])) _
   rw[<-e];exact hC)) λp O a1 a2 a3 a4=>#[zZ,p,by rw[<-Y];exact a1,by rw[<-Y];exact a2,a3,a4]) ?_ λ_ _ x=>x)
  rintro⟨⟨⟩,st⟩ s' ⟨rfl,p,ar,up,M,hf⟩;exact fin st p ar up M hf
 .have n2:(r.map Value.ref).toArray.size<2:=by rw[e9];lia
  rw[wB n2,wB n2];refine cr (cF (cr (cF ?_)));refine fin _ (List.range m.length).toArray (Cs _) (λx y xy yn=>by lia) ?_ rfl;rw[<-Y,Iy];exact HX ab
end
section
variable{X:Cx}{m:AO}{j:St}{H:Hp}{s:Sh}{d:Ad}{c:List (List dq×V)}{g:LN}
def Fm(I:Inv X m j H s)(h:H d=some (.dT c))(e:c.map (·.1)=g.map nk):∃M n D,Lies s.heap d n D/\(d==sysModules)=false/\TupsAt H M g/\(∀(i:Nat) (E:DictEntry),n[i]?=some E->∃a,M[i]?=some a/\E.key=.ref a)/\n.size=g.length/\g.Nodup/\g.length<=sizeLine:=by
 obtain⟨z,U,w,l,o,n,D,Y,e2,e3,N,nd⟩:=(show ObjOk X.prog X.w H s.heap d (.dT c)from I.hok d _ h);have l1:c.length=w.length:=pq l;have l2:c.length=g.length:=by rw[<-cu (f:=(·.1)) (as:=c),e,cu]
 have le:n.size=w.length:=Ax N;have G:∀(i:Nat) (t:cn),g[i]?=some t->∃k v y u,c[i]?=some (k,v)/\w[i]?=some (k,y,u)/\k=nk t/\H y=some (.tup (t.map nv)):=λi t B=>by
  have li:=(cK.mp B).1;obtain⟨⟨k,v⟩,r⟩:∃p,c[i]?=some p:=#[_,cA ()];obtain⟨⟨k',y,u⟩,x,J,p2,p3⟩:=At l r;have O:k=nk t:=by
   have C:(c.map (·.1))[i]?=some k:=by rw[cV,r];rfl
   rw[e,cV,B]at C;exact(gY C).symm
  have L:k=k':=J;subst L;refine#[k,v,y,u,r,x,O,?_];have A:H y=some (.tup (k.map kV)):=p2;rw[O,iu]at A;exact A
 refine#[w.map (·.2.1),n,D,#[o,Y,e2,e3],U,#[by rw[cu];lia,λi b t Q B=>?_],λi E T=>?_,(),?_,()]
 .obtain⟨k,v,y,u,_,x,_,hy⟩:=G i t B;rw[cV,x]at Q;cases Q;exact hy
 .rw[entry_at N]at T;obtain⟨q,eq,rfl⟩:=eW.mp T;exact#[q.2.1,by rw[cV,eq];rfl,zZ]
 .have C:(w.map (·.1))=g.map nk:=by
   rw[<-e];refine l6 λi=>?_;rw[cV,cV];cases r:c[i]? with
   |none=>rw[hJ (by rw[<-l1];exact D2.mp r)];rfl
   |some p=>
    obtain⟨q,x,J,_⟩:=At l r;rw[x];exact dw some J.symm
  rw[C]at nd;exact(yC.mp nd).imp λh z=>h (dw nk z)
def Hi{e:As}{d:Array DictEntry}{b:AV}(is:∀(i:Nat) (c:DictEntry),d[i]?=some c->∃a,e[i]?=some a/\c.key=.ref a)(m:e.length=d.size)(it:ItemsOf (λi v=>∃c,d[i]?=some c/\v=c.key) b d.size):b.toList=e.map Value.ref:=by
 refine l6 λi=>?_;by_cases h:i<d.size
 .obtain⟨v,f⟩:∃v,b[i]?=some v:=#[_,mB (by rw[it.1];exact h)];obtain⟨c,g,j⟩:=it.2 i v f;obtain⟨a,k,l⟩:=is i c g;rw[lF,f,cV,k,j,l];rfl
 .rw[hJ (by rw[d9,it.1];lia),hJ (by rw[cu];lia)]
theorem Cg:∀l:As,Vals (l.map V.ref) (l.map Value.ref)
 | []=> .nil
 |x::l=> .cons zZ (Cg l)
end
section
variable{X:Cx}
inductive iP(g:cn->Int)(f:List V)(H:Hp)(Q:VK):Prop|mk:∀d a c,f=[V.ref d]->H d=some (.dT a)->a.map (·.1)=c.map nk->c.length<64->(∀D bs e b,Same H b->H D=none->b D=some (.lst (bs.map V.ref))->TupsAt b bs e->e.Perm c->e.Pairwise (λx y=>jg g x y=true)->Q (.ref D) b)->iP g f H Q
def FG{a:As}{p:Array Nat}(b:Arr a.length p):hX (a.map Value.ref) p=(p.toList.map λi=>a.getD i 0).map Value.ref:=by
 unfold hX;rw[hK];refine i9 λi c=>?_;have d:i<a.length:=by
  have m:=(n7.mp b).mem_iff.mp c;simpa using m
 show(a.map Value.ref).getD i Value.none=Value.ref (a.getD i 0);rw[eE,eE,cV,cA d];rfl
def K4{x:Nat}{f:Ad}{y:Fd}{B:Ss}{g:cn->Int}{k:AO}{n:St}{H:Hp}{s:Sh}{Q:VK}{d:Ad}(N:X.calm=true)(O:X.A.units+64<cLine)(F:FnOk X.prog X.w X.K X.mg X.base da x f y B (hI g))(U:Room x X.A.in1.in1)(Y:Binds X.K y B [])(I:Inv X k n H s)(h:iP g [.ref d] H Q):wpAny (model X.prog X.w) X.A (call (.builtin "sorted") [.ref d] [(Str.ofString "key",.ref f)]) (EP X k n Q) X.xe s:=by
 obtain⟨d',aa,ts,e0,hd,e,u,q⟩:=h;cases e0;obtain⟨a,es,ep,L,nm,T,is,le,nd,v⟩:=Fm I hd e;refine call_function_entry_kw zU z6 Bg (ksk_s1 _ _) ?_;unfold Builtin.«sorted»;refine cr (m:=checkCount "sorted" 1 1 _) (cF ?_);refine cr (kdu_collect (A:=X.A.in1) (vY nm) (by simpa using I.ok.hd N) L () λj r ab keep it=>?_);have ea:=Hi is (by rw[T.len,le]) it;rw[ea];have t:Inv X k n H {s with heap:=j,toks:=r}:=I.kept keep;refine cr (vk ?_ (by rw[cu,T.len,dA];lia));have C:(j.push (seqObj "list" (a.map Value.ref).toArray 0)).get? j.objs.size=some (seqObj "list" (a.map Value.ref).toArray 0):=fq _ rfl;have I2:Inv X k n H {s with heap:=j.push (seqObj "list" (a.map Value.ref).toArray 0),toks:=r}:=t.kept (t':=r) λb o z=>dC _ z;have D:H j.objs.size=none:=t.hok.fresh (cQ _);have fD:FpOk X k H j.objs.size:=t.fpOk (cQ _) D;refine cr (iS (wpAny_call_entry_kw AS #[_,C,zZ] AW (OT (s:={s with heap:=j.push (seqObj "list" (a.map Value.ref).toArray 0),toks:=r}) F U Y O I2 T nd u C fD λH2 p s2 c Iz E l up G f2=>#[_,rfl,?_]) (ksk_l1 _ _)));have w:Arr a.length p:=by rw[T.len];exact l
 rw[FG w]at G;have T2:=(T.same E).pick l;obtain⟨J,w1,w2,w3,w4,w5⟩:=f2;have few:((p.toList.map λi=>a.getD i 0).map V.ref).length<=sizeLine:=by
  rw[cu,cu,d9,l.size];exact v
 have I5:=Iz.track (o:= .lst ((p.toList.map λi=>a.getD i 0).map V.ref)) J #[few,_,c,Cg _,G] (dy t.sz (cQ _)) w1 w4 w5;have M:=cM J (.lst ((p.toList.map λi=>a.getD i 0).map V.ref));exact cF #[_,zZ,.ref j.objs.size,_,I5,zZ,q _ _ _ _ (E.trans M) D cw (T2.same M) (Fp l) (FD (ph g ts) l up)]
def MN(g:cn->Int)(a:TE):TE:=λb H Q=>a b H λx c=>∃d,x=.ref d/\iP g [.ref d] c Q
def JQ{n:Nat}{v:Ss}{g:cn->Int}{b:Str}{e:Expr}{c:TE}{p w y a:Pos}(z:X.calm=true)(A:X.A.units+64<cLine)(B:dj X.prog X.w X.K X.mg X.base b n v (hI g))(C:Room (n+2) X.A)(D:Gl X "sorted")(E:X.mg "sorted"=none)(i:Gl X b)(G:PE X e c)(j:(b==("__debug__":Str))=false:=by decide) (k:starEach [e] X.env=[(false,eval e X.env)]:=by rfl):PE X (.Call (.Name "sorted" p) [e] [#[some "key",.Name b w,y]] a) (MN g c):=by
 intro J s L H Q I h;obtain⟨f,T,F,l,U,M⟩:=B;refine n6 (u8 I D E A2 ?_);refine callWith_kw ?_ (by rw[k];rfl) (by rw[k];rfl);have N:PA X [e] (jd c jh):=cL G cH k;refine cS (N a J s L H (λm o=>match m with| [x]=>∃d,x=.ref d/\iP g [.ref d] o Q|_=>False) I h) λY s1 ⟨m,o,t,r,q⟩=>?_
 match m,r,q with
 | [x],r,q=>
  obtain⟨d,rfl,q⟩:=q;obtain⟨u,rfl,O⟩:=jv r;cases O;refine kws_cons (oR t i l (kws_nil ?_) j);exact K4 z A F C.in1.in1 M t q
end
end L2
namespace L2
open PySem PySem.Spec PyProof.Rows
section
variable{X:Cx}{l:AO}{j:St}{H:Hp}{s:Sh}{d:Ad}{c:List (List dq×V)}{g:LN}{o:Obj}
def Inv.freeze(I:Inv X l j H s)(h:H d=some (.dT c))(e:s.heap.get? d=some o):Inv X l j (cq H d (.frz o (.dT c))) s:=by
 obtain⟨z,b,f,a,g,i,k,m,n,t,u,nd⟩:=(show ObjOk X.prog X.w H s.heap d (.dT c)from I.hok d _ h);refine I.write (x:=d) (e:=d) (h':=s.heap) (t':=s.toks) (by rw[h];exact True.intro) (.inl rfl) (λ_ _ _ q=>q) #[o,e] #[e,z,b,f,Paired.mapP a λp q r=>#[r.1,?_,r.2.2],g,i,k,m,n,t,u,nd];rw[cz (nE r.2.1 h)];exact r.2.1
def CQ(I:Inv X l j H s)(h:H d=some (.frz o (.dT c)))(e:c.map (·.1)=g.map nk):∃B m w,s.heap.get? d=some o/\o.ExactDict/\o.data=.dict m w/\(d==sysModules)=false/\TupsAt H B g/\(∀(i:Nat) (x:DictEntry),m[i]?=some x->∃a,B[i]?=some a/\x.key=.ref a)/\m.size=g.length:=by
 obtain⟨C,z,O,A,n,o',m,w,D,Q,T,E,nd⟩:=(show ObjOk X.prog X.w H s.heap d (.frz o (.dT c))from I.hok d _ h);rw[C]at D;cases D;have l1:c.length=A.length:=pq n;have l2:c.length=g.length:=by rw[<-cu (f:=(·.1)) (as:=c),e,cu]
 have le:m.size=A.length:=Ax E;refine#[A.map (·.2.1),m,w,C,Q,T,O,#[by rw[cu];lia,λi b t G J=>?_],λi x L=>?_,()]
 .have li:=(cK.mp J).1;obtain⟨⟨k,v⟩,M⟩:∃p,c[i]?=some p:=#[_,cA ()];obtain⟨⟨k',y,u⟩,U,p1,Y,p3⟩:=At n M;have kk:k=nk t:=by
   have N:(c.map (·.1))[i]?=some k:=by rw[cV,M];rfl
   rw[e,cV,J]at N;exact(gY N).symm
  rw[cV,U]at G;cases G;have r:H y=some (.tup (k.map kV)):=Y;rw[kk,iu]at r;exact r
 .rw[entry_at E]at L;obtain⟨q,eq,rfl⟩:=eW.mp L;exact#[q.2.1,by rw[cV,eq];rfl,zZ]
end
def t5(d:Ad)(o:Obj):It:=
  #[λi H=>∃(b:List (List dq×V)) (c:LN) (t:cn),H d=some (.frz o (.dT b))/\b.map (·.1)=c.map nk/\c[i]?=some t,
   λi H x e=>e=H/\∃a,x=.ref a/\∀(b:List (List dq×V)) (c:LN),H d=some (.frz o (.dT b))->b.map (·.1)=c.map nk->∃t:cn,c[i]?=some t/\H a=some (.tup (t.map nv)),
   λi H=>∃b,∃c:LN,H d=some (.frz o (.dT b))/\b.map (·.1)=c.map nk/\c.length<=i]
def L7{c d:LN}(h:c.map nk=d.map nk):c=d:=uf (λa b e=>uc e) h
def Nv{P:Pg}{w:World}{K:P3}{tg:Expr}{d it:Ad}{o:Obj}{x:Array DictEntry}{ep:Nat}(ne:d≠it)(j:o.data=.dict x ep)(ox:o.ExactDict):Turn P w K tg (t5 d o) [it] it (λi h=>h.get? it=some (qm d i x.size ep)) where
 mem:=by simp
 obj:=λi h st b c=>by
  have e:b=it:=by simpa using c
  subst e;exact#[_,st,λv z=>by
   have z':Data.fields _=Data.cell v:=z;cases z']
 keep:=λi h l st k=>k it (by simp) _ st
 item:=by
  intro X y hw A hc i za s σ H E I m st B;subst y hw A;obtain⟨C,ts,t,p,r,u⟩:=B;obtain⟨as,D,G,J,e2,f,nm,T,is,le⟩:=CQ I p r;rw[j]at f;cases f;obtain⟨L,M,f2,N,O,U⟩:=m it (by simp);have li:=(cK.mp u).1;obtain⟨Y,ee⟩:∃Y,x[i]?=some Y:=#[_,mB ()];obtain⟨a,ea,ek⟩:=is i Y ee;refine HY st #[o,J,ox,j] ee λl g sb=>?_;have I1:Inv X za σ H {s with heap:=l}:=I.turned (t':=s.toks) (λb o c e=>(sb.2 b c).trans e) L M N O U;refine#[_,zZ,AL (s:={s with heap:=l}) (n:="dict_keyiterator") g rfl rfl (by decide) #[.ref a,H,I1,ek,#[rfl,a,rfl,λaa ab g1 g2=>?_],g,λb c=>(m b c).1]];rw[p]at g1;cases g1;have tt:=L7 (r.symm.trans g2);subst tt;exact#[t,u,T.is i a t ea u]
 done:=by
  intro X y hw A hc i za s σ H E I m st B;subst y hw A;obtain⟨C,ts,p,r,u⟩:=B;obtain⟨as,D,G,J,e2,f,nm,T,is,le⟩:=CQ I p r;rw[j]at f;cases f;obtain⟨L,M,f2,N,O,U⟩:=m it (by simp);exact HV (I.ok.hd hc) st #[o,J,ox,j] (DH ()) λl eb=>#[zZ,I.turned (t':=s.toks) (λb o c e=>eb b o c e) L M N O U]
 self:=λ_ i s Q E st q=>by
  have ty:s.TypeIs (.ref it) "dict_keyiterator":=#[_,st,zZ];refine uy ty Ag (jx Ag ty GA ?_ (Fo _));exact show wpAny _ _ (ret (.ref it)) _ _ s from cF #[_,zZ,"dict_keyiterator",_,ty,tD.lookup,q]
section
variable{X:Cx}{a:Expr}
def Jt(H:Hp)(d:Ad)(o:Obj)(a:List (List dq×V))(b:Hp):Prop:=(H d=some (.frz o (.dT a))/\b=H)\/(H d=some (.dT a)/\b=cq H d (.frz o (.dT a)))
def wZ(e:TE):TI:=λf H R=>e f H λx b=>∃d a,∃g:LN,x=.ref d/\a.map (·.1)=g.map nk/\(b d=some (.dT a)\/∃o,b d=some (.frz o (.dT a)))/\∀o c,Jt b d o a c->R (t5 d o) c
def Gr{l:Expr}{tl:TE}(z:PE X l tl):PI X a l (wZ tl):=by
 intro m s n H R I h;refine cS (z m s n H _ I h) λv f ⟨x,t,p,A,B⟩=>?_;obtain⟨d,g,G,e,C,w,q⟩:=B;subst e;cases A;have go:∀(i:Hp) (o:Obj),Inv X m n i f->i d=some (.frz o (.dT g))->R (t5 d o) i->wpAny (model X.prog X.w) X.A (pyIter (.ref d)) (Er X m n a R) X.xe f:=λi o j c r=>by
  obtain⟨J,L,M,k,u,y,D,T,is,N⟩:=CQ j c C;refine G8 D #[o,k,u,y] ?_;refine#[f.heap.objs.size,[f.heap.objs.size],_,_,i,zZ,j.kept (t':=f.toks) λb o e=>dC _ e,Nv (eB (dm k)) y u,fq _ zZ,λb E=>?_,r];have e:b=f.heap.objs.size:=by simpa using E
  subst e;exact j.fpOk (cQ _) (j.hok.fresh (cQ _))
 rcases w with c|⟨o,c⟩
 .obtain⟨_,_,_,_,o,_,_,k,_⟩:=(show ObjOk X.prog X.w t f.heap d (.dT g)from p.hok d _ c);exact go _ o (p.freeze c k) cw (q o _ (.inr #[c,zZ]))
 .exact go t o p c (q o _ (.inl #[c,zZ]))
end
section
variable{d:Ad}{o:Obj}{f:List (List dq×V)}{c:LN}{j:Ss}{g:TG}{k:TT}{l:TE}{h:St}{H:Hp}{Fin:List V->Hp->Prop}
def MW(u:f.map (·.1)=c.map nk)(Pv:Nat->List V->Hp->Prop)(N:c.length<=sizeLine)(x:Pv 0 [] H)(z:∀i n H,i<=c.length->Pv i n H->H d=some (.frz o (.dT f))/\n.length<=i)(A:∀i a t n H,c[i]?=some t->H a=some (.tup (t.map nv))->Pv i n H->g (.ref a) (j9 j h) H λr B=>rn (j9 j h) r/\k r B λb w=>if b=true then l r w λy C=>Pv (i+1) (n++[y]) C else Pv (i+1) n w)(D:∀n H,Pv c.length n H->Fin n H):oV j g k l h (t5 d o) H Fin:=by
 refine#[λi m n H=>m=c.length-i/\i<=c.length/\Pv i n H,#[c.length,by simp,Nat.zero_le _,x],?_];rintro i m n H ⟨rfl,E,p⟩;obtain⟨q,O⟩:=z i n H E p;by_cases s:i<c.length
 .refine .inr #[#[f,c,c[i],q,u,by simp[s]],(),Pv (i+1),λQ G I=>#[c.length-(i+1),Nat.sub_succ_lt_self _ _ s,zZ,s,I],λv G y=>?_];obtain⟨e,a,J,y⟩:=y;subst e J;obtain⟨t,L,M⟩:=y f c q u;exact A i a t n _ L M p
 .have e:i=c.length:=by lia
  subst e;exact .inl #[#[f,c,q,u,cQ _],(),D n H p]
end
section
variable{d:Ad}{o:Obj}{c:List (List dq×V)}{ts:LN}{g:TG}{f:TS}{D:Ends}{b:St}{H:Hp}
def IY(n:c.map (·.1)=ts.map nk)(Pv:Nat->St->Hp->Prop)(u:Pv 0 b H)(v:∀i b H,i<=ts.length->Pv i b H->H d=some (.frz o (.dT c)))(w:∀i a t b H,ts[i]?=some t->H a=some (.tup (t.map nv))->Pv i b H->g (.ref a) b H λh r=>f {D with nx:=Pv (i+1),ct:=Pv (i+1),bk:=D.nx} h r) (z:∀b H,Pv ts.length b H->D.nx b H):
  ∃W:Nat->Nat->St->Hp->Prop,(∃m,W 0 m b H)/\∀i m b H,W i m b H->
   ((t5 d o).stop i H/\D.nx b H)\/((t5 d o).go i H/\∃N:St->Hp->Prop,(∀j k,N j k->∃s,s<m/\W (i+1) s j k)/\∀x k,(t5 d o).yld i H x k->g x b k λh r=>f {D with nx:=N,ct:=N,bk:=D.nx} h r):=by
 refine#[λi m b H=>m=ts.length-i/\i<=ts.length/\Pv i b H,#[ts.length,by simp,Nat.zero_le _,u],?_];rintro i m b H ⟨rfl,A,p⟩;have q:=v i b H A p;by_cases l:i<ts.length
 .refine .inr #[#[c,ts,ts[i],q,n,by simp[l]],Pv (i+1),λj k B=>#[ts.length-(i+1),Nat.sub_succ_lt_self _ _ l,zZ,l,B],λx k y=>?_];obtain⟨e,a,C,y⟩:=y;subst e C;obtain⟨t,E,G⟩:=y c ts q n;exact w i a t b _ E G p
 .have e:i=ts.length:=by lia
  subst e;exact .inl #[#[c,ts,q,n,cQ _],z b H p]
end
section
variable{X:Cx}{a:AO}{d:St}{H:Hp}{s:Sh}{h':Heap}{t':Nat}
def Inv.turnedN{ch:As}(I:Inv X a d H s)(k:∀b o,b∉ch->s.heap.get? b=some o->h'.get? b=some o)(h:∀b∈ch,FpOk X a H b):Inv X a d H {s with heap:=h',toks:=t'}:=by
 have i:∀b u,H b=some u->b∉ch:=λb u e f=>by rw[(h b f).1]at e;cases e
 refine I.step (h':=h') (H':=H) (g':=s.gens) (t':=t') (d':=s.drawn) (ch:=ch) (λb f=>?_) (λb o _ _ g e _=>k b o g e) (λb o _ _ g e _=>#[o.slots,k b o g e]) (λb o _ _ n=>n) (λb o g e=>#[o,k b o g e])
  (λb w q=>q) (λb o u q=>q) (λb x q=>#[#v[],by rw[q];simp]) (λm j=>?_) (λb u q=>?_) I.bare
 .obtain⟨_,l,_,p,r,t⟩:=h b f;exact#[p,l,r,t]
 .exact j.at' λo e=>k _ o (λf=>(h _ f).2.1 zZ) e
 .refine(I.hok b u q).stay (λc o v e=>k c o ?_ e) (λ_ z=>z) λ_ _ z=>z
  rcases v with z|z
  .rw[z];exact i b u q
  .exact i c _ z
end
def xW(K:P3)(l:Ad):It:=
  #[λi H=>∃a x,SqL K H l a/\a[i]?=some x,
   λi H v b=>∃T x,v=.ref T/\H T=none/\b=cq H T (.tup [.int (i:Nat),x])/\∀a,SqL K H l a->a[i]?=some x,
   λi H=>∃a,SqL K H l a/\a.length<=i]
def Jl(e it l:Ad)(i:Nat)(h:Heap):Prop:=(∃old,IsEnum h e it (i:Nat) old)/\h.IsListIter it l i
def PF{P:Pg}{w:World}{K:P3}{j:List Expr}{x1:Nat}{A:Pos}{e it l:Ad}(ne:e≠it):Turn P w K (.Tuple j x1 A) (xW K l) [e,it] e (λi h=>Jl e it l i h) where
 mem:=dX ..
 obj:=λi h Z b d=>by
  obtain⟨⟨old,c⟩,o,f,p,B⟩:=Z;simp only[List.mem_cons,List.not_mem_nil,or_false]at d
  rcases d with rfl|rfl
  .exact#[_,c,λv q=>by cases q]
  .exact#[_,f,λv q=>by rw[B]at q;cases q]
 keep:=λi h m Z k=>by
  obtain⟨⟨old,c⟩,o,f,p,B⟩:=Z;exact#[#[old,k e (by simp) _ c],o,k it (by simp) _ f,p,B]
 item:=by
  intro X C hw D T i r s t H E I n Z G;subst C hw D;obtain⟨xs,x,y,U⟩:=G;obtain⟨⟨old,c⟩,f⟩:=Z;obtain⟨J,L,M,_⟩:=I.list y;obtain⟨u,hu,ru⟩:=L.get U;refine wpAny_pyNext_enum_item c f M.isList (x:=u) (by simpa using hu) ne λm ho N hT hs k=>?_;have I1:Inv X r t H {s with heap:=m,toks:=s.toks+1}:=I.turnedN (ch:=[e,it]) (t':=s.toks+1) (λb o g O=>k b o (λz=>g (by simp[z])) (λz=>g (by simp[z])) O) n;have nT:H s.heap.objs.size=none:=I.hok.fresh (cQ _);have ok:ObjOk X.prog X.w (cq H s.heap.objs.size (.tup [.int (i:Nat),x])) m s.heap.objs.size (.tup [.int (i:Nat),x]):=#[by show 2<=sizeLine;decide,[_,u],.cons #[_,zZ] (.cons ru .nil),#[_,hT,zZ,_,zZ,zZ]];have I2:Inv X r t (cq H s.heap.objs.size (.tup [.int (i:Nat),x])) {s with heap:=m,toks:=s.toks+1}:=Inv.trackNew I I1 ok;refine#[_,zZ,wpAny_letOwnedTupleGo_enum ho λp Q Y=>?_];have le:e<s.heap.objs.size:=dm c;have li:it<s.heap.objs.size:=by obtain⟨_,z,_⟩:=f;exact dm z
  have a:∀b∈[e,it],cq H s.heap.objs.size (.tup [.int (i:Nat),x]) b=none:=λb d=>by
   have g:b≠s.heap.objs.size:=by
    simp only[List.mem_cons,List.not_mem_nil,or_false]at d
    rcases d with rfl|rfl
    .exact eB le
    .exact eB li
   rw[cz g];exact(n b d).1
  obtain⟨f0,f1,f2,f3,f4,f5⟩:=n e (dX ..);have I3:Inv X r t (cq H s.heap.objs.size (.tup [.int (i:Nat),x])) {s with heap:=p,toks:=s.toks+1}:=I2.turned (t':=s.toks+1) (λb o g e=>Y.extBut b o g e) (a e (dX ..)) f1 f3 f4 f5;refine#[.ref s.heap.objs.size,_,I3,zZ,#[_,x,zZ,nT,zZ,λaa h=>?_],#[#[_,Q],?_],a]
  .rw[I.list_inj h y];exact U
  .obtain⟨o,z1,z2,z3⟩:=N;exact#[o,Y.extBut _ _ (eJ ne) z1,z2,z3]
 done:=by
  intro X C hw D T i r s t H E I n Z G;subst C hw D;obtain⟨xs,y,he⟩:=G;obtain⟨⟨old,c⟩,f⟩:=Z;obtain⟨J,L,M,_⟩:=I.list y;have l1:=L.length;refine wpAny_pyNext_enum_end (I.ok.hd T) c f M.isList (by simp;lia) λm k=>#[zZ,?_];exact I.turnedN (ch:=[it]) (t':=s.toks) (λb o g O=>k b o (λz=>g (by simp[z])) O) λb d=>n b (by rw[List.mem_singleton.mp d];simp)
 self:=λ_ _ _ _ _ Z q=>by
  obtain⟨⟨old,c⟩,_⟩:=Z;exact wpAny_pyIter_enum c q
section
variable{X:Cx}
def wc(K:P3)(b:TA):TI:=λc H R=>b c H λd a=>∃l e,d=[.ref l]/\SqL K a l e/\R (xW K l) a
def Hd{c:List Expr}{w:Nat}{x:Pos}{a:Expr}{m:TA}{p d:Pos}(y:Gl X "enumerate")(z:X.mg "enumerate"=none)(A:PA X [a] m)(B:starEach [a] X.env=[(false,eval a X.env)]:=by rfl):PI X (.Tuple c w x) (.Call (.Name "enumerate" p) [a] [] d) (wc X.K m):=by
 intro n s o H R I h;refine Call_ (u8 I y z PyProof.Rows.boot_enumerate (Dh (cS (A d n s o H _ I h) λM s1 ⟨N,r,f,C,g⟩=>?_) (by rw[B];rfl) (by rfl)));obtain⟨l,O,e,g,q⟩:=g;subst e;obtain⟨Q,rfl,i⟩:=jv C;cases i;obtain⟨D,T,E,_⟩:=f.list g;have j:=E.isList;refine call_enumerate_list j λG t J sz k=>wpAny_pyIter_enum t ?_;have L:Inv X n o r {s1 with heap:=G}:=f.kept (t':=s1.toks) k;refine#[_,_,_,_,r,zZ,L,PF (l:=l) (mH (mN _)),#[#[_,t],J],λb u=>?_,q];have v:s1.heap.objs.size<=b:=by
  simp only[List.mem_cons,List.not_mem_nil,or_false]at u
  rcases u with e|e<;>(rw[e];first|exact cQ _|exact oO _ _)
 exact f.fpOk v (f.hok.fresh v)
end
section
variable{K:P3}{l:Ad}{xs:List V}{g:TG}{b:TS}{D:Ends}{a:St}{H:Hp}
def IB(Pv:Nat->St->Hp->Prop)(n:Pv 0 a H)(o:∀i a H,i<=xs.length->Pv i a H->SqL K H l xs)(r:∀i T x a H,xs[i]?=some x->H T=none->Pv i a H->g (.ref T) a (cq H T (.tup [.int (i:Nat),x])) λc j=>b {D with nx:=Pv (i+1),ct:=Pv (i+1),bk:=D.nx} c j) (s:∀a H,Pv xs.length a H->D.nx a H):
  ∃W:Nat->Nat->St->Hp->Prop,(∃m,W 0 m a H)/\∀i m a H,W i m a H->
   ((xW K l).stop i H/\D.nx a H)\/((xW K l).go i H/\∃N:St->Hp->Prop,(∀d f,N d f->∃k,k<m/\W (i+1) k d f)/\∀x f,(xW K l).yld i H x f->g x a f λc j=>b {D with nx:=N,ct:=N,bk:=D.nx} c j):=by
 refine#[λi m a H=>m=xs.length-i/\i<=xs.length/\Pv i a H,#[xs.length,by simp,Nat.zero_le _,n],?_];rintro i m a H ⟨rfl,t,p⟩;have q:=o i a H t p;by_cases h:i<xs.length
 .refine .inr #[#[xs,xs[i],q,by simp[h]],Pv (i+1),λd f u=>#[xs.length-(i+1),Nat.sub_succ_lt_self _ _ h,zZ,h,u],λv f y=>?_];obtain⟨T,x,rfl,w,rfl,y⟩:=y;exact r i T x a _ (y xs q) w p
 .have e:i=xs.length:=by lia
  subst e;exact .inl #[#[xs,q,cQ _],s a H p]
end
open PySem PySem.Spec PySem.W PyProof.Rows
section
variable{X:Cx}
inductive iU(e:List V)(H:Hp)(Q:VK):Prop|mk:∀d a b,e=[V.ref d]->H d=some (.dT a)->a.map (·.1)=b.map nk->(∀t∈b,t≠[])->b.length<=4000->(∀D bs c,H D=none->TupsAt H bs c->c.Perm b->c.Pairwise (λx y=>fj x y=true)->Q (.ref D) (cq H D (.lst (bs.map V.ref))))->iU e H Q
def JS(hc:X.calm=true):CallR X (.builtin "sorted") iU:=by
 intro G s J H xs us Q I rr h;obtain⟨d,ae,g,rfl,hd,e,ne,few,q⟩:=h;obtain⟨u,rfl,ru⟩:=jv rr;cases ru;obtain⟨n,es,ep,L,nm,f,is,le,nd,M⟩:=Fm I hd e;refine yr zU z6 Bg (args_sorted1 _) ?_;unfold Builtin.«sorted»;refine cr (m:=checkCount "sorted" 1 1 _) (cF ?_);refine cr (kdu_collect (A:=X.A.in1) (vY nm) (by simpa using I.ok.hd hc) L (by rw[sizeLine_eq];lia) λl y af keep it=>?_);have N:=Hi is (by rw[f.len,le]) it;rw[N];have D:(n.map Value.ref).length=g.length:=by rw[cu,f.len]
 refine cr (vk ?_ (by rw[D,dA];lia));have T:=O4 g;have inj:=HE (d:=([]:cn)) T nd;have O:=IZ f nd;have eD:(l.push (seqObj "list" (n.map Value.ref).toArray 0)).get? l.objs.size=some (seqObj "list" (n.map Value.ref).toArray 0):=fq _ rfl;have B:∀{b:Ad} {o:Obj},s.heap.get? b=some o->b≠l.objs.size:=λz=>eB (dm (keep _ _ z));refine cr (iS (jx AS #[_,eD,zZ] AW (K9 (s:={s with heap:=l.push (seqObj "list" (n.map Value.ref).toArray 0),toks:=y}) (k:=λi=>j7 fj g (g.getD i [])) eD (by rw[D];exact few) O (λi j hi hj z=>inj i j () () z) (λE U h2=>?_) λp E c r up e U=>#[_,zZ,?_]) (args_list_sort _)))
 .have Y:Inv X G J H {s with heap:=E,toks:=y}:=I.kept λb o z=>U b o (B z) (dC _ (keep b o z));have z:=NU (P:=X.prog) (w:=X.w) (A:=X.A.in1.in1) (s:={s with heap:=E,toks:=y}) D () (λi v t e1 e2=>by
   rw[cV]at e1;obtain⟨a,N,rfl⟩:=eW.mp e1;exact#[xN Y.hok (f.is i a t N e2),ne t (c8 e2)])
  refine fL z (λκ s' hk=>#[hk.1,λi j C li lj hC=>hk.2 i j C li lj ?_]) λ_ _ x=>x;have e:=T.asks (on (d:=([]:cn)) (show i<g.length by lia)).2 (on (d:=([]:cn)) (show j<g.length by lia)).2;show C (fj (g.getD i []) (g.getD j [])) _;rw[<-e];exact hC
 .rw[D]at r up;have Y:Inv X G J H {s with heap:=E,toks:=y}:=I.kept λb o z=>U b o (B z) (dC _ (keep b o z));have I0:Inv X G J H {s with heap:=l,toks:=y}:=I.kept keep;have hD:H l.objs.size=none:=I0.hok.fresh (cQ _);have aa:=f.pick r;obtain⟨f0,f1,f2,f3,f4,f5⟩:=I0.fpOk (b:=l.objs.size) (H':=H) (cQ _) hD;have ab:Arr n.length p:=by rw[f.len];exact r
  rw[FG ab]at e;have fw:((p.toList.map λi=>n.getD i 0).map V.ref).length<=sizeLine:=by
   rw[cu,cu,d9,r.size];exact M
  exact cF #[_,zZ,.ref l.objs.size,_,Y.track (o:= .lst ((p.toList.map λi=>n.getD i 0).map V.ref)) hD #[fw,_,c,Cg _,e] I0.sz f1 f4 f5,zZ,q _ _ _ hD aa (Fp r) (FD T r up)]
end
section
variable{P:Pg}{w:World}{A:Ar}{E:VP}{s:Sh}
def fM{Q:Bool->Sh->Prop}(q:Q true s):wpAny (model P w) A (eqIsQuiet 8 .none) Q E s:=cF q
end
section
variable{P:Pg}{w:World}{A:Ar}{E:VP}{s:Sh}{a:Vs}
def Jj{l:Ad}{p:Zs}{Q:VP}(t:s.heap.IsList l a.toArray)(h:IntsAre a p)(i:a.length<64)(q:∀(d j:Heap) c f n,IntsAre c f->f.Perm p->f.Pairwise (· <= ·)->(∀b o,s.heap.get? b=some o->d.get? b=some o)->(∀b o,d.get? b=some o->j.get? b=some o)->j.get? d.objs.size=some {cls:= .type "list",data:= .seq c.toArray n}->Q (.ref d.objs.size) {s with heap:=j}):
  wpAny (model P w) A (call (.builtin "sorted") [.ref l]) Q E s:=by
 refine yr zU z6 Bg (args_sorted1 _) ?_;unfold Builtin.«sorted»;refine cr (m:=checkCount "sorted" 1 1 _) (cF ?_);refine cr (collect_list t ?_ (by rw[dA];lia));refine cr (vk ?_ (by rw[dA];lia));generalize g:(s.heap.push (seqObj "list" #v[] 0)).update s.heap.objs.size (Obj.mapSeq (· ++a.toArray))=d;have sz:d.objs.size=s.heap.objs.size+1:=by rw[<-g,Heap.size_update,size_push']
 have u:∀b o,s.heap.get? b=some o->d.get? b=some o:=λb o e=>by
  rw[<-g,je _ _ (mH (dm e))];exact dC _ e
 have k:(d.push (seqObj "list" a.toArray 0)).get? d.objs.size=some (seqObj "list" a.toArray 0):=fq _ rfl;refine cr (iS (jx AS #[_,k,zZ] AW (list_sort_tree k h i λc f v x y=>#[_,zZ,?_]) (args_list_sort _)));obtain⟨n,z⟩:=sortedHeap_at (out:=c) k;refine cF #[_,zZ,q d _ c.toList f n v x y u (λb o r=>?_) (by simpa using z)];have lt:=dm r;rw[sortedHeap_old (eB lt) (fJ lt (by rw[vK];exact pO _))];exact dC _ r
end
section
variable{X:Cx}
inductive l7(K:P3)(c:List V)(H:Hp)(Q:VK):Prop|mk:∀(p:Ad) (a:Zs),c=[.ref p]->SqL K H p (a.map V.int)->a.length<64->(∀(D:Ad) (b:Zs),H D=none->b.Perm a->b.Pairwise (· <= ·)->Q (.ref D) (cq H D (.lst (b.map V.int))))->l7 K c H Q
def O3(C:X.calm=true):CallR X (.builtin "sorted") (l7 X.K):=by
 intro f s g H D E Q I r h;obtain⟨p,G,rfl,l,m,q⟩:=h;obtain⟨u,rfl,o⟩:=jv r;cases o;obtain⟨t,v,w,_⟩:=I.list l;have i:=JB v;have J:=i.length;refine Jj w.isList i () λa j b c n x k y z A e=>?_;have d:Inv X f g H {s with heap:=a}:=I.kept (t':=s.toks) z;have B:Inv X f g H {s with heap:=j}:=d.kept (t':=s.toks) A;have L:=k.length_eq;have ok:ObjOk X.prog X.w (cq H a.objs.size (.lst (c.map V.int))) j a.objs.size (.lst (c.map V.int)):=#[by rw[cu,dA];lia,b,n,Di x,e];exact#[.ref a.objs.size,_,Inv.trackNew d B ok,zZ,q _ c d.fresh k y]
end
end L2
namespace L2
open PySem PySem.Spec PyProof.Rows
def NoAs(K:P3)(C:Ad):Ss->Prop
 | []=>True
 |f::fs=>PySem.W.findIn K (.ref C) f=some none/\NoAs K C fs
structure OwnC(K:P3)(C:Ad)(fs:Ss):Prop where
 cl:Cls K C
 na:NoAs K C fs
theorem NoAs.get{K:P3}{C:Ad}{f:Str}:∀{fs:Ss},NoAs K C fs->f∈fs->NoAttr K C f
 | [],_,h=>nomatch h
 | g::fs,n,h=>by
  rcases dL.mp h with e|e
  .subst e;exact n.1
  .exact NoAs.get n.2 e
def OwnC.no{K:P3}{C:Ad}{fs:Ss}(o:OwnC K C fs){f:Str}(h:fs.contains f=true:=by rfl):NoAttr K C f:=o.na.get (hV.mp h)
def NoAs.nil{K:P3}{C:Ad}:NoAs K C []:=True.intro
def NoAs.cons{K:P3}{C:Ad}{f:Str}{fs:Ss}(h:PySem.W.findIn K (.ref C) f=some none)(n:NoAs K C fs):NoAs K C (f::fs):=#[h,n]
abbrev C0(K:P3)(C:Ad)(m q:Str)(st:Stmt)(f:Ad)(a:Fd):Prop:=PySem.W.findIn K (.ref C) m=some (some (.ref f))/\PySem.W.isFn K (.ref f)=true/\Fun K m q st f a
def zI(P:Pg)(w:World)(K:P3)(mg:SV)(a:Heap)(C:Ad)(m:Str)(k:Nat)(b:Ss)(d:Sp):Prop:=
 ∃f c,FnOk P w K mg a da k f c b d/\Meth K C m f/\Binds K c b []
def z7(P:Pg)(w:World)(K:P3)(mg:SV)(a:Heap)(x:Str)(C:Ad)(k:Nat)(b:Ss)(d:Sp):Prop:=
 ∃f c,FnOk P w K mg a da k f c b d/\Mk K C f/\mg x=some (.ref C)/\Binds K c b []
def FK{X:Cx}{o:Expr}{e:TE}{C:Ad}{m:Str}{k:Nat}{i:Ss}{g:Sp}{a d:Pos}{j:Sem Bool}(l:PE X o e)(c:Cls X.K C)(n:zI X.prog X.w X.K X.mg X.base C m k i g)(p:Room k X.A)(ht:eval (.Call (.Attribute o m a) [] [] d) X.env=(do
   let h <-eval o X.env
   standAt a.atName
   let(f,first) <-holding [h] (getMethod h m j)
   callWith d f first (backTo d (starEach [] X.env)) (backToKw d (keywordEach [] X.env))):=by rfl):
  PE X (.Call (.Attribute o m a) [] [] d) (Hl C m g [] E0 e jh):=by
 obtain⟨f,q,F,M,b⟩:=n;exact NX l c M F p b .nil zE ht
def E5{X:Cx}{x:Str}{e:Expr}{a:List Expr}{t:TA}{C:Ad}{k:Nat}{h:Ss}{g:Sp}{p d:Pos}(c:z7 X.prog X.w X.K X.mg X.base x C k h g)(i:Room (k+1) X.A)(j:Gl X x)(l:PA X (e::a) t)(n:(x==("__debug__":Str))=false:=by decide) (o:starEach (e::a) X.env=(false,eval e X.env)::starEach a X.env:=by rfl) (q:(backTo d (starEach a X.env)).any (·.1)=false:=by rfl):
  PE X (.Call (.Name x p) (e::a) [] d) (Ix C g [] E0 t):=by
 obtain⟨f,r,F,M,m,b⟩:=c;exact N1 M F i j m b .nil zE l n o q
section
variable{b:Pg}{w:World}{A:Ar}{E:VP}{s:Sh}
def Oa{n:Nat}(h:1<=n):Builtin.Slice.slicePlaces ((n:Int)-1) (-1) (-1)=n:=by
 unfold Builtin.Slice.slicePlaces;rw[wA (by decide),wB (show(n:Int)-1> -1 by lia)];show(((n:Int)-1- -1-1) /1+1).toNat=n;rw[Int.ediv_one];lia
theorem HP{b c:Type}{f g:b->Option c}:∀{l:List b},(∀k∈l,f k=g k)->l.filterMap f=l.filterMap g
 | [],_=>rfl
 |a::l,h=>by
  rw[xM,xM,h a (dX ..),HP λk d=>h k (eO _ d)]
def Pe(a:AV)(n:Nat)(h:n=a.size):((List.range n).filterMap λ(k:Nat)=>a[(((n:Int)-1)+(k:Int) * -1).toNat]?).toArray=a.toList.reverse.toArray:=by
 have e:((List.range n).filterMap λ(k:Nat)=>a[(((n:Int)-1)+(k:Int) * -1).toNat]?)=(List.range n).filterMap λk=>a.toList.reverse[k]? :=by
  refine HP λk c=>?_;have lk:=f8.mp c;rw[AF (by rw[d9];lia),lF,d9]
  congr 1
  lia
 rw[e];have l:n=a.toList.reverse.length:=by rw[nI,d9];exact h
 rw[l]
 congr 1
 generalize a.toList.reverse=b;clear e l h
 induction b with
 |nil=>rfl
 |cons y b d=>
  rw[jz,List.range_succ_eq_map,xM];show y::(((List.range b.length).map Nat.succ).filterMap λk=>(y::b)[k]?)=_;rw[List.filterMap_map];exact dw (y:: ·) d
def Pa{sl:Ad}{t:Tok}{n:Nat}{Q:Int×Int×Nat->Sh->Prop}(d:s.heap.IsSliceOf sl .none .none (.int (-1) t))(e:1<=n)(h:Q ((n:Int)-1, -1,n) s):wpAny (model b w) A (Builtin.Slice.sliceApplied (.ref sl) (pure (n:Int))) Q E s:=by
 obtain⟨os,a,_,c⟩:=id d;unfold Builtin.Slice.sliceApplied Builtin.Slice.sliceFields;refine cr (cr (mq a c (x:= .none) zZ (cr (mq a c (x:= .none) zZ (cr (mq a c (x:= .int (-1) t) zZ (cF ?_)))))));refine cr (slicePart_int ?_);show wpAny _ _ (if((-1:Int)==0)=true then _ else _) _ _ s;rw[wA (by decide)];refine cr (slicePart_none (cr (slicePart_none (cr (cF ?_)))));show wpAny _ _ (pure ((n:Int)-1,(-1:Int),Builtin.Slice.slicePlaces ((n:Int)-1) (-1) (-1))) _ _ s;rw[Oa e];exact cF h
def Kh{t sl:Ad}{k:Tok}{a:AV}{Q:VP}(ht:IsTup s.heap t a)(f:s.heap.IsSliceOf sl .none .none (.int (-1) k))(g:1<=a.size)(i:a.size<=sizeLine)(h:Q (.ref s.heap.objs.size) {s with heap:=s.heap.push {cls:= .type "tuple",data:= .seq a.toList.reverse.toArray}}):wpAny (model b w) A (getItem (.ref t) (.ref sl)) Q E s:=by
 have c:sizeOk (.seq a.toList.reverse.toArray):=by
  show a.toList.reverse.toArray.size<=sizeLine;rw[e9,nI,d9];exact i
 obtain⟨os,d,e,_⟩:=id f;have hT:s.TypeIs (.ref sl) "slice":=#[os,d,e];unfold getItem
 try with_reducible refine iS ?_
 first|refine cr (cF ?_)|skip
 refine cr (wpAny_sequenceKey ht.typeIs (by decide) ?_);refine cr (pY (name:=Str.ofString "__getitem__") ht.typeIs Av (jx Av ht.typeIs entry_tuple_getitem ?_ (args_tuple_getitem _ _)));show wpAny _ _ (Builtin.Tuple.tupleItemsOf (.ref t) >>= _) _ _ s;refine cr (tupleItemsOf_ ht (cr (yW hT ?_)));rw[wB (by decide)];refine cr (Pa f g ?_);have no: ¬(((a.size:Int)-1==0&&(-1:Int)==1&&a.size==a.size)=true):=λq=>by
  rw[jt,jt]at q;exact wC (eq_of_beq q.1.2) (by decide)
 show wpAny _ _ (if((a.size:Int)-1==0&&(-1:Int)==1&&a.size==a.size)=true then _ else _) _ _ s;rw[wA no,Pe a _ zZ]
 first
  |exact cr (m:=Builtin.Tuple.tupleExact _) (lM (cF #[_,zZ,cF h]) c)
  |exact cr (m:=Builtin.Tuple.tupleExact _) (lM (cr (cF (cF #[_,zZ,cF h]))) c)
  |exact cr (cr (m:=Builtin.Tuple.tupleExact _) (lM (cF (cF #[_,zZ,cF h])) c))
  |exact cr (cr (m:=Builtin.Tuple.tupleExact _) (lM (cF #[_,zZ,cF h]) c))
end
section
variable{X:Cx}
def EI(K:P3)(e f:TE):TE:=λd H Q=>e d H λx g=>f d g λk b=>∃a c,x=.ref a/\k=.int (-1)/\SqT K b a c/\1<=c.length/\∀p,b p=none->Q (.ref p) (cq b p (.tup c.reverse))
theorem Gu:∀{a:List V} {b:Vs},Vals a b->Vals a.reverse b.reverse
 | [],_,h=>by cases h;exact .nil
 | x::a,_,h=>by
  cases h with
  |cons r t=>
   rw[List.reverse_cons,List.reverse_cons];exact(Gu t).append (.cons r .nil)
def Ml{e st:Expr}{m n:TE}{g p:Pos}(w:PE X e m)(y:PE X st n):PE X (.Subscript e (.Slice none none (some st) p) g) (EI X.K m n):=by
 intro d s f H Q I h;refine Subscript_ (cS (w d s f H _ I h) λv z ⟨x,A,B,C,D⟩=>?_);refine wpAny_Slice ?_;rw[evalPart_none];refine cF (cF ?_);rw[evalPart_some];refine cS (y d z f A _ B D) λU s3 ⟨k,E,G,J,L⟩=>?_;obtain⟨a,t,rfl,rfl,M,N,q⟩:=L;cases C;obtain⟨i,rfl⟩:=J;have j:Inv X d f E {s3 with heap:=s3.heap.push {cls:= .type "slice",data:= .fields #v[.none,.none,.int (-1) i]}}:=G.kept (t':=s3.toks) λb O q=>dC _ q;obtain⟨l,r,ht,u⟩:=j.tuple M;have c:l.toArray.size=t.length:=by rw[e9];exact r.length.symm
 show wpAny (model X.prog X.w) X.A (subscriptTail e (.Slice none none (some st) p) (.ref a) (.ref s3.heap.objs.size)) (EP X d f Q) X.xe {s3 with heap:=s3.heap.push {cls:= .type "slice",data:= .fields #v[.none,.none,.int (-1) i]}};refine tail_any (ops:=[.ref a,.ref s3.heap.objs.size]) (T:="tuple") ht.typeIs Av.lookup ?_ (by with_unfolding_all rfl);refine Kh (k:=i) ht #[_,fq _ zZ,zZ,zZ] (by rw[c];exact N) (by rw[c];exact u) ?_;refine#[.ref _,_,j.laid (t':=s3.toks) (o:= .tup t.reverse) (λb O q=>dC _ q) (cQ _) ?_,zZ,q _ (j.hok.fresh (cQ _))];exact#[by rw[nI];exact u,_,Gu r,TupD.new _ _]
end
end L2
namespace My
open PySem L2 PyProof.Rows
abbrev sA:Str:="machine"
abbrev sB:Str:="word_back.<locals>.<lambda>"
abbrev sC:Str:="rooms"
abbrev sD:Str:="level"
abbrev sF:Str:="_law_machine_here"
abbrev sG:Str:="sets_reached.<locals>.<lambda>"
abbrev sH:Str:="level_group.<locals>.<lambda>"
abbrev sJ:Str:="_law_script"
abbrev sK:Str:="most"
abbrev sL:Str:="group"
abbrev sM:Str:="tiles"
abbrev sN:Str:="letter"
abbrev sO:Str:="_law_turn_here"
abbrev sP:Str:="words"
abbrev sQ:Str:="other"
abbrev sS:Str:="sets_reached"
abbrev sT:Str:="_law_turning_here"
abbrev sU:Str:="level_group"
abbrev sV:Str:="turns"
abbrev sW:Str:="self"
abbrev sX:Str:="turn"
abbrev sY:Str:="all_turns"
abbrev sZ:Str:="all_rests"
abbrev tE:Str:="reached"
abbrev tG:Str:="own_turns"
abbrev tH:Str:="word"
abbrev tI:Str:="sets"
abbrev tJ:Str:="word_back"
abbrev tK:Str:="refuse_more"
abbrev tL:Str:="waiting"
abbrev tM:Str:="_law_other"
abbrev tN:Str:="_law_quiet"
abbrev tO:Str:="behind"
abbrev tQ:Str:="tile_count"
abbrev tR:Str:="one"
abbrev tS:Str:="__init__"
abbrev tT:Str:="_law_told"
abbrev tV:Str:="_law_some"
abbrev tW:Str:="all_turns.<locals>.<lambda>"
abbrev tX:Str:="_law_rooms"
abbrev tY:Str:="tiles_turned"
abbrev tZ:Str:="_law_k"
abbrev uG:Str:="carried"
abbrev uH:Str:="all_tiles_turned"
abbrev uI:Str:="_law_one"
abbrev uJ:Str:="still"
abbrev uK:Str:="tiles_of_set"
abbrev uL:Str:="levels_in_order"
abbrev uM:Str:="_law_behind"
abbrev uN:Str:="sets_of_levels"
abbrev uO:Str:="letters"
abbrev uP:Str:="room"
abbrev uQ:Str:="words_between"
abbrev uR:Str:="start"
abbrev uS:Str:="makers"
abbrev uT:Str:="_law_cell_at"
abbrev uV:Str:="_law_machine"
abbrev uW:Str:="levels"
abbrev uX:Str:="first_turned"
abbrev uY:Str:="_law_refused"
abbrev uZ:Str:="_law_turning"
abbrev vA:Str:="_law_cell"
abbrev vB:Str:="TooMany.__init__"
abbrev vC:Str:="steps"
abbrev vD:Str:="is_covered"
abbrev vE:Str:="alike_sets"
abbrev vF:Str:="_law_rests"
def top(i:Nat):Stmt:=PySem.Challenge.pw_cascade_k92_whole_no_turn_no_turning_par.main.body.getD i (.Pass #[0,0,0,0])
abbrev sm:Stmt:=top 5
abbrev vg:Stmt:=top 7
abbrev oY:Stmt:=top 8
abbrev Dv:Stmt:=top 10
abbrev Ed:Stmt:=top 11
abbrev AC:Stmt:=top 12
abbrev zP:Stmt:=top 13
abbrev oj:Stmt:=top 14
abbrev ED:Stmt:=top 16
abbrev zC:Stmt:=top 17
abbrev DX:Stmt:=top 18
abbrev Cj:Stmt:=top 20
abbrev vf:Stmt:=top 21
abbrev AR:Stmt:=top 22
abbrev xw:Stmt:=top 23
abbrev CM:Stmt:=top 25
abbrev yF:Stmt:=top 26
abbrev BP:Stmt:=top 27
abbrev zQ:Stmt:=top 28
abbrev wX:Stmt:=top 29
abbrev yH:Stmt:=top 30
abbrev AH:Stmt:=top 31
abbrev DV:Stmt:=top 32
abbrev yw:Stmt:=top 33
abbrev Bh:Stmt:=top 35
abbrev Dp:Stmt:=top 36
abbrev oA:Stmt:=top 37
abbrev C4:Stmt:=top 38
abbrev nG:Stmt:=top 43
abbrev nQ:Stmt:=top 45
abbrev Ez:Stmt:=top 46
abbrev nj:Stmt:=top 47
abbrev yX:Stmt:=top 48
abbrev nO:Stmt:=top 55
abbrev DK:Stmt:=top 57
abbrev AN:Stmt:=top 58
abbrev Aw:Stmt:=top 59
abbrev zH:Stmt:=top 60
abbrev El:Stmt:=top 61
abbrev EA:Stmt:=top 62
abbrev BS:Stmt:=top 63
abbrev zw:Stmt:=top 64
abbrev mz:Stmt:=top 65
def v8:Stmt->List Stmt
 | .ClassDef _ _ _ b _ _ _ _ _ _ _=>b
 |_=>[]
abbrev um:Stmt:=(v8 (top 3)).getD 0 (.Pass #[0,0,0,0])
abbrev yP:Stmt:=(v8 (top 40)).getD 0 (.Pass #[0,0,0,0])
abbrev Dz:Stmt:=(v8 (top 40)).getD 1 (.Pass #[0,0,0,0])
abbrev y9:Stmt:=(v8 (top 41)).getD 0 (.Pass #[0,0,0,0])
abbrev DZ:Stmt:=(v8 (top 41)).getD 1 (.Pass #[0,0,0,0])
def uA:FnScope [sA,uP,tH,sN] [sA,uP,tH] (cN sm):={}
def Oz:FnScope ["things",sK] ["things",sK] (cN vg):={}
def jG:FnScope [uR,uO,"step",sK,sP,"wave","following","thing",sN,"found"] [uR,uO,"step",sK] (cN oY):={}
def Nh:FnScope [sC] [sC] (cN Dv):={}
def rA:FnScope [tI,"once",sC] [tI] (cN Ed):={}
def Lf:FnScope [tR,sQ] [tR,sQ] (cN AC):={}
def Lm:FnScope [sA,sC,tH] [sA,sC,tH] (cN zP):={}
def Kw:FnScope [sA,sC] [sA,sC] (cN oj):={}
def NE:FnScope [sC] [sC] (cN ED):={}
def LJ:FnScope [tR,sQ] [tR,sQ] (cN zC):={}
def qK:FnScope [sX,"numbers","power","begin"] [sX] (cN DX):={}
def rE:FnScope [sA,sP] [sA] (cN Cj):={}
def rV:FnScope [sA,"singles"] [sA] (cN vf):={}
def O':FnScope ["part",tI] ["part",tI] (cN AR):={}
def rZ:FnScope [sA,sC,"within"] [sA,sC] (cN xw):={}
def kO:FnScope [sA,sP,sC] [sA] (cN CM):={}
def NV:FnScope [sP,sC] [sP,sC] (cN yF):={}
def kA:FnScope [sP,"found",sC,tI] [sP] (cN BP):={}
def Nu:FnScope [sP,tI,tL] [sP,tI,tL] (cN zQ):={}
def jV:FnScope [sP,tL,"told","free"] [sP,tL] (cN wX):={}
def kW:FnScope [sA,sP,"told",tI,"face","ways"] [sA] (cN yH):={}
def L6:FnScope [sA,sD,"k"] [sA,sD,"k"] (cN AH):={}
def Ln:FnScope [sA,sD,"k","j"] [sA,sD,"k","j"] (cN DV):={}
def MH:FnScope [sA,sD,"k"] [sA,sD,"k"] (cN yw):={}
def kU:FnScope [sA,sD,"k",sN,"there","ends"] [sA,sD,"k",sN] (cN Bh):={}
def jK:FnScope [sA,sD,"found","k",sN,sX] [sA,sD] (cN Dp):={}
def qY:FnScope [sA,sD,uS] [sA,sD] (cN oA):={}
def Jn:FnScope [sA,sD] [sA,sD] (cN C4):={}
def qT:FnScope [sA,sK,uR,sP] [sA,sK] (cN nG):={}
def KN:FnScope [sA,sK] [sA,sK] (cN nQ):={}
def jU:FnScope [sA,sD,"still_turn","k",sN,sX] [sA,sD] (cN Ez):={}
def rF:FnScope [sA,sD,"m",sP] [sA,sD,"m"] (cN nj):={}
def qZ:FnScope [sA,"turning",sD,"found","m"] [sA] (cN yX):={}
def rG:FnScope [sA,sD,sK,sV,"keepers","e"] [sA,sD,sK] (cN nO):={}
def KA:FnScope [sJ,tZ] [sJ,tZ] (cN DK):={}
def jX:FnScope [vA,tX,"_law_number",sO,tZ,tM] [vA,tX] (cN AN):={}
def qA:FnScope [sJ,tX,"_law_many"] [sJ] (cN Aw):={}
def J8:FnScope [uI,tM] [uI,tM] (cN zH):={}
def kB:FnScope [sF,"_law_most","_law_found","_law_known","_law_at",sO,"_law_word","_law_letter","_law_there"] [sF,"_law_most"] (cN El):={}
def qB:FnScope [sO,"_law_power",tZ] [sO] (cN EA):={}
def kE:FnScope [sF,"_law_heard","_law_level",tZ,"e"] [sF] (cN BS):={}
def Nw:FnScope [sF] [sF] (cN zw):={}
def rK:FnScope [sJ,sF,sT,tN,tT,tV] [sJ] (cN mz):={}
def KH:FnScope [sW,sK] [sW,sK] (cN um):={}
def kH:FnScope [sW,sA,sD,"k",sC] [sW,sA,sD] (cN yP):={}
def Jf:FnScope [sW] [sW] (cN Dz):={}
def N3:FnScope [sW,sA] [sW,sA] (cN y9):={}
def qC:FnScope [sW,"found","number","step"] [sW] (cN DZ):={}
inductive iV(K:P3)(c:List V)(H:Hp)(Q:VK)(b:XK):Prop|mk:∀(a:Ad) (d:Zs) (k:Int),c=[.ref a,.int k]->0<=k->SqL K H a (d.map V.int)->Q (.int (d.getD k.toNat 0)) H->iV K c H Q b
variable{P:Pg}{w:World}{K:P3}{mg:SV}{base:Heap}{f:Ad}{fd:Fd}
def Kx(F:Fun K uT uT DK f fd)(j:mg "len"=none):FnOk P w K mg base da 1 f fd [sJ,tZ] (iV K):=by
 refine F.ok KA (λl A d s H n Q E o h=>?_)
 obtain⟨a,b,k,rfl,p,i,q⟩:=h;refine#[_,(cR (iq (gn DO (pv 1) (eK fS zZ j fG (cL (pv 0) cH)) (eY _)) (cX (dR (dB gW (pv 0) (pv 1) (λ_ _=>rfl)))) iA) (cX (dR df))),?_];refine#[_,zZ,_,zZ,a,_,zZ,.inl i,_,_,zZ,zZ,_,zZ,?_];have e:k=((k.toNat:Nat):Int):=by lia
 refine jk (λc=>?_) (λc=>?_)
 .have g:k<((b.map V.int).length:Nat):=gK c;rw[cu]at g;have m:k.toNat<b.length:=by lia
  refine#[_,zZ,_,zZ,a,_,_,.int (b.getD k.toNat 0),zZ,zZ,i,?_,q];rw[e];exact N2 m
 .have g: ¬k<((b.map V.int).length:Nat):=λz=>c (dW z);rw[cu]at g;have:b.getD k.toNat 0=0:=by
   rw[eE,hJ ()];rfl
  rw[this]at q;exact q
structure Mach(H:Hp)(m:Ad)(ts:LN)(n:Nat):Prop where
 refs:∃rs:As,H m=some (.tup (rs.map V.ref))/\rs.length=ts.length/\∀(i:Nat) r t,rs[i]?=some r->ts[i]?=some t->H r=some (.tup (t.map nv))
 some1:1<=ts.length
 few:ts.length<=4
 n1:1<=n
 n5:n<=5
 each:∀t∈ts,t.length=n/\∀x∈t,x<n
def Mach.same{H a:Hp}{m:Ad}{b:LN}{n:Nat}(M:Mach H m b n)(g:Same H a):Mach a m b n:=
 #[let⟨c,d,e,f⟩:=M.refs;#[c,g _ _ d,e,λi r t h j=>g _ _ (f i r t h j)],M.some1,M.few,M.n1,M.n5,M.each]
def Mach.at{H:Hp}{m:Ad}{ts:LN}{n:Nat}(M:Mach H m ts n){l:Nat}(b:l<ts.length):
  ∃(a:As) (r:Ad),H m=some (.tup (a.map V.ref))/\a.length=ts.length/\j8 (a.map V.ref) (l:Int)=some (.ref r)/\H r=some (.tup ((ts.getD l []).map nv))/\(ts.getD l []).length=n/\∀x∈ts.getD l [],x<n:=by
 obtain⟨a,d,f,g⟩:=M.refs;have c:l<a.length:=by lia
 have e:ts.getD l []=ts[l]:=by rw[eE,cA b];rfl
 rw[e];obtain⟨h,i⟩:=M.each ts[l] (iD b);exact#[a,a[l],d,f,jq (by rw[cV,cA c];rfl),g l _ _ (by simp[c]) (by simp[b]),h,i]
def db(ts:LN)(r:Nat)(word:cn):Nat:=word.foldl (λr l=>(ts.getD l []).getD r 0) r
def Fg(a:LN)(r:Nat)(word:cn)(l:Nat):db a r (word++[l])=(a.getD l []).getD (db a r word) 0:=by
 unfold db;rw[nB];rfl
theorem lJ{H:Hp}{m:Ad}{a:LN}{n:Nat}(M:Mach H m a n):∀(word:cn) (r:Nat),r<n->(∀l∈word,l<a.length)->db a r word<n
 | [],_,b,_=>b
 |l::word,r,b,h=>by
  obtain⟨_,_,_,_,_,_,e,c⟩:=M.at (h l (dX ..));exact lJ M word _ (eF c ()) λx d=>h x (eO _ d)
def va(a:LN)(n:Nat)(word:cn):cn:=(List.range n).map λr=>db a r word
def MX(a:LN)(n:Nat)(word:cn):(va a n word).length=n:=by simp[va]
def vZ(c:Int)(n:Nat)(st:Int×cn)(k:Nat):Int×cn:=
 if c%5=0 then(st.1/ (n:Int),st.2.set k (st.1%(n:Int)).toNat)else if c%5<3 then(st.1/ ((k:Int)+1),(st.2.set k (st.2.getD (st.1%((k:Int)+1)).toNat 0)).set (st.1%((k:Int)+1)).toNat (st.2.getD k 0))else st
def nr(c:Int)(n i:Nat):Int×cn:=(List.range i).foldl (vZ c n) (c/5,List.range n)
def zm(c:Int)(n:Nat)(st:Int×cn):cn:=if c%5=3 then st.2.set (st.1%(n:Int)).toNat (st.1/ (n:Int)%(n:Int)).toNat else st.2
def nH(c:Int)(n:Nat):cn:=if c%5=4 then(List.range n).map λ(i:Nat)=>(((nr c n n).1%(n:Int)+(0+(i:Int)) * ((nr c n n).1/ (n:Int)%2))%(n:Int)).toNat else zm c n (nr c n n)
def Eb(c:Int)(n i:Nat):nr c n (i+1)=vZ c n (nr c n i) i:=by
 unfold nr;rw[A5,nB];rfl
inductive ki(d:List V)(H:Hp)(Q:VK)(a:XK):Prop|mk:∀(c:Int) (n:Nat),d=[.int c,nv n]->1<=n->n<=5->(∀r b,Same H b->b r=some (.tup ((nH c n).map nv))->(nH c n).length=n->(∀y∈nH c n,y<n)->Q (.ref r) b)->ki d H Q a
def Ak(a:Zs):LN:=(List.range (1+a.getD 1 0%4).toNat).map λi=>nH (a.getD (2+i) 0) (1+a.getD 0 0%5).toNat
inductive gh(K:P3)(e:List V)(H:Hp)(Q:VK)(b:XK):Prop|mk:∀(a:Ad) (c:Zs),e=[.ref a]->SqL K H a (c.map V.int)->(∀m d,Same H d->Mach d m (Ak c) (1+c.getD 0 0%5).toNat->Q (.ref m) d)->gh K e H Q b
def Ac(H:Hp)(c:Int)(n:Nat)(st:Int×cn)(d:L2.St)(b:Hp):Prop:=Same H b/\∃(l:Ad) (a:cn) (num:Int) (e f:Option V),d=[some (.int c),some (nv n),some (.int num),some (.ref l),e,f]/\
 b l=some (.lst (a.map nv))/\H l=none/\a.length=n/\(∀y∈a,y<n)/\(num,a)=st
def JF(F:Fun K "_law_turn" "_law_turn" AN f fd)(jB:mg "range"=none)(jD:mg "tuple"=none)(qD:mg "list"=none):FnOk P w K mg base da 1 f fd [vA,tX] ki:=by
 refine F.ok jX (λam A aa s H vs Q E hr h=>?_)
 obtain⟨c,n,rfl,C,h5,q⟩:=h;refine#[_,(cR (dE (i:=2) jX.nd zZ Z0 (fE wD (pv 0) df)) (cR (dE (i:=3) jX.nd zZ Z' (jy (Pz zZ) zZ qD boot_list (cL (jy Co zZ jB boot_range (cL (pv 1) cH)) cH))) (cR (iG i4 zZ (lA zZ jB (cL (pv 1) cH)) (gB (i:=4) jX.nd zZ Z') (cX (iq (gn vt (fE me (pv 0) df) df (eY _)) (cR (AE (fE me (pv 2) (pv 1)) (AJ (pv 3) (pv 4) zD)) (cX (dE (i:=2) jX.nd zZ Z0 (fE wD (pv 2) (pv 1))))) (cX (iq (gn DO (fE me (pv 0) df) df (eY _)) (cR (dE (i:=5) jX.nd zZ Z' (fE me (pv 2) (fE ss (pv 4) df))) (cR (dE (i:=2) jX.nd zZ Z0 (fE wD (pv 2) (fE ss (pv 4) df))) (cX (AE (nS (dr (cD (dB gW (pv 3) (pv 5) (λ_ _=>rfl)) (cD (dB gW (pv 3) (pv 4) (λ_ _=>rfl)) dt zZ) zZ))) (wH zZ (nX (AJ (pv 3) (pv 4) zD) (nX (AJ (pv 3) (pv 5) zD) xu))))))) iA))))) (cR (BU (iq (gn vt (fE me (pv 0) df) df (eY _)) (cX (AE (fE me (fE wD (pv 2) (pv 1)) (pv 1)) (AJ (pv 3) (fE me (pv 2) (pv 1)) zD))) iA)) (cR (BU (iq (gn vt (fE me (pv 0) df) df (eY _)) (cX (wj (CompSc.to (N:=[vA,tX,"_law_number",sO,tZ,tM]) (osc:=cN AN) (vs:=[tZ]) {}) zZ zZ jX.nd (j:=3) zZ zZ (lA zZ jB (cL (pv 1) cH)) (λ_ _ _ _=>iE) (λ_ _ _ _=>(fE me (fE ss (fE me (pv 3) (pv 2)) (fE KL (pv 0) (fE me (fE wD (pv 3) (pv 2)) df))) (pv 2))))) iA)) (cX (dR (jy ud zZ jD oI (cL (pv 3) cH))))))))),?_];have D:(0:Int)<(n:Int):=by lia
 refine#[_,zZ,_,_,zZ,zZ,#[by decide,by decide],?_];refine#[_,zZ,(n:Int),zZ,λp1 G=>#[p1,(n:Int),zZ,cw,(),(),λl d=>?_]];have g1:=(cM G (.rng 0 (n:Int))).trans (cM d (.lst (ju (n:Int).toNat)));have s1:Ac H c n (nr c n 0) [some (.int c),some (nv n),some (.int (c/5)),some (.ref l),none,none] (cq (cq H p1 (.rng 0 (n:Int))) l (.lst (ju (n:Int).toNat))):=
  #[g1,l,List.range n,c/5,none,none,zZ,by rw[cw];rfl,(cM G _).free d,by simp,λy m=>List.mem_range.mp m,zZ]
 refine#[_,zZ,(n:Int),zZ,(),(),oX (λi σ H'=>Ac H c n (nr c n i) σ H') s1 (λi σ H' hi p=>?_) (λσ H' p=>?_)]
 .obtain⟨g,l,u,num,I,J,rfl,v,d,b,m,st⟩:=p;have an:i<n:=by lia
  have e0:(0+(i:Int))=((i:Nat):Int):=by lia
  obtain⟨m1,Y⟩:=wg num C;have ab:decide (V.int (c%5)=V.int 0)=true->c%5=0:=λz=>by injection gK z
  have L: ¬decide (V.int (c%5)=V.int 0)=true-> ¬c%5=0:=λz e=>z (dW (by rw[e]));refine#[_,zZ,_,_,zZ,zZ,(by decide:(0:Int)<5),zZ,_,zZ,jk (λc1=>?_) (λc1=>?_)]
  .refine#[_,zZ,_,zZ,_,_,zZ,zZ,D,?_]
   try dsimp only
   rw[m1];obtain⟨k,o⟩:∃k,(num%(n:Int)).toNat=k:=#[_,zZ];rw[o]at Y|-;refine#[_,zZ,_,zZ,l,_,_,i,zZ,zZ,v,(by rw[e0,cu];exact zX ()),?_];try dsimp only
   rw[yy];refine#[_,zZ,_,zZ,_,_,zZ,zZ,#[(),()],?_];refine#[i6 g d,l,_,_,_,_,zZ,cw,d,by rw[si,b],Af m Y,?_];rw[Eb,<-st];unfold vZ;rw[wB (ab c1),o]
  refine#[_,zZ,_,_,zZ,zZ,(by decide:(0:Int)<5),_,_,zZ,zZ,_,zZ,jk (λc2=>?_) (λc2=>#[g,l,u,num,_,_,zZ,v,d,b,m,by rw[Eb,<-st];unfold vZ;rw[wA (L c1),wA λz=>c2 (decide_eq_true z)]])];have ip:(0:Int)<0+(i:Int)+1:=by lia
  refine#[_,zZ,_,zZ,_,_,zZ,zZ,_,_,zZ,zZ,ip,?_];obtain⟨k,ek,hk⟩:∃k:Nat,num%(0+(i:Int)+1)=(k:Int)/\k<=i:=#[(num%(0+(i:Int)+1)).toNat,by have:=Int.emod_nonneg num (Int.ne_of_gt ip);lia,by have:=Int.emod_lt_of_pos num ip;lia]
  try dsimp only
  rw[ek];refine#[_,zZ,_,zZ,_,_,zZ,zZ,_,_,zZ,zZ,#[(),()],?_];refine#[_,zZ,_,zZ,l,_,_,_,zZ,zZ,P1 v,x8 (),_,zZ,_,zZ,l,_,_,_,zZ,zZ,P1 v,(by rw[e0];exact x8 ()),by show 2<=sizeLine;decide,λt nt=>?_];have kt:=cM nt (.tup [nv (u.getD k 0),nv (u.getD i 0)]);refine#[t,_,zZ,P2 cw,zZ,_,_,zZ,_,zZ,_,zZ,l,_,_,i,zZ,zZ,kt _ _ v,(by rw[e0,cu];exact zX ()),?_]
  try dsimp only
  rw[yy];refine#[_,_,zZ,_,zZ,_,zZ,l,_,_,k,zZ,zZ,cw,(by rw[cu,si];exact zX ()),?_]
  try dsimp only
  rw[yy,Ee];refine#[zZ,i6 (g.trans kt) d,l,_,_,_,_,zZ,cw,d,by rw[si,si,b],Af (Af m (eF m ())) (eF m ()),?_];rw[Eb,<-st];unfold vZ;have ae:num%((i:Int)+1)=(k:Int):=by rw[<-ek,ot]
  rw[wA (L c1),wB (gK c2),ae,iy,ot]
 .obtain⟨g,l,u,num,I,J,rfl,v,d,b,m,st⟩:=p;have st:(num,u)=nr c n n:=st;have s1:(nr c n n).1=num:=by rw[<-st]
  have s2:(nr c n n).2=u:=by rw[<-st]
  refine#[Ac H c n (num,zm c n (num,u)),?_,λao H4 p4=>?_]
  .refine#[_,zZ,_,_,zZ,zZ,(by decide:(0:Int)<5),zZ,_,zZ,jk (λc5=>?_) (λc5=>#[g,l,u,num,I,J,zZ,v,d,b,m,by unfold zm;rw[wA λe=>c5 (decide_eq_true (congrArg V.int e))]])];obtain⟨m1,Y⟩:=wg num C;obtain⟨m3,m4⟩:=wg (num/ (n:Int)) C;refine#[_,zZ,_,zZ,_,_,zZ,zZ,#[(),()],_,zZ,_,_,zZ,zZ,D,?_];try dsimp only
   rw[m3];refine#[_,zZ,_,zZ,_,zZ,_,_,zZ,zZ,D,?_];try dsimp only
   rw[m1];have af:c%5=3:=by injection gK c5
   obtain⟨k,o⟩:∃k,(num%(n:Int)).toNat=k:=#[_,zZ];rw[o]at Y|-;refine#[l,_,_,k,zZ,zZ,v,(by rw[cu];exact zX ()),?_];try dsimp only
   rw[yy];refine#[i6 g d,l,_,_,_,_,zZ,cw,d,by rw[si,b],Af m m4,?_];unfold zm;rw[wB af,o]
  .obtain⟨M,l4,O,a,I,J,rfl,x,T,r,B,ag⟩:=p4;injection ag with ah ai
   subst ah;refine#[Ac H c n (a,nH c n),?_,λap H5 p5=>?_]
   .refine#[_,zZ,_,_,zZ,zZ,(by decide:(0:Int)<5),zZ,_,zZ,jk (λc6=>?_) (λc6=>#[M,l4,O,a,I,J,zZ,x,T,r,B,by unfold nH;rw[wA λe=>c6 (decide_eq_true (congrArg V.int e)),<-st,ai]])];have e1:(n:Int).toNat=n:=iy n;have aj:c%5=4:=by injection gK c6
    refine#[_,zZ,(n:Int),zZ,(),(),MG (f:=λ(i:Nat)=>nv ((a%(n:Int)+(0+(i:Int)) * (a/ (n:Int)%2))%(n:Int)).toNat) (small ()) (λi Q hi q=>?_) (λl5 U=>?_)]
    .refine#[_,zZ,_,zZ,_,_,zZ,zZ,D,_,zZ,_,zZ,_,zZ,_,_,zZ,zZ,#[(),()],_,_,zZ,zZ,(by decide:(0:Int)<2),_,_,zZ,zZ,.inl #[(),()],_,_,zZ,zZ,_,zZ,_,_,zZ,zZ,D,?_]
     try dsimp only
     rw[(wg _ C).1];exact q
    .refine#[M.trans (cM U _),l5,(List.range n).map λ(i:Nat)=>((a%(n:Int)+(0+(i:Int)) * (a/ (n:Int)%2))%(n:Int)).toNat,a,_,_,zZ,?_,M.free U,by simp,λy m=>?_,?_]
     .rw[cw,e1,hK];rfl
     .obtain⟨i,_,rfl⟩:=cT.mp m;exact(wg _ C).2
     .unfold nH;rw[wB aj,s1]
   .obtain⟨M,l4,O,num,I,J,rfl,x,T,r,B,ak⟩:=p5;injection ak with _ al
    subst al;exact#[_,zZ,l4,_,zZ,.inl #[P1 x,λt ht=>q t _ (M.trans (cM ht _)) cw r B]]
def MT(F:Fun K uV uV Aw f fd)(T:dj P w K mg base uT 1 [sJ,tZ] (iV K))(qL:dj P w K mg base "_law_turn" 1 [vA,tX] ki)(jB:mg "range"=none) (jD:mg "tuple"=none):FnOk P w K mg base da 3 f fd [sJ] (gh K):=by
 refine F.ok qA (λaf A U s H vs Q E L h=>?_)
 obtain⟨a,b,rfl,Y,q⟩:=h;refine#[_,(cR (dE (i:=1) qA.nd zZ Z0 (fE ss df (fE me (dv T L.m zZ (dr (cD (pv 0) (cD df dt zZ) zZ))) df))) (cR (dE (i:=2) qA.nd zZ Z' (fE ss df (fE me (dv T L.m zZ (dr (cD (pv 0) (cD df dt zZ) zZ))) df))) (cX (dR (jy ud zZ jD oI (cL (ie (CompSc.to (N:=[sJ,tX,"_law_many"]) (osc:=cN Aw) (vs:=[tZ]) {}) zZ zZ (lA zZ jB (cL (pv 2) cH)) (λ_ _ _ _=>iE) (λ_ _ _ _=>(dv qL L.m zZ (dr (cD (dv T L.m zZ (dr (cD (pv 1) (cD (fE ss df (pv 0)) dt zZ) zZ))) (cD (pv 2) dt zZ) zZ))))) cH)))))),?_];refine#[_,zZ,a,b,0,zZ,Int.le_refl 0,Y,#[_,_,zZ,zZ,(by decide:(0:Int)<5),_,_,zZ,zZ,?_]];obtain⟨n,en,n1,n5,C⟩:∃n:Nat,(1+b.getD (0:Int).toNat 0%5:Int)=(n:Int)/\1<=n/\n<=5/\(1+b.getD 0 0%5:Int).toNat=n:=#[(1+b.getD 0 0%5).toNat,by show(1+b.getD 0 0%5:Int)=_;lia,(),(),zZ]
 try dsimp only
 rw[en];refine#[_,zZ,a,b,1,zZ,by decide,Y,#[_,_,zZ,zZ,(by decide:(0:Int)<4),_,_,zZ,zZ,?_]];obtain⟨k,ek,k1,k4,aa⟩:∃n:Nat,(1+b.getD (1:Int).toNat 0%4:Int)=(n:Int)/\1<=n/\n<=4/\(1+b.getD 1 0%4:Int).toNat=n:=#[(1+b.getD 1 0%4).toNat,by show(1+b.getD 1 0%4:Int)=_;lia,(),(),zZ]
 try dsimp only
 rw[ek];have em:Ak b=(List.range k).map λi=>nH (b.getD (2+i) 0) n:=by unfold Ak;rw[aa,C]
 rw[C]at q;refine#[_,zZ,(k:Int),zZ,(),(),wO (λi M D=>Same H D/\∃(c:As) (u:LN),u=((List.range i).map λi=>nH (b.getD (2+i) 0) n)/\M=c.map V.ref/\c.length=i/\u.length=i/\(∀(j:Nat) r t,c[j]?=some r->u[j]?=some t->D r=some (.tup (t.map nv)))/\∀t∈u,t.length=n/\∀x∈t,x<n)
  (small ()) #[Same.refl _,[],[],zZ,zZ,zZ,zZ,(λj r t e=>wC e (by simp)),(λt ht=>wC ht (by simp))] (λi M D _ p=>?_) (λi M D hi p=>?_) (λM D p l hl=>?_)]
 .obtain⟨_,c,u,_,rfl,e,_⟩:=p;rw[cu];lia
 .obtain⟨g,c,u,d,rfl,o,v,y,ht⟩:=p;refine#[hO,lG ?_];refine#[_,zZ,_,zZ,_,_,zZ,zZ,a,b,_,zZ,(),g.seq Y,#[_,zZ,_,n,zZ,n1,n5,λr H2 G I B hy=>?_]];have ei:(2+(0+(i:Int)):Int).toNat=2+i:=by lia
  rw[ei]at I B hy;generalize ey:nH (b.getD (2+i) 0) n=ys at I B hy;refine#[g.trans G,c++[r],u++[ys],by rw[d,A5,eV];show _++[ys]=_++[nH (b.getD (2+i) 0) n];rw[ey],by simp,by simp[o],by simp[v],λj r' t' J O=>?_,λt ab=>?_]
  .by_cases hj:j<i
   .rw[fu ()]at J O;exact G _ _ (y j r' t' J O)
   .have ae:j=i:=by
     have:=(cK.mp J).1;rw[eh,o]at this;have:j<i+1:=this
     lia
    subst ae;rw[fV (),o,oN]at J;rw[fV (),v,oN]at O;cases J;cases O;exact I
  .rcases dh.mp ab with z|z
   .exact ht t z
   .have e:t=ys:=by simpa using z
    rw[e];exact#[B,hy]
 .obtain⟨g,c,u,d,rfl,o,v,y,ht⟩:=p;have g1:=cM hl (.lst (c.map V.ref));refine#[l,_,zZ,.inl #[P1 cw,λm hm=>?_]];have G:=g1.trans (cM hm (.tup (c.map V.ref)));have hk:(k:Int).toNat=k:=iy k;rw[hk,<-em]at d;rw[<-d]at q;exact q m _ (g.trans G) #[#[c,cw,(),λi r t e1 I=>G _ _ (y i r t e1 I)],(),(),n1,n5,ht]
inductive lV(K:P3)(d:List V)(H:Hp)(Q:VK)(a:XK):Prop|mk:∀(m b:Ad) (c:LN) (n r:Nat) (word:cn),d=[.ref m,nv r,.ref b]->Mach H m c n->r<n->SqL K H b (word.map nv)->(∀l∈word,l<c.length)->Q (nv (db c r word)) H->lV K d H Q a
def Ph(F:Fun K "led" "led" sm f fd):FnOk P w K mg base da 1 f fd [sA,uP,tH] (lV K):=by
 refine F.ok uA (λu A g s H D Q E G h=>?_)
 obtain⟨m,b,k,n,r,word,rfl,M,j,t,hw,q⟩:=h;refine#[_,(cR (iG i4 zZ (gF (pv 2)) (gB (i:=3) uA.nd zZ Z') (cX (dE (i:=1) uA.nd zZ Z' (dB eM (dB eM (pv 0) (pv 3) (λ_ _=>rfl)) (pv 1) (λ_ _=>rfl))))) (cX (dR (pv 1)))),?_];refine#[_,zZ,b,zZ,#[_,t],yf (xs:=word.map nv) (λi c d=>d=H/\∃o,c=[some (.ref m),some (nv (db k r (word.take i))),some (.ref b),o]) #[zZ,none,zZ] (λi c d _ p=>by obtain⟨rfl,_⟩:=p;exact t) (λi x c d a p=>?_) (λc d p=>?_)]
 .obtain⟨rfl,o,rfl⟩:=p;rw[cV]at a;cases e:word[i]? with
  |none=>rw[e]at a;cases a
  | some l=>
   rw[e]at a;cases a;obtain⟨I,v,y,J,z,B,C,L⟩:=M.at (hw l (c8 e));refine#[_,zZ,_,zZ,m,_,_,_,zZ,zZ,P2 y,z,_,zZ,v,_,_,_,zZ,zZ,P2 B,x8 ?_,zZ,some (nv l),?_]
   .rw[C];exact lJ M _ _ j λx a=>hw x (vo a)
   .rw[lP,e];show _=[some (.ref m),some (nv (db k r (word.take i++[l]))),some (.ref b),some (nv l)];rw[Fg];rfl
 .obtain⟨rfl,o,rfl⟩:=p;refine#[_,zZ,?_];rw[cu,ik];exact q
def ow(b:LN)(a word:cn):cn:=a.map λr=>db b r word
def JA{n:Nat}{a:cn}(c:n<=5)(h:∀x∈a,x<n):fv a=(List.range n).filter λi=>a.contains i:=by
 unfold fv;have e:List.range 5=List.range n++(List.range (5-n)).map (n+ ·):=by rw[<-List.range_add];congr 1;lia
 rw[e,pW];have no:((List.range (5-n)).map (n+ ·)).filter (λi=>a.contains i)=[]:=by
  rw[wY];intro y b z;obtain⟨k,_,rfl⟩:=cT.mp b;have:=h _ (hV.mp z);lia
 rw[no,gS]
def zt{a:cn}{x:Nat}(h:x∈fv a):x∈a:=hV.mp (d8.mp h).2
def Du{a:cn}{x:Nat}(h:x∈a)(b:x<5):x∈fv a:=d8.mpr #[f8.mpr b,hV.mpr h]
def Gk(a:cn):(fv a).length<=5:=dy (iz _ _) (by simp)
def yh(i:Nat)(a:cn):qe (nv i) (a.map nv)=a.contains i:=by
 unfold qe;rw[xH]
 induction a with
 |nil=>rfl
 | cons x a b=>
  rw[uz,w9,b]
  congr 1
  show mV (.int (x:Int)) (.int (i:Int))=(i==x);by_cases h:x=i
  .subst h;show((x:Int)==(x:Int))=(x==x);simp
  .have c: ¬(x:Int)=(i:Int):=by lia
   have d: ¬i=x:=by lia
   show((x:Int)==(i:Int))=(i==x);rw[oh.mpr c,oh.mpr d]
def O1(a:cn):(a.map nv).all ja=true:=by
 rw[z5,rh];intro x _;rfl
inductive dO(K:P3)(e:List V)(H:Hp)(Q:VK)(c:XK):Prop|mk:∀(m p b:Ad) (d:LN) (n:Nat) (a word:cn),e=[.ref m,.ref p,.ref b]->Mach H m d n->SqT K H p (a.map nv)->a.length<=5->(∀r∈a,r<n)->SqL K H b (word.map nv)->(∀l∈word,l<d.length)->vz H ((fv (ow d a word)).map nv) Q->dO K e H Q c
def Mn(F:Fun K uG uG zP f fd)(y:dj P w K mg base "led" 1 [sA,uP,tH] (lV K))(z:mg "tuple"=none)(B:mg "sorted"=none)(C:mg "set"=none):FnOk P w K mg base da 3 f fd [sA,sC,tH] (dO K):=by
 refine F.ok Lm (λD A j s H vs Q E G h=>?_)
 obtain⟨m,p,b,d,n,c,word,rfl,M,u,I,g,J,hw,q⟩:=h;refine#[_,(cX (dR (jy ud zZ z oI (cL (eK (KQ zZ) zZ B A2 (cL (jy (Pp zZ) zZ C PyProof.Rows.boot_set (cL (ie (CompSc.to (N:=[sA,sC,tH]) (osc:=cN zP) (vs:=[uP]) {}) zZ zZ (xO (pv 1)) (λ_ _ _ _=>iE) (λ_ _ _ _=>(dv y G.m zZ (dr (cD (pv 1) (cD (pv 0) (cD (pv 3) dt zZ) zZ) zZ))))) cH)) cH)) cH)))),?_];have n5:=M.n5;refine#[_,zZ,p,zZ,#[_,u],v0 (f:=λv=>match v with|.int i=>nv (db d i.toNat word)|v=>v) (by rw[cu];exact small ()) u (λv Q L q=>?_) (λl O=>?_)]
 .obtain⟨r,k,rfl⟩:=cT.mp L;exact#[_,zZ,_,zZ,_,zZ,m,b,d,n,r,word,zZ,M,g r k,J,hw,q]
 .have e:(c.map nv).map (λv=>match v with|.int i=>nv (db d i.toNat word)|v=>v)=(ow d c word).map nv:=by
   unfold ow;rw[hK,hK];rfl
  try dsimp only
  rw[e];have T:=cM O (.lst ((ow d c word).map nv));refine#[l,_,zZ,P1 cw,λx U=>?_,λa Y=>#[a,_,zZ,cw,λo ho=>?_]]
  .obtain⟨r,k,rfl⟩:=cT.mp U;have:=lJ M word r (g r k) hw;lia
  .try dsimp only
   rw[Fq];exact#[o,_,zZ,.inl #[P1 cw,λt ht=>q t _ (T.trans ((cM Y _).trans ((cM ho _).trans (cM ht _)))) cw]]
inductive ge(C:Ad)(c:List V)(H:Hp)(Q:VK)(b:XK):Prop|mk:∀(e:Ad) (n:Nat),c=[.ref e,nv n]->n<=400->H e=some (.ext (i3 e C none))->(∀a,H a=none->a≠e->Q .non (cq (cq H a (.xd [(sK,nv n)])) e (.ext (i3 e C (some a)))))->ge C c H Q b
inductive iB(C:Ad)(c:List V)(H:Hp)(Q:VK)(E:XK):Prop|mk:∀(d:Ad) (a:List (List dq×V)) (n:Nat),c=[.ref d,nv n]->H d=some (.dT a)->n<=400->((a.length<=n->Q .non H))->((n<a.length->∀b,H b=none->E (.ref C) (some b) (cq H b (.xd [(sK,nv n)]))))->iB C c H Q E
inductive dN(P:Pg)(w:World)(K:P3)(mg:SV)(base:Heap)(C:Ad)(h:List V)(H:Hp)(Q:VK)(E:XK):Prop|mk:∀(a st:Ad) (fd:Fd) (i:Ss) (e:cn) (L:Nat) (U:LN) (g:cn->Nat->List Nat) (most:Nat),h=[.ref a,nv L,.ref st,nv most]->H a=some (.tup (e.map nv))->H st=some (gD st fd)->e∈U->((∀x∈U,∀l,l<L->g x l∈U))->U.length<=4000->L<=4000->most<=400->FnOk P w K mg base da 5 st fd i (dJ (Same H) U L g)->Binds K fd i []->((∀D c j d,Same H d->WordsAt d D c j->(∀b∈D::j,H b=none)->Told g L e c->c.length<=most->Q (.ref D) d))->((∀(c:TW) d f,Same H d->H f=none->d f=some (.xd [(sK,nv most)])->(c.map (·.1)).Nodup->(∀p∈c,(∀l∈p.2,l<L)/\cJ g e p.2=p.1)->most<c.length->E (.ref C) (some f) d))->dN P w K mg base C h H Q E
def yx(C:Ad):Sp:=λa H Q E=>(∃d,a=[.ref d,.non]/\Q .non H)\/iB C a H Q E
inductive di(P:Pg)(w:World)(K:P3)(mg:SV)(base:Heap)(f:List V)(H:Hp)(Q:VK)(c:XK):Prop|mk:∀(a st:Ad) (fd:Fd) (h:Ss) (d:cn) (L:Nat) (U:LN) (g:cn->Nat->List Nat),f=[.ref a,nv L,.ref st,.non]->H a=some (.tup (d.map nv))->H st=some (gD st fd)->d∈U->((∀x∈U,∀l,l<L->g x l∈U))->U.length<=4000->L<=4000->FnOk P w K mg base da 5 st fd h (dJ (Same H) U L g)->Binds K fd h []->(∀D i j e,Same H e->WordsAt e D i j->(∀b∈D::j,H b=none)->Told g L d i->Q (.ref D) e)->di P w K mg base f H Q c
def DY(P:Pg)(w:World)(K:P3)(mg:SV)(base:Heap)(C:Ad):Sp:=λa H Q E=>di P w K mg base a H Q E\/dN P w K mg base C a H Q E
def Dx{P:Pg}{w:World}{K:P3}{mg:SV}{base:Heap}{C:Ad}:∀s H Q E,di P w K mg base s H Q E->DY P w K mg base C s H Q E0:=λ_ _ _ _ ⟨a,b,c,d,e,f,g,h,i,j,k,l,m,n,o,p,q,r⟩=> .inl #[a,b,c,d,e,f,g,h,i,j,k,l,m,n,o,p,q,r]
def MF{P:Pg}{w:World}{K:P3}{mg:SV}{base:Heap}{C:Ad}:∀a H Q E,dN P w K mg base C a H Q E->DY P w K mg base C a H Q E:=λ_ _ _ _ h=> .inr h
section
variable{P:Pg}{w:World}{K:P3}{mg:SV}{base:Heap}{f:Ad}{j:Fd}{C D:Ad}
def Ny(F:Fun K tS vB um f j)(a:MkE K C D f)(bI:BaseI K D)(i:SetE K C sK)(l:mg "HallError"=some (.ref D)):FnOk P w K mg base da 1 f j [sW,sK] (ge C):=by
 refine F.ok KH (λm A b s H p Q E r h=>?_)
 obtain⟨e,n,rfl,t,c,q⟩:=h;refine#[_,(cR (lg (Pw a bI zZ l (dr (cD (pv 0) (cD (K8 (Mv (Nd (pv 1) Jm))) dt zZ) zZ)))) (cX (Ki zZ a i (pv 0) (pv 1)))),?_];have z:∀k:Fin 401,(Str.empty++Str.ofString "there are more than "++Str.ofString (toString ((k:Nat):Int))).length<=40:=by decide+kernel
 have d:=z #[n,()];have o:∀k:Fin 401,((k:Nat):Int).natAbs.log2<1920:=by decide+kernel
 have g:(40:Nat)<=sizeLine:=by decide
 exact#[_,zZ,by decide,_,zZ,(n:Int),zZ,o #[n,()],dy d g,dy d g,e,_,zZ,c,_,zZ,_,zZ,e,zZ,c,q]
def NH(F:Fun K tK tK vg f j)(r:BH P w K mg base "TooMany" 1 [sW,sK] (ge C) C)(t:mg "len"=none):FnOk P w K mg base (CX1 P w) 3 f j ["things",sK] (yx C):=by
 refine F.okX Oz (λm H Q E h=>?_) (λu A l s H m Q E o h=>?_)
 .rcases h with⟨d,rfl,_⟩|⟨d,a,n,rfl,_⟩
  .rfl
  .rfl
 have v:=lY o;have few:∃b c,m=[b,c]:=by
  rcases h with⟨d,rfl,_⟩|⟨d,a,n,rfl,_⟩
  .exact#[_,_,zZ]
  .exact#[_,_,zZ]
 obtain⟨b,c,rfl⟩:=few;refine#[_,(cX (iq (PW.pt (vJ (gn BQ (pv 1) ti (eY _)) (vH (gn yM (eK Do zZ t fG (cL (pv 0) cH)) (pv 1) (eY _))))) (cX (MI zZ zZ Pd r o.m zZ (cL (pv 1) cH))) iA)),?_]
 rcases h with⟨d,e,q⟩|h
 .cases e;exact#[_,zZ,zZ,_,zZ,q]
 obtain⟨d,a,n,e,x,y,q,B⟩:=h;cases e;refine#[_,zZ,zZ,_,zZ,gJ #[_,zZ,d,a,zZ,x,_,zZ,_,_,zZ,zZ,_,zZ,jk (λc=>?_) (λc=>?_)]]
 .have D:n<a.length:=by
   have:=gK c;lia
  refine#[_,zZ,by show 1<=sizeLine;decide,λe G=>#[e,n,zZ,y,cw,λk i ne=>#[zZ,some k,cq H k (.xd [(sK,nv n)]),?_,?_,B D k ?_]]]
  .funext b
   unfold cq;by_cases g:b=e
   .rw[wB g,wB g]
   .rw[wA g,wA g];by_cases p:b=k
    .rw[wB p,wA g]
    .rw[wA p,wA g]
  .rw[cz (eJ ne)];exact G
  .rw[cz ne]at i;exact i
 .exact q (by
   have: ¬(n:Int)<(a.length:Int):=λz=>c (dW z);lia)
def MS{r O:Vl}(F:DefAt K tE oY f j r O)(o:Ev P w K mg base tK 3 ["things",sK] (yx C))(M:mg "range"=none):FnOk P w K mg base (CX1 P w) 8 f j [uR,uO,"step",sK] (DY P w K mg base C):=by
 refine F.fnOkX jG (λT H Q E h=>?_) (λA t s H T Q E h d=>?_)
 .rcases h with⟨a,st,j,u,v,L,U,g,rfl,_⟩|⟨a,st,j,u,v,L,U,g,most,rfl,_⟩
  .rfl
  .rfl
 have b:=lY d
 rcases h with h|h
 .obtain⟨a,st,Y,u,v,L,U,g,rfl,x,e,y,z,few,c,B,I,q⟩:=h;exact#[_,Fj (G:=λ_=>True) (sR:=yx C) (mo:= .non) (EE:=E) (λH1 D l p Q1 J W N run k=> .inl #[D,zZ,k True.intro]) d.m x e y z few c B I (λD l p H' g W nw TT _=>q D l p H' g W nw TT),(cR (dE (i:=4) jG.nd rfl Z' (Em b (pv 0) (f7 cH))) (cR (lg (Al o d.m sd rfl (dr (cD (pv 4) (cD (pv 3) dt rfl) rfl)))) (cR (dE (i:=5) jG.nd rfl Z' (f7 (cL (pv 0) cH))) (cR (wN uh (Ap (pv 5) (λ_=>rfl)) (cR (dE (i:=6) jG.nd rfl Z' (f7 cH)) (cR (iG uh rfl (gF (pv 5)) (gB (i:=7) jG.nd rfl Z') (cX (iG uh rfl (lA rfl M (cL (pv 1) cH)) (gB (i:=8) jG.nd rfl Z') (cR (dE (i:=9) jG.nd rfl Z' (ID 2 (pv 2) (dr (cD (pv 7) (cD (pv 8) dt rfl) rfl)))) (cX (iq (ux (Au b (pv 9) (pv 4))) (cR (qh b (pv 4) (pv 9) (fE u4 (oW b (pv 4) (pv 7) (λ_ _=>rfl)) (f7 (cL (pv 8) cH))) rfl) (cR (lg (Al o d.m sd rfl (dr (cD (pv 4) (cD (pv 3) dt rfl) rfl)))) (cX (lg (mI mG oz n' nY (pv 6) (cL (pv 9) cH)))))) iA)))))) (cX (dE (i:=5) jG.nd rfl Z' (pv 6)))))) (cX (dR (pv 4)))))))]
 obtain⟨a,st,Y,u,v,L,U,g,most,rfl,x,e,y,z,few,c,m,B,I,q,qE⟩:=h;refine#[_,Fj (G:=λl=>l.length<=most) (sR:=yx C) (mo:=nv most) (EE:=E) (λH1 D l p Q1 J W N run k=> .inr ?_) d.m x e y z few c B I q,(cR (dE (i:=4) jG.nd zZ Z' (Em b (pv 0) (f7 cH))) (cR (lg (Al o d.m sd zZ (dr (cD (pv 4) (cD (pv 3) dt zZ) zZ)))) (cR (dE (i:=5) jG.nd zZ Z' (f7 (cL (pv 0) cH))) (cR (wN uh (Ap (pv 5) (λ_=>rfl)) (cR (dE (i:=6) jG.nd zZ Z' (f7 cH)) (cR (iG uh zZ (gF (pv 5)) (gB (i:=7) jG.nd zZ Z') (cX (iG uh zZ (lA zZ M (cL (pv 1) cH)) (gB (i:=8) jG.nd zZ Z') (cR (dE (i:=9) jG.nd zZ Z' (ID 2 (pv 2) (dr (cD (pv 7) (cD (pv 8) dt zZ) zZ)))) (cX (iq (ux (Au b (pv 9) (pv 4))) (cR (qh b (pv 4) (pv 9) (fE u4 (oW b (pv 4) (pv 7) (λ_ _=>rfl)) (f7 (cL (pv 8) cH))) zZ) (cR (lg (Al o d.m sd zZ (dr (cD (pv 4) (cD (pv 3) dt zZ) zZ)))) (cX (lg (mI mG oz n' nY (pv 6) (cL (pv 9) cH)))))) iA)))))) (cX (dE (i:=5) jG.nd zZ Z' (pv 6)))))) (cX (dR (pv 4)))))))];refine#[D,a3x l p,most,zZ,W.dict,m,λh=>k (by rw[vG W.len]at h;exact h),λh dx n=>qE l _ dx (J.trans (cM n _)) (J.free n) cw N run (by rw[vG W.len]at h;exact h)]
end
def dM:List (Str×Pos×Ad):=[(sG,(#[49,40,49,93]:Pos),101),(sH,(#[131,61,131,110]:Pos),212),(sB,(#[235,60,235,112]:Pos),397),(tW,(#[221,41,221,91]:Pos),377)]
def Og:(dM.map (·.2.2)).Nodup:=by decide
def Tabs(H:Hp):Prop:=∀q∈dM,TabOk q.1 q.2.1 H q.2.2
def _root_.L2.TabOk.most{a:Str}{c:Pos}{H f:Hp}{T:Ad}(t:TabOk a c H T)(g:∀b u,(∀d,u≠HO.dT d)->(∀h,u≠HO.lst h)->H b=some u->f b=some u):TabOk a c f T:=by
 rcases t with t|⟨i,j,k⟩
 .exact .inl (g _ _ (λ_ e=>nomatch e) (λ_ e=>nomatch e) t)
 .exact .inr #[i,g _ _ (λ_ e=>nomatch e) (λ_ e=>nomatch e) j,g _ _ (λ_ e=>nomatch e) (λ_ e=>nomatch e) k]
def Tabs.same{H a:Hp}(t:Tabs H)(g:Same H a):Tabs a:=λq b=>(t q b).same g
def Tabs.most{H c:Hp}(t:Tabs H)(g:∀b u,(∀a,u≠HO.dT a)->(∀d,u≠HO.lst d)->H b=some u->c b=some u):Tabs c:=λq e=>(t q e).most g
def KeepsBut(T:Ad)(H a:Hp):Prop:=∀b o,b≠T->H b=some o->a b=some o
def KeepsBut.keeps{T:Ad}{H a:Hp}{c:AV}(g:KeepsBut T H a)(hT:H T=some (.tbl c)):Keeps H a:=λb o d=>by
 obtain⟨z,f⟩:=qw d;exact g b o (i5 z hT λe=>f _ e) z
theorem Ge:∀{l:List (Str×Pos×Ad)} {p q:Str×Pos×Ad},(l.map (·.2.2)).Nodup->p∈l->q∈l->p.2.2=q.2.2->p=q
 | [],_,_,_,hp,_,_=>nomatch hp
 | r::l,p,q,nd,hp,hq,e=>by
  obtain⟨b,d⟩:=jw.mp nd
  rcases dL.mp hp with c|hp
  .rcases dL.mp hq with a|hq
   .rw[c,a]
   .exact wC (cT.mpr #[q,hq,by rw[<-c];exact e.symm]) b
  .rcases dL.mp hq with a|hq
   .exact wC (cT.mpr #[p,hp,by rw[<-a];exact e]) b
   .exact Ge d hp hq e
def Tabs.but{a:Str}{b:Pos}{T:Ad}{H d:Hp}{i:AV}(j:(a,b,T)∈dM)(t:Tabs H)(hT:H T=some (.tbl i))(g:KeepsBut T H d)(k:TabOk a b d T):Tabs d:=λf c=>by
 by_cases e:f.2.2=T
 .have:=Ge Og c j e;subst this;exact k
 .rcases t f c with t|⟨l,m,h⟩
  .exact .inl (g _ _ e t)
  .exact .inr #[l,g _ _ e m,g _ _ (nE h hT) h]
def yS{H:Hp}{T e a:Ad}(d:Pos)(c:Str)(hT:H T=some (.tbl #v[]))(f:H e=none)(g:H a=none)(ne:e≠a)(lo:HO):KeepsBut T H (cq (cq (cq H T (.tbl (jm d a))) a (iM a c)) e lo)/\
  (cq (cq (cq H T (.tbl (jm d a))) a (iM a c)) e lo) T=some (.tbl (jm d a))/\(cq (cq (cq H T (.tbl (jm d a))) a (iM a c)) e lo) a=some (iM a c):=by
 refine#[λb o h z=>?_,?_,?_]
 .rw[cz (dH z f),cz (dH z g),cz h];exact z
 .rw[cz (dH hT f),cz (dH hT g),cw]
 .rw[cz (eJ ne),cw]
def cC(a:LN)(x:cn)(l:Nat):cn:=fv (ow a x [l])
def dF(n:Nat):LN:=((List.range 32).map cO).filter λx=>x.all λr=>decide (r<n)
inductive dP(T:Ad)(d:Pos)(g:List V)(H:Hp)(Q:VK)(e:XK):Prop|mk:∀(m p:Ad) (f:LN) (n:Nat) (a:cn),g=[.ref m,.ref p]->Mach H m f n->H p=some (.tup (a.map nv))->a∈dF n->Tabs H->(∀D h i c,Keeps H c->Tabs c->WordsAt c D h i->(∀b∈D::i,noT H b=none)->Told (cC f) f.length a h->Q (.ref D) c)->dP T d g H Q e
def cy{n:Nat}{x:cn}:x∈dF n↔fv x=x/\∀r∈x,r<n:=by
 unfold dF;rw[d8,cT,rh];constructor
 .rintro⟨⟨k,a,rfl⟩,h⟩;refine#[?_,λr c=>gK (h r c)];have z:∀k:Fin 32,fv (cO k)=cO k:=by decide+kernel
  exact z #[k,f8.mp a]
 .rintro⟨d,e⟩;refine#[#[ni 0 (fv x),f8.mpr ?_,by rw[Fq,d];exact d],λr c=>dW (e r c)];have z:∀(b:cn) (k:Nat),(∀n∈b,n<5)->k<32->ni k b<32:=by
   intro b
   induction b with
   |nil=>intro k _ a;exact a
   |cons n b f=>intro k h a;exact f _ (λy g=>h y (eO _ g)) (Hk #[k,a] #[n,h n (dX ..)])
  exact z _ 0 (λn i=>f8.mp (d8.mp i).1) (by decide)
def Fa(a:cn):fv (fv a)=fv a:=by
 unfold fv;refine uw λi b=>?_;rw[kh,hV,hV,d8,hV];exact#[λh=>h.2,λh=>#[b,h]]
def Mach.noT{H:Hp}{m:Ad}{a:LN}{n:Nat}(M:Mach H m a n):Mach (L2.noT H) m a n:=
 #[let⟨b,c,d,e⟩:=M.refs;#[b,nU c,d,λi r t f g=>nU (e i r t f g)],M.some1,M.few,M.n1,M.n5,M.each]
def Mach.keeps{H a:Hp}{m:Ad}{b:LN}{n:Nat}(M:Mach H m b n)(g:Keeps H a):Mach a m b n:=M.noT.same g
def Mach.drop{H:Hp}{m c:Ad}{a:LN}{n:Nat}{e:Heap->Prop}(M:Mach H m a n)(b:H c=some (.ext e)):Mach (L2.drop H c) m a n:=by
 obtain⟨f,d,g,h⟩:=M.refs;refine#[#[f,?_,g,λi r t j k=>?_],M.some1,M.few,M.n1,M.n5,M.each]
 .rw[d7 (nE d b)];exact d
 .have z:=h i r t j k;rw[d7 (nE z b)];exact z
def Fy{u c m i:Ad}{O:Obj}{p:LN}{n:Nat}{j:Hp}{v B:Vl}{a:Arguments}{f:Expr}{d:Scope}{fx a1 a2:Expr}{kw:List Keyword}{lp cp rp:Pos}(e:fg oj=[.Return (some (.Call fx [a1,a2,.Lambda a f d lp] kw cp)) rp])(jF:dj P w K mg base uG 3 [sA,sC,tH] (dO K)) (M:Mach j m p n) (h1:j u=some (gD u (eZ sG a f d sA c v (.ref i) B))) (T:j c=some (dY c m O)) (h3:j i=some (iM i sG)):
  FnOk P w K mg base da 5 u (eZ sG a f d sA c v (.ref i) B) ["here",sN] (dJ (Same j) (dF n) p.length (cC p))/\Binds K (eZ sG a f d sA c v (.ref i) B) ["here",sN] []:=by
 cases e;refine#[yO (k:=4) (m:=m) (oc:=O) #[zZ,zZ,zZ,by decide+kernel,by decide+kernel,zZ,by decide+kernel] (λU H Q E h=>?_) (λU H Q E h=>?_) (λA C s H U Q E hr h=>?_),.all λus D=>match us,D with| [_,_],_=>rfl]
 .obtain⟨t,x,l,rfl,_⟩:=h;rfl
 .obtain⟨t,x,l,rfl,g,_⟩:=h;exact#[g _ _ h1,g _ _ T,g _ _ h3]
 .obtain⟨t,x,l,rfl,g,ht,hx,D,q⟩:=h;refine#[_,(dv jF hr.m zZ (dr (cD (pv 2) (cD (pv 0) (cD (f7 (cL (pv 1) cH)) dt zZ) zZ) zZ))),?_];obtain⟨x1,x2⟩:=cy.mp hx;have G:=g _ _ T;refine#[_,zZ,_,zZ,_,zZ,by show 1<=sizeLine;decide,λb hb=>?_];have I:=cM hb (.lst [nv l]);have M1:=((M.same g).drop G).same I;have J:(cq (L2.drop H c) b (.lst [nv l])) t=some (.tup (x.map nv)):=I _ _ (by rw[d7 (nE ht G)];exact ht);refine#[m,t,b,p,n,x,[l],zZ,M1,P2 J,by rw[<-x1];exact Gk x,x2,P1 cw,λz hz=>by rw[cY.mp hz];exact D,λr H3 g3 Y free=>q r _ (λy o L=>?_) ?_]
  .by_cases N:y=c
   .subst N;rw[G]at L;cases L;exact cw
   .rw[cz N];exact g3 _ _ (I _ _ (by rw[d7 N];exact L))
  .rw[cz (dH Y free)];exact Y
def Ov{cd T:Ad}(F:DefAt K sS oj f fd .none (.ref cd))(hC:PySem.W.CodeHd base cd T)(bm:m9 mg base)(hq:((sG:Str),(#[49,40,49,93]:Pos),T)∈dM)(jF:dj P w K mg base uG 3 [sA,sC,tH] (dO K))(jS:xA P w K mg base tE 8 [uR,uO,"step",sK] (di P w K mg base) [.non]) (jA:mg "len"=none):FnOk P w K mg base da 10 f fd [sA,sC] (dP T (#[49,40,49,93]:Pos)):=by
 refine F.fnOk Kw (λvs H Q E h=>?_) (λA af s H vs Q E h hr=>?_)
 .obtain⟨m,p,Y,n,v,rfl,_⟩:=h;rfl
 obtain⟨m,p,Y,n,v,rfl,M,hp,hU,hT,q⟩:=h;refine#[_,?_,(cX (dR (DR jS hr.m zZ (j:=0) zZ zZ zZ zZ (dr (cD (pv 1) (cD (eK fS zZ jA fG (cL (pv 0) cH)) (cD (Bd (qual:=sG) zZ hC bm (λ_ _ _ _ _=>rfl) zZ zZ) dt zZ) zZ) zZ)))))];obtain⟨rs,hm,ag,_⟩:=M.refs;refine#[_,zZ,_,zZ,m,_,zZ,.inr (P2 hm),?_]
 try dsimp only
 rw[cu,ag];have go:∀(B t:Ad) (J:Vl) (L:Hp) (aa:AV),H T=some (.tbl aa)->KeepsBut T H L->L T=some (.tbl (jm (#[49,40,49,93]:Pos) t))->L t=some (iM t sG)->∀(d:Arguments) (k:Expr) (e:Scope) (pm:Vl) (c:Ad),L B=some (gD B (eZ sG d k e sA c pm (.ref t) J))->
   ∀C,L c=none->(FnOk P w K mg base da 5 B (eZ sG d k e sA c pm (.ref t) J) ["here",sN] (dJ (Same (cq L c (dY c m C))) (dF n) Y.length (cC Y)))->Binds K (eZ sG d k e sA c pm (.ref t) J) ["here",sN] []->
   di P w K mg base [.ref p,nv Y.length,.ref B,.non] (cq L c (dY c m C)) (λr H2=>H2 c=some (dY c m C)/\Q r (L2.drop H2 c)) E0:=λB t J L aa ab kb h1 h2 d k e pm c h3 C G hF hB=>by
  have u:=kb.keeps ab;have i:=cM G (dY c m C);have n5:=M.n5;refine#[p,B,_,_,v,Y.length,dF n,cC Y,zZ,i _ _ (u _ _ (nU hp)),i _ _ h3,hU,λx hx l hl=>?_,?_,?_,hF,hB,λD ws as H2 N W nw TT=>#[N _ _ cw,q D ws as _ (λb o O=>?_) (hT.but hq ab (λb o nb O=>?_) (.inr #[t,?_,?_])) #[W.len,?_,λj a r e1 e2=>?_] (λb O=>?_) TT]]
  .obtain⟨x1,x2⟩:=cy.mp hx;refine cy.mpr #[Fa _,λr hr=>?_];obtain⟨y,h4,rfl⟩:=cT.mp (zt hr);exact lJ M [l] y (x2 y h4) λz hz=>by rw[cY.mp hz];exact hl
  .exact dy (iz _ _) (by rw[cu,md];decide)
  .have:=M.few;lia
  .have z:=u b o O;rw[d7 (dH z G)];exact N _ _ (i _ _ z)
  .have z:=kb b o nb O;rw[d7 (dH z G)];exact N _ _ (i _ _ z)
  .rw[d7 (dH h1 G)];exact N _ _ (i _ _ h1)
  .rw[d7 (dH h2 G)];exact N _ _ (i _ _ h2)
  .rw[d7 (nE W.dict (N _ _ cw))];exact W.dict
  .have z:=W.list j a r e1 e2;rw[d7 (nE z (N _ _ cw))];exact z
  .have z:=nw b O;cases y:L2.noT H b with
   |none=>rfl
   |some o=>
    have z2:=i _ _ (u _ _ y);rw[z]at z2;cases z2
 rcases hT _ hq with g|⟨t,g,I⟩
 .refine .inl #[g,λB t J U I ne=>#[m,zZ,λC G=>?_]];obtain⟨u,ah,ae⟩:=yS (#[49,40,49,93]:Pos) sG g U I ne _;have i:=cM G (dY (s.heap.objs.size+1) m C);obtain⟨F1,F2⟩:=Fy zZ jF ((M.keeps (u.keeps g)).same i) (i _ _ cw) cw (i _ _ ae);exact go B t J _ _ g u ah ae _ _ _ _ _ cw C G F1 F2
 .refine .inr #[t,g,I,λB J U=>#[m,zZ,λC G=>?_]];have u:∀lo,Same H (cq H B lo):=λlo=>cM U lo;have i:=cM G (dY (s.heap.objs.size+1) m C);obtain⟨F1,F2⟩:=Fy zZ jF ((M.same (u _)).same i) (i _ _ cw) cw (i _ _ (u _ _ _ I));exact go B t J _ _ g (λb o _ O=>u _ _ _ O) (u _ _ _ g) (u _ _ _ I) _ _ _ _ _ cw C G F1 F2
inductive dZ(b:List V)(H:Hp)(Q:VK)(a:XK):Prop|mk:∀n:Nat,b=[nv n]->n<=1000->vz H ((List.range n).map nv) Q->dZ b H Q a
def Po(F:Fun K uJ uJ ED f fd)(b:mg "tuple"=none)(c:mg "range"=none):FnOk P w K mg base da 1 f fd [sC] dZ:=by
 refine F.ok NE (λd A a s H g Q E i h=>?_)
 obtain⟨n,rfl,j,q⟩:=h;refine#[_,(cX (dR (jy (FN zZ) zZ b oI (cL (jy Co zZ c boot_range (cL (pv 0) cH)) cH)))),?_];refine#[_,zZ,(n:Int),zZ,λp e=>#[p,(n:Int),zZ,cw,(),(),λt ht=>?_]];exact q t _ ((cM e _).trans (cM ht _)) cw
def dz(a b:cn):cn:=a.map λx=>b.getD x 0
inductive cZ(f:List V)(H:Hp)(Q:VK)(d:XK):Prop|mk:∀(a b:Ad) (c e:cn),f=[.ref a,.ref b]->H a=some (.tup (c.map nv))->H b=some (.tup (e.map nv))->(∀x∈c,x<e.length)->c.length<=1000->vz H ((dz c e).map nv) Q->cZ f H Q d
def Oc(F:Fun K tO tO zC f fd)(l:mg "tuple"=none):FnOk P w K mg base da 1 f fd [tR,sQ] cZ:=by
 refine F.ok LJ (λm A c s H z Q E B h=>?_)
 obtain⟨a,b,j,d,rfl,k,n,g,o,q⟩:=h;refine#[_,(cX (dR (jy ud zZ l oI (cL (ie (CompSc.to (N:=[tR,sQ]) (osc:=cN zC) (vs:=[uP]) {}) zZ zZ (xO (pv 0)) (λ_ _ _ _=>iE) (λ_ _ _ _=>(dB (IxR.k (K:=K) jo eM zZ) (pv 2) (pv 0) (λ_ _=>rfl)))) cH)))),?_];have e:(j.map nv).map (λv=>match v with|.int i=>nv (d.getD i.toNat 0)|v=>v)=(dz j d).map nv:=by
  unfold dz;rw[hK,hK];rfl
 refine#[_,zZ,a,zZ,#[_,P2 k],v0 (f:=λv=>match v with|.int i=>nv (d.getD i.toNat 0)|v=>v) (by rw[cu];exact small o) (P2 k) (λv Q r q=>?_) (λp u=>?_)]
 .obtain⟨x,y,rfl⟩:=cT.mp r;exact#[_,zZ,_,zZ,b,_,_,_,zZ,zZ,P2 n,x8 (g x y),q]
 .rw[e];exact#[p,_,zZ,.inl #[P1 cw,λt ht=>q t _ ((cM u _).trans (cM ht _)) cw]]
inductive j5(f:List V)(H:Hp)(Q:VK)(d:XK):Prop|mk:∀(a:Ad) (t:cn),f=[.ref a]->H a=some (.tup (t.map nv))->Cyc.Turn t->t.length<=10->(∀(r:Ad) (e:Hp) (b c:Nat),Same H e->e r=some (.tup [nv b,nv c])->Cyc.Ring (Cyc.pw t) b c->Q (.ref r) e)->j5 f H Q d
def GW(H:Hp)(a d:Ad)(t:cn)(k:Nat)(f:L2.St)(c:Hp):Prop:=Same H c/\∃(e:Ad) (b:List (List dq×V)) (o:Option V),f=[some (.ref a),some (.ref d),some (.ref e),o]/\c d=some (.dT b)/\
 c e=some (.tup ((Cyc.pw t k).map nv))/\b.length=k/\(∀x v,fH b (nk x)=some v↔ ∃i,i<k/\Cyc.pw t i=x/\v=nv i)/\∀i j,i<j->j<k->Cyc.pw t i≠Cyc.pw t j
def Nr(F:Fun K "rest_of" "rest_of" DX f fd)(jH:dj P w K mg base uJ 1 [sC] dZ)(jC:dj P w K mg base tO 1 [tR,sQ] cZ)(T:mg "len"=none):FnOk P w K mg base da 3 f fd [sX] j5:=by
 refine F.ok qK (λab A U s H vs Q E G h=>?_)
 obtain⟨a,t,rfl,Y,hT,aa,q⟩:=h;have n:=lY G;refine#[_,(cR (dE (i:=1) qK.nd zZ Z' yd) (cR (dE (i:=2) qK.nd zZ Z' (dv jH G.m zZ (cL (eK fS zZ T fG (cL (pv 0) cH)) cH))) (cR (wN i4 (ux (Au n (pv 2) (pv 1))) (cR (qh n (pv 1) (pv 2) (eK Do zZ T fG (cL (pv 1) cH)) zZ) (cX (dE (i:=2) qK.nd zZ Z' (dv jC G.m zZ (dr (cD (pv 2) (cD (pv 0) dt zZ) zZ))))))) (cR (dE (i:=3) qK.nd zZ Z' (oW n (pv 1) (pv 2) (λ_ _=>rfl))) (cX (dR (nS (dr (cD (pv 3) (cD (fE O5 (eK Do zZ T fG (cL (pv 1) cH)) (pv 3)) dt zZ) zZ))))))))),?_];refine λd hd=>?_;have gd:=cM hd (.dT []);refine#[_,zZ,a,_,zZ,.inr (P2 (gd _ _ Y)),(t.map nv).length,zZ,by rw[cu];lia,λI H1 g1 e1=>?_];rw[cu]at e1;have ae:=Cyc.fact_pos t.length;have af:=Cyc.fact_le t.length aa;refine#[λm σ H'=>∃k,m+k=t.length+Cyc.fact t.length+1/\GW H a d t k σ H',#[_,0,zZ,gd.trans g1,I,[],_,zZ,g1 _ _ cw,e1,zZ,λx v=>#[λz=>(by cases z),λ⟨i,J,_⟩=>wC J (mQ _)],λi j _ hj=>wC hj (mQ _)],λm σ H' p=>?_];obtain⟨k,hm,g,I,c,o,rfl,D,l,L,N,u⟩:=p;have kN:k<=t.length+Cyc.fact t.length:=by
  by_cases z:k<=t.length+Cyc.fact t.length
  .exact z
  .exact wC (Cyc.pw_again hT) (u _ _ () ())
 have B:=DGet.t (k:=nk (Cyc.pw t k)) D (b:=I) (by rw[iu];exact l);refine#[_,zZ,_,zZ,d,_,zZ,B,_,zZ,?_];cases M:fH c (nk (Cyc.pw t k))with
 | none=>
  refine gJ #[GW H a d t (k+1),λag ah p'=>#[m-1,(),k+1,(),p'],?_];refine#[_,zZ,d,c,zZ,D,_,zZ,_,zZ,d,_,zZ,DPut.t (k:=nk (Cyc.pw t k)) D (by rw[iu];exact l) (by rw[L,dA];lia),?_];have n1:I≠d:=i5 l D (by intro z;cases z);have n2:a≠d:=i5 (g _ _ Y) D (by intro z;cases z);refine#[_,zZ,_,zZ,I,a,Cyc.pw t k,t,zZ,(by rw[cz n1];exact l),(by rw[cz n2];exact g _ _ Y),Cyc.pw_lt hT k,by rw[Cyc.pw_len];lia,λr H4 g4 e4=>?_];refine#[(i6 g hd).trans g4,r,_,o,zZ,g4 _ _ cw,e4,?_,λx v=>?_,λi j O h2=>?_]
  .rw[wL _ M,eh,L];rfl
  .rw[Ps];by_cases z:nk x=nk (Cyc.pw t k)
   .rw[wB z];have z':=uc z;constructor
    .intro e;exact#[k,(),z'.symm,by rw[L]at e;exact(gY e).symm]
    .rintro⟨i,J,e,rfl⟩;by_cases C:i<k
     .have:=(N x (nv i)).mpr #[i,C,e,zZ];rw[z,M]at this;cases this
     .have:i=k:=by lia
      rw[this,L]
   .rw[wA z,N];constructor
    .rintro⟨i,J,e,rfl⟩;exact#[i,(),e,zZ]
    .rintro⟨i,J,e,rfl⟩;refine#[i,?_,e,zZ];by_cases C:i=k
     .rw[C]at e;exact wC (by rw[e]) z
     .lia
  .by_cases hj:j<k
   .exact u i j O hj
   .have:j=k:=by lia
    subst this;intro e;have:=(N (Cyc.pw t j) (nv i)).mpr #[i,O,e,zZ]
    rw[M]at this;cases this
 | some v=>
  refine fW ?_;rw[M]at B;refine#[_,zZ,_,zZ,d,v,zZ,B,?_];obtain⟨i,J,e,rfl⟩:=(N _ _).mp M;refine#[_,zZ,_,zZ,d,c,zZ,D,_,zZ,_,_,zZ,zZ,(by show 2<=sizeLine;decide),λr G=>q r _ i (k-i) (g.trans (cM G _)) ?_ #[(),?_,λx y O h2=>u x y O ()]]
  .rw[cw];have:V.int ((c.length:Int)-(i:Int))=nv (k-i):=by
    show V.int _=V.int ((k-i:Nat):Int);rw[L]
    congr 1
    lia
   show some (HO.tup [nv i,V.int ((c.length:Int)-(i:Int))])=_;rw[this]
  .have:i+(k-i)=k:=by lia
   rw[this,e]
def eC(n:Nat):Nat->List cn
 |0=>[[]]
 |k+1=>(eC n k).flatMap λx=>(List.range n).map λr=>x++[r]
theorem cE{n:Nat}:∀{k:Nat} {x:cn},x∈eC n k↔x.length=k/\∀r∈x,r<n
 | 0,x=>by
  show x∈[[]]↔_;rw[cY];constructor
  .rintro rfl;exact#[zZ,λr a=>nomatch a]
  .rintro⟨h,_⟩;exact pP.mp h
 | k+1,x=>by
  show x∈(eC n k).flatMap _↔_;rw[List.mem_flatMap];constructor
  .rintro⟨y,d,e⟩;obtain⟨r,a,rfl⟩:=cT.mp e;obtain⟨b,c⟩:=cE.mp d;refine#[by simp[b],λz f=>?_]
   rcases dh.mp f with m|m
   .exact c z m
   .rw[cY.mp m];exact f8.mp a
  .rintro⟨b,c⟩;have ne:x≠[]:=λz=>by rw[z]at b;cases b
   refine#[x.dropLast,cE.mpr #[by rw[List.length_dropLast,b];rfl,λr a=>c r (List.dropLast_subset _ a)],cT.mpr #[x.getLast ne,f8.mpr (c _ (List.getLast_mem ne)),Hh ne]]
theorem CF{n:Nat}:∀k,(eC n k).length=n ^ k
 |0=>rfl
 | k+1=>by
  show((eC n k).flatMap _).length=_;rw[List.length_flatMap];have z:∀l:LN,(l.map λx=>((List.range n).map λr=>x++[r]).length).sum=l.length * n:=by
   intro l
   induction l with
   |nil=>simp
   |cons a l b=>rw[h9,List.sum_cons,b,cu,md,jz,Nat.succ_mul,Nat.add_comm]
  rw[z,CF k,Nat.pow_succ]
def zc{n:Nat}(h:n<=5):(eC n n).length<=4000:=by
 rw[CF];have z:∀k:Fin 6,(k:Nat) ^ (k:Nat)<=4000:=by decide
 exact z #[n,()]
def vx(n:Nat):List.range n∈eC n n:=cE.mpr #[md,λr a=>f8.mp a]
def gl(t:cn):Int:= -((t.length:Nat):Int)
def mM(a:LN)(t:cn):LN:=if a.contains t then a else a++[t]
def uniq(ts:LN):LN:=ts.foldl mM []
def Mz(a:LN)(t:cn):uniq (a++[t])=mM (uniq a) t:=by
 unfold uniq;rw[nB];rfl
def O9{a:LN}{t x:cn}:x∈mM a t↔x∈a\/x=t:=by
 unfold mM;by_cases h:a.contains t=true
 .rw[wB h];constructor
  .exact .inl
  .rintro(b|rfl)
   .exact b
   .exact hV.mp h
 .rw[wA h,dh,cY]
def Mw{a:LN}{t:cn}(nd:a.Nodup):(mM a t).Nodup:=by
 unfold mM;by_cases h:a.contains t=true
 .rw[wB h];exact nd
 .rw[wA h,zf];refine#[nd,by simp,λx b y c z=>h (List.contains_iff_mem.mpr ?_)];rw[<-cY.mp c,<-z];exact b
def DB(b:LN):(uniq b).Nodup/\∀x,x∈uniq b↔x∈b:=by
 have go:∀(b a:LN),a.Nodup->(b.foldl mM a).Nodup/\∀x,x∈b.foldl mM a↔x∈a\/x∈b:=by
  intro b
  induction b with
  |nil=>intro a nd;exact#[nd,λx=>by simp]
  |cons t b e=>
   intro a nd;obtain⟨c,d⟩:=e (mM a t) (Mw nd);refine#[c,λx=>?_];rw[List.foldl_cons,d x,O9,dL,or_assoc]
 obtain⟨c,d⟩:=go b [] List.nodup_nil;exact#[c,λx=>by rw[show uniq b=b.foldl mM []from rfl,d x];simp]
def OG{b:List (List dq×V)}{d:LN}{t:cn}{v:V}(h:b.map (·.1)=d.map nk):(iO b (nk t) v).map (·.1)=(mM d t).map nk:=by
 have e:(b.any λa=>decide (a.1=nk t))=d.contains t:=by
  rw[kh,zN,hV];constructor
  .rintro⟨a,f,g⟩;have m:a.1∈d.map nk:=by rw[<-h];exact cT.mpr #[a,f,zZ]
   obtain⟨u,i,j⟩:=cT.mp m;have z:=uc (j.trans (gK g));rw[<-z];exact i
  .intro ht;have m:nk t∈b.map (·.1):=by rw[h];exact cT.mpr #[t,ht,zZ]
   obtain⟨a,f,g⟩:=cT.mp m;exact#[a,f,dW g]
 unfold iO mM;rw[e];by_cases c:d.contains t=true
 .rw[wB c,wB c,<-h,hK];refine i9 λa _=>?_;show(if a.1=nk t then(a.1,v)else a).1=a.1;split<;>rfl
 .rw[wA c,wA c,eV,eV,h];rfl
theorem Cb{g:Type}{lt:g->g->Bool}(i:∀x,lt x x=false)(j:∀x y z,lt x y=true->lt y z=true->lt x z=true):∀{c d:List g},c.Pairwise (λx y=>lt x y=true)->d.Pairwise (λx y=>lt x y=true)->(∀x,x∈c↔x∈d)->c=d
 | [],[],_,_,_=>rfl
 | [],q::d,_,_,h=>wC ((h q).mpr (dX ..)) (by simp)
 |p::c,[],_,_,h=>wC ((h p).mp (dX ..)) (by simp)
 | p::c,q::d,m,n,h=>by
  obtain⟨k,o⟩:=yR.mp m;obtain⟨l,s⟩:=yR.mp n;have no:∀{x y:g},lt x y=true->lt y x=true->False:=λ{x y} a b=>by
   have:=j _ _ _ a b;rw[i]at this;cases this
  have t:p=q:=by
   rcases dL.mp ((h p).mp (dX ..))with e|e
   .exact e
   .rcases dL.mp ((h q).mpr (dX ..))with e'|e'
    .exact e'.symm
    .exact(no (l p e) (k q e')).elim
  subst t;have rest:c=d:=Cb i j o s λr=>by
   constructor
   .intro f
    rcases dL.mp ((h r).mp (eO _ f))with e|e
    .subst e;have:=k r f;rw[i]at this;cases this
    .exact e
   .intro f
    rcases dL.mp ((h r).mpr (eO _ f))with e|e
    .subst e;have:=l r f;rw[i]at this;cases this
    .exact e
  rw[rest]
inductive gk(e:List V)(H:Hp)(Q:VK)(c:XK):Prop|mk:∀(l:Ad) (f:As) (a U:LN),e=[.ref l]->H l=some (.lst (f.map .ref))->TupsAt H f a->(∀t∈a,t∈U)->U.length<64->a.length<=4000->(∀D bs d b,Same H b->H D=none->b D=some (.lst (bs.map .ref))->TupsAt b bs d->(∀x,x∈d↔x∈a)->d.Pairwise (λx y=>jg gl x y=true)->Q (.ref D) b)->gk e H Q c
def JV(F:Fun K "place_of" "place_of" Dv f fd)(d:mg "len"=none):FnOk P w K mg base da 1 f fd [sC] (hI gl):=by
 refine F.ok Nh (λe A b s H j Q E k h=>?_)
 obtain⟨a,t,rfl,g,q⟩:=h;refine#[_,(cX (dR (nS (dr (cD (Hr IQ (eK fS zZ d fG (cL (pv 0) cH))) (cD (pv 0) dt zZ) zZ))))),?_];refine#[_,zZ,a,_,zZ,.inr (P2 g),_,zZ,_,zZ,by show 2<=sizeLine;decide,λi c=>?_];refine q i _ (cM c _) ?_;rw[cw,cu];rfl
def JZ(F:Fun K "in_order" "in_order" Ed f fd)(M:dj P w K mg base "place_of" 1 [sC] (hI gl))(N:mg "sorted"=none):FnOk P w K mg base da 5 f fd [tI] gk:=by
 refine F.ok rA (λO A r s H vs Q E u h=>?_)
 obtain⟨l,Y,c,U,rfl,z,T,inU,few,B,q⟩:=h;have hu:=u.units;have v:=lY u;refine#[_,(cR (dE (i:=1) rA.nd zZ Z' yd) (cR (iG i4 zZ (gF (pv 0)) (gB (i:=2) rA.nd zZ Z') (cX (qh v (pv 1) (pv 2) re zZ))) (cX (dR (JQ zZ hu M u.m zZ N zZ (pv 1)))))),?_];intro d C;have G:=cM C (.dT []);have la:=T.len;obtain⟨un,I⟩:=DB c;refine#[_,zZ,l,zZ,#[_,P1 (G _ _ z)],yf (xs:=Y.map .ref) (λi n j=>Same H j/\∃b o,j d=some (.dT b)/\b.map (·.1)=(uniq (c.take i)).map nk/\n=[some (.ref l),some (.ref d),o]) #[G,[],none,cw,zZ,zZ] (λi n j _ p=>P1 (p.1 _ _ z)) (λi x n j e p=>?_) (λn j p=>?_)]
 .obtain⟨g,b,o,y,k,rfl⟩:=p;rw[cV]at e;obtain⟨a,J,rfl⟩:=eW.mp e;have li:=(cK.mp J).1;obtain⟨t,L⟩:∃t,c[i]?=some t:=#[_,cA ()];have ha:=g _ _ (T.is i a t J L);have lk:b.length<=c.length:=by
   rw[<-cu (f:=(·.1)) (as:=b),k,cu];refine dy (jf (DB _).1 (U:=c) λx e=>?_) (cQ _);exact vo (((DB _).2 x).mp e)
  refine#[_,zZ,_,zZ,d,_,zZ,DPut.t y (by rw[iu];exact ha) (by rw[dA];lia),?_];refine#[i6 g C,_,_,cw,?_,zZ];rw[OG k,lP,L];show _=(uniq (c.take i++[t])).map nk;rw[Mz]
 .obtain⟨g,b,o,y,k,rfl⟩:=p;rw[cu,la,ik]at k;have lu:(uniq c).length<64:=v3 (jf un λx e=>inU x ((I x).mp e)) few;refine#[_,zZ,d,zZ,d,b,uniq c,zZ,y,k,lu,λD bs us H2 g2 hD eD T2 m pw=>?_];exact q D bs us H2 (g.trans g2) (g.free hD) eD T2 (λx=>(m.mem_iff).trans (I x)) pw
def PicsAt(H:Hp)(l:Ad)(d:As)(e:TW):Prop:=H l=some (.lst (d.map .ref))/\d.length=e.length/\∀(j:Nat) (a:Ad) (p:cn×cn),d[j]?=some a->e[j]?=some p->∃b c,c≠l/\H a=some (.tup [.ref b,.ref c])/\H b=some (.tup (p.1.map nv))/\H c=some (.lst (p.2.map nv))
inductive fP(T:Ad)(b:Pos)(e:List V)(H:Hp)(Q:VK)(c:XK):Prop|mk:∀(m:Ad) (d:LN) (n:Nat),e=[.ref m]->Mach H m d n->Tabs H->(∀l g f a,Keeps H a->Tabs a->PicsAt a l g f->Told (cC d) d.length (List.range n) f->Q (.ref l) a)->fP T b e H Q c
def ir(a:cn):List Dt:=(a.map λ(n:Nat)=>(n:Int)).map Dt.int
def D8{a b:cn}(h:ir a=ir b):a=b:=dS.mp (dw Dt.tup h)
def B9{n:Nat}(h:n<=5):List.range n∈dF n:=by
 have z:∀k:Fin 6,fv (List.range k)=List.range k:=by decide+kernel
 exact cy.mpr #[z #[n,()],λr a=>f8.mp a]
def ML{T:Ad}(F:Fun K "pictures" "pictures" Cj f fd)(U:dj P w K mg base uJ 1 [sC] dZ)(Y:dj P w K mg base sS 10 [sA,sC] (dP T (#[49,40,49,93]:Pos)))(jA:mg "len"=none)(qD:mg "list"=none):
  FnOk P w K mg base da 12 f fd [sA] (fP T (#[49,40,49,93]:Pos)):=by
 refine F.ok rE (λaa A g s H vs Q E C h=>?_)
 obtain⟨m,ts,n,rfl,M,hT,q⟩:=h;have t1:=M.some1;have n5:=M.n5;obtain⟨_,r0,b1,b2,b3,b4,b5,b6⟩:=M.at (l:=0) ();refine#[_,(cR (dE (i:=1) rE.nd zZ Z' (dv Y C.m zZ (dr (cD (pv 0) (cD (dv U C.m zZ (cL (eK fS zZ jA fG (cL (dB eM (pv 0) df (λ_ _=>rfl)) cH)) cH)) dt zZ) zZ)))) (cX (dR (jy (Gv zZ) zZ qD boot_list (cL (Ht PySem.F.plainAttrs_dict PySem.F.slot_dict_items PySem.F.type_dict_items E3 (pv 1)) cH))))),?_];refine#[_,zZ,_,zZ,m,_,_,_,zZ,zZ,P2 b1,b3,r0,_,zZ,.inr (P2 b4),?_]
 try dsimp only
 rw[cu,b5];refine#[n,zZ,(),λst H1 r t=>#[m,st,ts,n,List.range n,zZ,M.same r,t,B9 n5,hT.same r,λD ws as G k2 T2 W _ TT=>?_]];refine#[_,zZ,.inr (.inr (.inl #[zZ,.inr #[_,W.dict]])),zZ,D,_,zZ,W.dict,λv hv=>?_];have u:=cM hv (tA v D);refine#[v,D,_,zZ,cw,u _ _ W.dict,λl ps y d=>?_];have k3:Same (cq G v (tA v D)) y:=λb o e=>by
  rw[d.rest b (dH e d.new) λz=>by rw[d.news b z]at e;cases e];exact e
 have I:Same G y:=u.trans k3;refine q l ps ws y ((r.keeps.trans k2).trans I.keeps) (T2.same I) #[d.lst,by rw[d.len,vG W.len],λj a p t B=>?_] TT;obtain⟨k,x,b,J,L,f3⟩:=d.is j a t;obtain⟨hj,_⟩:=cK.mp B;obtain⟨c,N⟩:∃c,as[j]?=some c:=#[_,cA (by rw[W.len];exact hj)];rw[Cy B N]at J;cases J;have O:=u _ _ (W.list j c p N B);rw[iu]at L;exact#[b,c,dH O d.new,f3,k3 _ _ L,k3 _ _ O]
def FO{a b:cn}(h:∀r,r∈a↔r∈b):fv a=fv b:=by
 unfold fv;refine uw λi _=>?_;rw[kh,hV,hV];exact h i
def Ch{H:Hp}{m:Ad}{a:LN}{n:Nat}(M:Mach H m a n){x:cn}{l:Nat}(b:x∈dF n)(c:l<a.length):cC a x l∈dF n:=by
 obtain⟨h,d⟩:=cy.mp b;refine cy.mpr #[Fa _,λr e=>?_];obtain⟨y,f,rfl⟩:=cT.mp (zt e);exact lJ M [l] y (d y f) λz g=>by rw[cY.mp g];exact c
theorem xK{H:Hp}{m:Ad}{a:LN}{n:Nat}(M:Mach H m a n):∀(word:cn) (x:cn),x∈dF n->(∀l∈word,l<a.length)->cJ (cC a) x word=fv (ow a x word)
 | [],x,c,_=>by
  show x=fv (x.map λr=>db a r []);rw[show(λr=>db a r [])=id from rfl,tj];exact(cy.mp c).1.symm
 | l::word,x,c,h=>by
  have e:=h l (dX ..);have f:=M.n5;show cJ (cC a) (cC a x l) word=_;rw[xK M word _ (Ch M c e) λy b=>h y (eO _ b)];refine FO λr=>?_;unfold ow;rw[cT,cT];constructor
  .rintro⟨y,b,rfl⟩;obtain⟨z,d,rfl⟩:=cT.mp (zt b);exact#[z,d,zZ]
  .rintro⟨z,d,rfl⟩;have g:=lJ M [l] z ((cy.mp c).2 z d) λy b=>by rw[cY.mp b];exact e
   exact#[db a z [l],Du (cT.mpr #[z,d,zZ]) (),zZ]
theorem DS{b:Type}{P:Nat->b->Prop}:∀{n:Nat},(∀j,j<n->∃x,P j x)->∃a:List b,a.length=n/\∀(j:Nat) (x:b),a[j]?=some x->P j x
 |0,_=>#[[],zZ,λj x e=>by simp at e]
 | n+1,h=>by
  obtain⟨a,c,d⟩:=DS (n:=n) λj f=>h j ();obtain⟨x,g⟩:=h n ();refine#[a++[x],by simp[c],λj y e=>?_];by_cases f:j<n
  .rw[fu ()]at e;exact d j y e
  .rw[fV ()]at e;have z:j-a.length=0:=by
    have:=(cK.mp e).1;simp at this;lia
   rw[z]at e;cases e;have i:j=n:=by lia
   subst i;exact g
structure Prs(H:Hp)(l:Ad)(as:As)(bc:List (Ad×Ad))(ws:TW):Prop where
 lst:H l=some (.lst (as.map .ref))
 la:as.length=ws.length
 lb:bc.length=ws.length
 is:∀(j:Nat) (a:Ad) (q:Ad×Ad) (p:cn×cn),as[j]?=some a->bc[j]?=some q->ws[j]?=some p->q.2≠l/\H a=some (.tup [.ref q.1,.ref q.2])/\H q.1=some (.tup (p.1.map nv))/\H q.2=some (.lst (p.2.map nv))
def PicsAt.prs{H:Hp}{l:Ad}{g:As}{d:TW}(h:PicsAt H l g d):∃m,Prs H l g m d:=by
 obtain⟨o,r,s⟩:=h;obtain⟨m,t,u⟩:=DS (n:=d.length) (P:=λj (q:Ad×Ad)=>∀a p,g[j]?=some a->d[j]?=some p->q.2≠l/\H a=some (.tup [.ref q.1,.ref q.2])/\H q.1=some (.tup (p.1.map nv))/\H q.2=some (.lst (p.2.map nv))) λj v=>by
  obtain⟨a,i⟩:∃a,g[j]?=some a:=#[_,cA ()];obtain⟨p,k⟩:∃p,d[j]?=some p:=#[_,cA v];obtain⟨b,c,w,x,y,z⟩:=s j a p i k;refine#[(b,c),λB C e f=>?_];rw[i]at e;rw[k]at f;cases e;cases f;exact#[w,x,y,z]
 exact#[m,o,r,t,λj a q p i A k=>u j q A a p i k]
def Prs.at{H:Hp}{l:Ad}{as:As}{c:List (Ad×Ad)}{b:TW}(h:Prs H l as c b){j:Nat}(g:j<b.length):∃a q p,as[j]?=some a/\c[j]?=some q/\b[j]?=some p/\q.2≠l/\H a=some (.tup [.ref q.1,.ref q.2])/\H q.1=some (.tup (p.1.map nv))/\H q.2=some (.lst (p.2.map nv)):=by
 have i:=h.la;have k:=h.lb;obtain⟨a,d⟩:∃a,as[j]?=some a:=#[_,cA ()];obtain⟨q,e⟩:∃q,c[j]?=some q:=#[_,cA ()];obtain⟨p,f⟩:∃p,b[j]?=some p:=#[_,cA g];exact#[a,q,p,d,e,f,h.is j a q p d e f]
def AT(a:LN)(n:Nat)(x:cn):Prop:=∃word:cn,(∀l∈word,l<a.length)/\cJ (cC a) (List.range n) word=x
structure FamOf(ts:LN)(n:Nat)(us:LN):Prop where
 up:us.Pairwise λx y=>jg gl x y=true
 mem:∀x,x∈us↔(AT ts n x\/∃r,r<n/\x=[r])
def FamOf.uniq{ts:LN}{n:Nat}{a b:LN}(c:FamOf ts n a)(d:FamOf ts n b):a=b:=Cb (ph gl a).irr (ph gl a).trans c.up d.up λx=>(c.mem x).trans (d.mem x).symm
def CU{a:LN}{n:Nat}{b:TW}(T:Told (cC a) a.length (List.range n) b)(x:cn):x∈b.map (·.1)↔AT a n x:=by
 constructor
 .intro h;obtain⟨p,c,rfl⟩:=cT.mp h;obtain⟨d,e⟩:=T.run p c;exact#[p.2,d,e]
 .rintro⟨word,f,rfl⟩;obtain⟨u,g,_⟩:=T.least _ word zZ f;exact cT.mpr #[_,g,zZ]
def xp{n r:Nat}(b:n<=5)(h:r<n):[r]∈dF n:=by
 have z:∀k:Fin 5,fv [(k:Nat)]=[(k:Nat)]:=by decide+kernel
 exact cy.mpr #[z #[r,()],λx a=>by rw[cY.mp a];exact h]
def Es{H:Hp}{m:Ad}{a:LN}{n:Nat}(M:Mach H m a n){x:cn}(h:AT a n x):x∈dF n:=by
 obtain⟨word,b,rfl⟩:=h;exact mX (B9 M.n5) (λy c l d=>Ch M c d) word b
def Bc(n:Nat):(dF n).length<=32:=dy (iz _ _) (by rw[cu,md];decide)
def FamOf.inU{H:Hp}{m:Ad}{ts:LN}{n:Nat}{a:LN}(M:Mach H m ts n)(h:FamOf ts n a){x:cn}(b:x∈a):x∈dF n:=by
 rcases (h.mem x).mp b with z|⟨r,c,rfl⟩
 .exact Es M z
 .exact xp M.n5 c
def FamOf.few{H:Hp}{m:Ad}{d:LN}{n:Nat}{c:LN}(M:Mach H m d n)(h:FamOf d n c):c.length<=32:=by
 refine dy (jf (U:=dF n) ?_ λx f=>h.inU M f) (Bc n);exact h.up.imp λ{a b} z e=>by
  subst e;rw[(ph gl c).irr]at z;cases z
def ND{H:Hp}{m:Ad}{a:LN}{n:Nat}(M:Mach H m a n){x:cn}(h:AT a n x):x≠[]:=by
 obtain⟨word,b,rfl⟩:=h;rw[xK M word _ (B9 M.n5) b];intro z;have e:=M.n1;have f:=M.n5;have d:db a 0 word∈ow a (List.range n) word:=cT.mpr #[0,f8.mpr (),zZ];have g:=lJ M word 0 () b;have c:=Du d ();rw[z]at c;cases c
def FamOf.ne{H:Hp}{m:Ad}{ts:LN}{n:Nat}{a:LN}(M:Mach H m ts n)(h:FamOf ts n a){x:cn}(b:x∈a):x≠[]:=by
 rcases (h.mem x).mp b with z|⟨r,c,rfl⟩
 .exact ND M z
 .exact λz=>nomatch z
def oU{n:Nat}(a:n<=5){x:cn}(h:x∈dF n):x.length<=n:=by
 obtain⟨b,c⟩:=cy.mp h;rw[<-b,JA a c];exact dy (iz _ _) (by simp)
def q0{H:Hp}{d:Ad}{o c:HO}{bs:As}{a:LN}(T:TupsAt H bs a)(h:H d=some o)(no:∀f,o≠ .tup f):TupsAt (cq H d c) bs a:=#[T.len,λi b u g j=>by
 have z:=T.is i b u g j;rw[cz (i5 z h λe=>no _ e.symm)];exact z]
def tu{H:Hp}{bs:As}{d:LN}{p:Ad}{u:cn}(h:TupsAt H bs d)(e:H p=some (.tup (u.map nv))):TupsAt H (bs++[p]) (d++[u]):=by
 refine#[by simp[h.len],λi b v c a=>?_];have l:=h.len;by_cases f:i<d.length
 .rw[fu ()]at c a;exact h.is i b v c a
 .rw[fV ()]at c a;have z:i-d.length=0:=by
   have:=(cK.mp a).1;simp at this;lia
  rw[l,z]at c;rw[z]at a;cases c;cases a;exact e
def Mp{H:Hp}{bs e:As}{d f:LN}(h:TupsAt H bs d)(g:TupsAt H e f):TupsAt H (bs++e) (d++f):=by
 refine#[by simp[h.len,g.len],λi b v a c=>?_];have l:=h.len;by_cases j:i<d.length
 .rw[fu ()]at a c;exact h.is i b v a c
 .rw[fV ()]at a c;rw[l]at a;exact g.is _ b v a c
def qr{K:P3}{H:Hp}{l:Ad}{bs:As}{us:LN}(e:H l=some (.lst (bs.map .ref)))(T:TupsAt H bs us):Rep K H 2 (.lst (us.map λu=> .tup (ir u))) (.ref l):=by
 refine .lst (P1 e) (by rw[cu,cu,T.len]) λi d v b c=>?_;rw[cV]at b c;obtain⟨p,f,rfl⟩:=eW.mp b;obtain⟨a,g,rfl⟩:=eW.mp c;exact iQ (P2 (T.is i a p g f))
def xx{c d:LN}(h:(Dt.lst (c.map λu=> .tup (ir u)))=Dt.lst (d.map λu=> .tup (ir u))):c=d:=by
 injection h with h
 exact uf (λa b e=>by injection e with e;exact D8 e) h
inductive fX(T:Ad)(b:Pos)(d:List V)(H:Hp)(Q:VK)(c:XK):Prop|mk:∀(m:Ad) (e:LN) (n:Nat),d=[.ref m]->Mach H m e n->Tabs H->(∀D bs f a,Keeps H a->Tabs a->L2.noT H D=none->a D=some (.lst (bs.map .ref))->TupsAt a bs f->FamOf e n f->Q (.ref D) a)->fX T b d H Q c
def Me{T:Ad}(F:Fun K "family" "family" vf f fd)(qV:dj P w K mg base "pictures" 12 [sA] (fP T (#[49,40,49,93]:Pos)))(qW:dj P w K mg base "in_order" 5 [tI] gk)(jA:mg "len"=none)(jB:mg "range"=none):FnOk P w K mg base da 14 f fd [sA] (fX T (#[49,40,49,93]:Pos)):=by
 refine F.ok rV (λak A aa s H vs Q E hr h=>?_)
 obtain⟨m,ts,n,rfl,M,hT,q⟩:=h;have t1:=M.some1;have n1:=M.n1;have n5:=M.n5;obtain⟨_,r0,b1,b2,b3,b4,b5,b6⟩:=M.at (l:=0) ();refine#[_,(cR (wj (CompSc.to (N:=[sA,"singles"]) (osc:=cN vf) (vs:=[uP]) {}) zZ zZ rV.nd (j:=1) zZ zZ (lA zZ jB (cL (eK fS zZ jA fG (cL (dB eM (pv 0) df (λ_ _=>rfl)) cH)) cH)) (λ_ _ _ _=>iE) (λ_ _ _ _=>(nS (cL (pv 0) cH)))) (cX (dR (dv qW hr.m zZ (cL (fE u4 (An (CompSc.to (N:=[sA,"singles"]) (osc:=cN vf) (vs:=[sC,tH]) {}) zZ (gF (dv qV hr.m zZ (cL (pv 0) cH))) (zu (CompSc.to (N:=[sA,"singles"]) (osc:=cN vf) (vs:=[sC,tH]) {}) zZ zZ zZ) (λ_ _ _ _=>iE) (λ_ _ _ _=>(pv 0))) (pv 1)) cH))))),?_];refine#[_,zZ,m,_,_,_,zZ,zZ,P2 b1,b3,r0,_,zZ,.inr (P2 b4),(n:Int),by rw[cu,b5],(),(),wO (λi d c=>Same H c/\∃a,d=a.map V.ref/\a.length=i/\TupsAt c a ((List.range i).map λr=>[r])) (by rw[iy];exact small ()) #[Same.refl _,[],zZ,zZ,zZ,λi b u e=>by simp at e] (λi d c _ p=>?_) (λi d c hi p=>?_) (λd H1 p U ab=>?_)]
 .obtain⟨_,a,rfl,e,_⟩:=p;rw[cu];lia
 .obtain⟨g,a,rfl,e,Y⟩:=p;have e0:V.int (0+(i:Int))=nv i:=by show V.int (0+(i:Int))=V.int (i:Int);rw[ot]
  refine#[hO,lG #[_,zZ,by show 1<=sizeLine;decide,λp hp=>?_]];have k:=cM hp (.tup [V.int (0+(i:Int))]);refine#[g.trans k,a++[p],by simp,by simp[e],?_];rw[A5,eV];refine tu (Y.same k) ?_;rw[cw,e0];rfl
 obtain⟨g1,a,rfl,er,Y⟩:=p;rw[iy]at Y er;have k1:=cM ab (.lst (a.map V.ref));have I:cq H1 U (.lst (a.map V.ref)) U=some (.lst (a.map V.ref)):=cw;have T2:=Y.same k1;have B:=g1.trans k1;generalize cq H1 U (.lst (a.map V.ref))=H2 at k1 I T2 B|-;refine#[_,zZ,m,ts,n,zZ,M.same B,hT.same B,λl as ws H3 k3 T3 ae TT=>?_];obtain⟨bc,C⟩:=ae.prs;have aj:=(M.same B);have few:ws.length<=32:=by
  rw[<-cu (f:=(·.1)) (as:=ws)];exact dy (jf TT.keys λx hx=>Es M ((CU TT x).mp hx)) (Bc n)
 refine#[l,zZ,#[_,P1 C.lst],i0 (xs:=as.map .ref) (λi d c=>c=H3/\∃bs,d=bs.map V.ref/\bs.length=i/\TupsAt H3 bs ((ws.take i).map (·.1))) (by rw[cu,C.la,dA];lia) #[zZ,[],zZ,zZ,zZ,λi b u e=>by simp at e] (λi d c _ p=>?_) (λi v d c hv p=>?_) (λd c p c1 af=>?_)]
 .obtain⟨rfl,bs,rfl,e,_⟩:=p;exact#[P1 C.lst,by rw[cu];lia]
 .obtain⟨rfl,bs,rfl,e,J⟩:=p;rw[cV]at hv;obtain⟨a1,ea,rfl⟩:=eW.mp hv;obtain⟨a',q',p',L,al,ag,f0,f1,f2,f3⟩:=C.at (j:=i) (by have:=(cK.mp ea).1;rw[<-C.la];exact this);rw[ea]at L;cases L;refine#[a1,_,zZ,P2 f1,zZ,_,_,zZ,_,_,zZ,zZ,Ey,lG #[_,zZ,zZ,bs++[q'.1],by simp,by simp[e],?_]];rw[lP,ag,eV];exact tu J f2
 obtain⟨rfl,bs,rfl,e,J⟩:=p;rw[cu,C.la,ik]at J;have G:=cM af (.lst (bs.map V.ref));have O:=G _ _ (k3 _ _ (nU I));have T5:TupsAt (cq c c1 (.lst (bs.map V.ref))) a ((List.range n).map λr=>[r]):=#[T2.len,λi b u e1 e2=>G _ _ (k3 _ _ (nU (T2.is i b u e1 e2)))];have lb:bs.length=ws.length:=by rw[J.len,cu]
 refine#[_,zZ,c1,U,_,_,zZ,zZ,P1 cw,P1 O,by rw[cu,cu,lb,er,dA];lia,λl2 ah=>?_];have k2:=cM ah (.lst (bs.map V.ref++a.map V.ref));have T6:=(Mp (J.same G) T5).same k2;refine#[l2,bs++a,_,dF n,zZ,by rw[cw,eV],T6,λt ht=>?_,v3 (Bc n) (by decide),by rw[eh,cu,cu,md];lia,λD ds us H5 g5 hD eD T7 mem up=>?_]
 .rcases dh.mp ht with z|z
  .exact Es M ((CU TT t).mp z)
  .obtain⟨r,ai,rfl⟩:=cT.mp z;exact xp n5 (f8.mp ai)
 .have kk:Keeps H H5:=((B.keeps.trans k3).trans (G.trans k2).keeps).trans g5.keeps;refine q D ds us H5 kk (T3.same ((G.trans k2).trans g5)) ?_ eD T7 #[up,λx=>?_]
  .cases y:L2.noT H D with
   |none=>rfl
   |some o=>
    have z:=(G.trans k2) _ _ ((B.keeps.trans k3) _ _ y);rw[hD]at z;cases z
  .rw[mem x,dh,CU TT x];refine or_congr Iff.rfl ?_;rw[cT];constructor
   .rintro⟨r,h1,rfl⟩;exact#[r,f8.mp h1,zZ]
   .rintro⟨r,h1,rfl⟩;exact#[r,f8.mpr h1,zZ]
def sub(x y:cn):Bool:=x.all λr=>y.contains r
inductive lQ(d:List V)(H:Hp)(Q:VK)(c:XK):Prop|mk:∀(a b:Ad) (x y:cn),d=[.ref a,.ref b]->H a=some (.tup (x.map nv))->H b=some (.tup (y.map nv))->x.length<=5->(∀e,Same H e->Q (.bl (sub x y)) e)->lQ d H Q c
def iC(a:LN)(x:cn):LN:=a.filter λu=>decide (u≠x)&&sub u x
def mT(a:LN)(u:cn):Bool:=a.any λv=>decide (v≠u)&&sub u v
def gA(a:LN)(x:cn):LN:=(iC a x).filter λu=> !mT (iC a x) u
inductive nJ(d:List V)(H:Hp)(Q:VK)(b:XK):Prop|mk:∀(a l:Ad) (x:cn) (bs:As) (c:LN),d=[.ref a,.ref l]->H a=some (.tup (x.map nv))->H l=some (.lst (bs.map .ref))->TupsAt H bs c->x.length<=5->c.length<=32->(∀e,Same H e->Q (.bl (mT c x)) e)->nJ d H Q b
inductive iH(T:Ad)(c:Pos)(e:List V)(H:Hp)(Q:VK)(d:XK):Prop|mk:∀(m p:Ad) (f:LN) (n:Nat) (x:cn),e=[.ref m,.ref p]->Mach H m f n->H p=some (.tup (x.map nv))->Tabs H->(∀D bs g a b,Keeps H b->Tabs b->L2.noT H D=none->b D=some (.lst (bs.map .ref))->TupsAt b bs g->FamOf f n a->g=gA a x->Q (.ref D) b)->iH T c e H Q d
def wG{H:Hp}{d:As}{b:LN}{f:cn->Bool}{i:Nat}{a:Ad}{t:cn}(T:TupsAt H d ((b.take i).filter f))(e:b[i]?=some t)(g:H a=some (.tup (t.map nv))):if f t=true then TupsAt H (d++[a]) ((b.take (i+1)).filter f)else TupsAt H d ((b.take (i+1)).filter f):=by
 have h:(b.take (i+1)).filter f=(b.take i).filter f++(if f t=true then[t]else[]):=by
  rw[lP,e,pW];cases c:f t with
  |true=>simp[c]
  |false=>simp[c]
 rw[h];cases c:f t with
 |true=>exact tu T g
 |false=>
  rw[wA (by decide),wA (by decide),gS];exact T
def Mm(F:Fun K "lies_in" "lies_in" AC f fd)(g:mg "all"=none):FnOk P w K mg base da 1 f fd [tR,sQ] lQ:=by
 refine F.ok Lf (λj A c s H p Q E t h=>?_)
 obtain⟨a,b,x,y,rfl,d,k,u,q⟩:=h;refine#[_,(cX (dR (eK (Ng zZ) zZ g boot_all (cL (ie (CompSc.to (N:=[tR,sQ]) (osc:=cN AC) (vs:=[uP]) {}) zZ zZ (xO (pv 0)) (λ_ _ _ _=>iE) (λ_ _ _ _=>(l8 (OpR.k (K:=K) (λK=>AI K false) Ku zZ) (pv 0) (pv 2) (by with_unfolding_all rfl)))) cH)))),?_];refine#[_,zZ,a,zZ,#[_,P2 d],v0 (f:=λv=>match v with|.int i=> .bl (y.contains i.toNat)|v=>v) (by rw[cu];exact small ()) (P2 d) (λv Q m q=>?_) (λl n=>?_)]
 .obtain⟨r,z,rfl⟩:=cT.mp m;refine#[_,zZ,_,zZ,b,_,zZ,.inr (P2 k),zZ,O1 _,?_]
  try dsimp only
  rw[yh];exact q
 .have e:(x.map nv).map (λv=>match v with|.int i=>V.bl (y.contains i.toNat)|v=>v)=(x.map λr=>y.contains r).map V.bl:=by
   rw[hK,hK];rfl
  try dsimp only
  rw[e];refine#[l,_,zZ,P1 cw,?_];have o:(x.map λr=>y.contains r).all id=sub x y:=by
   unfold sub;rw[z5];rfl
  try dsimp only
  rw[o];exact q _ (cM n _)
def PN(F:Fun K vD vD AR f fd)(L:dj P w K mg base "lies_in" 1 [tR,sQ] lQ)(M:mg "any"=none):FnOk P w K mg base da 3 f fd ["part",tI] nJ:=by
 refine F.ok O' (λO A n s H vs Q E r h=>?_)
 obtain⟨a,l,x,bs,j,rfl,U,t,T,Y,few,q⟩:=h;have hu:=r.units;have lb:=T.len;refine#[_,(cX (dR (eK (G7 zZ) zZ M boot_any (cL (ie (CompSc.to (N:=["part",tI]) (osc:=cN AR) (vs:=[sQ]) {}) zZ zZ (gF (pv 1)) (λ_ _ _ _=>iE) (λ_ _ _ _=>(GS (l8 (OpR.k (K:=K) (λK=>lC K true) (pU hu) zZ) (pv 0) (pv 1) (eY _)) (Gf (dv L r.m zZ (dr (cD (pv 1) (cD (pv 0) dt zZ) zZ))))))) cH)))),?_];refine#[_,zZ,l,zZ,#[_,P1 t],i0 (xs:=bs.map .ref) (λi k m=>Same H m/\k=((j.take i).map λv=>decide (v≠x)&&sub x v).map V.bl) (by rw[cu,dA];lia) #[Same.refl _,zZ] (λi k m hi p=>?_) (λi v k m y p=>?_) (λk m p c1 o=>?_)]
 .obtain⟨g,rfl⟩:=p;exact#[P1 (g _ _ t),by simp;lia]
 .obtain⟨g,rfl⟩:=p;rw[cV]at y;obtain⟨b,B,rfl⟩:=eW.mp y;have li:=(cK.mp B).1;obtain⟨u,C⟩:∃u,j[i]?=some u:=#[_,cA ()];have D:=g _ _ (T.is i b u B C);have G:=g _ _ U;have I:((j.take (i+1)).map λv=>decide (v≠x)&&sub x v).map V.bl=((j.take i).map λv=>decide (v≠x)&&sub x v).map V.bl++[V.bl (decide (u≠x)&&sub x u)]:=by
   rw[lP,C,eV,eV];rfl
  refine#[hO,lG ?_];refine#[_,zZ,_,zZ,b,a,0,_,_,zZ,zZ,iQ (P2 D),iQ (P2 G),by decide,λc J=>?_];by_cases e:u=x
  .have d:c=true:=J.mpr (dS.mpr e);subst d;refine#[_,zZ,fW #[g,?_]];rw[I,fZ (λz=>z e)];rfl
  .have d:c=false:=by
    cases c with
    |false=>rfl
    |true=>exact wC (dS.mp (J.mp zZ)) e
   subst d;refine#[_,zZ,gJ #[_,zZ,_,zZ,a,b,x,u,zZ,G,D,Y,λH4 g4=>#[g.trans g4,?_]]];rw[I,dW e,zT]
 .obtain⟨g,rfl⟩:=p;rw[cu,lb,ik];have e2:(j.map λv=>decide (v≠x)&&sub x v).any id=mT j x:=by
   unfold mT;rw[xH];rfl
  refine#[c1,_,zZ,P1 cw,?_]
  try dsimp only
  rw[e2];exact q _ (g.trans (cM o _))
def JI{T:Ad}(F:Fun K sM sM xw f fd)(kX:dj P w K mg base "family" 14 [sA] (fX T (#[49,40,49,93]:Pos)))(kM:dj P w K mg base "lies_in" 1 [tR,sQ] lQ)(qF:dj P w K mg base vD 3 ["part",tI] nJ):FnOk P w K mg base da 16 f fd [sA,sC] (iH T (#[49,40,49,93]:Pos)):=by
 refine F.ok rZ (λag A ab s H vs Q E hr h=>?_)
 obtain⟨m,p,ts,n,x,rfl,M,hp,hT,q⟩:=h;have hu:=hr.units;have n5:=M.n5;refine#[_,(cR (dE (i:=2) rZ.nd zZ Z0 (ie (CompSc.to (N:=[sA,sC,"within"]) (osc:=cN xw) (vs:=["part"]) {}) zZ zZ (gF (dv kX hr.m zZ (cL (pv 0) cH))) (λ_ _ _ _=>nN (PW.pt (vJ (gn (OpR.k (K:=K) (λK=>lC K true) (pU hu) zZ) (pv 0) (pv 2) (eY _)) (vH (pr (dv kM hr.m zZ (dr (cD (pv 0) (cD (pv 2) dt zZ) zZ)))))))) (λ_ _ _ _=>(pv 0)))) (cX (dR (ie (CompSc.to (N:=[sA,sC,"within"]) (osc:=cN xw) (vs:=["part"]) {}) zZ zZ (gF (pv 2)) (λ_ _ _ _=>nN (r4 (pr (dv qF hr.m zZ (dr (cD (pv 0) (cD (pv 3) dt zZ) zZ)))))) (λ_ _ _ _=>(pv 0)))))),?_];refine#[_,zZ,m,ts,n,zZ,M,hT,λl bs a H1 k1 T1 nl el Tf ff=>?_];have few:=ff.few M;have lb:=Tf.len;have ae:=k1 _ _ (nU hp);have l5:∀u∈a,u.length<=5:=λu h=>dy (oU n5 (ff.inU M h)) n5;refine#[l,zZ,#[_,P1 el],i0 (xs:=bs.map .ref) (λi k r=>Same H1 r/\∃d,k=d.map V.ref/\d.length<=i/\TupsAt r d ((a.take i).filter λu=>decide (u≠x)&&sub u x)) (by rw[cu,dA];lia) #[Same.refl _,[],zZ,cQ _,zZ,λi b u e=>by simp at e] (λi k r hi p=>?_) (λi v k r L p=>?_) (λk H2 p O af=>?_)]
 .obtain⟨g,d,rfl,e,_⟩:=p;exact#[P1 (g _ _ el),by rw[cu];exact e]
 .obtain⟨g,d,rfl,e,U⟩:=p;rw[cV]at L;obtain⟨b,Y,rfl⟩:=eW.mp L;have li:=(cK.mp Y).1;obtain⟨u,B⟩:∃u,a[i]?=some u:=#[_,cA ()];have C:=g _ _ (Tf.is i b u Y B);have hx:=g _ _ ae;refine#[hO,_,zZ,_,zZ,b,_,0,_,_,zZ,zZ,iQ (P2 C),iQ (P2 hx),by decide,λc hc=>#[_,zZ,?_]];by_cases ex:u=x
  .have G:c=true:=hc.mpr (dS.mpr ex);subst G;have z:=wG U B C;rw[fZ (λz=>z ex),Bool.false_and,wA (by decide)]at z;refine fW (fW #[g,d,zZ,(),z])
  .have G:c=false:=by
    cases c with
    |false=>rfl
    |true=>exact wC (dS.mp (hc.mp zZ)) ex
   subst G;refine gJ #[_,zZ,_,zZ,b,_,u,x,zZ,C,hx,l5 u (c8 B),λH4 I=>#[_,zZ,?_]];have z:=wG (U.same I) B (I _ _ C);rw[dW ex,zT]at z;cases c2:sub u x with
   |true=>
    rw[c2,wB zZ]at z;exact gJ #[_,zZ,g.trans I,d++[b],by simp,by simp;exact e,z]
   |false=>
    rw[c2,wA (by decide)]at z;exact fW #[g.trans I,d,zZ,(),z]
 obtain⟨g2,d,rfl,_,U⟩:=p;rw[cu,lb,ik]at U;have Tw:TupsAt H2 d (iC a x):=U;have kw:=cM af (.lst (d.map V.ref));have t:cq H2 O (.lst (d.map V.ref)) O=some (.lst (d.map V.ref)):=cw;have J:=Tw.same kw;have g3:=g2.trans kw;generalize cq H2 O (.lst (d.map V.ref))=H3 at kw t J g3|-;have lw:(iC a x).length<=32:=dy (iz _ _) few;have lc:=Tw.len;have aa:∀u∈iC a x,u∈a:=λu h=>(d8.mp h).1;refine#[_,zZ,O,zZ,#[_,P1 t],i0 (xs:=d.map .ref) (λi k r=>Same H3 r/\∃j,k=j.map V.ref/\j.length<=i/\TupsAt r j (((iC a x).take i).filter λu=> !mT (iC a x) u)) (by rw[cu,dA];lia) #[Same.refl _,[],zZ,cQ _,zZ,λi b u e=>by simp at e] (λi k r hi p=>?_) (λi v k r L p=>?_) (λk H4 p D hD=>?_)]
 .obtain⟨g,j,rfl,e,_⟩:=p;exact#[P1 (g _ _ t),by rw[cu];exact e]
 .obtain⟨g,j,rfl,e,Td⟩:=p;rw[cV]at L;obtain⟨b,Y,rfl⟩:=eW.mp L;have li:=(cK.mp Y).1;obtain⟨u,B⟩:∃u,(iC a x)[i]?=some u:=#[_,cA ()];have C:=g _ _ (J.is i b u Y B);refine#[hO,_,zZ,_,zZ,b,O,u,d,iC a x,zZ,C,g _ _ t,J.same g,l5 u (aa u (c8 B)),lw,λH5 g5=>#[_,zZ,?_]];have z:=wG (Td.same g5) B (g5 _ _ C);cases c2:mT (iC a x) u with
  |true=>
   rw[c2,wA (by decide)]at z;exact fW #[g.trans g5,j,zZ,(),z]
  |false=>
   rw[c2,wB (by decide)]at z;exact gJ #[_,zZ,g.trans g5,j++[b],by simp,by simp;exact e,z]
 obtain⟨I,j,rfl,_,Td⟩:=p;rw[cu,lc,ik]at Td;have kD:=cM hD (.lst (j.map V.ref));have gg:=g3.trans (I.trans kD);refine q D j _ a _ (k1.trans gg.keeps) (T1.same gg) ?_ cw (Td.same kD) ff rfl;cases y:L2.noT H D with
 |none=>rfl
 |some o=>
  have z:=(g3.trans I) _ _ (k1 _ _ y);rw[hD]at z;cases z
def Rch(ts:LN)(x y:cn):Prop:=∃word:cn,(∀l∈word,l<ts.length)/\cJ (cC ts) x word=y
open Classical in
noncomputable def fy (a:LN) (x y:cn):Bool:=decide (Rch a x y)
def cG{a:LN}{x y:cn}:fy a x y=true↔Rch a x y:=by
 unfold fy;exact @decide_eq_true_iff _ (Classical.propDecidable _)
def Rch.refl(ts:LN)(x:cn):Rch ts x x:=#[[],λ_ h=>(nomatch h),zZ]
def Rch.trans{ts:LN}{x y z:cn}(a:Rch ts x y)(b:Rch ts y z):Rch ts x z:=by
 obtain⟨u,c,rfl⟩:=a;obtain⟨v,d,rfl⟩:=b;refine#[u++v,λl e=>(dh.mp e).elim (c l) (d l),?_];unfold cJ;rw[nB]
def BK{a:LN}{x:cn}{b:TW}(T:Told (cC a) a.length x b)(y:cn):y∈b.map (·.1)↔Rch a x y:=by
 constructor
 .intro h;obtain⟨p,c,rfl⟩:=cT.mp h;obtain⟨d,e⟩:=T.run p c;exact#[p.2,d,e]
 .rintro⟨word,f,rfl⟩;obtain⟨u,g,_⟩:=T.least _ word zZ f;exact cT.mpr #[_,g,zZ]
abbrev WE:=Ad×TW×As
def gm(a:LN)(ys:List WE):List (List dq×V):=a3x (a.map λx=>(x,[])) (ys.map (·.1))
structure WB(H:Hp)(D:Ad)(ts:LN)(xs:LN)(ys:List WE):Prop where
 len:ys.length=xs.length
 each:∀(i:Nat) (x:cn) (y:WE),xs[i]?=some x->ys[i]?=some y->WordsAt H y.1 y.2.1 y.2.2/\Told (cC ts) ts.length x y.2.1/\y.1≠D
 nd:xs.Nodup
def WB.same{H c:Hp}{D:Ad}{d e:LN}{ys:List WE}(h:WB H D d e ys)(g:Same H c):WB c D d e ys:=#[h.len,λi x y f j=>let⟨a,b⟩:=h.each i x y f j;#[a.same g,b],h.nd]
def OP{H b:Hp}{D:Ad}{c:TW}{d:As}(W:WordsAt H D c d)(g:Keeps H b):WordsAt b D c d:=#[W.len,g _ _ (nU W.dict),λj a p e f=>g _ _ (nU (W.list j a p e f))]
def WB.keeps{H c:Hp}{D:Ad}{d e:LN}{ys:List WE}(h:WB H D d e ys)(g:Keeps H c):WB c D d e ys:=#[h.len,λi x y f j=>let⟨a,b⟩:=h.each i x y f j;#[OP a g,b],h.nd]
def xg{a:LN}{ys:List WE}(h:ys.length=a.length):(gm a ys).map (·.1)=a.map nk:=by
 unfold gm L2.a3x
 induction a generalizing ys with
 |nil=>rfl
 | cons x a b=>
  cases ys with
  |nil=>simp at h
  |cons y ys=>
   have z:=b (ys:=ys) (by simpa using h);simp only[List.map_cons,List.zipWith_cons_cons];rw[z]
def WB.off{H:Hp}{D:Ad}{e f:LN}{ys:List WE}{d:List (List dq×V)}{o:HO}(h:WB H D e f ys)(g:H D=some (.dT d)):WB (cq H D o) D e f ys:=by
 refine#[h.len,λi x y k m=>?_,h.nd];obtain⟨a,b,c⟩:=h.each i x y k m;refine#[#[a.len,by rw[cz c];exact a.dict,λj l p n q=>?_],b,c];have z:=a.list j l p n q;rw[cz (nE z g)];exact z
def DU(a:LN):((a.map λx=>((x,[]):cn×cn)).map (·.1))=a:=by
 rw[hK];exact List.map_id' a
def WB.get{H:Hp}{D b:Ad}{e c:LN}{ys:List WE}{x:cn}(h:WB H D e c ys)(k:Rd H D (.dT (gm c ys)))(l:x∈c)(m:H b=some (.tup (x.map nv))):∃W f j,DGet H D (.ref b) (some (.ref W))/\WordsAt H W f j/\Told (cC e) e.length x f/\∃i:Nat,c[i]?=some x/\ys[i]?=some (W,f,j):=by
 obtain⟨i,d⟩:=gy.mp l;have n:=(cK.mp d).1;have o:=h.len;obtain⟨y,g⟩:∃y,ys[i]?=some y:=#[_,cA ()];obtain⟨a,t,_⟩:=h.each i x y d g;have v:fH (gm c ys) (nk x)=some (.ref y.1):=Bs (p:=(x,[])) (by rw[DU];exact h.nd) (by rw[cV,d];rfl) (by rw[cV,g];rfl);exact#[y.1,y.2.1,y.2.2,.inr #[_,_,b,k,zZ,by rw[iu];exact m,v.symm],a,t,i,d,g]
def BE{H:Hp}{W c:Ad}{b:LN}{d:TW}{f:As}{x y:cn}(a:WordsAt H W d f)(t:Told (cC b) b.length x d)(g:H c=some (.tup (y.map nv))):∃o,DGet H W (.ref c) o/\o.isSome=fy b x y:=by
 refine#[_,.inr #[_,nk y,c,.inl a.dict,zZ,by rw[iu];exact g,zZ],?_];by_cases m:y∈d.map (·.1)
 .rw[cG.mpr ((BK t y).mp m)];obtain⟨p,h,rfl⟩:=cT.mp m;obtain⟨l,e,_⟩:=a.word t.keys h;rw[e];rfl
 .rw[vR m];cases z:fy b x y with
  |false=>rfl
  |true=>exact wC ((BK t y).mpr (cG.mp z)) m
noncomputable def de (ts a:LN) (x:cn):LN:=a.filter λy=>fy ts x y&&fy ts y x
noncomputable def cU (ts a:LN):im:=(a.filter λx=>(de ts a x).head? ==some x).map (de ts a)
def big(a:LN):LN:=a.filter λx=>decide (1<x.length)
inductive ez(T:Ad)(e:Pos)(h:List V)(H:Hp)(Q:VK)(f:XK):Prop|mk:∀(m:Ad) (g:LN) (n:Nat),h=[.ref m]->Mach H m g n->Tabs H->(∀D a d c,Keeps H c->Tabs c->L2.noT H D=none->FamOf g n a->c D=some (.dT (gm (big a) d))->WB c D g (big a) d->(∀y∈d,∀b∈y.2.2,L2.noT H b=none)->d.Pairwise (λp q=>∀b∈p.2.2,b∉q.2.2)->Q (.ref D) c)->ez T e h H Q f
inductive iK(d:List V)(H:Hp)(Q:VK)(c:XK):Prop|mk:∀(D p:Ad) (o:Obj) (e a:LN) (f:List WE) (x:cn),d=[.ref D,.ref p]->H D=some (.frz o (.dT (gm a f)))->WB H D e a f->H p=some (.tup (x.map nv))->x∈a->a.length<=32->(∀l bs b,Same H b->H l=none->b l=some (.lst (bs.map .ref))->TupsAt b bs (de e a x)->Q (.ref l) b)->iK d H Q c
def NZ{T:Ad}(F:Fun K uQ uQ CM f fd)(kX:dj P w K mg base "family" 14 [sA] (fX T (#[49,40,49,93]:Pos)))(jL:dj P w K mg base sS 10 [sA,sC] (dP T (#[49,40,49,93]:Pos)))(jA:mg "len"=none):FnOk P w K mg base da 16 f fd [sA] (ez T (#[49,40,49,93]:Pos)):=by
 refine F.ok kO (λau A ah s H vs Q E hr h=>?_)
 obtain⟨m,ts,n,rfl,M,hT,q⟩:=h;have hu:=hr.units;have ai:=lY hr;refine#[_,(cR (dE (i:=1) kO.nd zZ Z' yd) (cR (iG i4 zZ (gF (dv kX hr.m zZ (cL (pv 0) cH))) (gB (i:=2) kO.nd zZ Z') (cX (iq (gn yM (eK fS zZ jA fG (cL (pv 2) cH)) df (eY _)) (cX (qh ai (pv 1) (pv 2) (dv jL hr.m zZ (dr (cD (pv 0) (cD (pv 2) dt zZ) zZ))) zZ)) iA))) (cX (dR (pv 1))))),?_];intro D hD;have kD:=cM hD (.dT []);refine#[_,zZ,m,ts,n,zZ,M.same kD,hT.same kD,λso fs d H1 k1 T1 av aa Tf ff=>?_];have aj:=k1 _ _ (nU (cw:cq H D (.dT []) D=_));have ak:=kD.keeps.trans k1;have lf:=Tf.len;have few:=ff.few M;have al:d.Nodup:=ff.up.imp λ{a b} z e=>by
  subst e;rw[(ph gl d).irr]at z;cases z
 have ab:=FL hD
 let Pv:Nat->L2.St->Hp->Prop:=λi σ N=>Keeps H N/\Tabs N/\N so=some (.lst (fs.map .ref))/\TupsAt N fs d/\∃k o2,N D=some (.dT (gm (big (d.take i)) k))/\WB N D ts (big (d.take i)) k/\(∀y∈k,∀b∈y.2.2,L2.noT H b=none)/\k.Pairwise (λp q=>∀b∈p.2.2,b∉q.2.2)/\σ=[some (.ref m),some (.ref D),o2]
 refine#[so,zZ,#[_,P1 aa],yf (xs:=fs.map .ref) Pv #[ak,T1,aa,Tf,[],none,aj,#[zZ,λi x y e=>by simp[big]at e,List.nodup_nil],λ_ h=>(nomatch h),.nil,zZ] (λi σ N _ p=>P1 p.2.2.1) (λi v σ H2 hv p=>?_) (λσ H2 p=>?_)]
 .obtain⟨Y,T2,O,C,k,o2,r,B,nw,ap,rfl⟩:=p;rw[cV]at hv;obtain⟨b,eb,rfl⟩:=eW.mp hv;have li:=(cK.mp eb).1;obtain⟨x,ex⟩:∃x,d[i]?=some x:=#[_,cA ()];have hb:=C.is i b x eb ex;have mx:=c8 ex;have G:big (d.take (i+1))=big (d.take i)++(if 1<x.length then[x]else[]):=by
   unfold big;rw[lP,ex,pW];by_cases c:1<x.length
   .rw[wB c];simp[c]
   .rw[wA c];simp[c]
  refine#[_,zZ,b,_,zZ,.inr (P2 hb),_,_,zZ,zZ,_,zZ,jk (λc=>?_) (λc=>?_)]
  .have c1:1<x.length:=by
    have z:=gK c;rw[cu]at z;lia
   rw[wB c1]at G;refine#[_,zZ,_,zZ,m,b,ts,n,x,zZ,M.keeps Y,hb,ff.inU M mx,T2,λW ws as H3 k3 T3 Wd U TT=>?_];have t:=k3 _ _ (nU r);have am:=k3 _ _ (nU hb);have an:=B.keeps k3;have WD:W≠D:=λz=>by
    subst z;have z2:=U W (dX ..);rw[nU r]at z2;cases z2
   have xn:x∉big (d.take i):=λh=>by
    have h1:=(d8.mp h).1;obtain⟨j,ej⟩:=gy.mp h1;have lj:=(cK.mp ej).1;rw[hG]at lj;rw[BJ ()]at ej;have:=(ig () al).mp (ej.trans ex.symm)
    lia
   have vn:fH (gm (big (d.take i)) k) (nk x)=none:=vR (by rw[DU];exact xn);have lk:(gm (big (d.take i)) k).length<sizeLine:=by
    rw[<-cu (f:=(·.1)),xg B.len,cu,dA];have z1:(big (d.take i)).length<=(d.take i).length:=iz _ _;rw[hG]at z1;lia
   refine#[_,zZ,_,zZ,D,_,zZ,DPut.t t (by rw[iu];exact am) lk,?_];have ae:=k3 _ _ (nU O);have ao:TupsAt H3 fs d:=#[C.len,λi b u I J=>k3 _ _ (nU (C.is i b u I J))];have ek:iO (gm (big (d.take i)) k) (nk x) (.ref W)=gm (big (d.take (i+1))) (k++[(W,ws,as)]):=by
    rw[wL _ vn,G];unfold gm;rw[eV,eV];exact(CS (ws:=(big (d.take i)).map λx=>(x,[])) (as:=k.map (·.1)) (p:=(x,[])) (a:=W) (by simp[B.len])).symm
   have wo:=an.off (o:= .dT (gm (big (d.take (i+1))) (k++[(W,ws,as)]))) t;have Wo:WordsAt (cq H3 D (.dT (gm (big (d.take (i+1))) (k++[(W,ws,as)])))) W ws as:=#[Wd.len,by rw[cz WD];exact Wd.dict,λj l p h1 h2=>by
    have z:=Wd.list j l p h1 h2;rw[cz (nE z t)];exact z]
   rw[ek];refine#[λL o g=>?_,?_,?_,?_,k++[(W,ws,as)],_,cw,#[?_,λj x' y' I J=>?_,?_],?_,?_,zZ]
   .rw[cz λz=>?_]
    .exact(Y.trans k3) _ _ g
    .subst z;rw[ab]at g;cases g
   .exact T3.most λL u nd _ g=>by rw[cz (i5 g t λe=>nd _ e)];exact g
   .rw[cz (nE ae t)];exact ae
   .exact q0 ao t λ_ e=>nomatch e
   .rw[G,eh,eh,B.len];rfl
   .rw[G]at I;have hl:=B.len;by_cases hj:j<k.length
    .rw[fu ()]at I;rw[fu hj]at J;exact wo.each j x' y' I J
    .rw[fV ()]at I J;have z:j-k.length=0:=by
      have:=(cK.mp J).1;simp at this;lia
     rw[<-hl,z]at I;rw[z]at J;cases I;cases J;exact#[Wo,TT,WD]
   .rw[G,zf];refine#[B.nd,by simp,λa ha c hc e=>xn ?_];rw[cY.mp hc]at e;rw[<-e];exact ha
   .intro y hy L g
    rcases dh.mp hy with h|h
    .exact nw y h L g
    .rw[cY.mp h]at g;have z:=U L (.tail _ g);cases y2:L2.noT H L with
     |none=>rfl
     |some o=>
      have z3:=Y _ _ y2;rw[pI z3 (qw y2).2]at z;cases z
   .rw[iJ];refine#[ap,oS _ _,λp hp q' hq L g af=>?_];rw[cY.mp hq]at af;have z:=U L (.tail _ af);obtain⟨j,ej⟩:=gy.mp hp;have lj:=(cK.mp ej).1;have hl:=B.len;obtain⟨x',aq⟩:∃x',(big (d.take i))[j]?=some x':=#[_,cA ()];obtain⟨a',_⟩:=B.each j x' p aq ej;obtain⟨j2,ag⟩:=gy.mp g;have ar:=(cK.mp ag).1;have z2:=a'.list j2 L _ ag (cA (by rw[<-a'.len];exact ar));rw[nU z2]at z;cases z
  .have c1: ¬1<x.length:=by
    have z:=of_decide_eq_false (Bool.eq_false_iff.mpr c);rw[cu]at z;lia
   rw[wA c1,gS]at G;refine#[Y,T2,O,C,k,_,?_,?_,nw,ap,zZ]
   .rw[G];exact r
   .rw[G];exact B
 .obtain⟨Y,T2,O,C,k,o2,r,B,nw,ap,rfl⟩:=p;rw[cu,lf,ik]at r B;exact#[_,zZ,q D d k H2 Y T2 ab ff r B nw ap]
def Kv(F:Fun K vE vE yF f fd):FnOk P w K mg base da 1 f fd [sP,sC] iK:=by
 refine F.ok NV (λaa A G s H vs Q E T h=>?_)
 obtain⟨D,p,o,j,I,ys,x,rfl,k,n,U,hx,few,q⟩:=h;have hu:=T.units;have d:=lY T;refine#[_,(cX (dR (ie (CompSc.to (N:=[sP,sC]) (osc:=cN yF) (vs:=[sQ]) {}) zZ zZ (Gr (pv 0)) (λ_ _ _ _=>nN (PW.pt (vJ (ux (BO d (pv 0) (oW d (pv 1) (pv 2) (λ_ _=>rfl)))) (vH (ux (BO d (pv 2) (oW d (pv 1) (pv 0) (λ_ _=>rfl)))))))) (λ_ _ _ _=>(pv 0))))),?_];refine#[_,zZ,D,_,I,zZ,xg n.len,.inr #[o,k],λo' r fz=>?_];have e2:o'=o/\r=H:=by
  rcases fz with⟨e,rfl⟩|⟨e,_⟩
  .rw[k]at e;injection e with e
   injection e with e _
   exact#[e.symm,zZ]
  .rw[k]at e;cases e
 obtain⟨rfl,rfl⟩:=e2;have Y:Rd r D (.dT (gm I ys)):= .inr #[_,k];refine MW (xg n.len) (λi g v=>v=r/\∃c,g=c.map V.ref/\c.length<=i/\TupsAt r c ((I.take i).filter λy=>fy j x y&&fy j y x)) (by rw[dA];lia) #[zZ,[],zZ,cQ _,zZ,λi b u e=>by simp at e] (λi g v _ l=>?_) (λi a t g v et J l=>?_) (λg v l B m=>?_)
 .obtain⟨rfl,c,rfl,e,_⟩:=l;exact#[k,by rw[cu];exact e]
 .obtain⟨rfl,c,rfl,e,C⟩:=l;have z:=wG (f:=λy=>fy j x y&&fy j y x) C et J;obtain⟨W,ws,as,dg,wa,tt,_⟩:=n.get Y hx U;obtain⟨o1,d1,s1⟩:=BE wa tt J;have ht:=c8 et;obtain⟨W2,ab,ae,L,M,O,_⟩:=n.get Y ht J;obtain⟨o2,d2,s2⟩:=BE M O U;refine#[hO,_,zZ,_,zZ,_,zZ,D,_,zZ,dg,W,o1,zZ,d1,_,zZ,?_];rw[s1];cases B:fy j x t with
  |false=>
   rw[B,Bool.false_and,wA (by decide)]at z;exact fW (fW #[zZ,c,zZ,(),z])
  | true=>
   rw[B,zT]at z;refine gJ #[_,zZ,_,zZ,_,zZ,D,_,zZ,L,W2,o2,zZ,d2,_,zZ,?_];rw[s2];cases c2:fy j t x with
   |true=>
    rw[c2,wB zZ]at z;exact gJ #[_,zZ,zZ,c++[a],by simp,by simp;exact e,z]
   |false=>
    rw[c2,wA (by decide)]at z;exact fW #[zZ,c,zZ,(),z]
 .obtain⟨rfl,c,rfl,_,C⟩:=l;rw[ik]at C;have kc:=cM m (.lst (c.map V.ref));exact q B c _ kc m cw (C.same kc)
structure LsAt(H:Hp)(as:As)(cs:im):Prop where
 len:as.length=cs.length
 is:∀(i:Nat) (a:Ad) (c:LN),as[i]?=some a->cs[i]?=some c->∃bs:As,H a=some (.lst (bs.map .ref))/\TupsAt H bs c
def LsAt.same{H b:Hp}{d:As}{e:im}(h:LsAt H d e)(g:Same H b):LsAt b d e:=#[h.len,λi a c f j=>let⟨bs,k,l⟩:=h.is i a c f j;#[bs,g _ _ k,l.same g]]
def LsAt.off{H:Hp}{l:Ad}{g:List V}{o:HO}{b:As}{d:im}(h:LsAt H b d)(j:H l=some (.lst g))(no:l∉b):LsAt (cq H l o) b d:=#[h.len,λi a c f k=>by
 obtain⟨bs,m,n⟩:=h.is i a c f k;refine#[bs,?_,q0 n j λ_ e=>nomatch e];rw[cz λ(z:a=l)=>no (by rw[<-z];exact c8 f)];exact m]
def LsAt.snoc{H:Hp}{g:As}{f:im}{a:Ad}{c:LN}{bs:As}(h:LsAt H g f)(j:H a=some (.lst (bs.map .ref)))(T:TupsAt H bs c):LsAt H (g++[a]) (f++[c]):=by
 refine#[by simp[h.len],λi b v e d=>?_];have l:=h.len;by_cases k:i<f.length
 .rw[fu ()]at e d;exact h.is i b v e d
 .rw[fV ()]at e d;have z:i-f.length=0:=by
   have:=(cK.mp d).1;simp at this;lia
  rw[l,z]at e;rw[z]at d;cases e;cases d;exact#[bs,j,T]
def D0{ts a:LN}{x:cn}(b:x∈a):x∈de ts a x:=d8.mpr #[b,by rw[cG.mpr (Rch.refl ts x)];rfl]
inductive g9(g:List V)(H:Hp)(Q:VK)(d:XK):Prop|mk:∀(D:Ad) (h b:LN) (e:List WE),g=[.ref D]->H D=some (.dT (gm b e))->WB H D h b e->b.length<=32->(∀l o f c,Same (cq H D (.frz o (.dT (gm b e)))) c->H l=none->c l=some (.lst (f.map .ref))->LsAt c f (cU h b)->(∀a∈f,H a=none)->Q (.ref l) c)->g9 g H Q d
def JD(F:Fun K uN uN BP f fd)(qG:dj P w K mg base vE 1 [sP,sC] iK):FnOk P w K mg base da 3 f fd [sP] g9:=by
 refine F.ok kA (λaj A aa s H vs Q E hr h=>?_)
 obtain⟨D,g,d,v,rfl,hD,wb,few,q⟩:=h;have hu:=hr.units;have ak:=lY hr;refine#[_,(cR (dE (i:=1) kA.nd zZ Z' (f7 cH)) (cR (iG i4 zZ (Gr (pv 0)) (gB (i:=2) kA.nd zZ Z') (cR (dE (i:=3) kA.nd zZ Z' (dv qG hr.m zZ (dr (cD (pv 0) (cD (pv 2) dt zZ) zZ)))) (cX (iq (gn (ub hu) (dB gW (pv 3) df (λ_ _=>rfl)) (pv 2) (eY _)) (cX (lg (mI mG oz n' nY (pv 1) (cL (pv 3) cH)))) iA)))) (cX (dR (pv 1))))),?_];refine#[by show 0<=sizeLine;decide,λj m=>?_];have kf:=cM m (.lst []);have L:=kf _ _ hD;have M:j≠D:=(dH hD m).symm;refine#[_,zZ,D,_,d,zZ,xg wb.len,.inl L,λo H2 fz=>?_];have e2:H2=cq (cq H j (.lst [])) D (.frz o (.dT (gm d v))):=by
  rcases fz with⟨e,_⟩|⟨_,e⟩
  .rw[L]at e;cases e
  .exact e
 have gz:Same (cq H D (.frz o (.dT (gm d v)))) H2:=λb u I=>by
  rw[e2];by_cases z:b=D
  .subst z;rw[cw]at I|-;exact I
  .rw[cz z]at I|-;exact kf _ _ I
 have wz:WB (cq H D (.frz o (.dT (gm d v)))) D g d v:=wb.off hD;have ab:H2 j=some (.lst []):=by rw[e2,cz M,cw]
 have ae:cq H D (.frz o (.dT (gm d v))) j=none:=by rw[cz M];exact m
 clear e2 fz
 let Pv:Nat->L2.St->Hp->Prop:=λi T U=>Same (cq H D (.frz o (.dT (gm d v)))) U/\∃k o2 o3,U j=some (.lst (k.map .ref))/\j∉k/\(∀a∈k,H a=none)/\k.length<=i/\LsAt U k (((d.take i).filter λx=>(de g d x).head? ==some x).map (de g d))/\T=[some (.ref D),some (.ref j),o2,o3]
 refine IY (xg wb.len) Pv #[gz,[],none,none,ab,by simp,(λ_ h=>nomatch h),Nat.le_refl _,#[zZ,λi a c e=>by simp at e],zZ] (λi T U _ p=>p.1 _ _ cw) (λi a x T H3 ex Y p=>?_) (λT H3 p=>?_)
 .obtain⟨B,k,o2,o3,n,C,r,af,N,rfl⟩:=p;have mx:=c8 ex;refine#[_,zZ,_,zZ,D,a,o,g,d,v,x,zZ,B _ _ cw,wz.same B,Y,mx,few,λl bs H4 J nl el Tl=>?_];have lb:=Tl.len;have self:=D0 (ts:=g) mx;obtain⟨y,rest,ea⟩:∃y rest,de g d x=y::rest:=by
   cases z:de g d x with
   |nil=>rw[z]at self;cases self
   |cons y rest=>exact#[y,rest,zZ]
  have b1:0<bs.length:=by
   rw[lb,ea];simp
  obtain⟨b,eb⟩:∃b,bs[0]?=some b:=#[_,cA b1];have I:H4 b=some (.tup (y.map nv)):=Tl.is 0 b y eb (by rw[ea];rfl);have ag:j8 (bs.map V.ref) ((0:Nat):Int)=some (.ref b):=jq (by rw[cV,eb];rfl);have nx:((d.take (i+1)).filter λx=>(de g d x).head? ==some x).map (de g d)=((d.take i).filter λx=>(de g d x).head? ==some x).map (de g d)++(if y=x then[de g d x]else[]):=by
   rw[lP,ex,pW,eV];by_cases c:y=x
   .rw[wB c];simp[ea,c]
   .rw[wA c];simp[ea,c]
  refine#[_,zZ,l,_,_,_,zZ,zZ,P1 el,ag,_,zZ,b,a,0,_,_,zZ,zZ,iQ (P2 I),iQ (P2 (J _ _ Y)),by decide,λc hc=>#[_,zZ,?_]];have t:=J _ _ n;have ah:l≠j:=(dH n nl).symm;have ai:H l=none:=by
   cases z:H l with
   |none=>rfl
   | some u=>
    by_cases e:l=D
    .have O:=B _ _ (cw (H:=H) (a:=D) (o:= .frz o (.dT (gm d v))));rw[<-e,nl]at O;cases O
    .have O:=B l u (by rw[cz e];exact z);rw[nl]at O;cases O
  by_cases e:y=x
  .have G:c=true:=hc.mpr (dS.mpr e);subst G;rw[wB e]at nx;refine gJ #[_,zZ,.inl #[zZ,_,P1 t],_,zZ,j,_,_,zZ,zZ,t,by rw[cu,dA];have:=(cK.mp ex).1;lia,?_];have L4:=(N.same J).snoc el Tl;have na:j∉k++[l]:=λz=>(dh.mp z).elim C λz=>ah (cY.mp z).symm
   refine#[i6 (B.trans J) ae,k++[l],_,_,by rw[cw,eV];rfl,na,(λa Y=>(dh.mp Y).elim (r a) λz=>by rw[cY.mp z];exact ai),by rw[eh];simp;lia,?_,zZ];rw[nx];exact L4.off t na
  .have G:c=false:=by
    cases c with
    |false=>rfl
    |true=>exact wC (dS.mp (hc.mp zZ)) e
   subst G;rw[wA e,gS]at nx;refine fW #[B.trans J,k,_,_,t,C,r,(),?_,zZ];rw[nx];exact N.same J
 .obtain⟨B,k,o2,o3,n,C,r,af,N,rfl⟩:=p;rw[ik]at N;exact#[_,zZ,q j o k H3 B m n N r]
noncomputable def eA (a:LN) (b:im) (c:LN):Bool:=b.any λd=>decide (d≠c)&&fy a (d.headD []) (c.headD [])
def yI{K:P3}{H:Hp}{a:Ad}{bs:As}{c:LN}{n:Nat}(f:H a=some (.lst (bs.map .ref)))(T:TupsAt H bs c):Rep K H (n+2) (.lst (c.map λu=> .tup (ir u))) (.ref a):=by
 refine .lst (P1 f) (by rw[cu,cu,T.len]) λi d v b e=>?_;rw[cV]at b e;obtain⟨p,g,rfl⟩:=eW.mp b;obtain⟨a,h,rfl⟩:=eW.mp e;exact iQ (P2 (T.is i a p h g))
def uk{H:Hp}{bs:As}{c:LN}(T:TupsAt H bs c)(ne:c≠[]):∃b,j8 (bs.map V.ref) 0=some (.ref b)/\H b=some (.tup ((c.headD []).map nv))/\c.headD []∈c:=by
 have d:=T.len;obtain⟨y,rest,e⟩:∃y rest,c=y::rest:=by
  cases c with
  |nil=>exact wC zZ ne
  |cons y rest=>exact#[y,rest,zZ]
 subst e;obtain⟨b,a⟩:∃b,bs[0]?=some b:=#[_,cA (by rw[d];simp)];have z:j8 (bs.map V.ref) ((0:Nat):Int)=some (.ref b):=jq (by rw[cV,a];rfl);exact#[b,z,T.is 0 b y a zZ,dX ..]
inductive iW(g:List V)(H:Hp)(Q:VK)(e:XK):Prop|mk:∀(D a l:Ad) (h f:LN) (i:List WE) (c:LN) (b:im) (bs j:As),g=[.ref D,.ref a,.ref l]->Rd H D (.dT (gm f i))->WB H D h f i->H a=some (.lst (bs.map .ref))->TupsAt H bs c->H l=some (.lst (j.map .ref))->LsAt H j b->c≠[]->(∀d∈b,d≠[]/\∀x∈d,x∈f)->b.length<=32->(∀k,Same H k->Q (.bl (eA h b c)) k)->iW g H Q e
def LZ(F:Fun K "is_led_to" "is_led_to" zQ f fd)(rN:mg "any"=none):FnOk P w K mg base da 1 f fd [sP,tI,tL] iW:=by
 refine F.ok Nu (λaa A r s H vs Q E M h=>?_)
 obtain⟨D,a,l,j,xs,ys,c,k,bs,as,rfl,rd,wb,O,T,U,L,cne,t,few,q⟩:=h;have hu:=M.units;have m:=lY M;have la:=L.len;obtain⟨b0,u,x,_⟩:=uk T cne;refine#[_,(cX (dR (eK (G7 zZ) zZ rN boot_any (cL (ie (CompSc.to (N:=[sP,tI,tL]) (osc:=cN zQ) (vs:=[sQ]) {}) zZ zZ (gF (pv 2)) (λ_ _ _ _=>iE) (λ_ _ _ _=>(GS (l8 (OpR.k (K:=K) (λK=>lC K true) (pU hu) zZ) (pv 0) (pv 2) (eY _)) (Gf (NW (BO m (dB (IxR.k (K:=K) mj gW zZ) (pv 2) df (λ_ _=>rfl)) (oW m (pv 1) (dB (IxR.k (K:=K) mj gW zZ) (pv 0) df (λ_ _=>rfl)) (λ_ _=>rfl)))))))) cH)))),?_];refine#[_,zZ,l,zZ,#[_,P1 U],i0 (xs:=as.map .ref) (λi b n=>n=H/\b=((k.take i).map λd=>decide (d≠c)&&fy j (d.headD []) (c.headD [])).map V.bl) (by rw[cu,dA];lia) #[zZ,zZ] (λi b n hi p=>?_) (λi v b n Y p=>?_) (λb n p c1 y=>?_)]
 .obtain⟨rfl,rfl⟩:=p;exact#[P1 U,by simp;lia]
 .obtain⟨rfl,rfl⟩:=p;rw[cV]at Y;obtain⟨e,ee,rfl⟩:=eW.mp Y;have li:=(cK.mp ee).1;obtain⟨d,B⟩:∃d,k[i]?=some d:=#[_,cA ()];obtain⟨ds,he,Td⟩:=L.is i e d ee B;obtain⟨C,dx⟩:=t d (c8 B);obtain⟨b1,G,I,m1⟩:=uk Td C;have nx:((k.take (i+1)).map λd=>decide (d≠c)&&fy j (d.headD []) (c.headD [])).map V.bl=((k.take i).map λd=>decide (d≠c)&&fy j (d.headD []) (c.headD [])).map V.bl++[V.bl (decide (d≠c)&&fy j (d.headD []) (c.headD []))]:=by
   rw[lP,B,eV,eV];rfl
  refine#[hO,lG ?_];refine#[_,zZ,_,zZ,e,a,1,_,_,zZ,zZ,yI he Td,yI O T,by decide,λJ hc=>?_];by_cases o:d=c
  .have g:J=true:=hc.mpr (by rw[o]);subst g;refine#[_,zZ,fW #[zZ,?_]];rw[nx,fZ (λz=>z o)];rfl
  .have g:J=false:=by
    cases J with
    |false=>rfl
    |true=>exact wC (xx (hc.mp zZ)) o
   subst g;obtain⟨W,ws,wa,dg,wt,tt,_⟩:=wb.get rd (dx _ m1) I;obtain⟨o1,d1,s1⟩:=BE wt tt x;refine#[_,zZ,gJ #[_,zZ,a,_,_,_,zZ,zZ,P1 O,u,_,zZ,_,zZ,e,_,_,_,zZ,zZ,P1 he,G,D,_,zZ,dg,W,o1,zZ,d1,zZ,?_]];rw[nx,dW o,zT,s1]
 .obtain⟨rfl,rfl⟩:=p;rw[cu,la,ik];have e2:(k.map λd=>decide (d≠c)&&fy j (d.headD []) (c.headD [])).any id=eA j k c:=by
   unfold eA;rw[xH];rfl
  refine#[c1,_,zZ,P1 cw,?_]
  try dsimp only
  rw[e2];exact q _ (cM y _)
inductive Ord (ts:LN):im->List LN->Prop
 |nil:Ord ts [] []
 |cons {cs told:im} {s:LN} (h:(cs.filter λc=> !eA ts cs c).head?=some s) (r:Ord ts (cs.filter λc=>decide (c≠s)) told):Ord ts cs (s::told)
def yB(a:LN)(b:im):Prop:=∀c∈b,∀d∈b,fy a (c.headD []) (d.headD [])=true->fy a (d.headD []) (c.headD [])=true->c=d
def ER{a:Type}{xs:List a}{p q:a->Bool}(h:∀z∈xs,p z=true->q z=true)(e:∃z∈xs,q z=true/\p z=false):xs.countP p<xs.countP q:=by
 induction xs with
 |nil=>
  obtain⟨z,hz,_⟩:=e;cases hz
 | cons x xs d=>
  rw[Bk,Bk];have mono:xs.countP p<=xs.countP q:=List.countP_mono_left λz hz f=>h z (.tail _ hz) f;obtain⟨z,hz,b,c⟩:=e
  rcases dL.mp hz with rfl|hz
  .rw[b,c];simp;lia
  .have:=d (λz hz=>h z (.tail _ hz)) #[z,hz,b,c];have g:=h x (dX ..);cases i:p x with
   |true=>
    rw[g i];simp;lia
   |false=>
    simp;split<;>lia
theorem Hj{a:LN}{b:im}(un:yB a b):∀(k:Nat) (s:LN),s∈b->b.countP (λt=>fy a (t.headD []) (s.headD []))<=k->∃s∈b,eA a b s=false
 |0,s,e,h=>by
  have z:0<b.countP (λt=>fy a (t.headD []) (s.headD [])):=List.countP_pos_iff.mpr #[s,e,cG.mpr (Rch.refl a _)];lia
 | k+1,s,e,h=>by
  cases c:eA a b s with
  |false=>exact#[s,e,c]
  | true=>
   obtain⟨d,f,g⟩:=zN.mp c;rw[jt,zq]at g;obtain⟨ne,r⟩:=g;have lt:=ER (xs:=b) (p:=λt=>fy a (t.headD []) (d.headD [])) (q:=λt=>fy a (t.headD []) (s.headD [])) (λz _ i=>cG.mpr ((cG.mp i).trans (cG.mp r))) #[s,e,cG.mpr (Rch.refl a _),by
    cases z:fy a (s.headD []) (d.headD [])with
    |false=>rfl
    |true=>exact wC (un d f s e r z) ne]
   exact Hj un k d f ()
def Fe{H:Hp}{d as:As}{b:im}{f:LN->Bool}{i:Nat}{a:Ad}{c:LN}(L:LsAt H d ((b.take i).filter f))(g:b[i]?=some c){bs:As}(h:H a=some (.lst (bs.map .ref)))(T:TupsAt H bs c):if f c=true then LsAt H (d++[a]) ((b.take (i+1)).filter f)else LsAt H d ((b.take (i+1)).filter f):=by
 have e:(b.take (i+1)).filter f=(b.take i).filter f++(if f c=true then[c]else[]):=by
  rw[lP,g,pW];cases z:f c with
  |true=>simp[z]
  |false=>simp[z]
 by_cases z:f c=true
 .rw[wB z,e,wB z];exact L.snoc h T
 .rw[wA z,e,wA z,gS];exact L
inductive fO(k:List V)(H:Hp)(Q:VK)(f:XK):Prop|mk:∀(D l:Ad) (g h:LN) (m:List WE) (c:im) (i:As),k=[.ref D,.ref l]->Rd H D (.dT (gm h m))->WB H D g h m->H l=some (.lst (i.map .ref))->LsAt H i c->(∀d∈c,d≠[]/\∀x∈d,x∈h)->yB g c->c.length<=32->(∀j b told e,Same H e->H j=none->e j=some (.lst (b.map .ref))->LsAt e b told->Ord g c told->told.length<=32->(∀d∈told,d∈c)->(∀a∈b,a∈i)->Q (.ref j) e)->fO k H Q f
def GH{H b:Hp}{a:Ad}{u:HO}(h:Rd H a u)(g:Same H b):Rd b a u:=h.elim (λe=> .inl (g _ _ e)) λ⟨o,e⟩=> .inr #[o,g _ _ e]
def Ju(F:Fun K uL uL wX f fd)(qN:dj P w K mg base "is_led_to" 1 [sP,tI,tL] iW):FnOk P w K mg base da 3 f fd [sP,tL] fO:=by
 refine F.ok jV (λaT A aJ s H vs Q E hr h=>?_)
 obtain⟨D,l0,M,xs,ys,aa,ab,rfl,rd,wb,av,L0,aK,un,few,q⟩:=h;have hu:=hr.units;have aU:=lY hr;refine#[_,(cR (dE (i:=2) jV.nd zZ Z' (f7 cH)) (cR (wN i4 (Ap (pv 1) (λ_=>rfl)) (cR (dE (i:=3) jV.nd zZ Z0 (ie (CompSc.to (N:=[sP,tL,"told","free"]) (osc:=cN wX) (vs:=[tI]) {}) zZ zZ (gF (pv 1)) (λ_ _ _ _=>nN (r4 (pr (dv qN hr.m zZ (dr (cD (pv 1) (cD (pv 0) (cD (pv 2) dt zZ) zZ) zZ)))))) (λ_ _ _ _=>(pv 0)))) (cR (lg (mI mG oz n' nY (pv 2) (cL (dB gW (pv 3) df (λ_ _=>rfl)) cH))) (cX (dE (i:=1) jV.nd zZ Z0 (ie (CompSc.to (N:=[sP,tL,"told","free"]) (osc:=cN wX) (vs:=[tI]) {}) zZ zZ (gF (pv 1)) (λ_ _ _ _=>nN (gn (OpR.k (K:=K) (λK=>lC K true) (pU hu) zZ) (pv 0) (dB (IxR.k (K:=K) mj gW zZ) (pv 4) df (λ_ _=>rfl)) (eY _))) (λ_ _ _ _=>(pv 0)))))))) (cX (dR (pv 2))))),?_];refine#[by show 0<=sizeLine;decide,λt O=>?_];have kf:=cM O (.lst []);have aw:t∉ab:=λz=>by
  obtain⟨j,ej⟩:=gy.mp z;have lj:=(cK.mp ej).1;obtain⟨bs,e,_⟩:=L0.is j t _ ej (cA (by rw[<-L0.len];exact lj));rw[O]at e;cases e
 let Wv:Nat->L2.St->Hp->Prop:=λm σ C=>Same H C/\∃l B n k told o3,C l=some (.lst (B.map .ref))/\LsAt C B n/\l≠t/\t∉B/\(∀c∈n,c∈aa)/\C t=some (.lst (k.map .ref))/\LsAt C k told/\t∉k/\(∀c∈told,c∈aa)/\told.length+n.length<=32/\(∀a∈B,a∈ab)/\(∀a∈k,a∈ab)/\(∀rest,Ord M n rest->Ord M aa (told++rest))/\m=n.length/\σ=[some (.ref D),some (.ref l),some (.ref t),o3]
 refine#[Wv,#[_,kf,l0,ab,aa,[],[],none,kf _ _ av,L0.same kf,dH av O,aw,λc h=>h,cw,#[zZ,λi a c e=>by simp at e],by simp,λc h=>(nomatch h),by simpa using few,(λ_ h=>h),(λ_ h=>nomatch h),λrest h=>h,zZ,zZ],λm σ H1 p=>?_];obtain⟨g1,l,B,n,k,told,o3,el,L,aL,ak,G,al,am,aM,ag,aV,ia,ax,ah,hm,rfl⟩:=p;have la:=L.len;have aW:=am.len;refine#[_,zZ,!(B.map V.ref).isEmpty,.inl #[_,P1 el,zZ],?_];by_cases an:n=[]
 .subst an;have e:B=[]:=pP.mp la;subst e;rw[wA (by simp)];have od:=ah [] .nil;rw[gS]at od;exact#[_,zZ,q t k told H1 g1 O al am od () ag ax]
 have ne:B≠[]:=λz=>an (pP.mp (by rw[<-la,z];rfl));have c1:(!(B.map V.ref).isEmpty)=true:=by
  cases B with
  |nil=>exact wC zZ ne
  |cons=>rfl
 rw[c1];refine gJ ?_;refine#[λay C=>∃m',m'<m/\Wv m' ay C,λay C h=>h,?_];have ai:∀d∈n,d≠[]/\∀x∈d,x∈xs:=λd hd=>aK d (G d hd);have aN:yB M n:=λc hc d hd=>un c (G c hc) d (G d hd);have aO:=wb.same g1;have aP:=GH rd g1;refine#[_,zZ,l,zZ,#[_,P1 el],i0 (xs:=B.map .ref) (λi u C=>Same H1 C/\∃r,u=r.map V.ref/\r.length<=i/\(∀e∈r,e∈B)/\LsAt C r ((n.take i).filter λc=> !eA M n c)) (by rw[cu,dA];lia) #[Same.refl _,[],zZ,cQ _,λ_ h=>(nomatch h),#[zZ,λi a c e=>by simp at e]] (λi u C hi p=>?_) (λi v u C hv p=>?_) (λu H2 p fr ao=>?_)]
 .obtain⟨g,r,rfl,e,_⟩:=p;exact#[P1 (g _ _ el),by rw[cu];exact e]
 .obtain⟨g,r,rfl,e,sb,Le⟩:=p;rw[cV]at hv;obtain⟨a,ea,rfl⟩:=eW.mp hv;have li:=(cK.mp ea).1;obtain⟨c,ec⟩:∃c,n[i]?=some c:=#[_,cA ()];obtain⟨bs,ha,Ta⟩:=(L.same g).is i a c ea ec;have mc:=c8 ec;refine#[hO,_,zZ,_,zZ,_,zZ,D,a,l,M,xs,ys,c,n,bs,B,zZ,GH aP g,aO.same g,ha,Ta,g _ _ el,L.same g,(ai c mc).1,ai,(),λH4 g4=>#[_,zZ,?_]];have z:=Fe (as:=B) (f:=λc=> !eA M n c) (Le.same g4) ec (g4 _ _ ha) (Ta.same g4);cases c2:eA M n c with
  |false=>
   rw[c2,wB (show(!false)=true from rfl)]at z;refine gJ #[_,zZ,g.trans g4,r++[a],by simp,by simp;exact e,λe' he=>?_,z];exact(dh.mp he).elim (sb e') λh=>by rw[cY.mp h];exact c8 ea
  |true=>
   rw[c2,wA (by decide)]at z;exact fW #[g.trans g4,r,zZ,(),sb,z]
 obtain⟨g2,r,rfl,_,sb,Le⟩:=p;rw[cu,la,ik]at Le;have k3:=cM ao (.lst (r.map V.ref));have ap:cq H2 fr (.lst (r.map V.ref)) fr=some (.lst (r.map V.ref)):=cw;have az:fr≠t:=(dH (g2 _ _ al) ao).symm;have aX:fr≠l:=(dH (g2 _ _ el) ao).symm;have J:=g2.trans k3;have aq:=Le.same k3;generalize cq H2 fr (.lst (r.map V.ref))=H3 at k3 ap J aq|-;obtain⟨s0,aQ,aR⟩:∃s∈n,eA M n s=false:=by
  cases n with
  |nil=>exact wC zZ an
  |cons c n=>exact Hj aN _ c (dX ..) (cQ _)
 have mf:s0∈n.filter λc=> !eA M n c:=d8.mpr #[aQ,by rw[aR];rfl];obtain⟨s,hs⟩:∃s,(n.filter λc=> !eA M n c).head?=some s:=by
  cases z:n.filter λc=> !eA M n c with
  |nil=>rw[z]at mf;cases mf
  |cons y ys=>exact#[y,zZ]
 have ms:s∈n:=(d8.mp (List.mem_of_mem_head? hs)).1;have aA:(n.filter λc=> !eA M n c)[0]?=some s:=by rw[<-List.head?_eq_getElem?];exact hs
 have le:=aq.len;obtain⟨a,ea⟩:∃a,r[0]?=some a:=#[_,cA (by rw[le];exact(cK.mp aA).1)];have aB:j8 (r.map V.ref) ((0:Nat):Int)=some (.ref a):=jq (by rw[cV,ea];rfl);obtain⟨bs,ha,Ta⟩:=aq.is 0 a s ea aA;have aC:=sb a (c8 ea);have aD:a≠t:=λz=>ak (z▸aC);have I:=J _ _ al;refine#[_,zZ,.inl #[zZ,_,P1 I],_,zZ,fr,_,_,_,zZ,zZ,P1 ap,aB,t,_,_,zZ,zZ,I,by rw[cu,dA];lia,?_];have g4:Same H (cq H3 t (.lst (k.map V.ref++[.ref a]))):=i6 (g1.trans J) O;have aE:t∉k++[a]:=λz=>(dh.mp z).elim aM λz=>aD (cY.mp z).symm;have L4:=((am.same J).snoc ha Ta).off (o:= .lst (k.map V.ref++[.ref a])) I aE;have aF:=(L.same J).off (o:= .lst (k.map V.ref++[.ref a])) I ak;have T:cq H3 t (.lst (k.map V.ref++[.ref a])) t=some (.lst ((k++[a]).map V.ref)):=by rw[cw,eV];rfl
 have ar:cq H3 t (.lst (k.map V.ref++[.ref a])) l=some (.lst (B.map V.ref)):=by
  rw[cz aL];exact J _ _ el
 have aj:cq H3 t (.lst (k.map V.ref++[.ref a])) fr=some (.lst (r.map V.ref)):=by
  rw[cz az];exact ap
 have aG:cq H3 t (.lst (k.map V.ref++[.ref a])) a=some (.lst (bs.map V.ref)):=by
  rw[cz aD];exact ha
 have aH:TupsAt (cq H3 t (.lst (k.map V.ref++[.ref a]))) bs s:=q0 Ta I λ_ e=>nomatch e;generalize cq H3 t (.lst (k.map V.ref++[.ref a]))=H4 at g4 L4 aF T ar aj aG aH|-;refine#[_,zZ,l,zZ,#[_,P1 ar],i0 (xs:=B.map .ref) (λi u C=>C=H4/\∃r,u=r.map V.ref/\r.length<=i/\(∀e∈r,e∈B)/\LsAt H4 r ((n.take i).filter λc=>decide (c≠s))) (by rw[cu,dA];lia) #[zZ,[],zZ,cQ _,λ_ h=>(nomatch h),#[zZ,λi a c e=>by simp at e]] (λi u C hi p=>?_) (λi v u C hv p=>?_) (λu H5 p wl aI=>?_)]
 .obtain⟨rfl,r,rfl,e,_⟩:=p;exact#[P1 ar,by rw[cu];exact e]
 .obtain⟨rfl,U,rfl,e,Y,ae⟩:=p;rw[cV]at hv;obtain⟨b,eb,rfl⟩:=eW.mp hv;have li:=(cK.mp eb).1;obtain⟨c,ec⟩:∃c,n[i]?=some c:=#[_,cA ()];obtain⟨ds,hb,Tb⟩:=aF.is i b c eb ec;have z:=Fe (as:=B) (f:=λc=>decide (c≠s)) ae ec hb Tb;refine#[hO,_,zZ,_,zZ,fr,_,_,_,zZ,zZ,P1 aj,aB,b,a,1,_,_,zZ,zZ,yI hb Tb,yI aG aH,by decide,λcc hc=>#[_,zZ,?_]];by_cases af:c=s
  .have au:cc=true:=hc.mpr (by rw[af]);subst au;rw[fZ (λz=>z af),wA (by decide)]at z;exact fW #[zZ,U,zZ,(),Y,z]
  .have au:cc=false:=by
    cases cc with
    |false=>rfl
    |true=>exact wC (xx (hc.mp zZ)) af
   subst au;rw[dW af,wB zZ]at z;refine gJ #[_,zZ,zZ,U++[b],by simp,by simp;exact e,λe' he=>?_,z];exact(dh.mp he).elim (Y e') λh=>by rw[cY.mp h];exact c8 eb
 obtain⟨rfl,U,rfl,_,Y,ae⟩:=p;rw[cu,la,ik]at ae;have k5:=cM aI (.lst (U.map V.ref));have less:(n.filter λc=>decide (c≠s)).length<n.length:=by
  rw[<-CA];have z:=ER (xs:=n) (p:=λc=>decide (c≠s)) (q:=λ_=>true) (λ_ _ _=>rfl) #[s,ms,zZ,fZ λz=>z zZ];rw[List.countP_true]at z;exact z
 refine#[(n.filter λc=>decide (c≠s)).length,(),g4.trans k5,wl,U,n.filter λc=>decide (c≠s),k++[a],told++[s],_,cw,ae.same k5,(dH T aI).symm,λz=>ak (Y _ z),λc hc=>G c (d8.mp hc).1,k5 _ _ T,L4.same k5,aE,λc hc=>(dh.mp hc).elim (ag c) λh=>by rw[cY.mp h];exact G s ms,by rw[eh];simp only[List.length_singleton];lia,(λb hb=>ia b (Y b hb)),(λb hb=>(List.mem_append.mp hb).elim (ax b) λz=>by rw[List.mem_singleton.mp z];exact ia a aC),λrest aS=>?_,zZ,zZ];rw[f'];exact ah _ (.cons hs aS)
def Ox{H b:Hp}{a:Ad}{u:HO}(h:Rd H a u)(no:∀c,u≠ .tbl c)(g:Keeps H b):Rd b a u:=h.elim (λe=> .inl (g _ _ (pI e no))) λ⟨o,e⟩=> .inr #[o,g _ _ (nU e)]
def pZ{H a:Hp}{bs:As}{c:LN}(T:TupsAt H bs c)(g:Keeps H a):TupsAt a bs c:=#[T.len,λi b u d e=>g _ _ (nU (T.is i b u d e))]
def LsAt.keeps{H b:Hp}{d:As}{e:im}(h:LsAt H d e)(g:Keeps H b):LsAt b d e:=#[h.len,λi a c f j=>let⟨bs,k,l⟩:=h.is i a c f j;#[bs,g _ _ (nU k),pZ l g]]
def WB.off2{H:Hp}{D l:Ad}{d e:LN}{ys:List WE}{m:List V}{o:HO}(h:WB H D d e ys)(n:H l=some (.lst m))(no:∀y∈ys,l∉y.2.2):WB (cq H l o) D d e ys:=by
 refine#[h.len,λi x y q f=>?_,h.nd];obtain⟨a,b,c⟩:=h.each i x y q f;refine#[#[a.len,by rw[cz (nE a.dict n)];exact a.dict,λj g p k r=>?_],b,c];rw[cz λ(z:g=l)=>no y (c8 f) (by rw[<-z];exact c8 k)];exact a.list j g p k r
def fR{ts b:LN}{c:LN}(h:c∈cU ts b):c≠[]/\c=de ts b (c.headD [])/\c.headD []∈b/\∀x∈c,x∈b/\Rch ts (c.headD []) x/\Rch ts x (c.headD []):=by
 obtain⟨x,g,rfl⟩:=cT.mp h;obtain⟨f,i⟩:=d8.mp g;have e:(de ts b x).headD []=x:=by
  have z:(de ts b x).head?=some x:=eq_of_beq i;cases y:de ts b x with
  |nil=>rw[y]at z;cases z
  |cons a l=>
   rw[y]at z;injection z with z
 refine#[λz=>?_,by rw[e],by rw[e];exact f,λy j=>?_]
 .have s:=D0 (ts:=ts) f;rw[z]at s;cases s
 .obtain⟨k,d⟩:=d8.mp j;rw[jt]at d;rw[e];exact#[k,cG.mp d.1,cG.mp d.2]
def Ll(e i:LN):yB e (cU e i):=λc j d k f g=>by
 obtain⟨_,l,_⟩:=fR j;obtain⟨_,m,_⟩:=fR k;rw[l,m];generalize c.headD []=x at f g;generalize d.headD []=y at f g;refine uw λz _=>?_;have go:∀{x y:cn},fy e x y=true->fy e y x=true->(fy e x z&&fy e z x)=true->(fy e y z&&fy e z y)=true:=λ{x y} a b h=>by
  rw[jt]at h|-;exact#[cG.mpr ((cG.mp b).trans (cG.mp h.1)),cG.mpr ((cG.mp h.2).trans (cG.mp a))]
 rw[kh];exact#[go f g,go g f]
def LevAt(H:Hp)(l:Ad)(f e:LN)(h:LN)(j:List WE)(a:Ad)(c:LN):Prop:=∃(s t v:Ad) (bs g d:As) (i:Nat) (y:WE),H a=some (.tup [.ref s,.ref t,.ref v])/\s≠l/\t≠l/\v≠l/\l∉d/\H s=some (.lst (bs.map .ref))/\TupsAt H bs c/\H t=some (.lst (g.map .ref))/\TupsAt H g (gA e (c.headD []))/\H v=some (.lst (d.map .ref))/\d.length=c.length/\h[i]?=some (c.headD [])/\j[i]?=some y/\Told (cC f) f.length (c.headD []) y.2.1/\
 (∀b∈d,b∈y.2.2)/\∀(k:Nat) (x:cn) (b:Ad),c[k]?=some x->d[k]?=some b->∃word,(x,word)∈y.2.1/\H b=some (.lst (word.map nv))
def LevAt.keeps{H q:Hp}{l:Ad}{r d u:LN}{ys:List WE}{a:Ad}{c:LN}(h:LevAt H l r d u ys a c)(g:Keeps H q):LevAt q l r d u ys a c:=by
 obtain⟨s,t,v,bs,w,z,i,y,A,B,C,D,E,G,I,J,L,e,f,j,m,n,o,p⟩:=h;refine#[s,t,v,bs,w,z,i,y,g _ _ (nU A),B,C,D,E,g _ _ (nU G),pZ I g,g _ _ (nU J),pZ L g,g _ _ (nU e),f,j,m,n,o,λk x b M N=>?_];obtain⟨word,O,Q⟩:=p k x b M N;exact#[word,O,g _ _ (nU Q)]
def LevAt.off{H:Hp}{l:Ad}{u d w:LN}{A:List WE}{a:Ad}{c:LN}{J:List V}{o:HO}(h:LevAt H l u d w A a c)(f:H l=some (.lst J)):LevAt (cq H l o) l u d w A a c:=by
 obtain⟨s,t,v,bs,L,M,i,y,B,C,D,E,G,N,O,Q,T,g,j,m,n,p,q,r⟩:=h;refine#[s,t,v,bs,L,M,i,y,by rw[cz (nE B f)];exact B,C,D,E,G,by rw[cz C];exact N,q0 O f (λ_ e=>nomatch e),by rw[cz D];exact Q,q0 T f (λ_ e=>nomatch e),by rw[cz E];exact g,j,m,n,p,q,λk x b U I=>?_];obtain⟨word,Y,z2⟩:=r k x b U I;refine#[word,Y,?_];rw[cz λ(z:b=l)=>G (by rw[<-z];exact c8 I)];exact z2
structure LevsAt(H:Hp)(l:Ad)(ts fam xs:LN)(ys:List WE)(as:As)(told:im):Prop where
 len:as.length=told.length
 is:∀(i:Nat) (a:Ad) (c:LN),as[i]?=some a->told[i]?=some c->LevAt H l ts fam xs ys a c
def EM(H b:Hp)(a:Ad):Prop:=∃s t v,b a=some (.tup [.ref s,.ref t,.ref v])/\L2.noT H s=none/\L2.noT H t=none/\L2.noT H v=none
inductive eG(T:Ad)(g:Pos)(k:List V)(H:Hp)(Q:VK)(h:XK):Prop|mk:∀(m:Ad) (e:LN) (n:Nat),k=[.ref m]->Mach H m e n->Tabs H->(∀l i told d j f,Keeps H f->Tabs f->L2.noT H l=none->f l=some (.lst (i.map .ref))->FamOf e n d->Ord e (cU e (big d)) told->(∀c∈told,c∈cU e (big d))->told.length<=32->LevsAt f l e d (big d) j i told->(∀y∈j,∀b∈y.2.2,L2.noT H b=none)->j.Pairwise (λp q=>∀b∈p.2.2,b∉q.2.2)->(∀a∈i,EM H f a)->Q (.ref l) f)->eG T g k H Q h
def Ly{T:Ad}(F:Fun K uW uW yH f fd)(kK:dj P w K mg base uQ 16 [sA] (ez T (#[49,40,49,93]:Pos)))(kJ:dj P w K mg base uN 3 [sP] g9)(kF:dj P w K mg base uL 3 [sP,tL] fO)(rP:dj P w K mg base sM 16 [sA,sC] (iH T (#[49,40,49,93]:Pos))):FnOk P w K mg base da 18 f fd [sA] (eG T (#[49,40,49,93]:Pos)):=by
 refine F.ok kW (λbi A aU s H vs Q E hr h=>?_)
 obtain⟨m,ts,n,rfl,M,hT,q⟩:=h;have hu:=hr.units;have aA:=lY hr;refine#[_,(cR (dE (i:=1) kW.nd zZ Z0 (dv kK hr.m zZ (cL (pv 0) cH))) (cR (dE (i:=2) kW.nd zZ Z' (f7 cH)) (cR (iG i4 zZ (gF (dv kF hr.m zZ (dr (cD (pv 1) (cD (dv kJ hr.m zZ (cL (pv 1) cH)) dt zZ) zZ)))) (gB (i:=3) kW.nd zZ Z') (cR (dE (i:=4) kW.nd zZ Z0 (dB gW (pv 3) df (λ_ _=>rfl))) (cR (wj (CompSc.to (N:=[sA,sP,"told",tI,"face","ways"]) (osc:=cN yH) (vs:=[sC]) {}) zZ zZ kW.nd (j:=5) zZ zZ (gF (pv 3)) (λ_ _ _ _=>iE) (λ_ _ _ _=>(oW aA (oW aA (pv 2) (pv 5) (λ_ _=>rfl)) (pv 0) (λ_ _=>rfl)))) (cX (lg (mI mG oz n' nY (pv 2) (cL (nS (dr (cD (pv 3) (cD (dv rP hr.m zZ (dr (cD (pv 0) (cD (pv 4) dt zZ) zZ))) (cD (pv 5) dt zZ) zZ) zZ))) cH))))))) (cX (dR (pv 2)))))),?_];refine#[_,zZ,m,ts,n,zZ,M,hT,λD l ys H1 k1 T1 nD ff eD wb nw ap=>?_];have few:=ff.few M;have O:(big l).length<=32:=dy (iz _ _) few;refine#[by show 0<=sizeLine;decide,λto af=>?_];have kt:=cM af (.lst []);have aB:∀y∈ys,to∉y.2.2:=λy hy r=>by
  obtain⟨j,ej⟩:=gy.mp hy;have lj:=(cK.mp ej).1;have hl:=wb.len;obtain⟨x',aV⟩:∃x',(big l)[j]?=some x':=#[_,cA ()];obtain⟨a',_⟩:=wb.each j x' y aV ej;obtain⟨j2,aC⟩:=gy.mp r;have aW:=(cK.mp aC).1;have U:=a'.list j2 to _ aC (cA (by rw[<-a'.len];exact aW));rw[af]at U;cases U
 have aX:to≠D:=(dH eD af).symm;have ar:=kt _ _ eD;refine#[_,zZ,_,zZ,D,ts,big l,ys,zZ,ar,wb.same kt,O,λwl o as H3 g3 bj aY Lw aD=>?_];have aE:H3 D=some (.frz o (.dT (gm (big l) ys))):=g3 _ _ cw;have aF:WB H3 D ts (big l) ys:=((wb.same kt).off ar).same g3;have au:∀{b:Ad} {u:HO},b≠D->cq H1 to (.lst []) b=some u->H3 b=some u:=λnb r=>g3 _ _ (by rw[cz nb];exact r);have Y:H3 to=some (.lst []):=au aX cw;have aZ:∀{b:Ad} {u:HO},L2.noT H b=some u->b≠D:=λr z=>by
  subst z;rw[nD]at r;cases r
 have a0:Keeps H H3:=λb u r=>au (aZ r) (kt _ _ (k1 _ _ r));have T3:Tabs H3:=(T1.same kt).most λb u nd _ r=>au (i5 r ar λe=>nd _ e) r;have a1:∀d∈cU ts (big l),d≠[]/\∀x∈d,x∈big l:=λd hd=>#[(fR hd).1,λx hx=>((fR hd).2.2.2 x hx).1];have aG:(cU ts (big l)).length<=32:=by
  unfold cU;rw[cu];exact dy (iz _ _) O
 refine#[D,wl,ts,big l,ys,_,as,zZ,.inr #[o,aE],aF,aY,Lw,a1,Ll ts _,aG,λol ag told H4 g4 a2 aH Lo od a3 sub a4=>?_];have lo:=Lo.len;have aI:ol≠to:=(dH Y a2).symm;have an:to∉ag:=λz=>by
  obtain⟨j,ej⟩:=gy.mp z;have lj:=(cK.mp ej).1;obtain⟨bs,e,_⟩:=Lo.is j to _ ej (cA (by rw[<-lo];exact lj));have ec:=iD (show j<told.length by lia);have C:=g4 _ _ Y;rw[e]at C;injection C with C
  injection C with C
  have U:bs=[]:=EG.mp C;obtain⟨a5,e',a6⟩:=Lo.is j to _ ej (cA ());rw[e]at e';injection e' with e'
  injection e' with e'
  rw[U]at e';have z3:a5=[]:=EG.mp e'.symm;have z4:=a6.len;rw[z3]at z4;exact(fR (sub _ ec)).1 (pP.mp z4.symm)
 have a7:Keeps H H4:=a0.trans g4.keeps;have T4:=T3.same g4;have aJ:=g4 _ _ Y;have aK:L2.noT H to=none:=by
  cases z:L2.noT H to with
  |none=>rfl
  |some u=>
   have U:=k1 _ _ z;rw[af]at U;cases U
 let Pv:Nat->L2.St->Hp->Prop:=λi σ t=>Keeps H t/\Tabs t/\t ol=some (.lst (ag.map .ref))/\LsAt t ag told/\Rd t D (.dT (gm (big l) ys))/\WB t D ts (big l) ys/\∃ls o3 o4 o5,t to=some (.lst (ls.map .ref))/\LevsAt t to ts l (big l) ys ls (told.take i)/\(∀a∈ls,EM H t a)/\σ=[some (.ref m),some (.ref D),some (.ref to),o3,o4,o5]
 refine#[ol,zZ,#[_,P1 aH],yf (xs:=ag.map .ref) Pv #[a7,T4,aH,Lo,.inr #[o,g4 _ _ aE],aF.same g4,[],none,none,none,aJ,#[zZ,λi a c e=>by simp at e],(λ_ h=>nomatch h),zZ] (λi σ t _ p=>P1 p.2.2.1) (λi v σ H5 hv p=>?_) (λσ H5 p=>?_)]
 .obtain⟨k5,T5,ao,av,aw,ax,ls,o3,o4,o5,I,aa,ay,rfl⟩:=p;rw[cV]at hv;obtain⟨a,ea,rfl⟩:=eW.mp hv;have li:=(cK.mp ea).1;obtain⟨c,ec⟩:∃c,told[i]?=some c:=#[_,cA ()];obtain⟨bs,ha,Ta⟩:=av.is i a c ea ec;obtain⟨cne,_,cx,call⟩:=fR (sub c (c8 ec));obtain⟨b0,a8,aL,m0⟩:=uk Ta cne;have bk:=Ta.len;have bl:c.length<=32:=by
   rw[(fR (sub c (c8 ec))).2.1];exact dy (iz _ _) O
  have a9:a≠to:=λz=>an (z▸c8 ea);obtain⟨W,ws,wa,dg,wt,tt,ix,ex,ey⟩:=ax.get aw cx aL;refine#[_,zZ,a,_,_,_,zZ,zZ,P1 ha,a8,?_];refine#[_,zZ,a,zZ,#[_,P1 ha],i0 (xs:=bs.map .ref) (λj ah t=>t=H5/\∃G:As,ah=G.map V.ref/\G.length=j/\(∀b∈G,b∈wa)/\∀(k:Nat) (x:cn) (b:Ad),c[k]?=some x->G[k]?=some b->∃word,(x,word)∈ws/\H5 b=some (.lst (word.map nv))) (by rw[cu,dA];lia) #[zZ,[],zZ,zZ,λ_ h=>(nomatch h),λk x b _ e=>by simp at e] (λj ah t hi p=>?_) (λj v ah t hv p=>?_) (λah t p J ai=>?_)]
  .obtain⟨rfl,G,rfl,e,_⟩:=p;exact#[P1 ha,by rw[cu];lia]
  .obtain⟨rfl,G,rfl,e,sb,al⟩:=p;rw[cV]at hv;obtain⟨b,eb,rfl⟩:=eW.mp hv;have lj:=(cK.mp eb).1;obtain⟨x,az⟩:∃x,c[j]?=some x:=#[_,cA ()];have r:=Ta.is j b x eb az;obtain⟨_,r1,_⟩:=call x (c8 az);obtain⟨⟨x',u⟩,hp,e'⟩:=cT.mp ((BK tt x).mpr r1);have B:x'=x:=e';subst B;obtain⟨aM,v1,v2⟩:=wt.word tt.keys hp;have ba:DGet t W (.ref b) (some (.ref aM)):= .inr #[_,nk x',b,.inl wt.dict,zZ,by rw[iu];exact r,v1.symm];refine#[hO,lG #[_,zZ,_,zZ,D,_,zZ,dg,_,zZ,W,_,zZ,ba,zZ,G++[aM],by simp,by simp[e],λb' aj=>?_,λk x b' L B=>?_]]
   .exact(dh.mp aj).elim (sb b') λh=>by rw[cY.mp h];exact N9 v1
   .by_cases hk:k<G.length
    .rw[fu hk]at B;exact al k x b' L B
    .rw[fV ()]at B;have z:k-G.length=0:=by
      have:=(cK.mp B).1;simp at this;lia
     rw[z]at B;cases B;have kj:k=j:=by lia
     subst kj;rw[az]at L;cases L;exact#[u,hp,v2]
  .obtain⟨rfl,G,rfl,bb,sb,al⟩:=p;rw[cu]at bb;have kw:=cM ai (.lst (G.map V.ref));have aN:J≠to:=(dH I ai).symm;have aO:cq t J (.lst (G.map V.ref)) J=some (.lst (G.map V.ref)):=cw;generalize cq t J (.lst (G.map V.ref))=H6 at kw aO|-;have ab:=kw _ _ I;refine#[_,zZ,.inl #[zZ,_,P1 ab],_,zZ,_,zZ,_,zZ,m,b0,ts,n,c.headD [],zZ,(M.keeps k5).same kw,kw _ _ aL,T5.same kw,λtl ds us aP H7 k7 T7 ak bc Td bd be=>?_];have ef:aP=l:=bd.uniq ff;subst ef;subst be;have aQ:=k7 _ _ (nU ab);have aR:tl≠to:=λz=>by
    subst z;rw[nU ab]at ak;cases ak
   refine#[_,zZ,by show 3<=sizeLine;decide,λlv bf=>?_];have kl:=cM bf (.tup [.ref a,.ref tl,.ref J]);have am:cq H7 lv (.tup [.ref a,.ref tl,.ref J]) lv=some (.tup [.ref a,.ref tl,.ref J]):=cw;have kk:Keeps t (cq H7 lv (.tup [.ref a,.ref tl,.ref J])):=(kw.keeps.trans k7).trans kl.keeps;have aS:Keeps H6 (cq H7 lv (.tup [.ref a,.ref tl,.ref J])):=k7.trans kl.keeps;have aq:=kl _ _ bc;have aT:=Td.same kl;have T8:=T7.same kl;have g:=kl _ _ aQ;generalize cq H7 lv (.tup [.ref a,.ref tl,.ref J])=H8 at kl am kk aS aq aT T8 g|-;have bg:=aa.len;rw[hG]at bg;refine#[to,_,_,zZ,zZ,g,by rw[cu,dA];lia,?_];have ae:∀{b:Ad} {u:HO},t b=some u->(∀ps,u≠ .tbl ps)->H8 b=some u:=λr no=>kk _ _ (pI r no)
   refine#[λb u r=>?_,?_,?_,?_,?_,?_,ls++[lv],_,_,_,by rw[cw,eV];rfl,#[?_,λj a' c' L B=>?_],λa' bh=>?_,zZ]
   .rw[cz λ(z:b=to)=>by subst z;rw[aK]at r;cases r];exact(k5.trans kk) _ _ r
   .exact T8.most λb' u _ nl aj=>by rw[cz (i5 aj g λe=>nl _ e)];exact aj
   .rw[cz aI];exact ae ao λ_ e=>nomatch e
   .exact(av.keeps kk).off g an
   .rcases Ox aw (λ_ e=>nomatch e) kk with z|⟨o',z⟩
    .exact .inl (by rw[cz (nE z g)];exact z)
    .exact .inr #[o',by rw[cz (nE z g)];exact z]
   .exact(ax.keeps kk).off2 g aB
   .rw[eh,hG];simp only[List.length_singleton];lia
   .have lt':told.take (i+1)=told.take i++[c]:=by rw[lP,ec];rfl
    rw[lt']at B;by_cases hj:j<ls.length
    .rw[fu hj]at L;rw[fu (by rw[hG];lia)]at B;exact((aa.is j a' c' L B).keeps kk).off g
    .rw[fV ()]at L;rw[fV (by rw[hG];lia)]at B;have z:j-ls.length=0:=by
      have:=(cK.mp L).1;simp at this;lia
     have z':j-(told.take i).length=0:=by rw[hG];lia
     rw[z]at L;rw[z']at B;cases L;cases B;refine LevAt.off #[a,tl,J,bs,ds,G,ix,(W,ws,wa),am,a9,aR,aN,λz=>aB _ (c8 ey) (sb _ z),ae ha (λ_ e=>nomatch e),pZ Ta kk,aq,aT,aS _ _ (nU aO),(),ex,ey,tt,sb,λk x b L B=>?_] g;obtain⟨word,C,U⟩:=al k x b L B;exact#[word,C,ae U λ_ e=>nomatch e]
   .rcases dh.mp bh with z|z
    .obtain⟨s',t',v',C,U⟩:=ay a' z;exact#[s',t',v',(by rw[cz (nE (ae C λ_ e=>nomatch e) g)];exact ae C λ_ e=>nomatch e),U]
    .rw[cY.mp z];refine#[a,tl,J,by rw[cz (nE am g)];exact am,?_,?_,?_]
     .have C:=aD a (a4 a (c8 ea));cases y:L2.noT H a with
      |none=>rfl
      |some u=>
       rw[kt _ _ (k1 _ _ y)]at C;cases C
     .cases y:L2.noT H tl with
      |none=>rfl
      |some u=>
       have C:=kw _ _ (k5 _ _ y);rw[pI C (qw y).2]at ak;cases ak
     .cases y:L2.noT H J with
      |none=>rfl
      |some u=>
       rw[k5 _ _ y]at ai;cases ai
 .obtain⟨k5,T5,ao,av,aw,ax,ls,o3,o4,o5,I,aa,ay,rfl⟩:=p;rw[cu,lo,ik]at aa;exact#[_,zZ,q to ls told l ys H5 k5 T5 aK I ff od sub a3 aa nw ap ay]
def cP{x y:cn}:sub x y=true↔ ∀r∈x,r∈y:=by
 unfold sub;rw[rh];exact#[λh r a=>hV.mp (h r a),λh r a=>hV.mpr (h r a)]
def Gs{n:Nat}{u v:cn}(d:u∈dF n)(f:v∈dF n)(h:sub u v=true)(ne:u≠v):u.length<v.length:=by
 obtain⟨a,_⟩:=cy.mp d;obtain⟨b,_⟩:=cy.mp f;have s:=cP.mp h;have e:∃z∈List.range 5,u.contains z=false/\v.contains z=true:=by
  refine ou λno=>ne ?_;rw[<-a,<-b];unfold fv;refine uw λz g=>?_;rw[kh];constructor
  .exact λq=>hV.mpr (s z (hV.mp q))
  .intro q;cases c:u.contains z with
   |true=>rfl
   |false=>exact wC #[z,g,c,q] no
 have z:=CH (xs:=List.range 5) (p:=λi=>u.contains i) (q:=λi=>v.contains i) (λz _ q=>hV.mpr (s z (hV.mp q))) e;rw[CA,CA]at z;unfold fv at a b;rw[a,b]at z;exact z
structure TileFacts(fam:LN)(x:cn)(us:LN):Prop where
 mem:∀u∈us,u∈fam/\u≠x/\sub u x=true
 apart:∀u∈us,∀v∈us,u≠v->sub u v=false
 up:us.Pairwise λa b=>jg gl a b=true
 all:∀u∈fam,u≠x->sub u x=true->∃t∈us,sub u t=true
 few:us.length<=32
 few2:fam.length<=32
 l5:∀u∈fam,u.length<=5
def oB{H:Hp}{m:Ad}{s:LN}{n:Nat}{a:LN}(M:Mach H m s n)(j:FamOf s n a)(x:cn):TileFacts a x (gA a x):=by
 have few:=j.few M;have b:∀u,u∈iC a x↔u∈a/\u≠x/\sub u x=true:=λu=>by
  unfold iC;rw[d8,jt,zq]
 have k:∀u,mT (iC a x) u=true↔ ∃v∈iC a x,v≠u/\sub u v=true:=λu=>by
  unfold mT;rw[zN];constructor
  .rintro⟨v,g,e⟩;rw[jt,zq]at e;exact#[v,g,e]
  .rintro⟨v,g,e⟩;exact#[v,g,by rw[jt,zq];exact e]
 have f:∀u,u∈gA a x↔u∈iC a x/\mT (iC a x) u=false:=λu=>by
  unfold gA;rw[d8];refine and_congr Iff.rfl ?_;cases mT (iC a x) u<;>simp
 have w:∀u∈a,u.length<=5:=λu h=>dy (oU M.n5 (j.inU M h)) M.n5;have l:∀(d:Nat) (u:cn),u∈iC a x->5-u.length<=d->∃t∈gA a x,sub u t=true:=by
  intro d
  induction d with
  | zero=>
   intro u i y;cases c:mT (iC a x) u with
   |false=>exact#[u,(f u).mpr #[i,c],cP.mpr λr p=>p]
   |true=>
    obtain⟨v,o,g,e⟩:=(k u).mp c;have:=Gs (j.inU M ((b u).mp i).1) (j.inU M ((b v).mp o).1) e (eJ g)
    have:=w v ((b v).mp o).1;lia
  | succ d A=>
   intro u i y;cases c:mT (iC a x) u with
   |false=>exact#[u,(f u).mpr #[i,c],cP.mpr λr p=>p]
   |true=>
    obtain⟨v,o,g,e⟩:=(k u).mp c;have:=Gs (j.inU M ((b u).mp i).1) (j.inU M ((b v).mp o).1) e (eJ g)
    obtain⟨t,ht,q⟩:=A v o ();exact#[t,ht,cP.mpr λr p=>cP.mp q r (cP.mp e r p)]
 refine#[λu i=>(b u).mp ((f u).mp i).1,λu i v o ne=>?_,?_,λu g e q=>l 5 u ((b u).mpr #[g,e,q]) (),?_,few,w]
 .cases c:sub u v with
  |false=>rfl
  |true=>
   have z:=(k u).mpr #[v,((f v).mp o).1,eJ ne,c];rw[((f u).mp i).2]at z;cases z
 .exact(j.up.filter _).filter _
 .exact dy (iz _ _) (dy (iz _ _) few)
def KG(x:cn):jg gl x x=false:=(ph gl [x]).irr x
def zB{K:P3}{H:Hp}{fs:As}{b:LN}{n:Nat}(T:TupsAt H fs b)(i:Nat)(d:Dt)(v:V)(c:(b.map λu=>Dt.tup (ir u))[i]?=some d)(e:(fs.map V.ref)[i]?=some v):Rep K H (n+1) d v:=by
 rw[cV]at c e;obtain⟨p,f,rfl⟩:=eW.mp c;obtain⟨a,g,rfl⟩:=eW.mp e;exact iQ (P2 (T.is i a p g f))
def JE{u:cn}{a:LN}:Dt.tup (ir u)∈a.map (λu=>Dt.tup (ir u))↔u∈a:=by
 rw[cT];constructor
 .rintro⟨v,c,b⟩;injection b with b
  rw[<-D8 b];exact c
 .exact λh=>#[u,h,zZ]
def ku(f:Nat->Nat):Nat->Nat->Nat
 |0,r=>r
 |k+1,r=>ku f k (f r)
theorem DA(f:Nat->Nat):∀(a b r:Nat),ku f (a+b) r=ku f b (ku f a r)
 |0,b,r=>by rw[uv];rfl
 |a+1,b,r=>by
  rw[Nat.add_right_comm];exact DA f a b (f r)
theorem ve{f:Nat->Nat}{d r:Nat}(h:ku f d r=r):∀k,ku f (d * k) r=r
 |0=>rfl
 |k+1=>by rw[Nat.mul_succ,DA,ve h k,h]
def ky(a:LN)(r:Nat)(u v:cn):db a r (u++v)=db a (db a r u) v:=by
 unfold db;rw[nB]
def eQ(u:cn):Nat->List Nat
 |0=>[]
 |k+1=>u++eQ u k
theorem HC(a:LN)(u:cn):∀(k r:Nat),db a r (eQ u k)=ku (λr=>db a r u) k r
 |0,_=>rfl
 |k+1,r=>by
  show db a r (u++eQ u k)=_;rw[ky,HC a u k];rfl
theorem BG{u:cn}{l:Nat}:∀{k:Nat},l∈eQ u k->l∈u
 |0,h=>nomatch h
 |k+1,h=>(dh.mp h).elim id BG
def gb(a:LN)(x u v:cn):cJ (cC a) x (u++v)=cJ (cC a) (cJ (cC a) x u) v:=by
 unfold cJ;rw[nB]
def rk{n:Nat}{x y:cn}(a:x∈dF n)(b:y∈dF n)(h:∀r,r∈x↔r∈y):x=y:=by
 rw[<-(cy.mp a).1,<-(cy.mp b).1];exact FO h
def Ay{n:Nat}{x:cn}(a:x∈dF n):x.Nodup:=by
 rw[<-(cy.mp a).1];unfold fv;exact List.Nodup.sublist EC List.nodup_range
def gR{H:Hp}{m:Ad}{b:LN}{n:Nat}(M:Mach H m b n){x word:cn}(d:x∈dF n)(hw:∀l∈word,l<b.length){r:Nat}:r∈cJ (cC b) x word↔ ∃a∈x,db b a word=r:=by
 have f:=M.n5;rw[xK M word x d hw];constructor
 .intro h;obtain⟨a,c,e⟩:=cT.mp (zt h);exact#[a,c,e]
 .rintro⟨a,c,rfl⟩;have:=lJ M word a ((cy.mp d).2 a c) hw;exact Du (cT.mpr #[a,c,zZ]) ()
def jb{H:Hp}{m:Ad}{a:LN}{n:Nat}(M:Mach H m a n){x word:cn}(b:x∈dF n)(hw:∀l∈word,l<a.length):cJ (cC a) x word∈dF n:=mX b (λy c l d=>Ch M c d) word hw
structure Bij(ts:LN)(x y w p:cn):Prop where
 to:cJ (cC ts) x w=y
 fro:cJ (cC ts) y p=x
 lw:∀l∈w,l<ts.length
 lp:∀l∈p,l<ts.length
 here:∀r∈x,db ts (db ts r w) p=r
 there:∀r∈y,db ts (db ts r p) w=r
def Bij.symm{a:LN}{x y w p:cn}(b:Bij a x y w p):Bij a y x p w:=#[b.fro,b.to,b.lp,b.lw,b.there,b.here]
def Oo{x:cn}{f:Nat->Nat}(nd:x.Nodup)(i:∀r∈x,∃c∈x,f c=r):∀a∈x,∀b∈x,f a=f b->a=b:=λa d b j e=>by
 by_cases ne:a=b
 .exact ne
 have z:=vb (l₂:=(x.erase a).map f) nd λr k=>by
  obtain⟨c,l,g⟩:=i r k;by_cases h:c=a
  .exact cT.mpr #[b,(Eo (eJ ne)).mpr j,by rw[<-e,<-h,g]]
  .exact cT.mpr #[c,(Eo h).mpr l,g]
 rw[cu,List.length_erase_of_mem d]at z;have:=v9 d;lia
theorem Eu{x:cn}{f:Nat->Nat}(a:∀r∈x,f r∈x):∀(k r:Nat),r∈x->ku f k r∈x
 |0,_,h=>h
 |k+1,r,h=>Eu a k (f r) (a r h)
theorem GL{x:cn}{f:Nat->Nat}(c:∀r∈x,f r∈x)(inj:∀a∈x,∀b∈x,f a=f b->a=b):∀(k:Nat),∀a∈x,∀b∈x,ku f k a=ku f k b->a=b
 |0,_,_,_,_,e=>e
 |k+1,a,d,b,g,e=>inj a d b g (GL c inj k (f a) (c a d) (f b) (c b g) e)
def wF{x:cn}{f:Nat->Nat}(p:x.length<=5)(g:∀r∈x,f r∈x)(inj:∀a∈x,∀b∈x,f a=f b->a=b)(r:Nat)(k:r∈x):ku f 60 r=r:=by
 have:∃d,1<=d/\d<=5/\ku f d r=r:=by
  by_cases h:∃i j,i<j/\j<=5/\ku f i r=ku f j r
  .obtain⟨i,j,l,m,c⟩:=h;refine#[j-i,(),(),?_];have e:j=(j-i)+i:=by lia
   rw[e,DA]at c;exact(GL g inj i r k _ (Eu g (j-i) r k) c).symm
  .have nd:((List.range 6).map λi=>ku f i r).Nodup:=by
    rw[List.nodup_iff_pairwise_ne,yC];refine List.Pairwise.imp_of_mem ?_ List.pairwise_lt_range;intro i j q n lt e;exact h #[i,j,lt,by have:=f8.mp n;lia,e]
   have z:=vb (l₂:=x) nd λy o=>by
    obtain⟨i,_,rfl⟩:=cT.mp o;exact Eu g i r k
   rw[cu,md]at z;lia
 obtain⟨d,l,m,c⟩:=this;have:d=1\/d=2\/d=3\/d=4\/d=5:=by lia
 rcases this with rfl|rfl|rfl|rfl|rfl
 .exact ve c 60
 .exact ve c 30
 .exact ve c 20
 .exact ve c 15
 .exact ve c 12
def C1{H:Hp}{m:Ad}{a:LN}{n:Nat}(M:Mach H m a n){x y w:cn}(b:x∈dF n)(i:∀l∈w,l<a.length)(e:cJ (cC a) x w=y)(back:Rch a y x):∃p,Bij a x y w p:=by
 obtain⟨v,s,B⟩:=back;have t:y∈dF n:=by rw[<-e];exact jb M b i
 have d:∀l∈w++v,l<a.length:=λl o=>(dh.mp o).elim (i l) (s l);have u:cJ (cC a) x (w++v)=x:=by rw[gb,e,B]
 have C:∀r∈x,db a r (w++v)∈x:=λr c=>by
  have z:=(gR M b d).mpr #[r,c,zZ];rw[u]at z;exact z
 have D:∀r∈x,∃j∈x,db a j (w++v)=r:=λr c=>(gR M b d).mp (by rw[u];exact c);have inj:=Oo (Ay b) D;have E:=wF (f:=λr=>db a r (w++v)) (dy (oU M.n5 b) M.n5) C inj;have here:∀r∈x,db a (db a r w) (v++eQ (w++v) 59)=r:=λr c=>by
  rw[<-ky,<-f',ky,HC];exact E r c
 have q:∀l∈v++eQ (w++v) 59,l<a.length:=λl o=>(dh.mp o).elim (s l) λh=>d l (BG h);have g:∀r∈y,db a (db a r (v++eQ (w++v) 59)) w=r:=λr c=>by
  rw[<-e]at c;obtain⟨j,k,rfl⟩:=(gR M b i).mp c;rw[here j k]
 refine#[v++eQ (w++v) 59,e,rk (jb M t q) b λr=>?_,i,q,here,g];rw[gR M t q];constructor
 .rintro⟨j,k,rfl⟩;rw[<-e]at k;obtain⟨G,A,rfl⟩:=(gR M b i).mp k;rw[here G A];exact A
 .intro h;exact#[db a r w,by rw[<-e];exact(gR M b i).mpr #[r,h,zZ],here r h]
def Bij.back{H:Hp}{m:Ad}{a:LN}{n:Nat}(M:Mach H m a n){x y w p u:cn}(b:Bij a x y w p)(c:u∈dF n)(s:sub u x=true):cJ (cC a) (cJ (cC a) u w) p=u:=by
 have d:=cP.mp s;have e:=jb M c b.lw;refine rk (jb M e b.lp) c λr=>?_;rw[gR M e b.lp];constructor
 .rintro⟨i,h,rfl⟩;obtain⟨f,g,rfl⟩:=(gR M c b.lw).mp h;rw[b.here f (d f g)];exact g
 .intro z;exact#[db a r w,(gR M c b.lw).mpr #[r,z,zZ],b.here r (d r z)]
def EB{H:Hp}{m:Ad}{a:LN}{n:Nat}(M:Mach H m a n){u v w:cn}(d:u∈dF n)(e:v∈dF n)(b:∀l∈w,l<a.length)(s:sub u v=true):sub (cJ (cC a) u w) (cJ (cC a) v w)=true:=by
 refine cP.mpr λr f=>?_;obtain⟨c,g,rfl⟩:=(gR M d b).mp f;exact(gR M e b).mpr #[c,cP.mp s c g,zZ]
def y3{H:Hp}{m:Ad}{b:LN}{n:Nat}{a:LN}(M:Mach H m b n)(f:FamOf b n a){u w:cn}(g:u∈a)(c:∀l∈w,l<b.length):cJ (cC b) u w∈a:=by
 have d:=M.n5;refine(f.mem _).mpr ?_
 rcases (f.mem u).mp g with⟨h,i,j⟩|⟨r,e,rfl⟩
 .refine .inl #[h++w,λl k=>(dh.mp k).elim (i l) (c l),?_];rw[gb,j]
 .have lt:=lJ M w r e c;refine .inr #[db b r w,lt,rk (jb M (xp d e) c) (xp d lt) λp=>?_];rw[gR M (xp d e) c];constructor
  .rintro⟨q,o,rfl⟩;rw[cY.mp o];exact cY.mpr rfl
  .intro z;exact#[r,cY.mpr zZ,(cY.mp z).symm]
def II{n:Nat}{u v:cn}(c:u∈dF n)(d:v∈dF n)(a:sub u v=true)(b:sub v u=true):u=v:=rk c d λr=>#[cP.mp a r,cP.mp b r]
def J4{u v w:cn}(a:sub u v=true)(b:sub v w=true):sub u w=true:=cP.mpr λr c=>cP.mp b r (cP.mp a r c)
def BL{H:Hp}{m:Ad}{h:LN}{n:Nat}{a:LN}(M:Mach H m h n)(d:FamOf h n a){x u:cn}:u∈gA a x↔u∈a/\u≠x/\sub u x=true/\∀v∈a,v≠x->sub v x=true->sub u v=true->v=u:=by
 have b:=oB M d x;constructor
 .intro i;obtain⟨c,f,g⟩:=b.mem u i;refine#[c,f,g,λv j l o k=>?_];obtain⟨t,ht,st⟩:=b.all v j l o;have p:u=t:=by
   by_cases e:u=t
   .exact e
   .have z:=b.apart u i t ht e;rw[J4 k st]at z;cases z
  subst p;exact II (d.inU M j) (d.inU M c) st k
 .rintro⟨c,f,g,q⟩;obtain⟨t,ht,st⟩:=b.all u c f g;obtain⟨r,s,w⟩:=b.mem t ht;rw[<-q t r s w st];exact ht
def Aa{H:Hp}{m:Ad}{a:LN}{n:Nat}{c:LN}(M:Mach H m a n)(d:FamOf a n c){x y w p u:cn}(j:x∈dF n)(b:Bij a x y w p)(o:u∈gA c x):cJ (cC a) u w∈gA c y:=by
 obtain⟨k,q,h,r⟩:=(BL M d).mp o;have s:y∈dF n:=by rw[<-b.to];exact jb M j b.lw
 have f:=d.inU M k;have gU:=jb M f b.lw;have t:sub (cJ (cC a) u w) y=true:=by
  have z:=EB M f j b.lw h;rw[b.to]at z;exact z
 refine(BL M d).mpr #[y3 M d k b.lw,λe=>q ?_,t,λv l A i B=>?_]
 .rw[<-b.back M f h,e,b.fro]
 .have g:=d.inU M l;have bs:=b.symm;have C:=y3 M d l b.lp;have D:cJ (cC a) v p≠x:=λe=>A (by rw[<-bs.back M g i,e,b.to]);have E:sub (cJ (cC a) v p) x=true:=by
   have z:=EB M g s b.lp i;rw[b.fro]at z;exact z
  have G:sub u (cJ (cC a) v p)=true:=by
   have z:=EB M gU g b.lp B;rw[b.back M f h]at z;exact z
  rw[<-bs.back M g i,r _ C D E G]
def LvH(H:Hp)(a:Ad)(c g:LN)(d:LN):Prop:=∃(s t v:Ad) (bs ds e:As),H a=some (.tup [.ref s,.ref t,.ref v])/\H s=some (.lst (bs.map .ref))/\TupsAt H bs c/\H t=some (.lst (ds.map .ref))/\TupsAt H ds g/\H v=some (.lst (e.map .ref))/\e.length=d.length/\∀(k:Nat) (b:Ad) (f:cn),e[k]?=some b->d[k]?=some f->H b=some (.lst (f.map nv))
def LvH.same{H e:Hp}{a:Ad}{c f d:LN}(h:LvH H a c f d)(g:Same H e):LvH e a c f d:=by
 obtain⟨s,t,v,bs,ds,i,j,l,m,n,o,p,q,r⟩:=h;exact#[s,t,v,bs,ds,i,g _ _ j,g _ _ l,m.same g,g _ _ n,o.same g,g _ _ p,q,λk b u w x=>g _ _ (r k b u w x)]
structure LvP(ts fam:LN)(c us wds:LN):Prop where
 cls:c∈cU ts (big fam)
 tl:us=gA fam (c.headD [])
 len:wds.length=c.length
 go:∀(k:Nat) (x wd:cn),c[k]?=some x->wds[k]?=some wd->(∀l∈wd,l<ts.length)/\cJ (cC ts) (c.headD []) wd=x
inductive lE(g:List V)(H:Hp)(Q:VK)(d:XK):Prop|mk:∀(m a:Ad) (k j:Nat) (e:LN) (n:Nat) (c h b:LN) (u f:cn),g=[.ref m,.ref a,nv k,nv j]->Mach H m e n->LvH H a c h b->h[j]?=some u->b[k]?=some f->u∈dF n->(∀l∈f,l<e.length)->vz H ((cJ (cC e) u f).map nv) Q->lE g H Q d
inductive fA(i:List V)(H:Hp)(Q:VK)(f:XK):Prop|mk:∀(m a:Ad) (k:Nat) (g:LN) (n:Nat) (c d b:LN) (h:cn),i=[.ref m,.ref a,nv k]->Mach H m g n->LvH H a c d b->b[k]?=some h->(∀u∈d,u∈dF n)->d.length<=32->(∀l∈h,l<g.length)->(∀l j e,Same H e->e l=some (.lst (j.map .ref))->TupsAt e j (d.map λu=>cJ (cC g) u h)->Q (.ref l) e)->fA i H Q f
def jc(a b:LN)(g c:cn)(l:Nat)(d:cn):Prop:=d.length=b.length/\∀(j:Nat) (u:cn) (e:Nat),b[j]?=some u->d[j]?=some e->∃f,b[e]?=some f/\cJ (cC a) f c=cC a (cJ (cC a) u g) l
inductive fh(j:List V)(H:Hp)(Q:VK)(h:XK):Prop|mk:∀(m a:Ad) (k l:Nat) (d:LN) (n:Nat) (f c i b:LN) (x o:cn),j=[.ref m,.ref a,nv k,nv l]->Mach H m d n->FamOf d n f->LvH H a c i b->LvP d f c i b->c[k]?=some x->b[k]?=some o->l<d.length->((cC d x l∉c->∀e,Same H e->Q .non e))->(∀(q:Nat) (g:cn),c[q]?=some (cC d x l)->b[q]?=some g->∀p r e,Same H e->e p=some (.tup (r.map nv))->jc d i o g l r->Q (.ref p) e)->fh j H Q h
theorem CN{b:Type}{d:b}:∀{ds:List b},d∈ds->∃j:Nat,ds[j]?=some d/\∀i:Nat,i<j->ds[i]? ≠some d
 | [],h=>nomatch h
 | e::ds,h=>by
  by_cases z:e=d
  .exact#[0,by rw[z];rfl,λi c=>wC c (mQ i)]
  .obtain⟨j,f,g⟩:=CN (ds:=ds) ((dL.mp h).resolve_left λa=>z a.symm);refine#[j+1,f,λi c=>?_];cases i with
   |zero=>exact λa=>z (by injection a)
   |succ i=>exact g i ()
def m6{u:cn}{a:LN}:Dt.tup (ir u)∈a.map (λu=>Dt.tup (ir u))↔u∈a:=JE
def gu{u:cn}{a:LN}{j:Nat}:(a.map λu=>Dt.tup (ir u))[j]?=some (Dt.tup (ir u))↔a[j]?=some u:=by
 rw[cV];constructor
 .intro h;obtain⟨v,c,b⟩:=eW.mp h;injection b with b
  rw[<-D8 b];exact c
 .intro h;rw[h];rfl
def LvP.bij{H:Hp}{m:Ad}{d:LN}{n:Nat}{a c h b:LN}(M:Mach H m d n)(i:FamOf d n a)(f:LvP d a c h b){k:Nat}{x e:cn}(g:c[k]?=some x)(j:b[k]?=some e):∃p,Bij d (c.headD []) x e p:=by
 obtain⟨_,_,l,call⟩:=fR f.cls;obtain⟨o,q⟩:=f.go k x e g j;exact C1 M (i.inU M (d8.mp l).1) o q (call x (c8 g)).2.2
def Lx{H:Hp}{m:Ad}{a:LN}{n:Nat}{d c i e:LN}(M:Mach H m a n)(b:FamOf a n d)(f:LvP a d c i e){k s l:Nat}{x j g:cn}(t:c[k]?=some x)(D:e[k]?=some j)(E:l<a.length)(v:c[s]?=some (cC a x l))(o:e[s]?=some g){u:cn}(G:u∈i):cC a (cJ (cC a) u j) l∈i.map λu=>cJ (cC a) u g:=by
 obtain⟨_,_,I,call⟩:=fR f.cls;have J:=b.inU M (d8.mp I).1;obtain⟨p,L⟩:=f.bij M b t D;obtain⟨p',y⟩:=f.bij M b v o;obtain⟨N,q,O⟩:=call x (c8 t);obtain⟨Q,T,r⟩:=call _ (c8 v);have A:=b.inU M (d8.mp N).1;have U:=b.inU M (d8.mp Q).1;obtain⟨p2,Y⟩:=C1 M (w:=[l]) A (λz hz=>by rw[cY.mp hz];exact E) zZ (r.trans q);have h:=G;rw[f.tl]at h;have t1:=Aa M b J L h;have B:cC a (cJ (cC a) u j) l∈gA d (cC a x l):=Aa M b A Y t1;obtain⟨f1,f2,f3,_⟩:=(BL M b).mp B;have C:=Aa M b U y.symm B;rw[<-f.tl]at C;exact cT.mpr #[_,C,y.symm.back M (b.inU M f1) f3]
def LvP.nd{h:LN}{n:Nat}{d c i f:LN}(j:FamOf h n d)(k:LvP h d c i f):c.Nodup:=by
 have g:d.Nodup:=j.up.imp λ{a b} z e=>by
  subst e;rw[(ph gl d).irr]at z;cases z
 rw[(fR k.cls).2.1];exact List.Nodup.sublist (EC.trans EC) g
def LvP.inU{H:Hp}{m:Ad}{ts:LN}{n:Nat}{a c b d:LN}(M:Mach H m ts n)(f:FamOf ts n a)(g:LvP ts a c b d):(∀u∈b,u∈dF n)/\b.length<=32:=by
 have e:=oB M f (c.headD []);rw[<-g.tl]at e;exact#[λu h=>f.inU M (e.mem u h).1,e.few]
def KO(F:Fun K "tile" "tile" DV f fd)(C:dj P w K mg base uG 3 [sA,sC,tH] (dO K)):FnOk P w K mg base da 5 f fd [sA,sD,"k","j"] lE:=by
 refine F.ok Ln (λD A e s H vs Q E l h=>?_)
 obtain⟨m,a,k,j,G,n,c,us,I,u,g,rfl,M,J,o,r,i,t,q⟩:=h;have hu:=l.units;obtain⟨s',L,N,bs,O,T,v,h2,h3,U,x,Y,h7,h8⟩:=J;have l5:=x.len;have lj:=(cK.mp o).1;have lk:=(cK.mp r).1;obtain⟨d,y⟩:∃d,O[j]?=some d:=#[_,cA ()];obtain⟨b,z⟩:∃b,T[k]?=some b:=#[_,cA ()];have hd:=x.is j d u y o;have hb:=h8 k b g z r;refine#[_,(cX (dR (dv C l.m zZ (dr (cD (pv 0) (cD (dB gW (dB eM (pv 1) df (λ_ _=>rfl)) (pv 3) (λ_ _=>rfl)) (cD (dB gW (dB eM (pv 1) df (λ_ _=>rfl)) (pv 2) (λ_ _=>rfl)) dt zZ) zZ) zZ))))),?_];refine#[_,zZ,_,zZ,a,_,_,_,zZ,zZ,P2 v,zZ,_,zZ,L,_,_,_,zZ,zZ,P1 U,jq (by rw[cV,y];rfl),_,zZ,a,_,_,_,zZ,zZ,P2 v,zZ,_,zZ,N,_,_,_,zZ,zZ,P1 Y,jq (by rw[cV,z];rfl),m,d,b,G,n,u,g,zZ,M,P2 hd,dy (oU M.n5 i) M.n5,(cy.mp i).2,P1 hb,t,λp H2 g2 B=>?_];rw[<-xK M g u i t]at B;exact q p H2 g2 B
def MU(F:Fun K uK uK yw f fd)(L:dj P w K mg base "tile" 5 [sA,sD,"k","j"] lE)(O:mg "len"=none)(T:mg "range"=none):FnOk P w K mg base da 7 f fd [sA,sD,"k"] fA:=by
 refine F.ok MH (λU A t s H vs Q E B h=>?_)
 obtain⟨m,a,k,C,n,c,j,v,D,rfl,M,G,Y,uU,few,lw,q⟩:=h;have hu:=B.units;obtain⟨s',t',v',bs,ds,cs,h1,h2,h3,h4,h5,h6,h7,h8⟩:=id G;have l5:=h5.len;refine#[_,(cX (dR (ie (CompSc.to (N:=[sA,sD,"k"]) (osc:=cN yw) (vs:=["j"]) {}) zZ zZ (lA zZ T (cL (eK fS zZ O fG (cL (dB eM (pv 1) df (λ_ _=>rfl)) cH)) cH)) (λ_ _ _ _=>iE) (λ_ _ _ _=>(dv L B.m zZ (dr (cD (pv 1) (cD (pv 2) (cD (pv 3) (cD (pv 0) dt zZ) zZ) zZ) zZ))))))),?_];refine#[_,zZ,a,_,_,_,zZ,zZ,P2 h1,zZ,t',_,zZ,.inl (P1 h4),(j.length:Int),by rw[cu,l5],(),(),wO (λi l o=>Same H o/\∃d,l=d.map V.ref/\d.length=i/\TupsAt o d ((j.take i).map λu=>cJ (cC C) u D)) (by rw[iy];exact small ()) #[Same.refl _,[],zZ,zZ,zZ,λi b u e=>by simp at e] (λi l o _ p=>?_) (λi l o hi p=>?_) (λl H1 p sg x=>?_)]
 .obtain⟨_,d,rfl,e,_⟩:=p;rw[cu];lia
 .obtain⟨g,d,rfl,e,r⟩:=p;have e0:V.int (0+(i:Int))=nv i:=by show V.int (0+(i:Int))=V.int (i:Int);rw[ot]
  have y:i<j.length:=by simpa using hi
  obtain⟨u,z⟩:∃u,j[i]?=some u:=#[_,cA y];rw[e0];refine#[hO,lG #[_,zZ,_,zZ,_,zZ,_,zZ,m,a,k,i,C,n,c,j,v,u,D,zZ,M.same g,G.same g,z,Y,uU u (c8 z),lw,λp H2 I e2=>?_]];refine#[g.trans I,d++[p],by simp,by simp[e],?_];rw[lP,z,eV];exact tu (r.same I) e2
 obtain⟨g1,d,rfl,er,r⟩:=p;rw[iy,ik]at r;have J:=cM x (.lst (d.map V.ref));exact q sg d _ (g1.trans J) cw (r.same J)
def Mr(F:Fun K tY tY Bh f fd)(jF:dj P w K mg base uG 3 [sA,sC,tH] (dO K))(jI:dj P w K mg base uK 7 [sA,sD,"k"] fA)(jD:mg "tuple"=none):FnOk P w K mg base da 9 f fd [sA,sD,"k",sN] fh:=by
 refine F.ok kU (λay A an s H vs Q E hr h=>?_)
 obtain⟨m,a,k,l,o,n,ao,c,us,J,x,wd,rfl,M,ff,lv,lp,ex,ew,ll,q1,q2⟩:=h;have hu:=hr.units;obtain⟨s',t',v',bs,ds,cs,h1,h2,h3,h4,h5,h6,h7,h8⟩:=id lv;obtain⟨cne,az,cx,call⟩:=fR lp.cls;have lb:=h3.len;have lk:=(cK.mp ex).1;obtain⟨b,eb⟩:∃b,bs[k]?=some b:=#[_,cA ()];have hb:=h3.is k b x eb ex;have ab:∀y∈big ao,y∈dF n:=λy hy=>ff.inU M (d8.mp hy).1;have mx:=c8 ex;have hU:=ab x (call x mx).1;refine#[_,(cR (dE (i:=4) kU.nd zZ Z' (dv jF hr.m zZ (dr (cD (pv 0) (cD (dB gW (dB eM (pv 1) df (λ_ _=>rfl)) (pv 2) (λ_ _=>rfl)) (cD (f7 (cL (pv 3) cH)) dt zZ) zZ) zZ)))) (cR (iq (gn (L1 hu) (pv 4) (dB eM (pv 1) df (λ_ _=>rfl)) (by with_unfolding_all rfl)) (cX (dR ti)) iA) (cR (dE (i:=5) kU.nd zZ Z0 (dv jI hr.m zZ (dr (cD (pv 0) (cD (pv 1) (cD (mI mG CO DE (CP hu) (dB eM (pv 1) df (λ_ _=>rfl)) (cL (pv 4) cH)) dt zZ) zZ) zZ)))) (cX (dR (jy ud zZ jD oI (cL (ie (CompSc.to (N:=[sA,sD,"k",sN,"there","ends"]) (osc:=cN Bh) (vs:=["part"]) {}) zZ zZ (gF (dv jI hr.m zZ (dr (cD (pv 0) (cD (pv 1) (cD (pv 2) dt zZ) zZ) zZ)))) (λ_ _ _ _=>iE) (λ_ _ _ _=>(IR (K:=K) iT zZ (mI mG CO DE (CP hu) (pv 6) (cL (dv jF hr.m zZ (dr (cD (pv 1) (cD (pv 0) (cD (f7 (cL (pv 4) cH)) dt zZ) zZ) zZ))) cH))))) cH))))))),?_];obtain⟨uU,few⟩:=lp.inU M ff;have ae:=(lp.go k x wd ex ew).1;have l1:∀z∈[l],z<o.length:=λz hz=>by rw[cY.mp hz];exact ll
 refine#[_,zZ,_,zZ,a,_,_,_,zZ,zZ,P2 h1,zZ,_,zZ,s',_,_,_,zZ,zZ,P1 h2,jq (by rw[cV,eb];rfl),_,zZ,by show 1<=sizeLine;decide,λp1 L=>?_];have G:=cM L (.lst [nv l]);refine#[m,b,p1,o,n,x,[l],zZ,M.same G,P2 (G _ _ hb),dy (oU M.n5 hU) M.n5,(cy.mp hU).2,P1 cw,l1,λth H2 ap I=>?_];have B:=G.trans ap;have O:H2 th=some (.tup ((cC o x l).map nv)):=I;generalize hy:cC o x l=y at O q1 q2;have T:=B _ _ h2;refine#[_,zZ,_,zZ,a,_,_,_,zZ,zZ,P2 (B _ _ h1),zZ,s',1,.tup (ir y),c.map λu=>Dt.tup (ir u),_,zZ,P1 T,by rw[cu,cu,lb],iQ (P2 O),zB (h3.same B),by decide,λcc hc=>#[_,zZ,?_]];by_cases my:y∈c
 .have U:cc=true:=hc.mpr (m6.mpr my);subst U;refine fW ?_;obtain⟨k',ey,no⟩:=CN my;have aq:=(cK.mp ey).1;obtain⟨q,C⟩:∃q,J[k']?=some q:=#[_,cA (by rw[lp.len];exact aq)];have af:=(lp.go k' y q ey C).1;refine#[_,zZ,_,zZ,_,zZ,a,_,_,_,zZ,zZ,P2 (B _ _ h1),zZ,.inl #[zZ,_,P1 T],_,zZ,s',_,1,.tup (ir y),c.map λu=>Dt.tup (ir u),_,k',zZ,zZ,P1 T,by rw[cu,cu,lb],iQ (P2 O),zB (h3.same B),by decide,gu.mpr ey,λi hi e=>no i hi (gu.mp e),?_];refine#[m,a,k',o,n,c,us,J,q,zZ,M.same B,lv.same B,C,uU,few,af,λen es H3 ar ag ah=>?_];have g3:=B.trans ar;have len:=ah.len;rw[cu]at len;refine#[_,zZ,_,zZ,_,zZ,m,a,k,o,n,c,us,J,wd,zZ,M.same g3,lv.same g3,ew,uU,few,ae,λpl ps H4 Y ai aj=>?_];have g4:=g3.trans Y;have as:=aj.len;rw[cu]at as;refine#[pl,zZ,#[_,P1 ai],i0 (xs:=ps.map .ref) (λi D H'=>Same H4 H'/\∃t:cn,D=t.map nv/\t.length=i/\∀(j:Nat) (u:cn) (j':Nat),us[j]?=some u->t[j]?=some j'->∃u',us[j']?=some u'/\cJ (cC o) u' q=cC o (cJ (cC o) u wd) l) (by rw[cu,dA];lia) #[Same.refl _,[],zZ,zZ,λj u j' _ e=>by simp at e] (λi D H' hi p=>?_) (λi v D H' hv p=>?_) (λD H5 p tl au=>?_)]
  .obtain⟨g,t,rfl,e,_⟩:=p;exact#[P1 (g _ _ ai),by rw[cu];lia]
  .obtain⟨g,t,rfl,e,al⟩:=p;rw[cV]at hv;obtain⟨d,ed,rfl⟩:=eW.mp hv;have li:=(cK.mp ed).1;obtain⟨u,eu⟩:∃u,us[i]?=some u:=#[_,cA ()];have mu:=c8 eu;have hd:=g _ _ (aj.is i d _ ed (by rw[cV,eu];rfl));have ak:=jb M (uU u mu) ae;have gH:=g4.trans g;refine#[hO,lG #[_,zZ,.inl #[zZ,_,P1 ((Y.trans g) _ _ ag)],_,zZ,_,zZ,_,zZ,by show 1<=sizeLine;decide,λp1 L=>?_]];have G:=cM L (.lst [nv l]);refine#[m,d,p1,o,n,_,[l],zZ,M.same (gH.trans G),P2 (G _ _ hd),dy (oU M.n5 ak) M.n5,(cy.mp ak).2,P1 cw,l1,λca H6 am e6=>?_];have av:H6 ca=some (.tup ((cC o (cJ (cC o) u wd) l).map nv)):=e6;have g6:=(Y.trans g).trans (G.trans am);have mi:=Lx M ff lp ex ew ll (by rw[hy];exact ey) C mu;obtain⟨j0,aa,aw⟩:=CN mi;refine#[en,_,1,.tup (ir (cC o (cJ (cC o) u wd) l)),(us.map λu=>cJ (cC o) u q).map λu=>Dt.tup (ir u),_,j0,zZ,zZ,P1 (g6 _ _ ag),by rw[cu,cu,cu,len],iQ (P2 av),zB (ah.same g6),by decide,gu.mpr aa,λi hi e=>aw i hi (gu.mp e),?_];refine#[g.trans (G.trans am),t++[j0],by simp,by simp[e],λj u2 j' e1 I=>?_];by_cases hj:j<t.length
   .rw[fu hj]at I;exact al j u2 j' e1 I
   .rw[fV ()]at I;have z:j-t.length=0:=by
     have:=(cK.mp I).1;simp at this;lia
    rw[z]at I;cases I;have ji:j=i:=by lia
    subst ji;rw[eu]at e1;cases e1;rw[cV]at aa;obtain⟨u',f1,f2⟩:=eW.mp aa;exact#[u',f1,f2]
  .obtain⟨g5,t,rfl,ej,al⟩:=p;rw[cu]at ej;have kt:=cM au (.lst (t.map nv));refine#[tl,_,zZ,.inl #[P1 cw,λr ax=>?_]];have kr:=cM ax (.tup (t.map nv));exact q2 k' q ey C r t _ (((g4.trans g5).trans kt).trans kr) cw #[(),al]
 .have U:cc=false:=by
   cases cc with
   |false=>rfl
   |true=>exact wC (m6.mp (hc.mp zZ)) my
  subst U;exact gJ (q1 my H2 B)
def C6:(dM[0]'(by decide))∈dM:=iD _
def Ec:(dM[1]'(by decide))∈dM:=iD _
def io(t u:cn):cn:=fv (u.map λr=>t.getD r 0)
def lZ{a:cn}{r:Nat}:r∈fv a↔r<5/\r∈a:=by
 unfold fv;rw[d8,f8,hV]
def NG{a b:cn}(h:∀r,r∈a↔r∈b):fv a=fv b:=by
 unfold fv;refine uw λi _=>?_;rw[kh,hV,hV];exact h i
def Oj{f:Nat->Nat}{n r:Nat}(h:r<n):((List.range n).map f).getD r 0=f r:=by
 rw[eE,cV,lK h];rfl
def M8{H:Hp}{m:Ad}{a:LN}{n:Nat}(M:Mach H m a n){u w:cn}(b:u∈dF n)(c:∀l∈w,l<a.length):cJ (cC a) u w=io (va a n w) u:=by
 rw[xK M w u b c];unfold io ow va
 congr 1
 refine i9 λr d=>?_;rw[Oj ((cy.mp b).2 r d)]
def N8{H:Hp}{m:Ad}{a:LN}{n:Nat}(M:Mach H m a n){w:cn}(b:∀l∈w,l<a.length):va a n w∈eC n n:=by
 refine cE.mpr #[MX a n w,λr c=>?_];obtain⟨x,d,rfl⟩:=cT.mp c;exact lJ M w x (f8.mp d) b
def iR(a:LN)(x:cn):Nat:=a.findIdx λy=>decide (y=x)
def vV{a:LN}{x:cn}(h:x∈a):iR a x<a.length/\a[iR a x]?=some x:=by
 have l:iR a x<a.length:=List.findIdx_lt_length_of_exists #[x,h,dW zZ];refine#[l,?_];rw[cA l];have z:decide (a[iR a x]=x)=true:=List.findIdx_getElem (p:=λy=>decide (y=x)) (w:=l);rw[gK z]
def yE{a:LN}{x:cn}{j:Nat}(nd:a.Nodup)(h:a[j]?=some x):iR a x=j:=by
 obtain⟨l,e⟩:=vV (c8 h);exact(ig l nd).mp (e.trans h.symm)
def vh(a:LN)(t:cn):cn:=a.map λu=>iR a (io t u)
def gU(a:LN)(n:Nat):LN:=((eC n n).filter λt=>a.all λu=>a.contains (io t u)).map (vh a)
def gv{a:LN}{n:Nat}{x:cn}:x∈gU a n↔ ∃t∈eC n n,(∀u∈a,io t u∈a)/\x=vh a t:=by
 unfold gU;rw[cT];constructor
 .rintro⟨t,ht,rfl⟩;obtain⟨b,c⟩:=d8.mp ht;exact#[t,b,λu d=>hV.mp (rh.mp c u d),zZ]
 .rintro⟨t,b,c,rfl⟩;exact#[t,d8.mpr #[b,rh.mpr λu d=>hV.mpr (c u d)],zZ]
def GV{a:LN}{n:Nat}(h:n<=5):(gU a n).length<=4000:=by
 unfold gU;rw[cu];exact dy (iz _ _) (zc h)
def Cu{a:LN}{n:Nat}{x:cn}(h:x∈gU a n):x.length=a.length/\∀r∈x,r<a.length:=by
 obtain⟨t,_,g,rfl⟩:=gv.mp h;refine#[by simp[vh],λr b=>?_];obtain⟨u,c,rfl⟩:=cT.mp b;exact(vV (g u c)).1
def yZ{a:LN}{n:Nat}(nd:a.Nodup)(d:∀u∈a,u∈dF n):List.range a.length∈gU a n:=by
 have b:∀u∈a,io (List.range n) u=u:=λu c=>by
  obtain⟨e,f⟩:=cy.mp (d u c);unfold io;have:u.map (λr=>(List.range n).getD r 0)=u.map id:=i9 λr g=>by
   rw[eE,lK (f r g)];rfl
  rw[this,tj,e]
 refine gv.mpr #[List.range n,vx n,λu c=>by rw[b u c];exact c,?_];refine l6 λj=>?_;unfold vh;rw[cV];by_cases h:j<a.length
 .rw[lK h,cA h];show some j=some (iR a (io (List.range n) a[j]));rw[b _ (iD h),yE nd (cA h)]
 .rw[hJ (by simp;lia),List.getElem?_eq_none ()];rfl
def Kz{n:Nat}{t b u:cn}(k:n<=5)(ht:t∈eC n n)(i:u∈dF n):io b (io t u)=io (dz t b) u:=by
 obtain⟨f,j⟩:=cE.mp ht;obtain⟨_,g⟩:=cy.mp i;unfold io;refine NG λr=>?_;have e:∀x∈u,(dz t b).getD x 0=b.getD (t.getD x 0) 0:=λx a=>by
  have h:x<t.length:=by rw[f];exact g x a
  unfold dz;rw[eE,cV,cA h,eE (l:=t),cA h];rfl
 have c:∀x∈u,t.getD x 0<5:=λx a=>by
  have:=eF j (by rw[f];exact g x a);lia
 rw[cT,cT];constructor
 .rintro⟨y,d,rfl⟩;obtain⟨_,d⟩:=lZ.mp d;obtain⟨x,a,rfl⟩:=cT.mp d;exact#[x,a,e x a]
 .rintro⟨x,a,rfl⟩;exact#[t.getD x 0,lZ.mpr #[c x a,cT.mpr #[x,a,zZ]],(e x a).symm]
def J9{n:Nat}{t a:cn}(h:t∈eC n n)(b:a∈eC n n):dz t a∈eC n n:=by
 obtain⟨c,d⟩:=cE.mp h;obtain⟨e,f⟩:=cE.mp b;refine cE.mpr #[by unfold dz;rw[List.length_map,c],λr g=>?_];obtain⟨x,i,rfl⟩:=cT.mp g;exact eF f (by rw[e];exact d x i)
def zv{a:LN}{n:Nat}{x y:cn}(g:n<=5)(h:∀u∈a,u∈dF n)(i:x∈gU a n)(j:y∈gU a n):dz x y∈gU a n:=by
 obtain⟨t,d,f,rfl⟩:=gv.mp i;obtain⟨c,k,m,rfl⟩:=gv.mp j;have e:∀u∈a,io (dz t c) u=io c (io t u):=λu b=>(Kz g d (h u b)).symm;refine gv.mpr #[dz t c,J9 d k,λu b=>by rw[e u b];exact m _ (f u b),?_];unfold vh;show(a.map λu=>iR a (io t u)).map (λx=>(a.map λu=>iR a (io c u)).getD x 0)=_;rw[hK];refine i9 λu b=>?_;obtain⟨l,o⟩:=vV (f u b);show(a.map λu=>iR a (io c u)).getD (iR a (io t u)) 0=iR a (io (dz t c) u);rw[eE,cV,o,e u b];rfl
def oi{H:Hp}{m:Ad}{f:LN}{n:Nat}{d c h g:LN}(M:Mach H m f n)(j:FamOf f n d)(k:LvP f d c h g):h.Nodup:=by
 have i:=oB M j (c.headD []);rw[<-k.tl]at i;exact i.up.imp λ{a b} z e=>by
  subst e;rw[KG]at z;cases z
def IF{H:Hp}{m:Ad}{d:LN}{n:Nat}{q c g i:LN}(M:Mach H m d n)(y:FamOf d n q)(r:LvP d q c g i){k C l:Nat}{x o s t:cn}(O:c[k]?=some x)(Q:i[k]?=some o)(T:l<d.length)(U:c[C]?=some (cC d x l))(A:i[C]?=some s)(D:jc d g o s l t):
  t∈gU g n:=by
 obtain⟨E,_⟩:=r.inU M y;have nd:=oi M y r;have B:=(r.go k x o O Q).1;obtain⟨p,b⟩:=r.bij M y U A;have G:=oB M y (c.headD []);rw[<-r.tl]at G;have I:∀z∈o++[l]++p,z<d.length:=λz Y=>by
  rcases dh.mp Y with h|h
  .rcases dh.mp h with h|h
   .exact B z h
   .rw[cY.mp h];exact T
  .exact b.lp z h
 have v:∀(j:Nat) (u:cn) (a:Nat),g[j]?=some u->t[j]?=some a->g[a]?=some (io (va d n (o++[l]++p)) u):=λj u a J f=>by
  obtain⟨L,N,f2⟩:=D.2 j u a J f;have w:=c8 N;rw[<-M8 M (E u (c8 J)) I,gb,gb];show g[a]?=some (cJ (cC d) (cC d (cJ (cC d) u o) l) p);rw[<-f2,b.back M (E L w) (G.mem L w).2.2];exact N
 have lj:=D.1;refine gv.mpr #[_,N8 M I,λu hu=>?_,?_]
 .obtain⟨j,f⟩:=lU hu;obtain⟨a,e⟩:∃a,t[j]?=some a:=#[_,cA (by rw[lj];exact(cK.mp f).1)];exact c8 (v j u a f e)
 .refine l6 λj=>?_;unfold vh;rw[cV];cases f:g[j]? with
  |none=>
   have:=D2.mp f;rw[hJ ()];rfl
  |some u=>
   have:=(cK.mp f).1;obtain⟨a,e⟩:∃a,t[j]?=some a:=#[_,cA ()];rw[e];exact dw some (yE nd (v j u a f e)).symm
def Bw{H:Hp}{m:Ad}{f:LN}{n:Nat}{g c q h:LN}(M:Mach H m f n)(r:FamOf f n g)(s:LvP f g c q h){B l:Nat}{y C d D i:cn}(N:c[B]?=some y)(t:h[B]?=some d)(w:jc f q C d l D)(k:jc f q C d l i):D=i:=by
 obtain⟨E,_⟩:=s.inU M r;have nd:=oi M r s;obtain⟨p,b⟩:=s.bij M r N t;have x:=oB M r (c.headD []);rw[<-s.tl]at x;refine wu (by rw[w.1,k.1]) λj a O G Q=>?_;obtain⟨u,I⟩:∃u,q[j]?=some u:=#[_,cA (by rw[<-w.1];exact(cK.mp G).1)];obtain⟨v,z,T⟩:=w.2 j u a I G;obtain⟨A,J,U⟩:=k.2 j u O I Q;have L:=c8 z;have o:=c8 J;have e:v=A:=by
  rw[<-b.back M (E v L) (x.mem v L).2.2,<-b.back M (E A o) (x.mem A o).2.2,T,U]
 subst e;exact(ig (cK.mp z).1 nd).mp (z.trans J.symm)
def Ow{H:Hp}{m:Ad}{d:LN}{n:Nat}{b c i f:LN}(M:Mach H m d n)(g:FamOf d n b)(j:LvP d b c i f):0<i.length:=by
 obtain⟨_,_,l,_⟩:=fR j.cls;obtain⟨o,a⟩:=d8.mp l;have h:=oB M g (c.headD []);rw[<-j.tl]at h;obtain⟨_,k⟩:=cy.mp (g.inU M o);cases e:c.headD []with
 |nil=>
  rw[e]at a;cases a
 | cons r q=>
  rw[e]at h k a;obtain⟨t,ht,_⟩:=h.all [r] ((g.mem [r]).mpr (.inr #[r,k r (dX ..),zZ])) (λz=>by
   have p:=dw List.length z;have a:=gK a;rw[<-p]at a;simp at a) (by simp[sub])
  exact v9 ht
structure Makers(ts c us wds mk:LN):Prop where
 mem:∀t∈mk,∃(k l k':Nat) (x wd wd':cn),c[k]?=some x/\wds[k]?=some wd/\l<ts.length/\c[k']?=some (cC ts x l)/\wds[k']?=some wd'/\jc ts us wd wd' l t
 all:∀(k l:Nat) (x wd:cn),c[k]?=some x->wds[k]?=some wd->l<ts.length->cC ts x l∈c->∃(k':Nat) (wd' t:cn),t∈mk/\c[k']?=some (cC ts x l)/\wds[k']?=some wd'/\jc ts us wd wd' l t
theorem HS:∀{ws:TW} {as:As},as.length=ws.length->(a3x ws as).map (·.1)=(ws.map (·.1)).map nk
 | [],[],_=>rfl
 |p::ws,a::as,h=>dw (nk p.1:: ·) (HS (ws:=ws) (as:=as) (Nat.succ.inj h))
def gG(a:LN)(x:cn)(i:Nat):cn:=dz x (a.getD i [])
inductive fm(i:List V)(H:Hp)(Q:VK)(g:XK):Prop|mk:∀(m a:Ad) (e:LN) (n:Nat) (d c h b:LN),i=[.ref m,.ref a]->Mach H m e n->FamOf e n d->LvH H a c h b->LvP e d c h b->(∀l j mk f,Same H f->f l=some (.lst (j.map .ref))->TupsAt f j mk->Makers e c h b mk->mk.length<=200->Q (.ref l) f)->fm i H Q g
inductive gO(j:List V)(H:Hp)(Q:VK)(h:XK):Prop|mk:∀(m a:Ad) (f:LN) (n:Nat) (d c g b:LN),j=[.ref m,.ref a]->Mach H m f n->FamOf f n d->LvH H a c g b->LvP f d c g b->Tabs H->(∀l bs i mk k e,Keeps H e->Tabs e->L2.noT H l=none->e l=some (.lst (bs.map .ref))->TupsAt e bs i->i.Perm (k.map (·.1))->i.Pairwise (λx y=>fj x y=true)->Makers f c g b mk->Told (gG mk) mk.length (List.range g.length) k->Q (.ref l) e)->gO j H Q h
def Jk(F:Fun K uH uH Dp f fd)(jE:dj P w K mg base tY 9 [sA,sD,"k",sN] fh)(jA:mg "len"=none)(jB:mg "range"=none):FnOk P w K mg base da 11 f fd [sA,sD] fm:=by
 refine F.ok jK (λam A ai s H vs Q E hr h=>?_)
 obtain⟨m,a,G,n,aj,c,us,B,rfl,M,ff,lv,lp,q⟩:=h;have hu:=hr.units;refine#[_,(cR (dE (i:=2) jK.nd zZ Z' (f7 cH)) (cR (iG i4 zZ (lA zZ jB (cL (eK fS zZ jA fG (cL (dB eM (pv 1) df (λ_ _=>rfl)) cH)) cH)) (gB (i:=3) jK.nd zZ Z') (cX (iG i4 zZ (lA zZ jB (cL (eK fS zZ jA fG (cL (pv 0) cH)) cH)) (gB (i:=4) jK.nd zZ Z') (cR (dE (i:=5) jK.nd zZ Z' (dv jE hr.m zZ (dr (cD (pv 0) (cD (pv 1) (cD (pv 3) (cD (pv 4) dt zZ) zZ) zZ) zZ)))) (cX (iq (gn BQ (pv 5) ti (eY _)) (cX (lg (mI mG oz n' nY (pv 2) (cL (pv 5) cH)))) iA)))))) (cX (dR (pv 2))))),?_];obtain⟨s',t',v',bs,ds,cs,h1,h2,h3,h4,h5,h6,h7,h8⟩:=id lv;have lb:=h3.len;have t1:=M.some1;have t4:=M.few;obtain⟨rs,hm,ak,_⟩:=M.refs;have an:c.length<=32:=by
  rw[(fR lp.cls).2.1];exact dy (iz _ _) (dy (iz _ _) (ff.few M))
 refine#[by show 0<=sizeLine;decide,λfo ab=>?_];have k0:=cM ab (.lst [])
 let Mk:Nat->Nat->List cn->Prop:=λk l g=>g.length<=4 * k+l/\(∀t∈g,∃(k l J:Nat) (x C o:cn),c[k]?=some x/\B[k]?=some C/\l<G.length/\c[J]?=some (cC G x l)/\B[J]?=some o/\jc G us C o l t)/\
  ∀(i j:Nat) (x C:cn),(i<k\/i=k/\j<l)->c[i]?=some x->B[i]?=some C->j<G.length->cC G x j∈c->∃(J:Nat) (o t:cn),t∈g/\c[J]?=some (cC G x j)/\B[J]?=some o/\jc G us C o j t
 let Pk:Nat->L2.St->Hp->Prop:=λk T U=>Same H U/\∃(y:As) (g:LN) (o3 Y o5:Option V),U fo=some (.lst (y.map .ref))/\TupsAt U y g/\Mk k 0 g/\T=[some (.ref m),some (.ref a),some (.ref fo),o3,Y,o5]
 refine#[_,zZ,a,_,_,_,zZ,zZ,P2 (k0 _ _ h1),zZ,s',_,zZ,.inl (P1 (k0 _ _ h2)),(c.length:Int),by rw[cu,lb],(),(),oX Pk #[k0,[],[],none,none,none,cw,#[zZ,λi b u e=>by simp at e],#[Nat.zero_le _,(λt ht=>nomatch ht),λi j x C aa=>by lia],zZ] (λk T H1 hk p=>?_) (λT H1 p=>?_)]
 .obtain⟨g1,y,g,o3,Y,o5,L,T1,K1,rfl⟩:=p;have ae:k<c.length:=by simpa using hk
  have zk:V.int ((0:Int)+((k:Nat):Int))=nv k:=by show V.int (0+(k:Int))=V.int (k:Int);rw[ot]
  rw[zk];obtain⟨C,ew⟩:∃C,B[k]?=some C:=#[_,cA (by rw[lp.len];exact ae)];obtain⟨x,ex⟩:∃x,c[k]?=some x:=#[_,cA ae]
  let Pl:Nat->L2.St->Hp->Prop:=λl T U=>Same H U/\∃(y:As) (g:LN) (Y o5:Option V),U fo=some (.lst (y.map .ref))/\TupsAt U y g/\Mk k l g/\T=[some (.ref m),some (.ref a),some (.ref fo),some (nv k),Y,o5]
  refine#[_,zZ,m,_,zZ,.inr (P2 (g1 _ _ hm)),(G.length:Int),by rw[cu,ak],(),(),oX Pl #[g1,y,g,_,_,L,T1,K1,zZ] (λl T H2 hl p=>?_) (λT H2 p=>?_)]
  .obtain⟨g2,y,g,Y,o5,N,T2,K2,rfl⟩:=p;have af:l<G.length:=by simpa using hl
   have zl:V.int ((0:Int)+((l:Nat):Int))=nv l:=by show V.int (0+(l:Int))=V.int (l:Int);rw[ot]
   rw[zl];obtain⟨kz,km,O⟩:=K2;refine#[_,zZ,_,zZ,_,zZ,_,zZ,m,a,k,l,G,n,aj,c,us,B,x,C,zZ,M.same g2,ff,lv.same g2,lp,ex,ew,af,λmy H3 g3=>?_,λJ o ey ag tp js H3 g3 ah tb=>?_]
   .refine#[_,zZ,zZ,_,zZ,fW #[g2.trans g3,y,g,_,_,g3 _ _ N,T2.same g3,#[(),km,λi j x' r aa d v I D=>?_],zZ]];by_cases z:i=k/\j=l
    .obtain⟨rfl,rfl⟩:=z;rw[ex]at d;cases d;exact wC D my
    .exact O i j x' r () d v I D
   .refine#[_,zZ,zZ,_,zZ,gJ ?_];have e3:=g3 _ _ N;have lq:=T2.len;refine#[_,zZ,.inl #[zZ,_,P1 e3],_,zZ,fo,_,_,zZ,zZ,e3,by rw[cu,dA];lia,?_];refine#[i6 (g2.trans g3) ab,y++[tp],g++[js],_,_,by rw[cw,eV];rfl,tu #[lq,λi b u L N=>?_] ?_,#[by rw[eh,pd];lia,λt ht=>?_,λi j x' r aa d v I D=>?_],zZ]
    .have z:=(T2.same g3).is i b u L N;rw[cz (nE z e3)];exact z
    .rw[cz (nE ah e3)];exact ah
    .rcases dh.mp ht with z|z
     .exact km t z
     .rw[cY.mp z];exact#[k,l,J,x,C,o,ex,ew,af,ey,ag,tb]
    .by_cases z:i=k/\j=l
     .obtain⟨rfl,rfl⟩:=z;rw[ex]at d;cases d;rw[ew]at v;cases v;exact#[J,o,js,dh.mpr (.inr (cY.mpr zZ)),ey,ag,tb]
     .obtain⟨k2,al,t,r1,r2⟩:=O i j x' r () d v I D;exact#[k2,al,t,dh.mpr (.inl r1),r2]
  .obtain⟨g2,y,g,Y,o5,N,T2,⟨kz,km,O⟩,rfl⟩:=p;have el:(G.length:Int).toNat=G.length:=iy _;rw[el]at kz O;exact#[g2,y,g,_,_,_,N,T2,#[(),km,λi j x' r aa d v I D=>O i j x' r () d v I D],zZ]
 .obtain⟨g1,y,g,o3,Y,o5,L,T1,⟨kz,km,O⟩,rfl⟩:=p;have el:(c.length:Int).toNat=c.length:=iy _;rw[el]at kz O;exact#[_,zZ,q fo y g H1 g1 L T1 #[km,λk l x C L N e3 e4=>O k l x C (.inl (cK.mp L).1) L N e3 e4] ()]
def GZ{I c G B:Ad}{oc:Obj}{i C:LN}{n:Nat}{J:As}{z:Hp}{L M:Vl}{a:Arguments}{f:Expr}{d:Scope}{sx fx a1 a2:Expr}{kw N:List Keyword}{lp cp O rp:Pos}{s0:Stmt}(e:fg oA=[s0,.Return (some (.Call sx [.Call fx [a1,a2,.Lambda a f d lp] kw cp] N O)) rp])(jC:dj P w K mg base tO 1 [tR,sQ] cZ) (T:z G=some (.lst (J.map .ref))) (Tm:TupsAt z J i) (mU:∀t∈i,t∈gU C n) (few:C.length<=32) (h1:z I=some (gD I (eZ sH a f d uS c L (.ref B) M))) (h2:z c=some (dY c G oc)) (h3:z B=some (iM B sH)):
  FnOk P w K mg base da 5 I (eZ sH a f d uS c L (.ref B) M) [sX,"number"] (dJ (Same z) (gU C n) i.length (gG i))/\Binds K (eZ sH a f d uS c L (.ref B) M) [sX,"number"] []:=by
 cases e;refine#[yO (k:=4) (m:=G) (oc:=oc) #[zZ,zZ,zZ,by decide+kernel,by decide+kernel,zZ,by decide+kernel] (λvs H Q E h=>?_) (λvs H Q E h=>?_) (λA U s H vs Q E hr h=>?_),.all λC T=>match C,T with| [_,_],_=>rfl]
 .obtain⟨t,x,l,rfl,_⟩:=h;rfl
 .obtain⟨t,x,l,rfl,g,_⟩:=h;exact#[g _ _ h1,g _ _ h2,g _ _ h3]
 .obtain⟨t,x,l,rfl,g,ht,hx,Y,q⟩:=h;refine#[_,(dv jC hr.m zZ (dr (cD (pv 0) (cD (dB gW (pv 2) (pv 1) (λ_ _=>rfl)) dt zZ) zZ))),?_];have hc:=g _ _ h2;have off:∀{b:Ad} {u:HO},(∀φ,u≠ .ext φ)->H b=some u->(L2.drop H c) b=some u:=λnu hb=>by
   rw[d7 (i5 hb hc λe=>nu _ e)];exact hb
  have ln:=Tm.len;obtain⟨r,er⟩:∃r,J[l]?=some r:=#[_,cA ()];have et:i[l]?=some (i.getD l []):=by rw[eE,cA Y];rfl
  have aa:=off (u:= .tup _) (λ_ e=>nomatch e) (g _ _ (Tm.is l r _ er et));have mt:=mU _ (c8 et);obtain⟨x1,x2⟩:=Cu hx;obtain⟨y1,y2⟩:=Cu mt;refine#[_,zZ,_,zZ,_,zZ,G,_,_,_,zZ,zZ,P1 (off (u:= .lst _) (λ_ e=>nomatch e) (g _ _ T)),jq (j:=l) (v:= .ref r) (by rw[cV,er];rfl),t,r,x,i.getD l [],zZ,off (u:= .tup _) (λ_ e=>nomatch e) ht,aa,λy D=>by rw[y1];exact x2 y D,(),λp H3 g3 e3 free=>q p _ (λy o ho=>?_) ?_]
  .by_cases D:y=c
   .subst D;rw[hc]at ho;cases ho;exact cw
   .rw[cz D];exact g3 _ _ (by rw[d7 D];exact ho)
  .rw[cz (dH e3 free)];exact e3
def Mx{cd T:Ad}(F:DefAt K sU oA f fd .none (.ref cd))(hC:PySem.W.CodeHd base cd T)(bm:m9 mg base)(hq:((sH:Str),(#[131,61,131,110]:Pos),T)∈dM)(jW:dj P w K mg base uH 11 [sA,sD] fm)(jH:dj P w K mg base uJ 1 [sC] dZ)(jC:dj P w K mg base tO 1 [tR,sQ] cZ)(jS:xA P w K mg base tE 8 [uR,uO,"step",sK] (di P w K mg base) [.non]) (jA:mg "len"=none) (jN:mg "sorted"=none):FnOk P w K mg base da 13 f fd [sA,sD] gO:=by
 refine F.fnOk qY (λvs H Q E h=>?_) (λA an s H vs Q E h hr=>?_)
 .obtain⟨m,a,ts,n,af,c,us,ag,rfl,_⟩:=h;rfl
 obtain⟨m,a,ts,n,af,c,us,ag,rfl,M,ff,lv,lp,hT,q⟩:=h;refine#[_,?_,(cR (dE (i:=2) qY.nd zZ Z0 (dv jW hr.m zZ (dr (cD (pv 0) (cD (pv 1) dt zZ) zZ)))) (cX (dR (eK (JS zZ) zZ jN A2 (cL (DR jS hr.m zZ (j:=2) zZ zZ zZ zZ (dr (cD (dv jH hr.m zZ (cL (eK fS zZ jA fG (cL (dB eM (pv 1) df (λ_ _=>rfl)) cH)) cH)) (cD (eK fS zZ jA fG (cL (pv 2) cH)) (cD (Bd (qual:=sH) zZ hC bm (λ_ _ _ _ _=>rfl) zZ zZ) dt zZ) zZ) zZ))) cH)))))];refine#[_,zZ,_,zZ,m,a,ts,n,af,c,us,ag,zZ,M,ff,lv,lp,λlm rs mk H1 g1 ao Tm Mk am=>?_];obtain⟨s',t',v',bs,ds,cs,h1,h2,h3,h4,h5,h6,h7,h8⟩:=id (lv.same g1);have l5:=h5.len;obtain⟨uU,few⟩:=lp.inU M ff;have n5:=M.n5;have nd:=oi M ff lp;have mU:∀t∈mk,t∈gU us n:=λt ht=>by
  obtain⟨k,l,k',x,wd,aq,e1,e2,e3,e4,e5,e6⟩:=Mk.mem t ht;exact IF M ff lp e1 e2 e3 e4 e5 e6
 refine#[_,zZ,a,_,_,_,zZ,zZ,P2 h1,zZ,t',_,zZ,.inl (P1 h4),?_]
 try dsimp only
 rw[cu,l5];refine#[us.length,zZ,(),λst H2 g2 e2=>?_];have L:=g2 _ _ ao;have ab:=Tm.same g2;have T2:Tabs H2:=(hT.same g1).same g2;refine#[_,zZ,lm,_,zZ,.inl (P1 L),?_]
 try dsimp only
 rw[cu,ab.len];have ah:∀(B:Hp) (D:Ad) (ws:TW) (as:As),Keeps H B->Tabs B->WordsAt B D ws as->Told (gG mk) mk.length (List.range us.length) ws->iU [.ref D] B Q:=λB D ws as k3 t3 W TT=>by
  have inG:∀p∈ws,p.1∈gU us n:=λp hp=>by
   obtain⟨r1,r2⟩:=TT.run p hp;rw[<-r2];refine mX (yZ nd uU) (λx hx l hl=>zv n5 uU hx ?_) p.2 r1;rw[eE,cA hl];exact mU _ (iD hl)
  refine#[D,_,ws.map (·.1),zZ,W.dict,?_,λt ht e=>?_,?_,λl bs gs hl Tb pm up=>?_]
  .exact HS W.len
  .obtain⟨p,hp,rfl⟩:=cT.mp ht;have z:=(Cu (inG p hp)).1;rw[e]at z;have:=Ow M ff lp
   simp at z;lia
  .refine dy (jf (U:=gU us n) TT.keys λx hx=>?_) (GV n5);obtain⟨p,hp,rfl⟩:=cT.mp hx;exact inG p hp
  .have gl:=cM hl (.lst (bs.map V.ref));refine q l bs gs mk ws _ (k3.trans gl.keeps) (t3.same gl) ?_ cw (Tb.same gl) pm up Mk TT;cases y:L2.noT H l with
   |none=>rfl
   |some o=>
    have z:=k3 _ _ y;rw[hl]at z;cases z
 have go:∀(N G:Ad) (ct:Vl) (B:Hp) (ai:AV),H2 T=some (.tbl ai)->KeepsBut T H2 B->B T=some (.tbl (jm (#[131,61,131,110]:Pos) G))->B G=some (iM G sH)->∀(d:Arguments) (C:Expr) (g:Scope) (pm:Vl) (I:Ad),B N=some (gD N (eZ sH d C g uS I pm (.ref G) ct))->
   ∀O,B I=none->(FnOk P w K mg base da 5 N (eZ sH d C g uS I pm (.ref G) ct) [sX,"number"] (dJ (Same (cq B I (dY I lm O))) (gU us n) mk.length (gG mk)))->Binds K (eZ sH d C g uS I pm (.ref G) ct) [sX,"number"] []->
   di P w K mg base [.ref st,nv mk.length,.ref N,.non] (cq B I (dY I lm O)) (λr H4=>H4 I=some (dY I lm O)/\iU [r] (L2.drop H4 I) Q) E0:=λN G ct B ai aj kb h1 h2 d C g pm I h3 O Y hF hB=>by
  have J:=kb.keeps aj;have v:=cM Y (dY I lm O);refine#[st,N,_,_,List.range us.length,mk.length,gU us n,gG mk,zZ,v _ _ (J _ _ (nU e2)),v _ _ h3,yZ nd uU,λx hx l hl=>zv n5 uU hx ?_,GV n5,(),hF,hB,λD ws as H4 g4 W nw TT=>#[g4 _ _ cw,ah _ D ws as (λb o hb=>?_) (T2.but hq aj (λb o nb hb=>?_) (.inr #[G,?_,?_])) #[W.len,?_,λj a r e1 e2=>?_] TT]]
  .rw[eE,cA hl];exact mU _ (iD hl)
  .have z:=((g1.trans g2).keeps.trans J) b o hb;rw[d7 (dH z Y)];exact g4 _ _ (v _ _ z)
  .have z:=kb b o nb hb;rw[d7 (dH z Y)];exact g4 _ _ (v _ _ z)
  .rw[d7 (dH h1 Y)];exact g4 _ _ (v _ _ h1)
  .rw[d7 (dH h2 Y)];exact g4 _ _ (v _ _ h2)
  .rw[d7 (nE W.dict (g4 _ _ cw))];exact W.dict
  .have z:=W.list j a r e1 e2;rw[d7 (nE z (g4 _ _ cw))];exact z
 rcases T2 _ hq with u|⟨G,u,aa⟩
 .refine .inl #[u,λN G ct ae aa ne=>#[lm,zZ,λO Y=>?_]];obtain⟨J,ap,ak⟩:=yS (#[131,61,131,110]:Pos) sH u ae aa ne _;have v:=cM Y (dY (s.heap.objs.size+1) lm O);have al:=J.keeps u;obtain⟨F1,F2⟩:=GZ zZ jC (v _ _ (al _ _ (nU L))) ((pZ ab al).same v) mU few (v _ _ cw) cw (v _ _ ak);exact go N G ct _ _ u J ap ak _ _ _ _ _ cw O Y F1 F2
 .refine .inr #[G,u,aa,λN ct ae=>#[lm,zZ,λO Y=>?_]];have J:∀lo,Same H2 (cq H2 N lo):=λlo=>cM ae lo;have v:=cM Y (dY (s.heap.objs.size+1) lm O);obtain⟨F1,F2⟩:=GZ zZ jC (v _ _ (J _ _ _ L)) ((ab.same (J _)).same v) mU few (v _ _ cw) cw (v _ _ (J _ _ _ aa));exact go N G ct _ _ u (λb o _ hb=>J _ _ _ hb) (J _ _ _ u) (J _ _ _ aa) _ _ _ _ _ cw O Y F1 F2
def LvH.keeps{H e:Hp}{a:Ad}{c f d:LN}(h:LvH H a c f d)(g:Keeps H e):LvH e a c f d:=by
 obtain⟨s,t,v,bs,ds,i,j,l,m,n,o,p,q,r⟩:=h;exact#[s,t,v,bs,ds,i,g _ _ (nU j),g _ _ (nU l),pZ m g,g _ _ (nU n),pZ o g,g _ _ (nU p),q,λk b u w x=>g _ _ (nU (r k b u w x))]
def Br{H c:Hp}{l:Ad}{o:HO}(g:Keeps H c)(n:L2.noT H l=none):Keeps H (cq c l o):=λb u a=>by
 rw[cz (λz=>by rw[z,n]at a;cases a)];exact g b u a
inductive Gen (S:cn->Prop) (N:Nat):cn->Prop
 |base:Gen S N (List.range N)
 |step {x m:cn}:Gen S N x->S m->Gen S N (dz x m)
def LO{a:LN}{N:Nat}:∀(v x:cn),(∀i∈v,i<a.length)->Gen (· ∈a) N x->Gen (· ∈a) N (cJ (gG a) x v):=by
 intro v
 induction v with
 |nil=>exact λx _ h=>h
 |cons i v d=>
  intro x b h;have c:=b i (dX ..);refine d (gG a x i) (λl e=>b l (eO _ e)) ?_;show Gen _ _ (dz x (a.getD i []));rw[eE,cA c];exact .step h (iD c)
def EY{a:LN}{N:Nat}{e:TW}(T:Told (gG a) a.length (List.range N) e)(t:cn):t∈e.map (·.1)↔Gen (· ∈a) N t:=by
 constructor
 .intro h;obtain⟨p,b,rfl⟩:=cT.mp h;obtain⟨c,d⟩:=T.run p b;rw[<-d];exact LO p.2 _ c .base
 .intro h
  induction h with
  |base=>exact cT.mpr #[_,c8 T.head,zZ]
  | @step x m _ j k=>
   obtain⟨i,f⟩:=lU j;have l:=(cK.mp f).1;obtain⟨p,b,rfl⟩:=cT.mp k;obtain⟨c,d⟩:=T.run p b;obtain⟨u,g,_⟩:=T.least _ (p.2++[i]) zZ λx n=>(dh.mp n).elim (c x) λz=>by rw[cY.mp z];exact l
   have o:cJ (gG a) (List.range N) (p.2++[i])=dz p.1 m:=by
    have q:gG a p.1 i=dz p.1 m:=by
     show dz _ (a.getD i [])=_;rw[eE,f];rfl
    rw[<-q,<-d];unfold cJ;rw[nB];rfl
   rw[o]at g;exact cT.mpr #[_,g,zZ]
def Gx{S a:cn->Prop}{N:Nat}(h:∀t,S t↔a t)(t:cn):Gen S N t↔Gen a N t:=by
 have e:S=a:=funext λt=>propext (h t);rw[e]
def rq(d c g a:LN)(t:cn):Prop:=∃(k l e:Nat) (x f b:cn),c[k]?=some x/\a[k]?=some f/\l<d.length/\c[e]?=some (cC d x l)/\a[e]?=some b/\jc d g f b l t
def EO{H:Hp}{m:Ad}{b:LN}{n:Nat}{d c f a g:LN}(M:Mach H m b n)(h:FamOf b n d)(i:LvP b d c f a)(Mk:Makers b c f a g)(t:cn):t∈g↔rq b c f a t:=by
 refine#[Mk.mem t,?_];rintro⟨k,l,C,x,p,q,r,s,u,e,j,v⟩;obtain⟨D,w,E,y,z,o,A⟩:=Mk.all k l x p r s u (c8 e);have B:=(ig (cK.mp e).1 (i.nd h)).mp (e.trans z.symm);subst B;rw[j]at o;cases o;rw[Bw M h i e j v A];exact y
def IJ{N:Nat}{t:cn}(h:t.length=N):dz (List.range N) t=t:=by
 subst h;refine l6 λj=>?_;unfold dz;rw[cV];by_cases z:j<t.length
 .rw[lK z,cA z];show some (t.getD j 0)=_;rw[eE,cA z];rfl
 .rw[hJ (by simp;lia),List.getElem?_eq_none ()];rfl
def qz(ts c d a:LN):Prop:=∀(k l e:Nat) (x f b t:cn),c[k]?=some x->a[k]?=some f->l<ts.length->c[e]?=some (cC ts x l)->a[e]?=some b->jc ts d f b l t->t=List.range d.length
def NJ{H:Hp}{m:Ad}{d:LN}{n:Nat}{e c g a s:LN}(M:Mach H m d n)(u:FamOf d n e)(v:LvP d e c g a)(Mk:Makers d c g a s):(∀t∈s,t=List.range g.length)↔qz d c g a:=by
 constructor
 .intro h k l w x j f t o p q b i r;obtain⟨G,z,A,B,C,y,D⟩:=Mk.all k l x j o p q (c8 b);have E:=(ig (cK.mp b).1 (v.nd u)).mp (b.trans C.symm);subst E;rw[i]at y;cases y;rw[Bw M u v b i r D];exact h A B
 .intro h t ht;obtain⟨k,l,w,x,j,f,o,p,q,b,i,r⟩:=Mk.mem t ht;exact h k l w x j f t o p q b i r
def gj{N:Nat}{t:cn}(h:t.length=N):dz (List.range N) t=t:=by
 subst h;refine l6 λj=>?_;unfold dz;rw[cV];by_cases z:j<t.length
 .rw[lK z,cA z];show some (t.getD j 0)=_;rw[eE,cA z];rfl
 .rw[hJ (by simp;lia),List.getElem?_eq_none ()];rfl
def Ld{N:Nat}{d f:LN}{k:TW}(len:∀t∈d,t.length=N)(j:f.Perm (k.map (·.1)))(T:Told (gG d) d.length (List.range N) k):(f=[List.range N]↔ ∀t∈d,t=List.range N)/\(f.length=1↔ ∀t∈d,t=List.range N):=by
 have mem:List.range N∈f:=j.mem_iff.mpr (cT.mpr #[_,c8 T.head,zZ]);have one:f.length=1->f=[List.range N]:=λh=>by
  match f,h with
  | [g],_=>rw[cY.mp mem]
 have a:f=[List.range N]->∀t∈d,t=List.range N:=λh t ht=>by
  obtain⟨i,m⟩:=lU ht;have o:=(cK.mp m).1;have q:cJ (gG d) (List.range N) [i]=t:=by
   show dz (List.range N) (d.getD i [])=t;rw[eE,m];exact gj (len t ht)
  obtain⟨u,s,_⟩:=T.least _ [i] zZ λl v=>by rw[cY.mp v];exact o
  have z:=j.mem_iff.mpr (cT.mpr #[_,s,zZ]);rw[h,q]at z;exact cY.mp z
 have b:(∀t∈d,t=List.range N)->f=[List.range N]:=λh=>by
  have all:∀(w:cn),(∀l∈w,l<d.length)->cJ (gG d) (List.range N) w=List.range N:=λw=>by
   induction w with
   |nil=>exact λ_=>rfl
   | cons l w y=>
    intro hw;have n:=hw l (dX ..);have e:gG d (List.range N) l=List.range N:=by
     show dz (List.range N) (d.getD l [])=_;rw[eE,cA n];show dz (List.range N) d[l]=_
     rw[h _ (iD n)];exact gj (md)
    show cJ (gG d) (gG d (List.range N) l) w=_;rw[e];exact y λx A=>hw x (eO _ A)
  have c:∀g∈f,g=List.range N:=λg B=>by
   obtain⟨p,C,rfl⟩:=cT.mp (j.mem_iff.mp B);obtain⟨D,E⟩:=T.run p C;rw[<-E];exact all p.2 D
  have nd:f.Nodup:=j.nodup_iff.mpr T.keys
  match f,mem,c,nd with
  | [g],_,c,_=>rw[c g (dX ..)]
  |g::G::r,_,c,nd=>
   have H:=c g (dX ..);have I:=c G (eO _ (dX ..));exact wC (dL.mpr (.inl (H.trans I.symm))) (jw.mp nd).1
 exact#[#[a,b],λh=>a (one h),λh=>by rw[b h];rfl]
inductive gQ(j:List V)(H:Hp)(Q:VK)(g:XK):Prop|mk:∀(m a:Ad) (f:LN) (n:Nat) (e c h d:LN),j=[.ref m,.ref a]->Mach H m f n->FamOf f n e->LvH H a c h d->LvP f e c h d->Tabs H->(∀b i,Keeps H i->Tabs i->(b=true↔qz f c h d)->Q (.bl b) i)->gQ j H Q g
def JC(F:Fun K "rests" "rests" C4 f fd)(I:dj P w K mg base sU 13 [sA,sD] gO)(J:dj P w K mg base uJ 1 [sC] dZ)(L:mg "len"=none):FnOk P w K mg base da 15 f fd [sA,sD] gQ:=by
 refine F.ok Jn (λN A g s H vs Q E j h=>?_)
 obtain⟨m,a,O,n,o,c,d,r,rfl,M,v,C,y,hT,q⟩:=h;have T:=j.units;refine#[_,(cX (dR (l8 (ub T) (dv I j.m zZ (dr (cD (pv 0) (cD (pv 1) dt zZ) zZ))) (f7 (cL (dv J j.m zZ (cL (eK fS zZ L fG (cL (dB eM (pv 1) df (λ_ _=>rfl)) cH)) cH)) cH)) (eY _)))),?_];obtain⟨s',U,v',bs,ds,cs,Y,h2,h3,h4,h5,h6,h7,h8⟩:=id C;have l5:=h5.len;obtain⟨uU,few⟩:=y.inU M v;refine#[_,zZ,_,zZ,m,a,O,n,o,c,d,r,zZ,M,v,C,y,hT,λl bs gs mk ws H1 B T1 nl el Tb pm up Mk TT=>?_];have lm:∀t∈mk,t.length=d.length:=λt ht=>by
  obtain⟨k,l,k',x,wd,aa,e1,D,e3,e4,e5,e6⟩:=Mk.mem t ht;exact e6.1
 obtain⟨gr,_⟩:=Ld lm pm TT;refine#[_,zZ,a,_,_,_,zZ,zZ,P2 (B _ _ (nU Y)),zZ,U,_,zZ,.inl (P1 (B _ _ (nU h4))),?_]
 try dsimp only
 rw[cu,l5];refine#[d.length,zZ,(),λst H2 e D=>#[by show 1<=sizeLine;decide,λp hp=>?_]];have gp:=cM hp (.lst [.ref st]);refine#[l,p,1,_,_,zZ,zZ,qr ((e.trans gp) _ _ el) (Tb.same (e.trans gp)),qr (bs:=[st]) (us:=[List.range d.length]) cw #[zZ,λi b u G z2=>?_],by decide,λb hb=>q b _ ((B.trans e.keeps).trans gp.keeps) ((T1.same e).same gp) ?_]
 .cases i with
  |zero=>
   cases G;cases z2;exact gp _ _ D
  |succ i=>cases G
 .rw[<-NJ M v y Mk,<-gr,hb];exact#[λz=>xx z,λz=>by rw[z]]
inductive iX(g:List V)(H:Hp)(Q:VK)(d:XK):Prop|mk:∀(m a:Ad) (k:Nat) (e:LN) (n:Nat) (c h b:LN) (f:cn),g=[.ref m,.ref a,nv k]->Mach H m e n->LvH H a c h b->c≠[]->b[k]?=some f->c.headD []∈dF n->(∀l∈f,l<e.length)->(vz H (((c.headD []).map λr=>db e r f).map nv) Q)->iX g H Q d
def Nf(F:Fun K "carry" "carry" AH f fd)(G:dj P w K mg base "led" 1 [sA,uP,tH] (lV K))(I:mg "tuple"=none):FnOk P w K mg base da 3 f fd [sA,sD,"k"] iX:=by
 refine F.ok L6 (λJ A o s H vs Q E z h=>?_)
 obtain⟨m,a,k,i,n,c,us,L,b,rfl,M,O,cne,B,C,t,q⟩:=h;have hu:=z.units;obtain⟨T,t',U,bs,ds,Y,D,h2,h3,h4,h5,h6,h7,h8⟩:=id O;have lk:=(cK.mp B).1;obtain⟨b0,u,d,m0⟩:=uk h3 cne;obtain⟨j,g⟩:∃j,Y[k]?=some j:=#[_,cA ()];have x:=h8 k j b g B;have l5:=dy (oU M.n5 C) M.n5;refine#[_,(cX (dR (jy ud zZ I oI (cL (ie (CompSc.to (N:=[sA,sD,"k"]) (osc:=cN AH) (vs:=[uP]) {}) zZ zZ (xO (dB gW (dB eM (pv 1) df (λ_ _=>rfl)) df (λ_ _=>rfl))) (λ_ _ _ _=>iE) (λ_ _ _ _=>(dv G z.m zZ (dr (cD (pv 1) (cD (pv 0) (cD (dB (IxR.k (K:=K) mj gW zZ) (dB (IxR.k (K:=K) jo eM zZ) (pv 2) df (λ_ _=>rfl)) (pv 3) (λ_ _=>rfl)) dt zZ) zZ) zZ))))) cH)))),?_];refine#[_,zZ,a,_,_,_,zZ,zZ,P2 D,zZ,T,_,_,_,zZ,zZ,P1 h2,u,b0,zZ,#[_,P2 d],v0 (f:=λv=>match v with|.int r=>nv (db i r.toNat b)|v=>v) (by rw[cu];exact small ()) (P2 d) (λv Q hv q=>?_) (λl hl=>?_)]
 .obtain⟨r,y,rfl⟩:=cT.mp hv;exact#[_,zZ,_,zZ,_,zZ,a,_,_,_,zZ,zZ,P2 D,zZ,_,zZ,U,_,_,_,zZ,zZ,P1 h6,jq (by rw[cV,g];rfl),m,j,i,n,r,b,zZ,M,(cy.mp C).2 r y,P1 x,t,q]
 .have e:((c.headD []).map nv).map (λv=>match v with|.int r=>nv (db i r.toNat b)|v=>v)=((c.headD []).map λr=>db i r b).map nv:=by
   rw[hK,hK];rfl
  try dsimp only
  rw[e];refine#[l,_,zZ,.inl #[P1 cw,λp hp=>?_]];exact q p _ ((cM hl _).trans (cM hp _)) cw
def Mt{H:Hp}{m:Ad}{a:LN}{n:Nat}(M:Mach H m a n){x:cn}{b:TW}(T:Told (cC a) a.length x b)(c:x∈dF n):b.length<=32:=by
 rw[<-cu (f:=(·.1)) (as:=b)];refine dy (jf T.keys (U:=dF n) λy d=>?_) (Bc n);obtain⟨p,e,rfl⟩:=cT.mp d;obtain⟨g,h⟩:=T.run p e;rw[<-h];exact jb M c g
theorem zY{x u v:cn}:∀{a:TW},(a.map (·.1)).Nodup->(x,u)∈a->(x,v)∈a->u=v
 | [],_,h,_=>nomatch h
 | p::a,nd,d,b=>by
  obtain⟨c,e⟩:=jw.mp nd
  rcases dL.mp d with e1|e1
  .rcases dL.mp b with e2|e2
   .rw[<-e1]at e2;injection e2 with _ e2
    exact e2.symm
   .exact wC (cT.mpr #[_,e2,by rw[<-e1]]) c
  .rcases dL.mp b with e2|e2
   .exact wC (cT.mpr #[_,e1,by rw[<-e2]]) c
   .exact zY e e1 e2
def Wds(b c a:LN):Prop:=a.length=c.length/\∃d,Told (cC b) b.length (c.headD []) d/\∀(k:Nat) (x e:cn),c[k]?=some x->a[k]?=some e->(x,e)∈d
def Wds.uniq{ts c e d:LN}(h:Wds ts c e)(m:Wds ts c d):e=d:=by
 obtain⟨q,r,T,a⟩:=h;obtain⟨s,n,o,b⟩:=m;cases T.uniq o;refine l6 λk=>?_;by_cases p:k<c.length
 .obtain⟨g,i⟩:∃g,e[k]?=some g:=#[_,cA ()];obtain⟨f,j⟩:∃f,d[k]?=some f:=#[_,cA ()];have l:=cA p;rw[i,j,zY T.keys (a k _ g l i) (b k _ f l j)]
 .rw[hJ (),hJ ()]
def Ord.uniq{ts:LN}{b told a:im}(h:Ord ts b told)(c:Ord ts b a):told=a:=by
 induction h generalizing a with
 |nil=>
  cases c with
  |nil=>rfl
  |cons h r=>cases h
 | cons h r e=>
  cases c with
  |nil=>cases h
  |cons d f=>
   rw[h]at d;cases d;rw[e f]
def OU{g:LN}{n:Nat}{d c:LN}(i:FamOf g n d)(h:c∈cU g (big d)):c.Nodup:=by
 have f:d.Nodup:=i.up.imp λ{a b} z e=>by
  subst e;rw[(ph gl d).irr]at z;cases z
 rw[(fR h).2.1];exact(f.filter _).filter _
def LevAt.lvw{H:Hp}{l:Ad}{p d:LN}{E:List WE}{a:Ad}{c:LN}(h:LevAt H l p d (big d) E a c)(G:c∈cU p (big d)):∃e,LvH H a c (gA d (c.headD [])) e/\LvP p d c (gA d (c.headD [])) e/\Wds p c e:=by
 obtain⟨s,t,v,bs,I,u,i,y,J,h2,h3,h4,h5,L,M,N,O,w,Q,T,U,g,Y,z⟩:=h;obtain⟨e,A,B⟩:=DS (n:=c.length) (P:=λk f=>∃x b,c[k]?=some x/\u[k]?=some b/\(x,f)∈y.2.1/\H b=some (.lst (f.map nv))) λk hk=>by
  obtain⟨x,C⟩:∃x,c[k]?=some x:=#[_,cA hk];obtain⟨b,D⟩:∃b,u[k]?=some b:=#[_,cA ()];obtain⟨f,q,r⟩:=z k x b C D;exact#[f,x,b,C,D,q,r]
 have j:∀(k:Nat) (x f:cn),c[k]?=some x->e[k]?=some f->(x,f)∈y.2.1:=λk x f m o=>by
  obtain⟨x',b',q,_,z3,_⟩:=B k f o;rw[m]at q;cases q;exact z3
 refine#[e,#[s,t,v,bs,I,u,J,L,M,N,O,w,(),λk b f m o=>?_],#[G,zZ,A,λk x f m o=>g.run _ (j k x f m o)],A,y.2.1,g,j];obtain⟨x',b',_,r,_,z4⟩:=B k f o;rw[m]at r;cases r;exact z4
def eX(ts:LN)(x w:cn):cn:=x.map λr=>db ts r w
def lB(a:LN)(x:cn)(l:Nat):cn:=dz x (a.getD l [])
def LR{a:LN}{x w:cn}{l:Nat}:lB a (eX a x w) l=eX a x (w++[l]):=by
 unfold lB dz eX;rw[hK];exact i9 λr _=>(Fg a r w l).symm
theorem Aq{ts:LN}{x:cn}:∀(v w:cn),cJ (lB ts) (eX ts x w) v=eX ts x (w++v)
 | [],w=>by rw[gS];rfl
 |l::v,w=>by
  show cJ (lB ts) (lB ts (eX ts x w) l) v=_;rw[LR,Aq v (w++[l]),f'];rfl
def qt(d c e a:LN)(k l:Nat):Prop:=∃(f:Nat) (x g b t:cn),c[k]?=some x/\a[k]?=some g/\l<d.length/\c[f]?=some (cC d x l)/\a[f]?=some b/\jc d e g b l t/\t≠List.range e.length
def Fst(b c d a:LN)(k l:Nat):Prop:=qt b c d a k l/\∀i j,(i<k\/i=k/\j<l)-> ¬qt b c d a i j
def Fst.uniq{ts c g e:LN}{k l d f:Nat}(h:Fst ts c g e k l)(i:Fst ts c g e d f):k=d/\l=f:=by
 have a: ¬(k<d\/k=d/\l<f):=λz=>i.2 k l z h.1;have b: ¬(d<k\/d=k/\f<l):=λz=>h.2 d f z i.1;lia
def d6{ts c o b:LN}:qz ts c o b↔ ∀k l,¬qt ts c o b k l:=by
 constructor
 .rintro h k l ⟨d,x,e,a,t,f,g,i,j,m,n,ne⟩;exact ne (h k l d x e a t f g i j m n)
 .intro h k l d x e a t f g i j m n;exact ou λne=>h k l #[d,x,e,a,t,f,g,i,j,m,n,ne]
def AbW(d c a:LN)(k l:Nat)(v:cn):Prop:=∃(x e:cn) (f:Nat) (b:cn) (g:TW) (p:cn),c[k]?=some x/\a[k]?=some e/\c[f]?=some (cC d x l)/\a[f]?=some b/\Told (lB d) d.length (eX d (c.headD []) b) g/\(c.headD [],p)∈g/\v=e++[l]++p
def AbW.uniq{ts c a:LN}{k l:Nat}{v b:cn}(nd:c.Nodup)(h:AbW ts c a k l v)(j:AbW ts c a k l b):v=b:=by
 obtain⟨x,A,B,m,C,p,n,o,a3,a4,d,q,rfl⟩:=h;obtain⟨D,r,s,e,t,E,f,g,u,i,w,y,rfl⟩:=j;rw[n]at f;cases f;rw[o]at g;cases g;have z:=(ig (cK.mp a3).1 nd).mp (a3.trans u.symm);subst z;rw[a4]at i;cases i;cases d.uniq w;rw[zY d.keys q y]
def Abt(d b:LN)(told:im):Option (cn×cn)->Prop
 |none=>∀c∈told,∃a,LvP d b c (gA b (c.headD [])) a/\Wds d c a/\∀k l,¬qt d c (gA b (c.headD [])) a k l
 |some r=>∃(i:Nat) (c a:LN) (k l:Nat),told[i]?=some c/\Wds d c a/\Fst d c (gA b (c.headD [])) a k l/\AbW d c a k l r.1/\r.2=c.headD []/\∀(j:Nat) (f e:LN),j<i->told[j]?=some f->Wds d f e->∀k l,¬qt d f (gA b (f.headD [])) e k l
def Abt.uniq{ts e:LN}{told:im}{r m:Option (cn×cn)}(nd:∀c∈told,c.Nodup)(h:Abt ts e told r)(o:Abt ts e told m):r=m:=by
 cases r with
 | none=>
  cases m with
  |none=>rfl
  |some q=>
   obtain⟨i,c,g,k,l,d,W,f,_⟩:=o;obtain⟨_,_,p,no⟩:=h c (c8 d);cases p.uniq W;exact wC f.1 (no k l)
 | some q=>
  obtain⟨i,c,g,k,l,d,W,f,a,x,no⟩:=h;cases m with
  |none=>
   obtain⟨_,_,p,no⟩:=o c (c8 d);cases p.uniq W;exact wC f.1 (no k l)
  | some y=>
   obtain⟨n,A,j,B,C,b,v,w,D,s,t⟩:=o;have E:i=n:=by
    have L: ¬i<n:=λz=>t i c g z d W k l f.1;have M: ¬n<i:=λz=>no n A j z b v B C w.1;lia
   subst E;rw[d]at b;cases b;cases W.uniq v;obtain⟨rfl,rfl⟩:=f.uniq w;have u:=a.uniq (nd c (c8 d)) D;obtain⟨G,H⟩:=q;obtain⟨I,J⟩:=y;have u:G=I:=u;have x:H=c.headD []:=x;have s:J=c.headD []:=s;rw[u,x,s]
def AbM(b:LN)(n:Nat)(r:Option (cn×cn)):Prop:=∃a told,FamOf b n a/\Ord b (cU b (big a)) told/\(∀c∈told,c∈cU b (big a))/\Abt b a told r
def AbM.uniq{ts:LN}{n:Nat}{r f:Option (cn×cn)}(h:AbM ts n r)(k:AbM ts n f):r=f:=by
 obtain⟨l,told,g,m,sub,a⟩:=h;obtain⟨i,b,d,e,j,o⟩:=k;cases g.uniq d;cases m.uniq e;exact a.uniq (λc p=>OU g (sub c p)) o
def BI:(dM[2]'(by decide))∈dM:=iD _
inductive iY(i:List V)(H:Hp)(Q:VK)(h:XK):Prop|mk:∀(m a:Ad) (e:LN) (n:Nat) (f c g b:LN),i=[.ref m,.ref a]->Mach H m e n->FamOf e n f->LvH H a c g b->LvP e f c g b->((∀d,Same H d->(∀k l,¬qt e c g b k l)->Q .non d))->(∀k l p d,Same H d->d p=some (.tup [nv k,nv l])->Fst e c g b k l->Q (.ref p) d)->iY i H Q h
inductive fN(h:List V)(H:Hp)(Q:VK)(g:XK):Prop|mk:∀(m a:Ad) (k:Nat) (d:LN) (n:Nat) (e c i b:LN) (j:cn),h=[.ref m,.ref a,nv k]->Mach H m d n->FamOf d n e->LvH H a c i b->LvP d e c i b->b[k]?=some j->Tabs H->(∀r p l f,Keeps H f->Tabs f->Told (lB d) d.length (eX d (c.headD []) j) l->(c.headD [],p)∈l->p.length<=4000->f r=some (.lst (p.map nv))->Q (.ref r) f)->fN h H Q g
def Dm(H a:Hp):Option (cn×cn)->V->Prop
 |none,v=>v=.non
 |some r,v=>∃p l b,v=.ref p/\a p=some (.tup [.ref l,.ref b])/\a l=some (.lst (r.1.map nv))/\a b=some (.tup (r.2.map nv))/\L2.noT H l=none/\r.1.length<=9000/\r.2.length<=5
inductive iL(c:List V)(H:Hp)(Q:VK)(b:XK):Prop|mk:∀(m:Ad) (d:LN) (n:Nat),c=[.ref m]->Mach H m d n->Tabs H->(∀v r a,Keeps H a->Tabs a->AbM d n r->Dm H a r v->Q v a)->iL c H Q b
def IP{n k:Nat}(a:n<=5)(b:k<=5):(eC n k).length<=4000:=by
 rw[CF];exact dy (Nat.pow_le_pow_left a _) (dy (Nat.pow_le_pow_right (by decide) b) (by decide))
def GN{H:Hp}{m:Ad}{a:LN}{n k:Nat}(M:Mach H m a n){y:cn}{l:Nat}(d:y∈eC n k)(e:l<a.length):lB a y l∈eC n k:=by
 obtain⟨f,g⟩:=cE.mp d;refine cE.mpr #[by unfold lB dz;rw[List.length_map,f],λz b=>?_];obtain⟨c,h,rfl⟩:=cT.mp b;exact lJ M [l] c (g c h) λz b=>by rw[cY.mp b];exact e
def NL(F:Fun K uX uX Ez f fd)(jH:dj P w K mg base uJ 1 [sC] dZ)(jE:dj P w K mg base tY 9 [sA,sD,"k",sN] fh)(jA:mg "len"=none)(jB:mg "range"=none):FnOk P w K mg base da 11 f fd [sA,sD] iY:=by
 refine F.ok jU (λai A aa s H vs Q E hr h=>?_)
 obtain⟨m,a,o,n,ab,c,C,g,rfl,M,J,lv,D,q1,q2⟩:=h;have hu:=hr.units;refine#[_,(cR (dE (i:=2) jU.nd zZ Z' (dv jH hr.m zZ (cL (eK fS zZ jA fG (cL (dB eM (pv 1) df (λ_ _=>rfl)) cH)) cH))) (cR (iG i4 zZ (lA zZ jB (cL (eK fS zZ jA fG (cL (dB eM (pv 1) df (λ_ _=>rfl)) cH)) cH)) (gB (i:=3) jU.nd zZ Z') (cX (iG i4 zZ (lA zZ jB (cL (eK fS zZ jA fG (cL (pv 0) cH)) cH)) (gB (i:=4) jU.nd zZ Z') (cR (dE (i:=5) jU.nd zZ Z' (dv jE hr.m zZ (dr (cD (pv 0) (cD (pv 1) (cD (pv 3) (cD (pv 4) dt zZ) zZ) zZ) zZ)))) (cX (iq (PW.pt (vJ (gn BQ (pv 5) ti (eY _)) (vH (gn (pU hu) (pv 5) (pv 2) (eY _))))) (cX (dR (nS (dr (cD (pv 3) (cD (pv 4) dt zZ) zZ))))) iA)))))) (cX (dR ti)))),?_];obtain⟨s',t',v',bs,ds,cs,h1,h2,h3,h4,h5,h6,h7,h8⟩:=id lv;have lb:=h3.len;have t1:=M.some1;have t4:=M.few;obtain⟨rs,hm,ae,_⟩:=M.refs;have l5:=h5.len;obtain⟨uU,few⟩:=D.inU M J;have aj:c.length<=32:=by
  rw[(fR D.cls).2.1];exact dy (iz _ _) (dy (iz _ _) (J.few M))
 refine#[_,zZ,a,_,_,_,zZ,zZ,P2 h1,zZ,t',_,zZ,.inl (P1 h4),?_]
 try dsimp only
 rw[cu,l5];refine#[C.length,zZ,(),λst H0 L e0=>?_]
 let Rs:Nat->Nat->Prop:=λk l=>∀i j,(i<k\/i=k/\j<l)-> ¬qt o c C g i j
 let Pk:Nat->L2.St->Hp->Prop:=λk q H'=>Same H0 H'/\Rs k 0/\∃o3 r u,q=[some (.ref m),some (.ref a),some (.ref st),o3,r,u]
 refine#[_,zZ,a,_,_,_,zZ,zZ,P2 (L _ _ h1),zZ,s',_,zZ,.inl (P1 (L _ _ h2)),(c.length:Int),by rw[cu,lb],(),(),oX Pk #[Same.refl _,λi j N=>by lia,none,none,none,zZ] (λk q H1 hk p=>?_) (λq H1 p=>?_)]
 .obtain⟨g1,R1,o3,r,u,rfl⟩:=p;have O:k<c.length:=by simpa using hk
  have zk:V.int ((0:Int)+((k:Nat):Int))=nv k:=by show V.int (0+(k:Int))=V.int (k:Int);rw[ot]
  rw[zk];obtain⟨T,ew⟩:∃T,g[k]?=some T:=#[_,cA (by rw[D.len];exact O)];obtain⟨x,ex⟩:∃x,c[k]?=some x:=#[_,cA O]
  let Pl:Nat->L2.St->Hp->Prop:=λl q H'=>Same H0 H'/\Rs k l/\∃r u,q=[some (.ref m),some (.ref a),some (.ref st),some (nv k),r,u]
  refine#[_,zZ,m,_,zZ,.inr (P2 ((L.trans g1) _ _ hm)),(o.length:Int),by rw[cu,ae],(),(),oX Pl #[g1,R1,_,_,zZ] (λl q H2 hl p=>?_) (λq H2 p=>?_)]
  .obtain⟨G,R2,r,u,rfl⟩:=p;have U:l<o.length:=by simpa using hl
   have zl:V.int ((0:Int)+((l:Nat):Int))=nv l:=by show V.int (0+(l:Int))=V.int (l:Int);rw[ot]
   rw[zl];have v:=L.trans G;have more: ¬qt o c C g k l->Rs k (l+1):=λno i j N=>by
    by_cases z:i=k/\j=l
    .obtain⟨rfl,rfl⟩:=z;exact no
    .exact R2 i j ()
   refine#[_,zZ,_,zZ,_,zZ,_,zZ,m,a,k,l,o,n,ab,c,C,g,x,T,zZ,M.same v,J,lv.same v,D,ex,ew,U,λmy H3 Y=>?_,λk' af ey y tp js H3 Y ag tb=>?_]
   .refine#[_,zZ,zZ,_,zZ,fW (fW #[G.trans Y,more ?_,_,_,zZ])];rintro⟨I,x',d,ah,t,B,_,_,e4,_⟩;rw[ex]at B;cases B;exact my (c8 e4)
   .refine#[_,zZ,zZ,_,zZ,gJ ?_];have same:∀t:cn,(∃(I:Nat) (d:cn),c[I]?=some (cC o x l)/\g[I]?=some d/\jc o C T d l t)->t=js:=λt ⟨I,d,e4,e5,e6⟩=>by
     have ek:=(ig (cK.mp ey).1 (D.nd J)).mp (ey.trans e4.symm);subst ek;rw[y]at e5;cases e5;exact Bw M J D ey y e6 tb
    refine#[_,zZ,_,zZ,tp,st,0,_,_,zZ,zZ,iQ (P2 ag),iQ (P2 ((G.trans Y) _ _ e0)),by decide,λb hb=>#[_,zZ,?_]];cases b with
    | true=>
     have e:js=List.range C.length:=by
      have z:=hb.mp rfl;injection z with z
      exact lL.mp (dw Dt.lst z)
     refine fW #[G.trans Y,more ?_,_,_,zZ];rintro⟨I,x',ak,d,t,B,e2,_,e4,e5,e6,ne⟩;rw[ex]at B;cases B;rw[ew]at e2;cases e2;exact ne (by rw[same t #[I,d,e4,e5,e6]];exact e)
    |false=>
     refine gJ #[_,zZ,_,zZ,by show 2<=sizeLine;decide,λp hp=>q2 k l p _ ((v.trans Y).trans (cM hp _)) cw #[#[k',x,T,af,js,ex,ew,U,ey,y,tb,λe=>?_],R2]];have z:=hb.mpr (by rw[e]);cases z
  .obtain⟨G,R2,r,u,rfl⟩:=p;have el:(o.length:Int).toNat=o.length:=iy _;rw[el]at R2;refine#[G,λi j N=>?_,_,_,_,zZ];by_cases z:i<k\/i=k/\j<o.length
   .exact R2 i j z
   .have ei:i=k:=by lia
    subst ei;rintro⟨_,_,_,_,_,_,_,e3,_⟩;lia
 .obtain⟨g1,R1,o3,r,u,rfl⟩:=p;have el:(c.length:Int).toNat=c.length:=iy _;rw[el]at R1;refine q1 _ (L.trans g1) λk l z=>R1 k l (.inl ?_) z;obtain⟨_,_,_,_,_,B,_⟩:=z;exact(cK.mp B).1
def Fi{v c m f:Ad}{O:Obj}{u:LN}{n N:Nat}{i:Hp}{z B:Vl}{a:Arguments}{d:Expr}{b:Scope}{fx a1 a2:Expr}{kw:List Keyword}{C:List Expr}{rest:List Stmt}{lp cp rp:Pos}(e:fg nj= .Assign C (.Call fx [a1,a2,.Lambda a d b lp] kw cp) rp::rest)(jC:dj P w K mg base tO 1 [tR,sQ] cZ) (N5:N<=5) (M:Mach i m u n) (h1:i v=some (gD v (eZ sB a d b sA c z (.ref f) B))) (T:i c=some (dY c m O)) (h3:i f=some (iM f sB)):
  FnOk P w K mg base da 5 v (eZ sB a d b sA c z (.ref f) B) [sC,sN] (dJ (Same i) (eC n N) u.length (lB u))/\Binds K (eZ sB a d b sA c z (.ref f) B) [sC,sN] []:=by
 cases e;refine#[yO (k:=4) (m:=m) (oc:=O) #[zZ,zZ,zZ,by decide+kernel,by decide+kernel,zZ,by decide+kernel] (λU H Q E h=>?_) (λU H Q E h=>?_) (λA D s H U Q E hr h=>?_),.all λus G=>match us,G with| [_,_],_=>rfl]
 .obtain⟨t,x,l,rfl,_⟩:=h;rfl
 .obtain⟨t,x,l,rfl,g,_⟩:=h;exact#[g _ _ h1,g _ _ T,g _ _ h3]
 .obtain⟨t,x,l,rfl,g,ht,hx,G,q⟩:=h;refine#[_,(dv jC hr.m zZ (dr (cD (pv 0) (cD (dB eM (pv 2) (pv 1) (λ_ _=>rfl)) dt zZ) zZ))),?_];obtain⟨x1,x2⟩:=cE.mp hx;have I:=g _ _ T;have M1:=(M.same g).drop I;have J:(L2.drop H c) t=some (.tup (x.map nv)):=by rw[d7 (nE ht I)];exact ht
  obtain⟨rs,r,b1,b2,b3,b4,b5,b6⟩:=M1.at G;refine#[_,zZ,_,zZ,_,zZ,m,_,_,_,zZ,zZ,P2 b1,b3,t,r,x,u.getD l [],zZ,J,b4,λy j=>?_,(),λp H3 g3 Y free=>q p _ (λy o L=>?_) ?_]
  .rw[b5];exact x2 y j
  .by_cases j:y=c
   .subst j;rw[I]at L;cases L;exact cw
   .rw[cz j];exact g3 _ _ (by rw[d7 j];exact L)
  .rw[cz (dH Y free)];exact Y
def N4{T st m c:Ad}{v:Hp}{y:LN}{n N:Nat}{U:cn}{σ:L2.St}{R:V->Hp->Prop}{H:Vl}{d:Arguments}{g:Expr}{f:Scope}{fx a1 a2:Expr}{kw:List Keyword}{aa:List Expr}{ab:List Stmt}{lp cp rp:Pos}(e:fg nj= .Assign aa (.Call fx [a1,a2,.Lambda d g f lp] kw cp) rp::ab)(jC:dj P w K mg base tO 1 [tR,sQ] cZ) (hq:((sB:Str),(#[235,60,235,112]:Pos),T)∈dM) (I:Mach v m y n) (ae:v st=some (.tup (U.map nv))) (xU:U∈eC n N) (N5:N<=5) (hT:Tabs v) (J:σ[0]?=some (some (.ref m)))(rest:∀D Y as H',Keeps v H'->Tabs H'->WordsAt H' D Y as->Told (lB y) y.length U Y->R (.ref D) H'):
  jd (r9 T sB d g f sA c H (#[235,60,235,112]:Pos)) jh σ v λxs G=>∃m1,σ[0]?=some (some (.ref m1))/\∀i,G c=none->di P w K mg base ((.ref st:: .int (y.length:Int)::xs)++[.non]) (cq G c (dY c m1 i)) (λr H3=>H3 c=some (dY c m1 i)/\R r (L2.drop H3 c)) E0:=by
 have n5:=I.n5;have t4:=I.few;have go:∀(q k:Ad) (A:Vl) (B:Hp) (L:AV),v T=some (.tbl L)->KeepsBut T v B->B T=some (.tbl (jm (#[235,60,235,112]:Pos) k))->B k=some (iM k sB)->B q=some (gD q (eZ sB d g f sA c H (.ref k) A))->∀i,B c=none->
   (FnOk P w K mg base da 5 q (eZ sB d g f sA c H (.ref k) A) [sC,sN] (dJ (Same (cq B c (dY c m i))) (eC n N) y.length (lB y)))->Binds K (eZ sB d g f sA c H (.ref k) A) [sC,sN] []->
   di P w K mg base [.ref st,nv y.length,.ref q,.non] (cq B c (dY c m i)) (λr G=>G c=some (dY c m i)/\R r (L2.drop G c)) E0:=λq k A B L M kb h1 h2 h3 i s hF hB=>by
  have t:=kb.keeps M;have p:=cM s (dY c m i);refine#[st,q,_,_,U,y.length,eC n N,lB y,zZ,p _ _ (t _ _ (nU ae)),p _ _ h3,xU,λx hx l hl=>GN I hx hl,IP n5 N5,(),hF,hB,λD Y as G C W nw TT=>#[C _ _ cw,rest D Y as _ (λb o O=>?_) (hT.but hq M (λb o nb O=>?_) (.inr #[k,?_,?_])) #[W.len,?_,λj a r e1 e2=>?_] TT]]
  .have z:=t b o O;rw[d7 (dH z s)];exact C _ _ (p _ _ z)
  .have z:=kb b o nb O;rw[d7 (dH z s)];exact C _ _ (p _ _ z)
  .rw[d7 (dH h1 s)];exact C _ _ (p _ _ h1)
  .rw[d7 (dH h2 s)];exact C _ _ (p _ _ h2)
  .rw[d7 (nE W.dict (C _ _ cw))];exact W.dict
  .have z:=W.list j a r e1 e2;rw[d7 (nE z (C _ _ cw))];exact z
 rcases hT _ hq with h|⟨k,h,u⟩
 .refine .inl #[h,λq k A E u ne=>#[m,J,λi s=>?_]];obtain⟨t,af,Q⟩:=yS (#[235,60,235,112]:Pos) sB h E u ne (gD q (eZ sB d g f sA c H (.ref k) A));have p:=cM s (dY c m i);obtain⟨F1,F2⟩:=Fi e jC N5 ((I.keeps (t.keeps h)).same p) (p _ _ cw) cw (p _ _ Q);exact go q k A _ _ h t af Q cw i s F1 F2
 .refine .inr #[k,h,u,λq A E=>#[m,J,λi s=>?_]];have t:∀lo,Same v (cq v q lo):=λlo=>cM E lo;have p:=cM s (dY c m i);obtain⟨F1,F2⟩:=Fi e jC N5 ((I.same (t _)).same p) (p _ _ cw) cw (p _ _ (t _ _ _ u));exact go q k A _ _ h (λb o _ O=>t _ _ _ O) (t _ _ _ h) (t _ _ _ u) cw i s F1 F2
def J1{cd T:Ad}(F:DefAt K tJ nj f fd .none (.ref cd))(hC:PySem.W.CodeHd base cd T)(bm:m9 mg base)(hq:((sB:Str),(#[235,60,235,112]:Pos),T)∈dM)(rQ:dj P w K mg base "carry" 3 [sA,sD,"k"] iX)(jC:dj P w K mg base tO 1 [tR,sQ] cZ)(jS:xA P w K mg base tE 8 [uR,uO,"step",sK] (di P w K mg base) [.non]) (jA:mg "len"=none):FnOk P w K mg base da 13 f fd [sA,sD,"m"] fN:=by
 refine F.fnOk rF (λvs H Q E h=>?_) (λA I s H vs Q E h d=>?_)
 .obtain⟨m,a,k,o,n,J,c,us,y,t,rfl,_⟩:=h;rfl
 obtain⟨m,a,k,o,n,J,c,us,y,t,rfl,M,ff,lv,B,G,hT,q⟩:=h;have L:=lY d;refine#[_,?_,(cR (dE (i:=3) rF.nd zZ Z' (DR jS d.m zZ (j:=0) zZ zZ zZ zZ (dr (cD (dv rQ d.m zZ (dr (cD (pv 0) (cD (pv 1) (cD (pv 2) dt zZ) zZ) zZ))) (cD (eK fS zZ jA fG (cL (pv 0) cH)) (cD (Bd (qual:=sB) zZ hC bm (λ_ _ _ _ _=>rfl) zZ zZ) dt zZ) zZ) zZ)))) (cX (dR (oW L (pv 3) (dB gW (dB eM (pv 1) df (λ_ _=>rfl)) df (λ_ _=>rfl)) (λ_ _=>rfl)))))];obtain⟨s',t',v',bs,ds,cs,h1,h2,C,h4,h5,h6,h7,h8⟩:=id lv;have cne:=(fR B.cls).1;have N:c.headD []∈dF n:=ff.inU M (d8.mp (fR B.cls).2.2.1).1;have O:=M.n5;have x5:=dy (oU O N) O;have lk:k<c.length:=by rw[<-B.len];exact(cK.mp G).1
 have ex:=cA lk;have go:=B.go k _ t ex G;obtain⟨p0,bj⟩:=B.bij M ff ex G;refine#[_,zZ,_,zZ,_,zZ,m,a,k,o,n,c,us,y,t,zZ,M,lv,cne,G,N,go.1,λst H0 Y e0=>?_];have M0:=M.same Y;obtain⟨rs,hm,aa,_⟩:=M0.refs;refine#[_,zZ,m,_,zZ,.inr (P2 hm),?_]
 try dsimp only
 rw[cu,aa];obtain⟨b0,ab,ae,m0⟩:=uk C cne;have xU:eX o (c.headD []) t∈eC n (c.headD []).length:=cE.mpr #[cu _,λr d=>by
  obtain⟨r0,h0,rfl⟩:=cT.mp d;exact lJ M t r0 ((cy.mp N).2 r0 h0) go.1]
 refine N4 (R:=λr H3=>iw 3 r _ H3 _) zZ jC hq M0 e0 xU x5 (hT.same Y) zZ λD v as H1 k1 T1 W TT=>?_;have TT:Told (lB o) o.length (eX o (c.headD []) t) v:=TT;have b:=Y.keeps.trans k1;obtain⟨p,hp⟩:∃p,(c.headD [],p)∈v:=by
  obtain⟨u,C,_⟩:=TT.least _ p0 zZ bj.lp;rw[Aq]at C;have e:eX o (c.headD []) (t++p0)=c.headD []:=by
   unfold eX;refine(i9 (g:=id) λr d=>?_).trans (tj _);rw[ky];exact bj.here r d
  rw[e]at C;exact#[u,C]
 obtain⟨r,v1,v2⟩:=W.word TT.keys hp;have inU:∀z∈v,z.1∈eC n (c.headD []).length:=λz hz=>by
  obtain⟨r1,r2⟩:=TT.run z hz;rw[<-r2];exact mX xU (λx hx l hl=>GN M hx hl) z.2 r1
 have few:v.length<=4000:=by
  rw[<-cu (f:=(·.1)) (as:=v)];refine dy (jf TT.keys (U:=eC n (c.headD []).length) λx hx=>?_) (IP O x5);obtain⟨z,hz,rfl⟩:=cT.mp hx;exact inU z hz
 have dg:DGet H1 D (.ref b0) (some (.ref r)):=v1▸DGet.t W.dict (by rw[iu];exact b _ _ (nU ae));refine#[_,zZ,_,zZ,a,_,_,_,zZ,zZ,P2 (b _ _ (nU h1)),zZ,s',_,_,_,zZ,zZ,P1 (b _ _ (nU h2)),ab,D,_,zZ,dg,?_];exact q r p v H1 b T1 TT hp (by have:=TT.short _ hp;have:p.length<v.length:=this;lia) v2
def K3{T:Ad}(F:Fun K "about" "about" yX f fd)(jO:dj P w K mg base uW 18 [sA] (eG T (#[49,40,49,93]:Pos)))(qR:dj P w K mg base "rests" 15 [sA,sD] gQ)(kP:dj P w K mg base uX 11 [sA,sD] iY)(jF:dj P w K mg base uG 3 [sA,sC,tH] (dO K))(qO:dj P w K mg base tJ 13 [sA,sD,"m"] fN):FnOk P w K mg base da 20 f fd [sA] iL:=by
 refine F.ok qZ (λaL A ay s H vs Q E hr h=>?_)
 obtain⟨m,Y,n,rfl,M,hT,q⟩:=h;have hu:=hr.units;refine#[_,(cR (wj (CompSc.to (N:=[sA,"turning",sD,"found","m"]) (osc:=cN yX) (vs:=[sD]) {}) zZ zZ qZ.nd (j:=1) zZ zZ (gF (dv jO hr.m zZ (cL (pv 0) cH))) (λ_ _ _ _=>nN (r4 (pr (dv qR hr.m zZ (dr (cD (pv 1) (cD (pv 0) dt zZ) zZ)))))) (λ_ _ _ _=>(pv 0))) (cR (iq (r4 (Ap (pv 1) (λ_=>rfl))) (cX (dR ti)) iA) (cR (dE (i:=2) qZ.nd zZ Z' (dB gW (pv 1) df (λ_ _=>rfl))) (cR (dE (i:=3) qZ.nd zZ Z' (dv kP hr.m zZ (dr (cD (pv 0) (cD (pv 2) dt zZ) zZ)))) (cR (dE (i:=4) qZ.nd zZ Z' (mI mG CO DE (CP hu) (dB eM (pv 2) df (λ_ _=>rfl)) (cL (dv jF hr.m zZ (dr (cD (pv 0) (cD (dB gW (dB eM (pv 2) df (λ_ _=>rfl)) (dB eM (pv 3) df (λ_ _=>rfl)) (λ_ _=>rfl)) (cD (f7 (cL (dB eM (pv 3) df (λ_ _=>rfl)) cH)) dt zZ) zZ) zZ))) cH))) (cX (dR (nS (dr (cD (fE u4 (fE u4 (dB gW (dB eM (pv 2) df (λ_ _=>rfl)) (dB eM (pv 3) df (λ_ _=>rfl)) (λ_ _=>rfl)) (f7 (cL (dB eM (pv 3) df (λ_ _=>rfl)) cH))) (dv qO hr.m zZ (dr (cD (pv 0) (cD (pv 2) (cD (pv 4) dt zZ) zZ) zZ)))) (cD (dB gW (dB eM (pv 2) df (λ_ _=>rfl)) df (λ_ _=>rfl)) dt zZ) zZ)))))))))),?_];refine#[_,zZ,m,Y,n,zZ,M,hT,λl as told G ys H2 k2 T2 nl el ff od sub aM Lv nw ap aN=>?_];have M2:=M.keeps k2;have la:=Lv.len
 let d:Nat->Prop:=λj=>∀c a,told[j]?=some c->Wds Y c a->qz Y c (gA G (c.headD [])) a
 refine#[l,zZ,#[_,P1 el],i0 (xs:=as.map .ref) (λi J H'=>Keeps H2 H'/\Tabs H'/\J.length<=i/\((J=[]/\∀j,j<i->d j)\/∃(L:Nat) (g:Ad),L<i/\as[L]?=some g/\J.head?=some (.ref g)/\ ¬d L/\∀j,j<L->d j)) (by rw[cu,dA];lia) #[Keeps.refl _,T2,cQ _,.inl #[zZ,λj h=>wC h (mQ _)]] (λi J H' _ p=>?_) (λi v J H' hv p=>?_) (λJ H3 p tl az=>?_)]
 .exact#[P1 (p.1 _ _ (nU el)),p.2.2.1]
 .obtain⟨k3,T3,le,st⟩:=p;rw[cV]at hv;obtain⟨lv,af,rfl⟩:=eW.mp hv;have li:=(cK.mp af).1;obtain⟨c,ec⟩:∃c,told[i]?=some c:=#[_,cA ()];obtain⟨a,ag,lp,W⟩:=(Lv.is i lv c af ec).lvw (sub c (c8 ec));refine#[hO,?_];refine#[_,zZ,_,zZ,m,lv,Y,n,G,c,_,a,zZ,M2.keeps k3,ff,LvH.keeps ag k3,lp,T3,λb H4 k4 T4 hb=>#[_,zZ,?_]];have ai:=k3.trans k4;have ra:d i↔b=true:=#[λh=>hb.mpr (h c a ec W),λh c' O e' W'=>by
   rw[ec]at e';cases e';cases W.uniq W';exact hb.mp h]
  cases b with
  | true=>
   refine fW #[ai,T4,(),?_]
   rcases st with⟨rfl,h⟩|⟨L,g,h1,h2,h3,h4,h5⟩
   .refine .inl #[zZ,λj hj=>?_];by_cases z:j=i
    .rw[z];exact ra.mpr rfl
    .exact h j ()
   .exact .inr #[L,g,(),h2,h3,h4,h5]
  |false=>
   refine gJ #[_,zZ,ai,T4,by rw[eh,pd];lia,.inr ?_]
   rcases st with⟨rfl,h⟩|⟨L,g,h1,h2,h3,h4,h5⟩
   .exact#[i,lv,(),af,zZ,(λz=>nomatch(ra.mp z)),h]
   .exact#[L,g,(),h2,by rw[List.head?_append,h3];rfl,h4,h5]
 .obtain⟨k3,T3,le,st⟩:=p;have kt:=cM az (.lst J);have aa:cq H3 tl (.lst J) tl=some (.lst J):=cw;have k4:=k3.trans kt.keeps;have T4:=T3.same kt;generalize cq H3 tl (.lst J)=H4 at kt aa k4 T4|-
  rcases st with⟨rfl,h⟩|⟨L,g,h1,h2,h3,h4,h5⟩
  .refine#[_,zZ,_,.inl #[_,P1 aa,zZ],gJ ?_];refine q .non none _ (k2.trans k4) T4 #[G,told,ff,od,sub,λc hc=>?_] rfl;obtain⟨j,ej⟩:=lU hc;have lj:=(cK.mp ej).1;obtain⟨g,ea⟩:∃g,as[j]?=some g:=#[_,cA ()];obtain⟨a,_,lp,W⟩:=(Lv.is j g c ea ej).lvw (sub c hc);exact#[a,lp,W,d6.mp (h j (by rw[cu,la];exact lj) c a ej W)]
  obtain⟨U,rfl⟩:∃U,J=.ref g::U:=by
   cases J with
   |nil=>cases h3
   |cons z U=>
    cases h3;exact#[U,zZ]
  refine#[_,zZ,_,.inl #[_,P1 aa,zZ],fW ?_];have aA:j8 (V.ref g::U) ((0:Nat):Int)=some (.ref g):=jq rfl;refine#[_,zZ,tl,_,_,_,zZ,zZ,P1 aa,aA,?_];rw[cu]at h1;obtain⟨c,ec⟩:∃c,told[L]?=some c:=#[_,cA ()];obtain⟨a,ag,lp,W⟩:=(Lv.is L g c h2 ec).lvw (sub c (c8 ec));have ak:=LvH.keeps ag k4;have M4:=M2.keeps k4;refine#[_,zZ,_,zZ,m,g,Y,n,G,c,_,a,zZ,M4,ff,ak,lp,λH5 g5 no=>?_,λk B p H5 g5 ep fs=>?_]
  .refine wC (λc' O e' W'=>?_) h4;rw[ec]at e';cases e';cases W.uniq W';exact d6.mpr no
  obtain⟨k',x,C,al,t,ex,ew,aB,ey,am,tb,ne⟩:=id fs.1;have M5:=M4.same g5;have an:=ak.same g5;obtain⟨s',t',v',bs,ds,cs,e1,e2,e3,e4,e5,e6,e7,e8⟩:=id an;have lb:=e3.len;have cne:=(fR lp.cls).1;have fU:c.headD []∈dF n:=ff.inU M (d8.mp (fR lp.cls).2.2.1).1;have n5:=M.n5;have hx:x∈dF n:=by
   have z:=lp.go k x C ex ew;rw[<-z.2];exact jb M fU z.1
  obtain⟨x1,x2⟩:=cy.mp hx;obtain⟨b,eb⟩:∃b,bs[k]?=some b:=#[_,cA (by rw[lb];exact(cK.mp ex).1)];have hb:=e3.is k b x eb ex;have no:∀i:Nat,i<k'->c[i]? ≠some (cC Y x B):=λi hi e=>by
   have:=(ig (cK.mp ey).1 (lp.nd ff)).mp (ey.trans e.symm);lia
  refine#[_,zZ,g,_,_,_,zZ,zZ,P2 e1,zZ,.inl #[zZ,_,P1 e2],_,zZ,_,zZ,g,_,_,_,zZ,zZ,P2 e1,zZ,_,zZ,p,_,_,_,zZ,zZ,P2 ep,zZ,s',_,_,_,zZ,zZ,P1 e2,jq (by rw[cV,eb];rfl),_,zZ,p,_,_,_,zZ,zZ,P2 ep,zZ,by show 1<=sizeLine;decide,λwl aC=>?_];have kw:=cM aC (.lst [nv B]);refine#[m,b,wl,Y,n,x,[B],zZ,M5.same kw,P2 (kw _ _ hb),by rw[<-x1];exact Gk x,x2,P1 cw,λz hz=>by rw[cY.mp hz];exact aB,λth H6 g6 ah=>?_];have D:=kw.trans g6;have ah:H6 th=some (.tup ((cC Y x B).map nv)):=ah;generalize cq H5 wl (.lst [nv B])=Hw at g6 kw;refine#[s',_,1,.tup (ir (cC Y x B)),c.map λu=>Dt.tup (ir u),_,k',zZ,zZ,P1 (D _ _ e2),by rw[cu,cu,lb],iQ (P2 ah),zB (e3.same D),by decide,gu.mpr ey,λi hi e=>no i hi (gu.mp e),?_];obtain⟨wb,ao⟩:∃wb,cs[k]?=some wb:=#[_,cA (by rw[e7];exact(cK.mp ew).1)];have aD:=e8 k wb C ao ew;obtain⟨b0,aE,aF,m0⟩:=uk e3 cne;have lw:C.length<=32:=by
   obtain⟨_,ws,TT,aG⟩:=W;have z1:=TT.short _ (aG k x C ex ew);have z1:C.length<ws.length:=z1;have z2:=Mt M TT fU;lia
  have aq:=D _ _ ep;refine#[_,zZ,g,_,_,_,zZ,zZ,P2 (D _ _ e1),zZ,_,zZ,p,_,_,_,zZ,zZ,P2 aq,zZ,v',_,_,_,zZ,zZ,P1 (D _ _ e6),jq (by rw[cV,ao];rfl),_,zZ,p,_,_,_,zZ,zZ,P2 aq,zZ,by show 1<=sizeLine;decide,λl1 aH=>?_];have k1:=cM aH (.lst [nv B]);refine#[wb,l1,C.map nv,[nv B],zZ,zZ,P1 (k1 _ _ (D _ _ aD)),P1 cw,by rw[cu,pd,dA];lia,λl2 aI=>?_];have ar:=cM aI (.lst (C.map nv++[nv B]));have au:cq (cq H6 l1 (.lst [nv B])) l2 (.lst (C.map nv++[nv B])) l2=some (.lst (C.map nv++[nv B])):=cw;have I:=D.trans (k1.trans ar);generalize cq (cq H6 l1 (.lst [nv B])) l2 (.lst (C.map nv++[nv B]))=H7 at ar au I|-;refine#[_,zZ,_,zZ,_,zZ,m,g,k',Y,n,G,c,_,a,al,zZ,M5.same I,ff,an.same I,lp,am,(T4.same g5).same I,λr p' ws H8 k8 T8 TT hp aO er=>?_];have aJ:=k8 _ _ (nU au);refine#[l2,r,C.map nv++[nv B],p'.map nv,zZ,zZ,P1 aJ,P1 er,by rw[eh,cu,pd,cu,dA];lia,λl3 av=>?_];have aw:=cM av (.lst (C.map nv++[nv B]++p'.map nv));have ab:Keeps H5 (cq H8 l3 (.lst (C.map nv++[nv B]++p'.map nv))):=(I.keeps.trans k8).trans aw.keeps;refine#[_,zZ,g,_,_,_,zZ,zZ,P2 (ab _ _ (nU e1)),zZ,s',_,_,_,zZ,zZ,P1 (ab _ _ (nU e2)),aE,by show 2<=sizeLine;decide,λpt aK=>?_];have ae:=cM aK (.tup [.ref l3,.ref b0]);have ax:Keeps H H5:=(k2.trans k4).trans g5.keeps;refine q (.ref pt) (some (C++[B]++p',c.headD [])) _ ((ax.trans ab).trans ae.keeps) ((T8.same aw).same ae) #[G,told,ff,od,sub,L,c,a,k,B,ec,W,fs,#[x,C,k',al,ws,p',ex,ew,ey,am,TT,hp,zZ],zZ,λj c' O hj ej Wj=>d6.mp (h5 j hj c' O ej Wj)] #[pt,l3,b0,zZ,cw,?_,ae _ _ (ab _ _ (nU aF)),?_,?_,dy (oU n5 fU) n5]
  .show _=some (HO.lst ((C++[B]++p').map nv));rw[eV,eV];exact ae _ _ cw
  .cases y:L2.noT H l3 with
   |none=>rfl
   |some o=>
    have z:=((ax.trans I.keeps).trans k8) _ _ y;rw[av]at z;cases z
  .show(C++[B]++p').length<=9000;rw[eh,eh,pd];lia
def tw(b a:LN)(w:cn):cn:=a.map λu=>iR a (cJ (cC b) u w)
def hZ(ts:LN)(x w:cn):Prop:=(∀l∈w,l<ts.length)/\cJ (cC ts) x w=x
section
variable{H:Hp}{m:Ad}{d:LN}{n:Nat}{g c f o:LN}
def xt(M:Mach H m d n)(a:FamOf d n g)(b:LvP d g c f o):c.headD []∈dF n:=a.inU M (d8.mp (fR b.cls).2.2.1).1
def E6(M:Mach H m d n)(e:FamOf d n g)(a:LvP d g c f o){w u:cn}(k:hZ d (c.headD []) w)(h:u∈f):cJ (cC d) u w∈f:=by
 obtain⟨p,b⟩:=C1 M (xt M e a) k.1 k.2 (Rch.refl d _);have z:=Aa M e (xt M e a) b (u:=u) (by rw[<-a.tl];exact h);rw[<-a.tl]at z;exact z
def J0{x w v:cn}(a:hZ d x w)(b:hZ d x v):hZ d x (w++v):=
 #[λl c=>(dh.mp c).elim (a.1 l) (b.1 l),by rw[gb,a.2,b.2]]
def Md(M:Mach H m d n)(a:FamOf d n g)(b:LvP d g c f o){w v:cn}(k:hZ d (c.headD []) w):tw d f (w++v)=dz (tw d f w) (tw d f v):=by
 unfold tw;show _=(f.map λu=>iR f (cJ (cC d) u w)).map λx=>(f.map λu=>iR f (cJ (cC d) u v)).getD x 0;rw[hK];refine i9 λu h=>?_;obtain⟨l,e⟩:=vV (E6 M a b k h);show _=(f.map λu=>iR f (cJ (cC d) u v)).getD (iR f (cJ (cC d) u w)) 0;rw[eE,cV,e,gb];rfl
def NS(nd:f.Nodup):tw d f []=List.range f.length:=by
 refine l6 λj=>?_;unfold tw;rw[cV];by_cases h:j<f.length
 .rw[lK h,cA h];exact dw some (yE nd (cA h))
 .rw[hJ (),hJ (by simp;lia)];rfl
def Hy(nd:f.Nodup){t w:cn}(len:t.length=f.length)(h:∀(j:Nat) (u:cn) (a:Nat),f[j]?=some u->t[j]?=some a->f[a]?=some (cJ (cC d) u w)):t=tw d f w:=by
 refine l6 λj=>?_;unfold tw;rw[cV];cases e:f[j]? with
 |none=>
  have:=D2.mp e;rw[hJ ()];rfl
 |some u=>
  have:=(cK.mp e).1;obtain⟨a,b⟩:∃a,t[j]?=some a:=#[_,cA ()];rw[b];exact dw some (yE nd (h j u a e b)).symm
def OJ(M:Mach H m d n)(i:FamOf d n g)(a:LvP d g c f o){s:LN}(Mk:Makers d c f o s){t:cn}(ht:t∈s):∃w,hZ d (c.headD []) w/\t=tw d f w:=by
 obtain⟨k,l,Y,x,q,D,E,G,I,J,r,v⟩:=Mk.mem t ht;obtain⟨L,_⟩:=a.inU M i;have nd:=oi M i a;have go:=a.go k x q E G;obtain⟨p,b⟩:=a.bij M i J r;have y:=oB M i (c.headD []);rw[<-a.tl]at y;have N:∀z∈q++[l]++p,z<d.length:=λz O=>by
  rcases dh.mp O with h|h
  .rcases dh.mp h with h|h
   .exact go.1 z h
   .rw[cY.mp h];exact I
  .exact b.lp z h
 refine#[q++[l]++p,#[N,?_],Hy nd v.1 λj u A Q T=>?_]
 .rw[gb,gb,go.2];exact b.fro
 .obtain⟨B,C,U⟩:=v.2 j u A Q T;have e:=c8 C;rw[gb,gb];show f[A]?=some (cJ (cC d) (cC d (cJ (cC d) u q) l) p);rw[<-U,b.back M (L B e) (y.mem B e).2.2];exact C
def JX(M:Mach H m d n)(h:FamOf d n g)(j:LvP d g c f o){b:LN}(Mk:Makers d c f o b):∀(v a:cn),(∀i∈v,i<b.length)->hZ d (c.headD []) a->∃w,hZ d (c.headD []) w/\cJ (gG b) (tw d f a) v=tw d f w:=by
 intro v
 induction v with
 |nil=>exact λa _ k=>#[a,k,zZ]
 | cons i v r=>
  intro a p k;have q:=p i (dX ..);obtain⟨w,s,t⟩:=OJ M h j Mk (iD q);have e:gG b (tw d f a) i=tw d f (a++w):=by
   rw[Md M h j k,<-t];show dz _ (b.getD i [])=_
   rw[eE,cA q];rfl
  show ∃w,hZ d (c.headD []) w/\cJ (gG b) (gG b (tw d f a) i) v=tw d f w;rw[e];exact r (a++w) (λl u=>p l (eO _ u)) (J0 k s)
def Hs(M:Mach H m d n)(b:FamOf d n g)(h:LvP d g c f o){w v:cn}(a:∀l∈w,l<d.length)(i:∀l∈v,l<d.length)(e:cJ (cC d) (cJ (cC d) (c.headD []) w) v=c.headD []):cJ (cC d) (c.headD []) w∈c:=by
 obtain⟨_,q,s,_⟩:=fR h.cls;have j:=xt M b h;obtain⟨t,k⟩:=d8.mp s;have u:=jb M j a
 suffices z:cJ (cC d) (c.headD []) w∈de d (big g) (c.headD []) by
  rw[<-q]at z;exact z
 refine d8.mpr #[d8.mpr #[y3 M b t a,dW ?_],?_]
 .have k:=gK k;have z:=vb (l₂:=(cJ (cC d) (c.headD []) w).map λr=>db d r v) (Ay j) λr p=>by
   rw[<-e]at p;obtain⟨x,y,A⟩:=(gR M u i).mp p;exact cT.mpr #[x,y,A]
  rw[cu]at z;lia
 .rw[jt,cG,cG];exact#[#[w,a,zZ],v,i,e]
def Pq(M:Mach H m d n)(N:FamOf d n g)(G:LvP d g c f o)(w0:o[0]?=some []){h:LN}(Mk:Makers d c f o h){I:TW}(T:Told (gG h) h.length (List.range f.length) I):
  ∀(v w:cn) (k:Nat) (s t:cn),(∀l∈w,l<d.length)->(∀l∈v,l<d.length)->cJ (cC d) (cJ (cC d) (c.headD []) w) v=c.headD []->c[k]?=some (cJ (cC d) (c.headD []) w)->o[k]?=some s->t∈I.map (·.1)->t.length=f.length->
   (∀(j:Nat) (u:cn) (a:Nat),f[j]?=some u->t[j]?=some a->∃y,f[a]?=some y/\cJ (cC d) y s=cJ (cC d) u w)->tw d f (w++v)∈I.map (·.1):=by
 intro v;have nd:=oi M N G;have O:=G.nd N;have c0:c[0]?=some (c.headD []):=by
  cases c with
  |nil=>exact wC zZ (fR G.cls).1
  |cons x c=>rfl
 induction v with
 | nil=>
  intro w k s t lw _ e A J ht lt inv;have e:cJ (cC d) (c.headD []) w=c.headD []:=e;rw[e]at A;have k0:=(ig (cK.mp A).1 O).mp (A.trans c0.symm);subst k0;rw[w0]at J;cases J;rw[gS,<-Hy nd lt λj u a L b=>?_]
  .exact ht
  .obtain⟨y,Q,U⟩:=inv j u a L b;rw[<-U];exact Q
 | cons l v ih=>
  intro w k s t lw lv e A J ht lt inv;have ll:=lv l (dX ..);have B:∀x∈v,x<d.length:=λx C=>lv x (eO _ C);have D:∀x∈w++[l],x<d.length:=λx C=>(dh.mp C).elim (lw x) λz=>by rw[cY.mp z];exact ll
  have Y:cJ (cC d) (c.headD []) (w++[l])=cC d (cJ (cC d) (c.headD []) w) l:=gb d _ w [l];have e':cJ (cC d) (cJ (cC d) (c.headD []) (w++[l])) v=c.headD []:=by rw[Y];exact e
  have my:=Hs M N G D B e';rw[Y]at my;obtain⟨k',aa,q,m',Q,U,f3⟩:=Mk.all k l _ s A J ll my;obtain⟨i,hi⟩:=lU m';have li:=(cK.mp hi).1;obtain⟨p,hp,rfl⟩:=cT.mp ht;obtain⟨r1,r2⟩:=T.run p hp;have eb:gG h p.1 i=dz p.1 q:=by
   show dz _ (h.getD i [])=_;rw[eE,hi];rfl
  have hb:dz p.1 q∈I.map (·.1):=by
   obtain⟨u,h2,_⟩:=T.least _ (p.2++[i]) zZ λx C=>(dh.mp C).elim (r1 x) λz=>by rw[cY.mp z];exact li
   have e3:cJ (gG h) (List.range f.length) (p.2++[i])=dz p.1 q:=by
    rw[<-eb,<-r2];unfold cJ;rw[nB];rfl
   rw[e3]at h2;exact cT.mpr #[_,h2,zZ]
  have z:=ih (w++[l]) k' aa (dz p.1 q) D B e' (by rw[Y];exact Q) U hb (by unfold dz;rw[List.length_map,lt]) λj u a L b=>?_
  .rw[f']at z;exact z
  .obtain⟨r,E⟩:∃r,p.1[j]?=some r:=#[_,cA (by rw[lt];exact(cK.mp L).1)];obtain⟨y,g1,g2⟩:=inv j u r L E;have l1:=(cK.mp g1).1;have ab:q[r]?=some a:=by
    unfold dz at b;rw[cV,E]at b;have b:some (q.getD r 0)=some a:=b;rw[<-b,eE,cA (by rw[f3.1];exact l1)];rfl
   obtain⟨u2,g3,g4⟩:=f3.2 r y a g1 ab;refine#[u2,g3,?_];rw[g4,g2,gb];rfl
def MR(M:Mach H m d n)(b:FamOf d n g)(a:LvP d g c f o)(l:o[0]?=some []){i:LN}(Mk:Makers d c f o i){q:TW}(T:Told (gG i) i.length (List.range f.length) q)(t:cn):t∈q.map (·.1)↔ ∃w,hZ d (c.headD []) w/\t=tw d f w:=by
 have nd:=oi M b a;have v:c[0]?=some (c.headD []):=by
  cases c with
  |nil=>exact wC zZ (fR a.cls).1
  |cons x c=>rfl
 constructor
 .intro h;obtain⟨p,y,rfl⟩:=cT.mp h;obtain⟨z,A⟩:=T.run p y;obtain⟨w,k,e⟩:=JX M b a Mk p.2 [] z #[(λ_ h=>nomatch h),zZ];rw[NS nd,A]at e;exact#[w,k,e]
 .rintro⟨w,k,rfl⟩;refine Pq M b a l Mk T w [] 0 [] (List.range f.length) (λ_ h=>nomatch h) k.1 k.2 v l (cT.mpr #[_,c8 T.head,zZ]) md λj u B r s=>?_;rw[lK (cK.mp r).1]at s;cases s;exact#[u,r,zZ]
end
def FX{H:Hp}{m:Ad}{ts:LN}{n:Nat}(M:Mach H m ts n){x y:cn}(a:x∈dF n)(h:fy ts x y=true):y.length<=x.length:=by
 obtain⟨word,hw,rfl⟩:=cG.mp h;have z:=vb (l₂:=x.map λr=>db ts r word) (Ay (jb M a hw)) λr b=>by
  obtain⟨c,d,e⟩:=(gR M a hw).mp b;exact cT.mpr #[c,d,e]
 rw[cu]at z;exact z
section
variable{H:Hp}{m:Ad}{ts:LN}{n:Nat}{d:LN}
def Db(M:Mach H m ts n)(a:FamOf ts n d):List.range n∈d:=(a.mem _).mpr (.inl #[[],λ_ h=>(nomatch h),zZ])
def Ks(a:FamOf ts n d){r:Nat}(h:r<n):[r]∈d:=(a.mem _).mpr (.inr #[r,h,zZ])
def Kp(M:Mach H m ts n)(a:FamOf ts n d){c:LN}(b:c∈cU ts (big d)){x:cn}(e:x∈c):x.length=(c.headD []).length:=by
 obtain⟨_,_,f,call⟩:=fR b;obtain⟨g,h,i⟩:=call x e;have j:=FX M (a.inU M (d8.mp f).1) (cG.mpr h);have k:=FX M (a.inU M (d8.mp g).1) (cG.mpr i);lia
def Gw{x t:cn}(c:x∈dF n)(ht:t∈dF n)(s:sub t x=true)(ne:t≠x):t.length<x.length:=by
 have d:∃r∈x,r∉t:=by
  apply ou;intro no;refine ne (II ht c s (cP.mpr λr a=>?_));apply ou;exact λz=>no #[r,a,z]
 obtain⟨r,a,f⟩:=d;have z:=vb (l₂:=x.erase r) (Ay ht) λy b=>(Eo λ(e:y=r)=>f (e▸b)).mpr (cP.mp s y b);rw[List.length_erase_of_mem a]at z;have:0<x.length:=v9 a;lia
def FM{x:cn}(i:x∈big d):∃c∈cU ts (big d),x∈c:=by
 have self:=D0 (ts:=ts) i;cases e:de ts (big d) x with
 |nil=>rw[e]at self;cases self
 | cons y rest=>
  have j:y∈de ts (big d) x:=by rw[e];exact dX ..
  obtain⟨k,f⟩:=d8.mp j;rw[jt]at f;have g:=cG.mp f.1;have h:=cG.mp f.2;have same:de ts (big d) y=de ts (big d) x:=by
   unfold de;refine uw λz _=>?_;rw[kh,jt,jt,cG,cG,cG,cG];exact#[λ⟨a,b⟩=>#[g.trans a,b.trans h],λ⟨a,b⟩=>#[h.trans a,b.trans g]]
  refine#[de ts (big d) y,cT.mpr #[y,d8.mpr #[k,?_],zZ],by rw[same];exact self];rw[same,e];simp
end
def Kc{d:LN}{a told:im}(o:Ord d a told):(∀c∈told,c∈a)/\told.Nodup:=by
 induction o with
 |nil=>exact#[λ_ h=>h,List.nodup_nil]
 | @cons a told s h r f=>
  obtain⟨b,g⟩:=f;refine#[λc i=>?_,jw.mpr #[λm=>?_,g]]
  .rcases dL.mp i with e|e
   .rw[e];exact(d8.mp (List.mem_of_head? h)).1
   .exact(d8.mp (b c e)).1
  .have:=gK (d8.mp (b s m)).2;exact this rfl
def FV{b:LN}{a told:im}(o:Ord b a told):∀c∈a,c∈told:=by
 induction o with
 |nil=>exact λ_ h=>h
 | @cons a told s h r d=>
  intro c f;by_cases e:c=s
  .rw[e];exact dX ..
  .exact eO _ (d c (d8.mpr #[f,dW e]))
section
variable{H:Hp}{m:Ad}{ts:LN}{n:Nat}{d c g f:LN}
def Gz(M:Mach H m ts n)(q:FamOf ts n d)(o:LvP ts d c g f){k B l:Nat}{x a s:cn}(J:c[k]?=some x)(L:f[k]?=some a)(N:l<ts.length)(O:c[B]?=some (cC ts x l))(y:f[B]?=some s):∃t,jc ts g a s l t:=by
 obtain⟨C,_⟩:=o.inU M q;have go:=o.go k x a J L;obtain⟨p,b⟩:=o.bij M q O y;have D:=oB M q (c.headD []);rw[<-o.tl]at D;have E:∀z∈a++[l]++p,z<ts.length:=λz A=>by
  rcases dh.mp A with h|h
  .rcases dh.mp h with h|h
   .exact go.1 z h
   .rw[cY.mp h];exact N
  .exact b.lp z h
 have Q:hZ ts (c.headD []) (a++[l]++p):=#[E,by rw[gb,gb,go.2];exact b.fro];refine#[g.map λu=>iR g (cJ (cC ts) u (a++[l]++p)),cu _,λj u T G v=>?_];rw[cV,G]at v;have v:some (iR g (cJ (cC ts) u (a++[l]++p)))=some T:=v;have w:=c8 G;obtain⟨_,e⟩:=vV (E6 M q o Q w);refine#[_,by rw[<-gY v];exact e,?_];have i:∀z∈a++[l],z<ts.length:=λz A=>E z (dh.mpr (.inl A));have U:cJ (cC ts) u (a++[l]++p)=cJ (cC ts) (cJ (cC ts) u (a++[l])) p:=gb ts _ _ _;have Y:cJ (cC ts) u (a++[l])=cC ts (cJ (cC ts) u a) l:=gb ts u a [l];have vU:cJ (cC ts) u (a++[l])∈dF n:=jb M (C u w) i;have sb:sub (cJ (cC ts) u (a++[l])) (cC ts x l)=true:=cP.mpr λr hr=>by
  obtain⟨I,h0,h1⟩:=(gR M (C u w) i).mp hr;have fU:=xt M q o;have:r∈cJ (cC ts) (c.headD []) (a++[l]):=(gR M fU i).mpr #[I,cP.mp (D.mem u w).2.2 I h0,h1];have e3:cJ (cC ts) (c.headD []) (a++[l])=cC ts x l:=by
   rw[gb,go.2];rfl
  rwa[e3]at this
 rw[U,b.symm.back M vU sb,Y]
def LM(M:Mach H m ts n)(y:FamOf ts n d)(i:LvP ts d c g f)(Y:f[0]?=some [])(R:qz ts c g f):
  ∀(v w:cn) (k:Nat) (p:cn),(∀l∈w,l<ts.length)->(∀l∈v,l<ts.length)->cJ (cC ts) (cJ (cC ts) (c.headD []) w) v=c.headD []->c[k]?=some (cJ (cC ts) (c.headD []) w)->f[k]?=some p->
   (∀u∈g,cJ (cC ts) u w=cJ (cC ts) u p)->∀u∈g,cJ (cC ts) u (w++v)=u:=by
 intro v;have nd:=oi M y i;have B:=i.nd y;have c0:c[0]?=some (c.headD []):=by
  cases c with
  |nil=>exact wC zZ (fR i.cls).1
  |cons x c=>rfl
 induction v with
 |nil=>
  intro w k p L _ e o q inv u A;have e:cJ (cC ts) (c.headD []) w=c.headD []:=e;rw[e]at o;have k0:=(ig (cK.mp o).1 B).mp (o.trans c0.symm);subst k0;rw[Y]at q;cases q;rw[gS,inv u A];rfl
 | cons l v ih=>
  intro w k p L N e o q inv;have C:=N l (dX ..);have r:∀x∈v,x<ts.length:=λx D=>N x (eO _ D);have s:∀x∈w++[l],x<ts.length:=λx D=>(dh.mp D).elim (L x) λz=>by rw[cY.mp z];exact C
  have O:cJ (cC ts) (c.headD []) (w++[l])=cC ts (cJ (cC ts) (c.headD []) w) l:=gb ts _ w [l];have Q:cJ (cC ts) (cJ (cC ts) (c.headD []) (w++[l])) v=c.headD []:=by rw[O];exact e
  have my:=Hs M y i s r Q;obtain⟨E,b⟩:=lU my;have G:=(cK.mp b).1;obtain⟨a,h⟩:∃a,f[E]?=some a:=#[_,cA (by rw[i.len];exact G)];have I:=b;rw[O]at I;obtain⟨t,T⟩:=Gz M y i o q C I h;have et:=R k l E _ p a t o q C I h T;have z:=ih (w++[l]) E a s r Q b h λu A=>?_
  .rw[f']at z;exact z
  .obtain⟨j,J⟩:=lU A;have lj:=(cK.mp J).1;obtain⟨u',U,f2⟩:=T.2 j u j J (by rw[et];exact lK lj);rw[J]at U;cases U;rw[f2,<-inv u A];exact gb ts u w [l]
def Oe(M:Mach H m ts n)(e:FamOf ts n d)(a:LvP ts d c g f)(b:f[0]?=some [])(R:qz ts c g f){v:cn}(k:hZ ts (c.headD []) v):∀u∈g,cJ (cC ts) u v=u:=by
 have i:c[0]?=some (c.headD []):=by
  cases c with
  |nil=>exact wC zZ (fR a.cls).1
  |cons x c=>rfl
 exact λu j=>LM M e a b R v [] 0 [] (λ_ h=>nomatch h) k.1 k.2 i b (λ_ _=>rfl) u j
def zo(ts d:LN):Prop:=∀c∈cU ts (big d),∃f,LvP ts d c (gA d (c.headD [])) f/\f[0]?=some []/\qz ts c (gA d (c.headD [])) f
def OH(M:Mach H m ts n)(i:FamOf ts n d)(R:zo ts d):∀(N:Nat) (x:cn),x∈d->x.length<=N->∀v:cn,hZ ts x v->∀r∈x,db ts r v=r:=by
 intro N
 induction N with
 |zero=>
  intro x w I;exact wC (pP.mp (Nat.le_zero.mp I)) (i.ne M w)
 | succ N ih=>
  intro x w I v A r l;have J:=i.inU M w;have stay:∀{y:cn} {q:cn},y∈dF n->hZ ts y q->∀s∈y,db ts s q∈y:=λ{y q} yU k s B=>by
   have z:=(gR M yU k.1).mpr #[s,B,zZ];rwa[k.2]at z
  by_cases h1:x.length<=1
  .have z:=stay J A r l
   match x,h1,l,z with
   | [a],_,l,z=>rw[cY.mp z,cY.mp l]
  have xb:x∈big d:=d8.mpr #[w,dW ()];obtain⟨c,C,L⟩:=FM (ts:=ts) xb;obtain⟨f,D,w0,Rc⟩:=R c C;obtain⟨k,O⟩:=lU L;obtain⟨o,ew⟩:∃o,f[k]?=some o:=#[_,cA (by rw[D.len];exact(cK.mp O).1)];obtain⟨p,b⟩:=D.bij M i O ew;have fb:=(fR C).2.2.1;have fF:=(d8.mp fb).1;have E:=i.inU M fF;have fl:=Kp M i C L;have Q:hZ ts (c.headD []) (o++v++p):=#[λz hz=>by
   rcases dh.mp hz with h|h
   .rcases dh.mp h with h|h
    .exact b.lw z h
    .exact A.1 z h
   .exact b.lp z h,by rw[gb,gb,b.to,A.2];exact b.fro]
  have j:=Oe M i D w0 Rc Q;have T:=oB M i (c.headD []);have all:∀s∈c.headD [],db ts s (o++v++p)=s:=λs B=>by
   have sn:s<n:=(cy.mp E).2 s B;obtain⟨u,U,su⟩:=T.all [s] (Ks i sn) (λe=>by
    have:=dw List.length e;rw[<-fl]at this;simp at this;lia) (cP.mpr λy hy=>by rw[cY.mp hy];exact B)
   obtain⟨Y,G,g⟩:=T.mem u U;have ul:=Gw E (i.inU M Y) g G;exact ih u Y () (o++v++p) #[Q.1,j u U] s (cP.mp su s (cY.mpr zZ))
  have t:=l;rw[<-b.to]at t;obtain⟨r0,h0,rfl⟩:=(gR M E b.lw).mp t;have e:=all r0 h0;rw[ky,ky]at e;have z:=b.there _ (stay J A _ l);rw[e]at z;exact z.symm
theorem qa(ts:LN)(w:cn):∀(k r:Nat),db ts r (eQ w (k+1))=db ts (db ts r (eQ w k)) w
 |0,r=>by
  show db ts r (w++[])=_;rw[gS];rfl
 |k+1,r=>by
  show db ts r (w++eQ w (k+1))=db ts (db ts r (w++eQ w k)) w;rw[ky,ky,qa ts w k]
def sq{w:cn}{L:Nat}(a:∀l∈w,l<L)(k:Nat):∀l∈eQ w k,l<L:=λl b=>a l (BG b)
def Lj(M:Mach H m ts n)(i:FamOf ts n d){w:cn}(b:∀l∈w,l<ts.length):∃k,k<=n/\hZ ts (cJ (cC ts) (List.range n) (eQ w k)) w:=by
 have j:List.range n∈dF n:=i.inU M (Db M i);have mem:∀(k r:Nat),r∈cJ (cC ts) (List.range n) (eQ w k)↔ ∃a,a<n/\db ts a (eQ w k)=r:=λk r=>by
  rw[gR M j (sq b k)];exact#[λ⟨a,c,h⟩=>#[a,f8.mp c,h],λ⟨a,c,h⟩=>#[a,f8.mpr c,h]]
 have f:∀k,cJ (cC ts) (List.range n) (eQ w k)∈dF n:=λk=>jb M j (sq b k);have next:∀k,cJ (cC ts) (cJ (cC ts) (List.range n) (eQ w k)) w=cJ (cC ts) (List.range n) (eQ w (k+1)):=λk=>by
  refine rk (jb M (f k) b) (f (k+1)) λr=>?_;rw[gR M (f k) b,mem];constructor
  .rintro⟨p,c,rfl⟩;obtain⟨a,g,rfl⟩:=(mem k p).mp c;exact#[a,g,qa ts w k a]
  .rintro⟨a,g,rfl⟩;exact#[_,(mem k _).mpr #[a,g,zZ],(qa ts w k a).symm]
 have less:∀k,∀r∈cJ (cC ts) (List.range n) (eQ w (k+1)),r∈cJ (cC ts) (List.range n) (eQ w k):=λk r q=>by
  obtain⟨a,g,rfl⟩:=(mem (k+1) r).mp q;refine(mem k _).mpr #[db ts a w,lJ M w a g b,?_];show _=db ts a (w++eQ w k);rw[ky]
 apply ou;intro no;have lt:∀k,k<=n->(cJ (cC ts) (List.range n) (eQ w (k+1))).length<(cJ (cC ts) (List.range n) (eQ w k)).length:=λk o=>by
  refine Gw (f k) (f (k+1)) (cP.mpr (less k)) λe=>no #[k,o,b,?_];rw[next,e]
 have bound:∀k,k<=n+1->(cJ (cC ts) (List.range n) (eQ w k)).length+k<=n:=λk=>by
  induction k with
  |zero=>
   intro _;show(List.range n).length+0<=n
   rw[md];lia
  |succ k s=>
   intro o;have:=s ()
   have:=lt k ();lia
 have:=bound (n+1) (cQ _);lia
theorem FR(M:Mach H m ts n){w:cn}(a:∀l∈w,l<ts.length)(c:List.range n∈dF n)(k:Nat):∀(j r:Nat),r<n->db ts r (eQ w (k+j))∈cJ (cC ts) (List.range n) (eQ w k)
 |0,r,b=>(gR M c (sq a k)).mpr #[r,f8.mpr b,zZ]
 |j+1,r,b=>by
  show db ts r (w++eQ w (k+j))∈_;rw[ky];exact FR M a c k j _ (lJ M w r b a)
def Oy(M:Mach H m ts n)(a:FamOf ts n d)(R:zo ts d){w:cn}(b:∀l∈w,l<ts.length){j r:Nat}(h:n<=j)(e:r<n):db ts (db ts r (eQ w j)) w=db ts r (eQ w j):=by
 obtain⟨k,i,f⟩:=Lj M a b;have c:=Db M a;have g:List.range n∈dF n:=a.inU M c;have z:=FR M b g k (j-k) r e;rw[show k+(j-k)=j by lia]at z;exact OH M a R _ _ (y3 M a c (sq b k)) (cQ _) w f _ z
end
structure Lv where
 c:LN
 us:LN
 wds:LN
 gs:LN
structure GrpOf(ts c us wds gs:LN):Prop where
 up:gs.Pairwise λx y=>fj x y=true
 mem:∀t,t∈gs↔Gen (rq ts c us wds) us.length t
def On{H:Hp}{m:Ad}{b:LN}{n:Nat}{d c e a f g:LN}{h:TW}(M:Mach H m b n)(i:FamOf b n d)(j:LvP b d c e a)(k:g.Perm (h.map (·.1)))(up:g.Pairwise (λx y=>fj x y=true))(Mk:Makers b c e a f)(TT:Told (gG f) f.length (List.range e.length) h):GrpOf b c e a g:=
 #[up,λt=>by rw[k.mem_iff,EY TT,Gx (EO M i j Mk)]]
structure LvOk(ts fam:LN)(L:Lv):Prop where
 p:LvP ts fam L.c L.us L.wds
 w:Wds ts L.c L.wds
 g:GrpOf ts L.c L.us L.wds L.gs
structure RowOf(ts:LN)(n:Nat)(fam:LN)(Ls:List Lv):Prop where
 ff:FamOf ts n fam
 od:Ord ts (cU ts (big fam)) (Ls.map (·.c))
 few:Ls.length<=32
 ok:∀L∈Ls,LvOk ts fam L
section
variable{H:Hp}{m:Ad}{d:LN}{n:Nat}{c:LN}{L:Lv}
def LvOk.inG(M:Mach H m d n)(a:FamOf d n c)(ok:LvOk d c L){t:cn}(h:t∈L.gs):t∈gU L.us n:=by
 have z:=(ok.g.mem t).mp h;have b:=(ok.p.inU M a).1
 induction z with
 |base=>exact yZ (oi M a ok.p) b
 |step e f g=>
  obtain⟨k,l,u,x,v,i,j,o,p,q,r,s⟩:=f;exact zv M.n5 b (g ((ok.g.mem _).mpr e)) (IF M a ok.p j o p q r s)
def LvOk.nd(ok:LvOk d c L):L.gs.Nodup:=ok.g.up.imp λ{a b} z e=>by
 subst e;rw[qd]at z;cases z
end
def gI(a:LN)(b:As):List (List dq×V):=a3x (a.map λx=>(x,[])) b
def FA{a:LN}{b:As}(h:b.length=a.length):(gI a b).length=a.length:=by
 unfold gI L2.a3x;rw[List.length_zipWith,cu,h,Nat.min_self]
def Hm{b:LN}{c:As}{x:cn}{a:Ad}(h:c.length=b.length)(d:x∉b):iO (gI b c) (nk x) (.ref a)=gI (b++[x]) (c++[a]):=by
 unfold gI;rw[wL _ (vR (by rw[DU];exact d)),eV];exact(CS (ws:=b.map λx=>(x,[])) (p:=(x,[])) (a:=a) (by rw[cu,h])).symm
def tl(a b:LN)(c:cn):LN:=b.map λu=>cJ (cC a) u c
def TiledAs(H:Hp)(e f b:LN)(g:As):Prop:=∀(k:Nat) (c:cn) (a:Ad),b[k]?=some c->g[k]?=some a->∃d,H a=some (.lst (d.map .ref))/\TupsAt H d (tl e f c)
def TiledAt(H:Hp)(t:Ad)(d c e a:LN):Prop:=∃b,H t=some (.dT (gI c b))/\b.length=c.length/\TiledAs H d e a b
def TurnL(H:Hp)(b c h d:LN)(x i:cn)(e:List V):Prop:=e.length=b.length/\∀(l:Nat) (v:V),e[l]?=some v->(cC b x l∉c/\v=.non)\/∃(p:Ad) (f:cn) (g:Nat) (a:cn),v=.ref p/\H p=some (.tup (f.map nv))/\c[g]?=some (cC b x l)/\d[g]?=some a/\jc b h i a l f
def TurnsAs(H:Hp)(f c g b:LN)(h:As):Prop:=∀(k:Nat) (x d:cn) (a:Ad),c[k]?=some x->b[k]?=some d->h[k]?=some a->∃e,H a=some (.lst e)/\TurnL H f c g b x d e
def TurnsAt(H:Hp)(t:Ad)(d c e a:LN):Prop:=∃b,H t=some (.dT (gI c b))/\b.length=c.length/\TurnsAs H d c e a b
def Stays(f:HO->Bool)(H a:Hp):Prop:=∀b o,f o=false->H b=some o->a b=some o
def wR:HO->Bool
 |.tbl _=>true
 |_=>false
def Cm:HO->Bool
 |.tbl _=>true
 |.dT _=>true
 |_=>false
def pC:HO->Bool
 |.ins _ _ _=>true
 |_=>false
def DI:HO->Bool
 |.lst _=>true
 |_=>false
abbrev uu:=Stays Cm
abbrev rm:=Stays DI
def Stays.a{f:HO->Bool}{H H':Hp}{b:Ad}{o:HO}(g:Stays f H H')(h:H b=some o)(d:f o=false:=by rfl):H' b=some o:=g b o d h
def nz{H:Hp}{a:Ad}{o:HO}(h:H a=some o)(d:wR o=false:=by rfl):L2.noT H a=some o:=pI h λb e=>by subst e;cases d
def CJ{H a:Hp}(g:Keeps H a):Stays wR H a:=λb o d h=>g b o (nz h d)
def zJ{H a:Hp}(g:Same H a):uu H a:=λb o _ h=>g b o h
def Stays.off{H:Hp}{D:Ad}{a:List (List dq×V)}{o:HO}(h:H D=some (.dT a)):uu H (cq H D o):=λb u n c=>by
 rw[cz (i5 c h λe=>by rw[e]at n;cases n)];exact c
def Stays.offL{H:Hp}{D:Ad}{c:List V}{o:HO}(h:H D=some (.lst c)):rm H (cq H D o):=λb u n a=>by
 rw[cz (i5 a h λe=>by rw[e]at n;cases n)];exact a
def Stays.offI{H:Hp}{D C d:Ad}{fs:List (Str×V)}{o:HO}(h:H D=some (.ins C d fs)):Stays pC H (cq H D o):=λb u n a=>by
 rw[cz (i5 a h λe=>by rw[e]at n;cases n)];exact a
section
variable{f:HO->Bool}{H m:Hp}{n c j d:LN}
def Stays.tups{bs:As}{j:LN}(g:Stays f H m)(T:TupsAt H bs j)(a:∀c,f (.tup c)=false:=by intro;rfl):TupsAt m bs j:=#[T.len,λi b u d e=>g _ _ (a _) (T.is i b u d e)]
def TiledAs.lts{c:As}(h:TiledAs H n j d c)(g:Stays f H m)(e:∀b,f (.lst b)=false:=by intro;rfl)(i:∀b,f (.tup b)=false:=by intro;rfl):TiledAs m n j d c:=λk l a o p=>let⟨q,r,s⟩:=h k l a o p;#[q,g _ _ (e _) r,g.tups s i]
def TurnL.lts{x b:cn}{i:List V}(h:TurnL H n c j d x b i)(g:Stays f H m)(k:∀o,f (.tup o)=false:=by intro;rfl):TurnL m n c j d x b i:=#[h.1,λl v e=>(h.2 l v e).imp id λ⟨p,q,r,a,s,t,u⟩=>#[p,q,r,a,s,g _ _ (k _) t,u]]
def TurnsAs.lts{e:As}(h:TurnsAs H n c j d e)(g:Stays f H m)(i:∀b,f (.lst b)=false:=by intro;rfl)(l:∀b,f (.tup b)=false:=by intro;rfl):TurnsAs m n c j d e:=λk x o a p q r=>let⟨s,t,u⟩:=h k x o a p q r;#[s,g _ _ (i _) t,u.lts g l]
def TiledAt.keeps{t:Ad}(h:TiledAt H t n c j d)(g:Keeps H m):TiledAt m t n c j d:=let⟨a,b,e,f⟩:=h;#[a,g _ _ (nz b),e,f.lts (CJ g)]
def TurnsAt.keeps{t:Ad}(h:TurnsAt H t n c j d)(g:Keeps H m):TurnsAt m t n c j d:=let⟨a,b,e,f⟩:=h;#[a,g _ _ (nz b),e,f.lts (CJ g)]
end
def Ew(m g t u:Ad)(k:Nat):List (Str×V):=[(sA,.ref m),(sL,.ref g),(sM,.ref t),(sV,.ref u),(tQ,nv k)]
section
variable{m g t u:Ad}{k:Nat}
def HU:(Ew m g t u k).lookup (sL:Str)=some (.ref g):=by kernel_rfl
def xR:(Ew m g t u k).lookup (tQ:Str)=some (nv k):=by kernel_rfl
end
def StepAt(C:Ad)(H:Hp)(q m:Ad)(a:LN)(L:Lv):Prop:=∃(c g t u:Ad) (b:As),H q=some (.ins C c (Ew m g t u L.us.length))/\H g=some (.lst (b.map .ref))/\TupsAt H b L.gs/\TiledAt H t a L.c L.us L.wds/\TurnsAt H u a L.c L.us L.wds
def StepAt.keeps{C:Ad}{H a:Hp}{q m:Ad}{b:LN}{L:Lv}(h:StepAt C H q m b L)(k:Keeps H a):StepAt C a q m b L:=
 let⟨c,g,t,u,d,e,f,i,j,l⟩:=h;#[c,g,t,u,d,k _ _ (nz e),k _ _ (nz f),pZ i k,j.keeps k,l.keeps k]
structure StepsAt(C:Ad)(H:Hp)(qs:As)(m:Ad)(ts:LN)(Ls:List Lv):Prop where
 len:qs.length=Ls.length
 is:∀(i:Nat) (q:Ad) (L:Lv),qs[i]?=some q->Ls[i]?=some L->StepAt C H q m ts L
def xk(r s:Ad):List (Str×V):=[(sC,.ref r),(vC,.ref s)]
def Kq{r s:Ad}:(xk r s).lookup (vC:Str)=some (.ref s):=by kernel_rfl
def HB(b CR:Ad)(H:Hp)(p m:Ad)(c:LN)(n:Nat)(d:List Lv):Prop:=∃(e r s:Ad) (a:As),H p=some (.ins CR e (xk r s))/\H r=some (.tup ((List.range n).map nv))/\H s=some (.lst (a.map .ref))/\StepsAt b H a m c d
inductive hA(C:Ad)(j:List V)(H:Hp)(Q:VK)(i:XK):Prop|mk:∀(d:Hp) (p l m a:Ad) (e:LN) (n:Nat) (f c g b:LN),j=[.ref p,.ref m,.ref a]->Same d H->d p=none->H p=some (.ins C l [])->Mach d m e n->FamOf e n f->LvH d a c g b->LvP e f c g b->Tabs d->(∀k h,Keeps d h->Tabs h->GrpOf e c g b k->StepAt C h p m e #[c,g,b,k]->Q .non h)->hA C j H Q i
inductive gi(f CR:Ad)(g:List V)(H:Hp)(Q:VK)(c:XK):Prop|mk:∀(a:Hp) (p i m:Ad) (d:LN) (n:Nat),g=[.ref p,.ref m]->Same a H->a p=none->H p=some (.ins CR i [])->Mach a m d n->Tabs a->(∀e h b,Keeps a b->Tabs b->RowOf d n e h->HB f CR b p m d n h->Q .non b)->gi f CR g H Q c
def Tabs.offI{H:Hp}{p C a:Ad}{fs:List (Str×V)}{o:HO}(t:Tabs H)(h:H p=some (.ins C a fs)):Tabs (cq H p o):=λq d=>by
 have k:∀{b:Ad} {u:HO},u≠ .ins C a fs->H b=some u->cq H p o b=some u:=λn c=>by
  rw[cz (i5 c h n)];exact c
 rcases t q d with t|⟨f,g,i⟩
 .exact .inl (k (λe=>nomatch e) t)
 .exact .inr #[f,k (λe=>nomatch e) g,k (λe=>nomatch e) i]
def Tabs.offD{H:Hp}{D:Ad}{a:List (List dq×V)}{o:HO}(t:Tabs H)(h:H D=some (.dT a)):Tabs (cq H D o):=t.most λb u n _ c=>by
 rw[cz (i5 c h λe=>n _ e)];exact c
def w6{H a:Hp}{l:Ad}{o:HO}(g:Keeps H a)(n:H l=none):Keeps H (cq a l o):=Br g (FL n)
def HM{H a:Hp}{l:Ad}(g:Keeps H a)(n:a l=none):L2.noT H l=none:=by
 cases y:L2.noT H l with
 |none=>rfl
 |some o=>
  rw[g _ _ y]at n;cases n
def StepAt.off{C i:Ad}{H:Hp}{q m p d:Ad}{b:LN}{L:Lv}{fs:List (Str×V)}{o:HO}(h:StepAt C H q m b L)(c:H p=some (.ins i d fs))(n:fs.length≠5):StepAt C (cq H p o) q m b L:=by
 obtain⟨j,g,t,u,k,f,l,r,⟨s,v,w,x⟩,a,y,z,A⟩:=h;have lo:Stays pC H (cq H p o):=Stays.offI c;refine#[j,g,t,u,k,?_,lo.a l,lo.tups r,#[s,lo.a v,w,x.lts lo],a,lo.a y,z,A.lts lo];rw[cz (i5 f c λe=>by injection e with _ _ e;exact n (by rw[<-e];rfl))];exact f
def vp{b:Type}{P:Nat->b->Prop}{a:List b}{x:b}(h:∀k y,a[k]?=some y->P k y)(c:P a.length x)(k:Nat)(y:b)(e:(a++[x])[k]?=some y):P k y:=by
 by_cases d:k<a.length
 .rw[fu d]at e;exact h k y e
 .have lk:=(cK.mp e).1;rw[eh,pd]at lk;have f:k=a.length:=by lia
  subst f;rw[fV (cQ _),oN]at e;cases e;exact c
def KU{C:Ad}(F:Fun K tS "LevelParts.__init__" yP f fd)(P':OwnC K C [sA,sL,sM,sV,tQ])(jQ:dj P w K mg base sU 13 [sA,sD] gO)(jI:dj P w K mg base uK 7 [sA,sD,"k"] fA)(jE:dj P w K mg base tY 9 [sA,sD,"k",sN] fh)(jY:mg "enumerate"=none)(jB:mg "range"=none)(jA:mg "len"=none):FnOk P w K mg base da 15 f fd [sW,sA,sD] (hA C):=by
 refine F.ok kH (λaX A aN s H vs Q E hr h=>?_)
 obtain⟨H0,p,d,m,a,I,n,aw,c,Y,y,rfl,g0,np,hp,M,ff,lv,lp,hT,q⟩:=h;have hu:=hr.units;have ax:=lY hr;obtain⟨s',t',v',bs,ds,cs,h1,h2,h3,h4,h5,h6,h7,h8⟩:=id lv;have lb:=h3.len;have l5:=h5.len;obtain⟨uU,few⟩:=lp.inU M ff;obtain⟨rs,hm,aO,_⟩:=M.refs;have t4:=M.few;have nd:=lp.nd ff;have aY:c.length<=32:=by
  rw[(fR lp.cls).2.1];exact dy (iz _ _) (dy (iz _ _) (ff.few M))
 refine#[_,(cR (sw (pv 0) (pv 1) zZ) (cR (sw (pv 0) (dv jQ hr.m zZ (dr (cD (pv 1) (cD (pv 2) dt zZ) zZ))) zZ) (cR (sw (pv 0) yd zZ) (cR (sw (pv 0) yd zZ) (cR (iG i4 zZ (Hd zZ jY (cL (dB eM (pv 2) df (λ_ _=>rfl)) cH)) (wH zZ (nX (gB (i:=3) kH.nd zZ Z0) (nX (gB (i:=4) kH.nd zZ Z') xu))) (cR (qh ax (vP (pv 0) zZ) (pv 4) (dv jI hr.m zZ (dr (cD (pv 1) (cD (pv 2) (cD (pv 3) dt zZ) zZ) zZ))) zZ) (cX (qh ax (vP (pv 0) zZ) (pv 4) (ie (CompSc.to (N:=[sW,sA,sD,"k",sC]) (osc:=cN yP) (vs:=[sN]) {}) zZ zZ (lA zZ jB (cL (eK fS zZ jA fG (cL (pv 1) cH)) cH)) (λ_ _ _ _=>iE) (λ_ _ _ _=>(dv jE hr.m zZ (dr (cD (pv 2) (cD (pv 3) (cD (pv 4) (cD (pv 0) dt zZ) zZ) zZ) zZ))))) zZ)))) (cX (sw (pv 0) (eK fS zZ jA fG (cL (dB eM (pv 2) df (λ_ _=>rfl)) cH)) zZ))))))),?_];refine#[_,zZ,_,zZ,p,C,d,_,zZ,hp,P'.cl,P'.no,by show 0<1000;decide,?_];have g1:Same H0 (cq H p (.ins C d (dU sA (.ref m) []))):=i6 g0 np;have p1:cq H p (.ins C d (dU sA (.ref m) [])) p=some (.ins C d (dU sA (.ref m) [])):=cw;generalize cq H p (.ins C d (dU sA (.ref m) []))=H1 at g1 p1|-;refine#[_,zZ,_,zZ,m,a,I,n,aw,c,Y,y,zZ,M.same g1,ff,lv.same g1,lp,hT.same g1,λg gr gs mk ws H2 k2 T2 ng eg Tg pm up Mk TT=>?_];have G:=On M ff lp pm up Mk TT;have p2:=k2 _ _ (nz p1);refine#[_,zZ,p,C,d,_,zZ,p2,P'.cl,P'.no,by show 1<1000;decide,?_];have gp:g≠p:=nE eg p2;have k3:Keeps H0 (cq H2 p (.ins C d (dU sL (.ref g) (dU sA (.ref m) [])))):=w6 (g1.keeps.trans k2) np;have T3:Tabs (cq H2 p (.ins C d (dU sL (.ref g) (dU sA (.ref m) [])))):=T2.offI p2;have p3:cq H2 p (.ins C d (dU sL (.ref g) (dU sA (.ref m) []))) p=some (.ins C d [(sA,.ref m),(sL,.ref g)]):=by rw[cw];exact dw (λl=>some (HO.ins C d l)) (by kernel_rfl)
 have an:cq H2 p (.ins C d (dU sL (.ref g) (dU sA (.ref m) []))) g=some (.lst (gr.map .ref)):=by rw[cz gp];exact eg
 have ao:TupsAt (cq H2 p (.ins C d (dU sL (.ref g) (dU sA (.ref m) [])))) gr gs:=q0 Tg p2 λ_ e=>nomatch e;generalize cq H2 p (.ins C d (dU sL (.ref g) (dU sA (.ref m) [])))=H3 at k3 T3 p3 an ao|-;intro t ht;have J:=cM ht (.dT []);have ay:p≠t:=dH p3 ht;have aP:=HM k3 ht;refine#[_,zZ,p,C,d,_,zZ,J _ _ p3,P'.cl,P'.no,by show 2<1000;decide,?_];have k4:Keeps H0 (cq (cq H3 t (.dT [])) p (.ins C d (dU sM (.ref t) [(sA,.ref m),(sL,.ref g)]))):=w6 (k3.trans J.keeps) np;have T4:Tabs (cq (cq H3 t (.dT [])) p (.ins C d (dU sM (.ref t) [(sA,.ref m),(sL,.ref g)]))):=(T3.same J).offI (J _ _ p3);have p4:cq (cq H3 t (.dT [])) p (.ins C d (dU sM (.ref t) [(sA,.ref m),(sL,.ref g)])) p=some (.ins C d [(sA,.ref m),(sL,.ref g),(sM,.ref t)]):=by rw[cw];exact dw (λl=>some (HO.ins C d l)) (by kernel_rfl)
 have ap:cq (cq H3 t (.dT [])) p (.ins C d (dU sM (.ref t) [(sA,.ref m),(sL,.ref g)])) g=some (.lst (gr.map .ref)):=by rw[cz gp];exact J _ _ an
 have aq:TupsAt (cq (cq H3 t (.dT [])) p (.ins C d (dU sM (.ref t) [(sA,.ref m),(sL,.ref g)]))) gr gs:=q0 (ao.same J) (J _ _ p3) λ_ e=>nomatch e;have aj:cq (cq H3 t (.dT [])) p (.ins C d (dU sM (.ref t) [(sA,.ref m),(sL,.ref g)])) t=some (.dT []):=by rw[cz ay.symm];exact cw
 generalize cq (cq H3 t (.dT [])) p (.ins C d (dU sM (.ref t) [(sA,.ref m),(sL,.ref g)]))=H4 at k4 T4 p4 ap aq aj|-;clear k3 T3 p3 an ao J ht k2 T2 p2 eg Tg g1 p1 g0 hp;intro u af;have J:=cM af (.dT []);have aQ:p≠u:=dH p4 af;have az:t≠u:=dH aj af;refine#[_,zZ,p,C,d,_,zZ,J _ _ p4,P'.cl,P'.no,by show 3<1000;decide,?_];have k5:Keeps H0 (cq (cq H4 u (.dT [])) p (.ins C d (dU sV (.ref u) [(sA,.ref m),(sL,.ref g),(sM,.ref t)]))):=w6 (k4.trans J.keeps) np;have T5:Tabs (cq (cq H4 u (.dT [])) p (.ins C d (dU sV (.ref u) [(sA,.ref m),(sL,.ref g),(sM,.ref t)]))):=(T4.same J).offI (J _ _ p4);have p5:cq (cq H4 u (.dT [])) p (.ins C d (dU sV (.ref u) [(sA,.ref m),(sL,.ref g),(sM,.ref t)])) p=some (.ins C d [(sA,.ref m),(sL,.ref g),(sM,.ref t),(sV,.ref u)]):=by rw[cw];exact dw (λl=>some (HO.ins C d l)) (by kernel_rfl)
 have aA:cq (cq H4 u (.dT [])) p (.ins C d (dU sV (.ref u) [(sA,.ref m),(sL,.ref g),(sM,.ref t)])) g=some (.lst (gr.map .ref)):=by rw[cz gp];exact J _ _ ap
 have aB:TupsAt (cq (cq H4 u (.dT [])) p (.ins C d (dU sV (.ref u) [(sA,.ref m),(sL,.ref g),(sM,.ref t)]))) gr gs:=q0 (aq.same J) (J _ _ p4) λ_ e=>nomatch e;have aC:cq (cq H4 u (.dT [])) p (.ins C d (dU sV (.ref u) [(sA,.ref m),(sL,.ref g),(sM,.ref t)])) t=some (.dT []):=by rw[cz ay.symm];exact J _ _ aj
 have aD:cq (cq H4 u (.dT [])) p (.ins C d (dU sV (.ref u) [(sA,.ref m),(sL,.ref g),(sM,.ref t)])) u=some (.dT []):=by rw[cz aQ.symm];exact cw
 have aR:=HM k4 af;generalize cq (cq H4 u (.dT [])) p (.ins C d (dU sV (.ref u) [(sA,.ref m),(sL,.ref g),(sM,.ref t)]))=H5 at k5 T5 p5 aA aB aC aD|-;clear k4 T4 p4 ap aq aj J af
 let Pv:Nat->L2.St->Hp->Prop:=λi σ B=>Keeps H0 B/\Tabs B/\B p=some (.ins C d [(sA,.ref m),(sL,.ref g),(sM,.ref t),(sV,.ref u)])/\B g=some (.lst (gr.map .ref))/\TupsAt B gr gs/\(∃z,B t=some (.dT (gI (c.take i) z))/\z.length=i/\TiledAs B I Y y z)/\(∃z,B u=some (.dT (gI (c.take i) z))/\z.length=i/\TurnsAs B I c Y y z)/\∃o3 o4,σ=[some (.ref p),some (.ref m),some (.ref a),o3,o4]
 have L:=λ{B:Hp} (k:Keeps H0 B)=>CJ k;refine#[_,zZ,a,_,_,_,zZ,zZ,P2 ((L k5).a h1),zZ,s',_,zZ,P1 ((L k5).a h2),IB (xs:=bs.map .ref) Pv #[k5,T5,p5,aA,aB,#[[],aC,zZ,λk D a _ e=>by simp at e],#[[],aD,zZ,λk x D a _ _ e=>by simp at e],_,_,zZ] (λi σ B _ p=>P1 ((L p.1).a h2)) (λi Tp v σ H6 hv nT pv=>?_) (λσ H6 pv=>?_)]
 .obtain⟨k6,T6,p6,ar,au,⟨z,ab,la,ta⟩,⟨O,ag,ae,tb⟩,o3,o4,rfl⟩:=pv;rw[cV]at hv;obtain⟨b,eb,rfl⟩:=eW.mp hv;have li:=(cK.mp eb).1;obtain⟨x,ex⟩:∃x,c[i]?=some x:=#[_,cA ()];obtain⟨D,ew⟩:∃D,y[i]?=some D:=#[_,cA (by rw[lp.len];lia)];have aS:=(lp.go i x D ex ew).1;have tk:c.take (i+1)=c.take i++[x]:=by rw[lP,ex];rfl
  have xn:x∉c.take i:=λh=>by
   obtain⟨j,ej⟩:=gy.mp h;have lj:=(cK.mp ej).1;rw[hG]at lj;rw[BJ ()]at ej;have:=(ig () nd).mp (ej.trans ex.symm)
   lia
  have lt:(c.take i).length=i:=by rw[hG];lia
  have kT:=cM nT (.tup [.int (i:Nat),.ref b]);have eT:cq H6 Tp (.tup [.int (i:Nat),.ref b]) Tp=some (.tup [.int (i:Nat),.ref b]):=cw;generalize cq H6 Tp (.tup [.int (i:Nat),.ref b])=H7 at kT eT|-;have k7:=k6.trans kT.keeps;refine#[Tp,_,zZ,P2 eT,zZ,_,_,zZ,_,_,zZ,zZ,?_];refine#[_,zZ,_,zZ,_,zZ,m,a,i,I,n,c,Y,y,D,zZ,M.keeps k7,LvH.keeps lv k7,ew,uU,few,aS,λl es H8 g8 el aE=>?_];have T:=kT.trans g8;have k8:=k6.trans T.keeps;have aF:=(L k8).a (h3.is i b x eb ex);refine#[_,zZ,p,C,d,_,_,zZ,T _ _ p6,P'.cl,P'.no,(by kernel_rfl),_,zZ,t,_,zZ,DPut.t (T _ _ ab) (by rw[iu];exact aF) (by rw[FA (),dA];lia),?_];rw[Hm () xn,<-tk];have ak:=T _ _ ab;have lo:uu H6 (cq H8 t (.dT (gI (c.take (i+1)) (z++[l])))):=λb o n hb=>Stays.off ak b o n (T _ _ hb);have av:uu H8 (cq H8 t (.dT (gI (c.take (i+1)) (z++[l])))):=Stays.off ak;have k9:Keeps H0 (cq H8 t (.dT (gI (c.take (i+1)) (z++[l])))):=Br k8 aP;have T9:Tabs (cq H8 t (.dT (gI (c.take (i+1)) (z++[l])))):=(T6.same T).offD ak;have aG:cq H8 t (.dT (gI (c.take (i+1)) (z++[l]))) t=some (.dT (gI (c.take (i+1)) (z++[l]))):=cw;have aH:cq H8 t (.dT (gI (c.take (i+1)) (z++[l]))) u=some (.dT (gI (c.take i) O)):=by rw[cz az.symm];exact T _ _ ag
  have aI:TiledAs (cq H8 t (.dT (gI (c.take (i+1)) (z++[l])))) I Y y (z++[l]):=λk r a' e1 e2=>vp (P:=λk a=>∀D,y[k]?=some D->∃es,cq H8 t (.dT (gI (c.take (i+1)) (z++[l]))) a=some (.lst (es.map .ref))/\TupsAt (cq H8 t (.dT (gI (c.take (i+1)) (z++[l])))) es (tl I Y D)) (λk a e D e'=>(ta.lts lo) k D a e' e) (λr e=>by
   rw[la,ew]at e;cases e;exact#[es,av.a el,av.tups aE]) k a' e2 r e1
  have p9:=lo.a p6;have aJ:=lo.a ar;have aK:=lo.tups au;have aL:=tb.lts lo;generalize cq H8 t (.dT (gI (c.take (i+1)) (z++[l])))=H9 at k9 T9 aG aH aI p9 aJ aK aL|-;clear lo av T g8 k8 aF ak kT eT k7 el aE;refine#[_,zZ,m,_,zZ,.inr (P2 ((L k9).a hm)),(I.length:Int),by rw[cu,aO],(),(),wO (λj ys B=>Same H9 B/\ys.length=j/\∀(l:Nat) (v:V),ys[l]?=some v->(cC I x l∉c/\v=.non)\/∃(p:Ad) (js:cn) (k':Nat) (r:cn),v=.ref p/\B p=some (.tup (js.map nv))/\c[k']?=some (cC I x l)/\y[k']?=some r/\jc I Y D r l js) (by rw[iy];exact small ()) #[Same.refl _,zZ,λl v e=>by simp at e] (λj ys B _ pv=>Nat.le_of_eq pv.2.1) (λj ys B hj pv=>?_) (λys B pv sg aT=>?_)]
  .obtain⟨g,ly,al⟩:=pv;have e0:V.int (0+(j:Int))=nv j:=by show V.int (0+(j:Int))=V.int (j:Int);rw[ot]
   have aU:j<I.length:=by simpa using hj
   rw[e0];have ah:=k9.trans g.keeps;refine#[hO,lG #[_,zZ,_,zZ,_,zZ,_,zZ,m,a,i,j,I,n,aw,c,Y,y,x,D,zZ,M.keeps ah,ff,LvH.keeps lv ah,lp,ex,ew,aU,λno H2 g2=>?_,λk' r ey aV pp js H2 g2 ep aW=>?_]]
   .refine#[g.trans g2,by rw[eh,ly];rfl,λl v e=>vp (P:=λl v=>(cC I x l∉c/\v=V.non)\/∃(p:Ad) (js:cn) (k':Nat) (r:cn),v=.ref p/\H2 p=some (.tup (js.map nv))/\c[k']?=some (cC I x l)/\y[k']?=some r/\jc I Y D r l js) (λl v e=>(al l v e).imp id λ⟨p,js,k',r,z1,z2,z3⟩=>#[p,js,k',r,z1,g2 _ _ z2,z3]) (.inl #[by rw[ly];exact no,zZ]) l v e]
   .refine#[g.trans g2,by rw[eh,ly];rfl,λl v e=>vp (P:=λl v=>(cC I x l∉c/\v=V.non)\/∃(p:Ad) (js:cn) (k':Nat) (r:cn),v=.ref p/\H2 p=some (.tup (js.map nv))/\c[k']?=some (cC I x l)/\y[k']?=some r/\jc I Y D r l js) (λl v e=>(al l v e).imp id λ⟨p,js,k',r,z1,z2,z3⟩=>#[p,js,k',r,z1,g2 _ _ z2,z3]) (.inr #[pp,js,k',r,zZ,ep,by rw[ly];exact ey,aV,by rw[ly];exact aW]) l v e]
  .obtain⟨g,ly,al⟩:=pv;rw[iy]at ly;have ks:=cM aT (.lst ys);have es:cq B sg (.lst ys) sg=some (.lst ys):=cw;have U:=g.trans ks;have TL:TurnL (cq B sg (.lst ys)) I c Y y x D ys:=TurnL.lts #[ly,al] (zJ ks);generalize cq B sg (.lst ys)=ai at ks es U TL|-;have ah:=k9.trans U.keeps;have aM:=(L ah).a (h3.is i b x eb ex);have aa:=U _ _ aH;refine#[_,zZ,p,C,d,_,_,zZ,U _ _ p9,P'.cl,P'.no,(by kernel_rfl),_,zZ,u,_,zZ,DPut.t aa (by rw[iu];exact aM) (by rw[FA (),dA];lia),?_];rw[Hm () xn,<-tk];have lo:uu H9 (cq ai u (.dT (gI (c.take (i+1)) (O++[sg])))):=λb o n hb=>Stays.off aa b o n (U _ _ hb)
   have am:uu ai (cq ai u (.dT (gI (c.take (i+1)) (O++[sg])))):=Stays.off aa;refine#[Br ah aR,(T9.same U).offD aa,lo.a p9,lo.a aJ,lo.tups aK,#[z++[l],by rw[cz az];exact U _ _ aG,by rw[eh,la];rfl,aI.lts lo],#[O++[sg],cw,by rw[eh,ae];rfl,λk x' r a' e1 e2 e3=>?_],_,_,zZ];refine vp (P:=λk a=>∀x D,c[k]?=some x->y[k]?=some D->∃vs,cq ai u (.dT (gI (c.take (i+1)) (O++[sg]))) a=some (.lst vs)/\TurnL (cq ai u (.dT (gI (c.take (i+1)) (O++[sg])))) I c Y y x D vs) (λk a e x D e1 e2=>(aL.lts lo) k x D a e1 e2 e) (λx' r e1 e2=>?_) k a' e3 x' r e1 e2;rw[ae,ex]at e1;rw[ae,ew]at e2;cases e1;cases e2;exact#[ys,am.a es,TL.lts am]
 .obtain⟨k6,T6,p6,ar,au,⟨z,ab,la,ta⟩,⟨O,ag,ae,tb⟩,o3,o4,rfl⟩:=pv;rw[cu,lb]at ab ag la ae;rw[ik]at ab ag;refine#[_,zZ,a,_,_,_,zZ,zZ,P2 ((L k6).a h1),zZ,t',_,zZ,.inl (P1 ((L k6).a h4)),_,zZ,p,C,d,_,zZ,p6,P'.cl,P'.no,by show 4<1000;decide,?_];rw[show((ds.map V.ref).length)=Y.length by rw[cu,l5]];have lo:Stays pC H6 (cq H6 p (.ins C d (dU tQ (nv Y.length) [(sA,.ref m),(sL,.ref g),(sM,.ref t),(sV,.ref u)]))):=Stays.offI p6;refine q gs _ (w6 k6 np) (T6.offI p6) G #[d,g,t,u,gr,?_,lo.a ar,lo.tups au,#[z,lo.a ab,la,ta.lts lo],O,lo.a ag,ae,tb.lts lo];rw[cw];exact dw (λl=>some (HO.ins C d l)) (by kernel_rfl)
def LS{D CR T:Ad}(F:Fun K tS "Row.__init__" y9 f fd)(P0:OwnC K CR [sC,vC])(qH:z7 P w K mg base "LevelParts" D 15 [sW,sA,sD] (hA D))(jO:dj P w K mg base uW 18 [sA] (eG T (#[49,40,49,93]:Pos)))(jH:dj P w K mg base uJ 1 [sC] dZ)(jA:mg "len"=none):FnOk P w K mg base da 20 f fd [sW,sA] (gi D CR):=by
 refine F.ok N3 (λaq A af s H J Q E O h=>?_)
 obtain⟨H0,p,g,m,U,n,rfl,g0,np,hp,M,hT,q⟩:=h;have hu:=O.units;have ar:=lY O;obtain⟨rs,r0,hm,au,ag,ah,ai,_⟩:=M.at (l:=0) M.some1;have n5:=M.n5;refine#[_,(cR (sw (pv 0) (dv jH O.m zZ (cL (eK fS zZ jA fG (cL (dB eM (pv 1) df (λ_ _=>rfl)) cH)) cH)) zZ) (cX (sw (pv 0) (ie (CompSc.to (N:=[sW,sA]) (osc:=cN y9) (vs:=[sD]) {}) zZ zZ (gF (dv jO O.m zZ (cL (pv 1) cH))) (λ_ _ _ _=>iE) (λ_ _ _ _=>(E5 qH O.m zZ (dr (cD (pv 2) (cD (pv 0) dt zZ) zZ))))) zZ))),?_];refine#[_,zZ,m,_,_,_,zZ,zZ,P2 (g0 _ _ hm),ag,r0,_,zZ,.inr (P2 (g0 _ _ ah)),?_]
 try dsimp only
 rw[cu,ai];refine#[n,zZ,(),λr H1 g1 er=>?_];have p1:=g1 _ _ hp;have aj:p≠r:=nE p1 er;refine#[_,zZ,p,CR,g,_,zZ,p1,P0.cl,P0.no,by show 0<1000;decide,?_];have g2:Same H0 (cq H1 p (.ins CR g (dU sC (.ref r) []))):=i6 (g0.trans g1) np;have p2:cq H1 p (.ins CR g (dU sC (.ref r) [])) p=some (.ins CR g [(sC,.ref r)]):=cw;have Y:cq H1 p (.ins CR g (dU sC (.ref r) [])) r=some (.tup ((List.range n).map nv)):=by rw[cz aj.symm];exact er
 generalize cq H1 p (.ins CR g (dU sC (.ref r) []))=H2 at g2 p2 Y|-;clear g1 er p1 g0 hp;refine#[_,zZ,m,U,n,zZ,M.same g2,hT.same g2,λl as told a ys H3 k3 T3 nl el ff od sub ak LL nw ap av=>?_];have aa:=g2.keeps.trans k3;have la:=LL.len;refine#[l,zZ,#[_,P1 el],i0 (xs:=as.map .ref) (λi J d=>Keeps H3 d/\Tabs d/\∃(k:As) (t:List Lv),J=k.map V.ref/\t.length=i/\t.map (·.c)=told.take i/\(∀L∈t,LvOk U a L)/\StepsAt D d k m U t) (by rw[cu];exact small ()) #[Keeps.refl _,T3,[],[],zZ,zZ,zZ,(λL h=>nomatch h),zZ,λi q L e=>by simp at e] (λi J d _ pv=>?_) (λi v J d hv pv=>?_) (λJ d pv sg al=>?_)]
 .obtain⟨k4,_,k,t,rfl,I,_,_,S⟩:=pv;exact#[P1 (k4 _ _ (nz el)),by rw[cu,S.len,I];exact cQ _]
 .obtain⟨k4,T4,k,t,rfl,I,eL,y,S⟩:=pv;rw[cV]at hv;obtain⟨lv,ab,rfl⟩:=eW.mp hv;have li:=(cK.mp ab).1;obtain⟨c,ec⟩:∃c,told[i]?=some c:=#[_,cA ()];obtain⟨B,am,lp,wd⟩:=(LL.is i lv c ab ec).lvw (sub c (c8 ec));have an:=aa.trans k4;refine#[hO,lG #[_,zZ,_,zZ,λx C nx ao aw=>?_]];have gx:Same d (cq (cq d C (.own x)) x (.ins D C [])):=λb o hb=>by
   rw[cz (dH hb nx),cz (dH hb ao)];exact hb
  refine#[d,x,C,m,lv,U,n,a,c,_,B,zZ,gx,nx,cw,M.keeps an,ff,LvH.keeps am k4,lp,T4,λgs H5 k5 T5 G St=>#[zZ,k4.trans k5,T5,k++[x],t++[#[c,gA a (c.headD []),B,gs]],by rw[eV];rfl,by rw[eh,I];rfl,?_,λL hL=>?_,#[by rw[eh,eh,S.len];rfl,λj q' L e1 u=>?_]]]
  .rw[eV,eL,lP,ec];rfl
  .rcases dh.mp hL with z|z
   .exact y L z
   .rw[cY.mp z];exact#[lp,wd,G]
  .refine vp (P:=λj q=>∀L,(t++[#[c,gA a (c.headD []),B,gs]])[j]?=some L->StepAt D H5 q m U L) (λj q e L u=>?_) (λL u=>?_) j q' e1 L u
   .have lj:=(cK.mp e).1;rw[fu (by rw[<-S.len];exact lj)]at u;exact(S.is j q L e u).keeps k5
   .rw[S.len,fV (cQ _),oN]at u;cases u;exact St
 .obtain⟨k4,T4,k,t,rfl,I,eL,y,S⟩:=pv;rw[cu]at I eL;rw[la,ik]at eL;have ks:=cM al (.lst (k.map V.ref));have ae:=(k3.trans k4).trans ks.keeps;have p5:=ae _ _ (nz p2);refine#[_,zZ,p,CR,g,_,zZ,p5,P0.cl,P0.no,by show 1<1000;decide,?_];have lo:Stays pC (cq d sg (.lst (k.map V.ref))) (cq (cq d sg (.lst (k.map V.ref))) p (.ins CR g (dU vC (.ref sg) [(sC,.ref r)]))):=Stays.offI p5;refine q a t _ (w6 ((aa.trans k4).trans ks.keeps) np) ((T4.same ks).offI p5) #[ff,by rw[eL];exact od,by rw[I,la];exact ak,y] #[g,r,sg,k,?_,lo.a (ae _ _ (nz Y)),lo.a cw,S.len,λi q' L e1 u=>((S.is i q' L e1 u).keeps ks.keeps).off p5 (by show ¬1=5;decide)];rw[cw];exact dw (λl=>some (HO.ins CR g l)) (by kernel_rfl)
def vM(k:Nat)(L:Lv):List (Bool×Nat×Nat):=(if 1<L.gs.length then[(true,k,L.gs.length)]else[])++[(false,k,L.us.length)]
def oC(a:List Lv):Nat->List (Bool×Nat×Nat)
 |0=>[]
 |i+1=>oC a i++(match a[i]? with|some L=>vM i L|none=>[])
def wW(a:List Lv):List (Bool×Nat×Nat):=oC a a.length
def JO(k:Nat)(L:Lv):(vM k L).length<=2:=by
 unfold vM;by_cases h:1<L.gs.length
 .rw[wB h];exact cQ 2
 .rw[wA h];exact pO 1
theorem Cc(a:List Lv):∀i,(oC a i).length<=2 * i
 |0=>cQ _
 | i+1=>by
  have z:=Cc a i;unfold oC;rw[eh];cases e:a[i]? with
  |none=>
   simp only[List.length_nil];lia
  |some L=>
   have y:=JO i L;simp only;lia
def HN{a:List Lv}{i:Nat}{L:Lv}(e:a[i]?=some L):oC a (i+1)=oC a i++vM i L:=by
 show oC a i++_=_;rw[e]
def CV:Bool->Str
 |true=>sX
 |false=>"bring"
structure PartsAt(H:Hp)(as:As)(ps:List (Bool×Nat×Nat)):Prop where
 len:as.length=ps.length
 is:∀(i:Nat) (a:Ad) (p:Bool×Nat×Nat),as[i]?=some a->ps[i]?=some p->H a=some (.tup [.str (CV p.1),nv p.2.1,nv p.2.2])
def PartsAt.st{f:HO->Bool}{H b:Hp}{c:As}{d:List (Bool×Nat×Nat)}(h:PartsAt H c d)(g:Stays f H b)(e:∀xs,f (.tup xs)=false:=by intro;rfl):PartsAt b c d:=#[h.len,λi a p j k=>g _ _ (e _) (h.is i a p j k)]
def PartsAt.snoc{H:Hp}{j:As}{g:List (Bool×Nat×Nat)}{a:Ad}{p:Bool×Nat×Nat}(h:PartsAt H j g)(e:H a=some (.tup [.str (CV p.1),nv p.2.1,nv p.2.2])):PartsAt H (j++[a]) (g++[p]):=by
 refine#[by rw[eh,eh,h.len];rfl,λi d b f c=>?_];refine vp (P:=λi d=>∀b,(g++[p])[i]?=some b->H d=some (.tup [.str (CV b.1),nv b.2.1,nv b.2.2])) (λi d f b c=>?_) (λb c=>?_) i d f b c
 .rw[fu (by rw[<-h.len];exact(cK.mp f).1)]at c;exact h.is i d b f c
 .rw[h.len,fV (cQ _),oN]at c;cases c;exact e
inductive ny(C:Ad)(b:List V)(H:Hp)(Q:VK)(a:XK):Prop|mk:∀(q m:Ad) (c:LN) (L:Lv),b=[.ref q]->StepAt C H q m c L->Q (.bl (decide (1<L.gs.length))) H->ny C b H Q a
def Ob{C:Ad}(F:Fun K "is_turning" "LevelParts.is_turning" Dz f fd)(P':OwnC K C [sA,sL,sM,sV,tQ])(b:mg "len"=none):FnOk P w K mg base da 1 f fd [sW] (ny C):=by
 refine F.ok Jf (λc A a s H n Q E o h=>?_)
 obtain⟨q,m,p,L,rfl,⟨d,g,t,u,e,i,j,l,_⟩,k⟩:=h;refine#[_,(cX (dR (l8 yM (eK fS zZ b fG (cL (vP (pv 0) zZ) cH)) df (eY _)))),?_];refine#[_,zZ,q,C,d,_,_,zZ,i,P'.cl,P'.no,HU,g,_,zZ,.inl (P1 j),_,_,zZ,zZ,?_];show Q (.bl (decide ((1:Int)<(((e.map V.ref).length:Nat):Int)))) H;rw[cu,l.len,show decide ((1:Int)<((L.gs.length:Nat):Int))=decide (1<L.gs.length)from decide_eq_decide.mpr ()];exact k
inductive iN(d CR:Ad)(e:List V)(H:Hp)(Q:VK)(b:XK):Prop|mk:∀(p m:Ad) (g:LN) (n:Nat) (c:List Lv),e=[.ref p]->HB d CR H p m g n c->c.length<=32->(∀l f a,Same H a->H l=none->a l=some (.lst (f.map .ref))->PartsAt a f (wW c)->Q (.ref l) a)->iN d CR e H Q b
def LF{G CR:Ad}(F:Fun K "parts" "Row.parts" DZ f fd)(P':OwnC K G [sA,sL,sM,sV,tQ])(P0:OwnC K CR [sC,vC])(jM:zI P w K mg base G "is_turning" 1 [sW] (ny G))(jY:mg "enumerate"=none)(jA:mg "len"=none):FnOk P w K mg base da 3 f fd [sW] (iN G CR):=by
 refine F.ok qC (λab A aa s H vs Q E hr h=>?_)
 obtain⟨p,m,ts,n,O,rfl,⟨dx,r,st,qs,h1,h2,h3,S⟩,few,q⟩:=h;have hu:=hr.units;refine#[_,(cR (dE (i:=1) qC.nd zZ Z' (f7 cH)) (cR (iG i4 zZ (Hd zZ jY (cL (vP (pv 0) zZ) cH)) (wH zZ (nX (gB (i:=2) qC.nd zZ Z') (nX (gB (i:=3) qC.nd zZ Z') xu))) (cR (BU (iq (pr (FK (pv 3) P'.cl jM hr.m)) (cX (lg (mI mG oz n' nY (pv 1) (cL (nS (dr (cD Ca (cD (pv 2) (cD (eK fS zZ jA fG (cL (vP (pv 3) zZ) cH)) dt zZ) zZ) zZ))) cH)))) iA)) (cX (lg (mI mG oz n' nY (pv 1) (cL (nS (dr (cD Ca (cD (pv 2) (cD (vP (pv 3) zZ) dt zZ) zZ) zZ))) cH)))))) (cX (dR (pv 1))))),?_];refine#[by show 0<=sizeLine;decide,λl o=>?_];have k0:=cM o (.lst []);have lq:=S.len
 let Pv:Nat->L2.St->Hp->Prop:=λi T d=>Same H d/\∃(x:As) (o2 o3:Option V),d l=some (.lst (x.map .ref))/\PartsAt d x (oC O i)/\T=[some (.ref p),some (.ref l),o2,o3]
 refine#[_,zZ,p,CR,dx,_,_,zZ,k0 _ _ h1,P0.cl,P0.no,Kq,st,_,zZ,P1 (k0 _ _ h3),IB (xs:=qs.map .ref) Pv #[k0,[],_,_,cw,#[zZ,λi a p e=>by simp at e],zZ] (λi T d _ p=>P1 (p.1 _ _ h3)) (λi U v T Y hv nT pv=>?_) (λT Y pv=>?_)]
 .obtain⟨g1,x,o2,o3,ef,j,rfl⟩:=pv;rw[cV]at hv;obtain⟨b,eb,rfl⟩:=eW.mp hv;have li:=(cK.mp eb).1;obtain⟨L,eL⟩:∃L,O[i]?=some L:=#[_,cA ()];have I:=cM nT (.tup [.int (i:Nat),.ref b]);have eT:cq Y U (.tup [.int (i:Nat),.ref b]) U=some (.tup [.int (i:Nat),.ref b]):=cw;generalize cq Y U (.tup [.int (i:Nat),.ref b])=H2 at I eT|-;have g2:=g1.trans I;have SA:=(S.is i b L eb eL).keeps g2.keeps;obtain⟨y,g,t,u,gr,s1,s2,s3,s4⟩:=id SA;refine#[U,_,zZ,P2 eT,zZ,_,_,zZ,_,_,zZ,zZ,?_];have J:=I _ _ ef;have lz:=Cc O i;have la:=j.len;have ae:∀{d:Hp},Same H2 d->d l=some (.lst (x.map .ref)):=λg=>g _ _ J;refine#[λM d=>Same H d/\∃k,d l=some (.lst (k.map .ref))/\PartsAt d k (oC O i++(if 1<L.gs.length then[(true,i,L.gs.length)]else[]))/\M=[some (.ref p),some (.ref l),some (nv i),some (.ref b)],#[_,zZ,b,y,_,zZ,s1,(by kernel_rfl),b,m,ts,L,zZ,SA,_,zZ,jk (λc=>?_) (λc=>?_)],λM d z=>?_]
  .have c1:1<L.gs.length:=gK c;refine#[_,zZ,.inl #[zZ,_,P1 J],_,zZ,_,zZ,b,G,y,_,_,zZ,s1,P'.cl,P'.no,HU,g,_,zZ,.inl (P1 s2),by show 3<=sizeLine;decide,λB D=>?_];rw[show(gr.map V.ref).length=L.gs.length by rw[cu,s3.len]];have C:=cM D (.tup [.str sX,nv i,nv L.gs.length]);refine#[l,_,_,zZ,zZ,C _ _ J,by rw[cu,dA];lia,?_];have lo:rm (cq H2 B (.tup [.str sX,nv i,nv L.gs.length])) (cq (cq H2 B (.tup [.str sX,nv i,nv L.gs.length])) l (.lst (x.map V.ref++[.ref B]))):=Stays.offL (C _ _ J);rw[wB c1];exact#[i6 (g2.trans C) o,x++[B],by rw[cw,eV];rfl,((j.st (zJ (I.trans C))).st lo).snoc (lo.a cw),zZ]
  .have c1: ¬1<L.gs.length:=of_decide_eq_false (Bool.eq_false_iff.mpr c);rw[wA c1,gS];exact#[g2,x,J,j.st (zJ I),zZ]
  .obtain⟨g3,k,f3,N,rfl⟩:=z;obtain⟨y,g,t,u,gr,s1,s2,s3,s4⟩:=(S.is i b L eb eL).keeps g3.keeps;have af:k.length<=2 * i+2:=by
    rw[N.len,eh];have:(if 1<L.gs.length then[(true,i,L.gs.length)]else[]).length<=2:=by
     by_cases h:1<L.gs.length
     .rw[wB h];exact pO 1
     .rw[wA h];exact g7 2
    lia
   refine#[_,zZ,.inl #[zZ,_,P1 f3],_,zZ,_,zZ,b,G,y,_,_,zZ,s1,P'.cl,P'.no,xR,by show 3<=sizeLine;decide,λB D=>?_];have C:=cM D (.tup [.str "bring",nv i,nv L.us.length]);refine#[l,_,_,zZ,zZ,C _ _ f3,by rw[cu,dA];lia,?_];have lo:rm (cq d B (.tup [.str "bring",nv i,nv L.us.length])) (cq (cq d B (.tup [.str "bring",nv i,nv L.us.length])) l (.lst (k.map V.ref++[.ref B]))):=Stays.offL (C _ _ f3);refine#[i6 (g3.trans C) o,k++[B],_,_,by rw[cw,eV];rfl,?_,zZ];rw[HN eL];unfold vM;rw[<-f'];exact((N.st (zJ C)).st lo).snoc (lo.a cw)
 .obtain⟨g1,x,o2,o3,ef,j,rfl⟩:=pv;rw[cu,lq]at j;exact#[_,zZ,q l x Y g1 o ef j]
def fQ(a:LN)(x:cn)(l:Nat):cn:=dz x (a.getD l [])
def Mach.steps{H:Hp}{m:Ad}{ts:LN}{n:Nat}(M:Mach H m ts n):∀x∈eC n n,∀l,l<ts.length->fQ ts x l∈eC n n:=λx a l b=>by
 obtain⟨c,d⟩:=cE.mp a;obtain⟨_,_,_,_,_,_,e,f⟩:=M.at b;refine cE.mpr #[by unfold fQ dz;rw[List.length_map,c],λr g=>?_];obtain⟨y,h,rfl⟩:=cT.mp g;exact eF f (by rw[e];exact d y h)
abbrev mw:Str:=tW
inductive eU(C:Ad)(g:List V)(H:Hp)(Q:VK)(E:XK):Prop|mk:∀(m:Ad) (f:LN) (n most:Nat),g=[.ref m,nv most]->Mach H m f n->most<=400->Tabs H->((∀l h e d,Keeps H d->Tabs d->L2.noT H l=none->(∀(a b c:Ad),a∈h->d a=some (.tup [.ref b,.ref c])->L2.noT H c=none)->PicsAt d l h e->Told (fQ f) f.length (List.range n) e->e.length<=most->Q (.ref l) d))->((∀(e:TW) d i,Keeps H d->Tabs d->d i=some (.xd [(sK,nv most)])->(e.map (·.1)).Nodup->(∀p∈e,(∀l∈p.2,l<f.length)/\cJ (fQ f) (List.range n) p.2=p.1)->most<e.length->E (.ref C) (some i) d))->eU C g H Q E
section
variable{P:Pg}{w:World}{K:P3}{mg:SV}{base:Heap}{f C:Ad}{u:Fd}
def Ij{v c m f:Ad}{N:Obj}{u:LN}{n:Nat}{i:Hp}{z B:Vl}{a:Arguments}{d:Expr}{b:Scope}{Y a1 a2 a4:Expr}{kw:List Keyword}{C:List Expr}{s0:Stmt}{rest:List Stmt}{lp cp rp:Pos}(e:fg nG=s0:: .Assign C (.Call Y [a1,a2,.Lambda a d b lp,a4] kw cp) rp::rest)(jC:dj P w K mg base tO 1 [tR,sQ] cZ) (M:Mach i m u n) (h1:i v=some (gD v (eZ mw a d b sA c z (.ref f) B))) (O:i c=some (dY c m N)) (h3:i f=some (iM f mw)):
  FnOk P w K mg base da 5 v (eZ mw a d b sA c z (.ref f) B) [sX,sN] (dJ (Same i) (eC n n) u.length (fQ u))/\Binds K (eZ mw a d b sA c z (.ref f) B) [sX,sN] []:=by
 cases e;refine#[yO (k:=4) (m:=m) (oc:=N) #[zZ,zZ,zZ,by decide+kernel,by decide+kernel,zZ,by decide+kernel] (λT H Q E h=>?_) (λT H Q E h=>?_) (λA D s H T Q E hr h=>?_),.all λus G=>match us,G with| [_,_],_=>rfl]
 .obtain⟨t,x,l,rfl,_⟩:=h;rfl
 .obtain⟨t,x,l,rfl,g,_⟩:=h;exact#[g _ _ h1,g _ _ O,g _ _ h3]
 .obtain⟨t,x,l,rfl,g,ht,hx,G,q⟩:=h;refine#[_,(dv jC hr.m zZ (dr (cD (pv 0) (cD (dB eM (pv 2) (pv 1) (λ_ _=>rfl)) dt zZ) zZ))),?_];obtain⟨x1,x2⟩:=cE.mp hx;have I:=g _ _ O;have M1:=(M.same g).drop I;have n5:=M.n5;have J:(L2.drop H c) t=some (.tup (x.map nv)):=by rw[d7 (nE ht I)];exact ht
  obtain⟨rs,r,b1,b2,b3,b4,b5,b6⟩:=M1.at G;refine#[_,zZ,_,zZ,_,zZ,m,_,_,_,zZ,zZ,P2 b1,b3,t,r,x,u.getD l [],zZ,J,b4,λy j=>?_,(),λp H3 g3 U free=>q p _ (λy o L=>?_) ?_]
  .rw[b5];exact x2 y j
  .by_cases j:y=c
   .subst j;rw[I]at L;cases L;exact cw
   .rw[cz j];exact g3 _ _ (by rw[d7 j];exact L)
  .rw[cz (dH U free)];exact U
def Kt{T p m c:Ad}{u:Hp}{B:LN}{n most:Nat}{σ:L2.St}{R:V->Hp->Prop}{R':XK}{Y:Vl}{f:Arguments}{i:Expr}{g:Scope}{fx a1 a2 a4:Expr}{kw:List Keyword}{ah:List Expr}{s0:Stmt}{ai:List Stmt}{lp cp rp:Pos}(e:fg nG=s0:: .Assign ah (.Call fx [a1,a2,.Lambda f i g lp,a4] kw cp) rp::ai)(jC:dj P w K mg base tO 1 [tR,sQ] cZ) (M0:Mach u m B n) (hp:u p=some (.tup ((List.range n).map nv))) (N:most<=400) (hq:(mw,(#[221,41,221,91]:Pos),T)∈dM) (hT:Tabs u) (aa:σ[0]?=some (some (.ref m))) (M:σ[1]?=some (some (nv most)))(rest:∀D E as J,Keeps u J->Tabs J->WordsAt J D E as->(∀b∈D::as,L2.noT u b=none)->Told (fQ B) B.length (List.range n) E->E.length<=most->R (.ref D) J)(O:∀(E:TW) J dx,Keeps u J->Tabs J->J dx=some (.xd [(sK,nv most)])->(E.map (·.1)).Nodup->(∀p∈E,(∀l∈p.2,l<B.length)/\cJ (fQ B) (List.range n) p.2=p.1)->most<E.length->R' (.ref C) (some dx) J):
  jd (r9 T mw f i g sA c Y (#[221,41,221,91]:Pos)) (jd (dG 1) jh) σ u λxs h=>∃m1,σ[0]?=some (some (.ref m1))/\∀k,h c=none->dN P w K mg base C (.ref p:: .int (B.length:Int)::xs++[]) (cq h c (dY c m1 k)) (λr h=>h c=some (dY c m1 k)/\R r (L2.drop h c)) (λv d h=>h c=some (dY c m1 k)/\R' v d (L2.drop h c)):=by
 have n5:=M0.n5;have go:∀(x t:Ad) (L:Vl) (I:Hp) (ab:AV),u T=some (.tbl ab)->KeepsBut T u I->I T=some (.tbl (jm (#[221,41,221,91]:Pos) t))->I t=some (iM t mw)->I x=some (gD x (eZ mw f i g sA c Y (.ref t) L))->
   ∀k,I c=none->(FnOk P w K mg base da 5 x (eZ mw f i g sA c Y (.ref t) L) [sX,sN] (dJ (Same (cq I c (dY c m k))) (eC n n) B.length (fQ B)))->Binds K (eZ mw f i g sA c Y (.ref t) L) [sX,sN] []->
   dN P w K mg base C [.ref p,nv B.length,.ref x,nv most] (cq I c (dY c m k)) (λr h=>h c=some (dY c m k)/\R r (L2.drop h c)) (λv d h=>h c=some (dY c m k)/\R' v d (L2.drop h c)):=λx t L I ab ae kb t1 t2 t3 k G hF hB=>by
  have A:=kb.keeps ae;have s:=cM G (dY c m k);have kp:∀{h:Hp},Same (cq I c (dY c m k)) h->Keeps u (L2.drop h c):=λq b o Q=>by
   have z:=A b o Q;rw[d7 (dH z G)];exact q _ _ (s _ _ z)
  have tb:∀{h:Hp},Same (cq I c (dY c m k)) h->Tabs (L2.drop h c):=λq=>hT.but hq ae (λb o nb Q=>by
   have z:=kb b o nb Q;rw[d7 (dH z G)];exact q _ _ (s _ _ z))<|.inr #[t,by
   rw[d7 (dH t1 G)];exact q _ _ (s _ _ t1),by
   rw[d7 (dH t2 G)];exact q _ _ (s _ _ t2)]
  refine#[p,x,_,_,List.range n,B.length,eC n n,fQ B,most,zZ,s _ _ (A _ _ (nU hp)),s _ _ t3,vx n,M0.steps,zc n5,?_,N,hF,hB,λD E as h q W nw TT le=>#[q _ _ cw,rest D E as _ (kp q) (tb q) #[W.len,?_,λj a r e1 e2=>?_] (λb Q=>?_) TT le],λE h dx q _ af kn run lt=>#[q _ _ cw,O E _ dx (kp q) (tb q) (by rw[d7 (nE af (q _ _ cw))];exact af) kn run lt]]
  .have:=M0.few;lia
  .rw[d7 (nE W.dict (q _ _ cw))];exact W.dict
  .have z:=W.list j a r e1 e2;rw[d7 (nE z (q _ _ cw))];exact z
  .have z:=nw b Q;cases y:L2.noT u b with
   |none=>rfl
   |some o=>
    have z2:=s _ _ (A _ _ y);rw[z]at z2;cases z2
 rcases hT _ hq with hT|⟨t,hT,H⟩
 .refine .inl #[hT,λx t L U H ne=>#[_,M,m,aa,λk G=>?_]];obtain⟨A,aj,ag⟩:=yS (#[221,41,221,91]:Pos) mw hT U H ne (gD x (eZ mw f i g sA c Y (.ref t) L));have s:=cM G (dY c m k);obtain⟨F1,F2⟩:=Ij e jC ((M0.keeps (A.keeps hT)).same s) (s _ _ cw) cw (s _ _ ag);exact go x t L _ _ hT A aj ag cw k G F1 F2
 .refine .inr #[t,hT,H,λx L U=>#[_,M,m,aa,λk G=>?_]];have A:∀lo,Same u (cq u x lo):=λlo=>cM U lo;have s:=cM G (dY c m k);obtain⟨F1,F2⟩:=Ij e jC ((M0.same (A _)).same s) (s _ _ cw) cw (s _ _ (A _ _ _ H));exact go x t L _ _ hT (λb o _ Q=>A _ _ _ Q) (A _ _ _ hT) (A _ _ _ H) cw k G F1 F2
def Nm{aa:Vl}{cd T:Ad}(F:DefAt K sY nG f u aa (.ref cd))(hC:PySem.W.CodeHd base cd T)(bm:m9 mg base)(hq:(mw,(#[221,41,221,91]:Pos),T)∈dM)(jH:dj P w K mg base uJ 1 [sC] dZ)(jC:dj P w K mg base tO 1 [tR,sQ] cZ)(jS:CalleeDX P w K mg base tE 8 [uR,uO,"step",sK] (dN P w K mg base C) []) (jA:mg "len"=none) (qD:mg "list"=none):FnOk P w K mg base (CX1 P w) 10 f u [sA,sK] (eU C):=by
 refine F.fnOkX qT (λvs H Q E h=>?_) (λA ab s H vs Q E h hr=>?_)
 .obtain⟨m,ts,n,most,rfl,_⟩:=h;rfl
 obtain⟨m,ts,n,most,rfl,M,e,hT,q,qE⟩:=h;refine#[_,?_,(cR (dE (i:=2) qT.nd zZ Z' (dv jH hr.m zZ (cL (eK fS zZ jA fG (cL (dB eM (pv 0) df (λ_ _=>rfl)) cH)) cH))) (cR (dE (i:=3) qT.nd zZ Z' (OK jS hr.m sd zZ (j:=0) zZ zZ zZ zZ (dr (cD (pv 2) (cD (eK fS zZ jA fG (cL (pv 0) cH)) (cD (Bd (qual:=tW) zZ hC bm (λ_ _ _ _ _=>rfl) zZ zZ) (cD (pv 1) dt zZ) zZ) zZ) zZ)))) (cX (dR (jy (Gv zZ) zZ qD boot_list (cL (Ht PySem.F.plainAttrs_dict PySem.F.slot_dict_items PySem.F.type_dict_items E3 (pv 3)) cH))))))];have t1:=M.some1;have n5:=M.n5;obtain⟨_,r0,b1,b2,b3,b4,b5,b6⟩:=M.at (l:=0) ();refine#[_,zZ,m,_,_,_,zZ,zZ,P2 b1,b3,r0,_,zZ,.inr (P2 b4),?_]
 try dsimp only
 rw[cu,b5];refine#[n,zZ,(),λst H0 g e0=>?_];have M0:=M.same g;obtain⟨rs,hm,ae,_⟩:=M0.refs;refine#[_,zZ,_,zZ,m,_,zZ,.inr (P2 hm),?_]
 try dsimp only
 rw[cu,ae];refine Kt (R:=λr t=>iw 3 r _ t _) zZ jC M0 e0 e hq (hT.same g) zZ zZ (λD B as N O T1 W nw TT le=>?_) (λB N dx O T1 af kn run lt=>qE B N dx (g.keeps.trans O) T1 af kn run lt);refine#[_,zZ,.inr (.inr (.inl #[zZ,.inr #[_,W.dict]])),zZ,D,_,zZ,W.dict,λv hv=>?_];have U:=cM hv (tA v D);refine#[v,D,_,zZ,cw,U _ _ W.dict,λl ps t d=>?_];have k3:Same (cq N v (tA v D)) t:=λb o Y=>by
  rw[d.rest b (dH Y d.new) λz=>by rw[d.news b z]at Y;cases Y];exact Y
 have kk:Same N t:=U.trans k3;have nT:∀{b:Ad},L2.noT H0 b=none->L2.noT H b=none:=λ{b} z=>by
  cases y:L2.noT H b with
  |none=>rfl
  |some o=>
   have G:=pI (g.keeps _ _ y) (qw y).2;rw[z]at G;cases G
 refine q l ps B t ((g.keeps.trans O).trans kk.keeps) (T1.same kk) ?_ (λa b c ha ag=>?_) #[d.lst,by rw[d.len,vG W.len],λj a p e1 I=>?_] TT le
 .cases y:L2.noT H l with
  |none=>rfl
  |some o=>
   have G:=U _ _ (O _ _ (pI (g.keeps _ _ y) (qw y).2));rw[d.new]at G;cases G
 .obtain⟨j,e1⟩:=lU ha;obtain⟨hj,_⟩:=cK.mp e1;have lj:j<B.length:=by rw[d.len,vG W.len]at hj;exact hj
  obtain⟨p,I⟩:∃p,B[j]?=some p:=#[_,cA lj];obtain⟨k,x,b',J,f2,f3⟩:=d.is j a e1;obtain⟨c',L⟩:∃c,as[j]?=some c:=#[_,cA (by rw[W.len];exact lj)];rw[Cy I L]at J;cases J;rw[ag]at f3;cases f3;exact nT (nw _ (eO _ (c8 L)))
 obtain⟨k,x,b,J,f2,f3⟩:=d.is j a e1;obtain⟨hj,_⟩:=cK.mp I;obtain⟨c,L⟩:∃c,as[j]?=some c:=#[_,cA (by rw[W.len];exact hj)];rw[Cy I L]at J;cases J;have hc:=U _ _ (W.list j c p L I);rw[iu]at f2;exact#[b,c,dH hc d.new,f3,k3 _ _ f2,k3 _ _ hc]
end
def mD(a:TW):List (List dq×V):=a.map λp=>(nk p.1,V.bl true)
theorem Bz:∀{a:TW} {x:cn},x∉a.map (·.1)->fH (mD a) (nk x)=none
 | [],_,_=>rfl
 |p::a,x,h=>by
  have b: ¬(nk p.1:List dq)=nk x:=λz=>h (cT.mpr #[p,dX ..,uc z]);exact(kq (p:=(nk p.1,V.bl true)) (r:=mD a) b).trans (Bz λz=>h (eO _ z))
theorem HL:∀{a:TW} {x:cn},x∈a.map (·.1)->fH (mD a) (nk x)=some (.bl true)
 | [],_,h=>nomatch h
 | p::a,x,h=>by
  by_cases e:p.1=x
  .rw[<-e];exact mF (p:=(nk p.1,V.bl true)) (r:=mD a) rfl
  .have b: ¬(nk p.1:List dq)=nk x:=λz=>e (uc z);exact(kq (p:=(nk p.1,V.bl true)) (r:=mD a) b).trans (HL ((dL.mp h).resolve_left λz=>e z.symm))
structure WAt(H0 H:Hp)(Dk wa:Ad)(ps:As)(kn ws:TW):Prop where
 g:Same H0 H
 nK:H0 Dk=none
 nW:H0 wa=none
 known:H Dk=some (.dT (mD kn))
 lst:H wa=some (.lst (ps.map .ref))
 len:ps.length=ws.length
 each:∀(j:Nat) (p:Ad) (r:cn×cn),ps[j]?=some p->ws[j]?=some r->∃t l,H p=some (.tup [.ref t,.ref l])/\H t=some (.tup (r.1.map nv))/\H l=some (.lst (r.2.map nv))/\l≠wa
def WAt.same{a H b:Hp}{c d:Ad}{e:As}{f i:TW}(h:WAt a H c d e f i)(g:Same H b):WAt a b c d e f i:=#[h.g.trans g,h.nK,h.nW,g _ _ h.known,g _ _ h.lst,h.len,λj p r k m=>let⟨t,l,n,o,q,s⟩:=h.each j p r k m;#[t,l,g _ _ n,g _ _ o,g _ _ q,s]]
def WAt.put{f H:Hp}{a g:Ad}{i:As}{c k:TW}{r:cn×cn}(h:WAt f H a g i c k):WAt f (cq H a (.dT (mD c++[(nk r.1,.bl true)]))) a g i (c++[r]) k:=by
 have off:∀{b:Ad} {u:HO},(∀d,u≠ .dT d)->H b=some u->(cq H a (.dT (mD c++[(nk r.1,.bl true)]))) b=some u:=λm l=>by
  rw[cz (i5 l h.known λe=>m _ e)];exact l
 refine#[i6 h.g h.nK,h.nK,h.nW,?_,off (λ_ e=>nomatch e) h.lst,h.len,λj p n o q=>?_]
 .rw[cw];unfold mD;rw[eV];rfl
 .obtain⟨s,t,v,w,x,y⟩:=h.each j p n o q;exact#[s,t,off (λ_ e=>nomatch e) v,off (λ_ e=>nomatch e) w,off (λ_ e=>nomatch e) x,y]
def WAt.app{m H:Hp}{k c q t l:Ad}{d:As}{n o:TW}{r:cn×cn}(h:WAt m H k c d n o)(w:H q=some (.tup [.ref t,.ref l]))(ht:H t=some (.tup (r.1.map nv)))(x:H l=some (.lst (r.2.map nv)))(s:l≠c):WAt m (cq H c (.lst (d.map .ref++[.ref q]))) k c (d++[q]) n (o++[r]):=by
 have y:k≠c:=(nE h.lst h.known).symm;have a:∀{b:Ad} {f:List V},H b=some (.tup f)->(cq H c (.lst (d.map .ref++[.ref q]))) b=some (.tup f):=λi=>by
  rw[cz (nE i h.lst)];exact i
 have offL:∀{b:Ad} {f:List V},b≠c->H b=some (.lst f)->(cq H c (.lst (d.map .ref++[.ref q]))) b=some (.lst f):=λA i=>by
  rw[cz A];exact i
 refine#[i6 h.g h.nW,h.nK,h.nW,by rw[cz y];exact h.known,?_,by simp[h.len],λj p B e g=>?_]
 .rw[cw,eV];rfl
 .by_cases u:j<d.length
  .rw[fu u]at e;rw[fu (by rw[<-h.len];exact u)]at g;obtain⟨C,D,E,G,I,v⟩:=h.each j p B e g;exact#[C,D,a E,a G,offL v I,v]
  .rw[fV ()]at e;rw[fV (by rw[<-h.len];lia)]at g;have z:j-d.length=0:=by
    have:=(cK.mp e).1;simp at this;lia
   rw[z]at e;rw[<-h.len,z]at g;cases e;cases g;exact#[t,l,a w,a ht,offL s x,s]
def Az{f:cn->Nat->List Nat}{L:Nat}{d:cn}{U:LN}(c:d∈U)(a:∀x∈U,∀l,l<L->f x l∈U)(W:TW)(i j:Nat)(q:Que f L d W i j)(k:i<=W.length)(r:j<=L):∃g,Told f L d (W++g):=by
 have inU:∀p∈W,p.1∈U:=λp b=>by
  obtain⟨m,n⟩:=q.run p b;rw[<-n];exact mX c a p.2 m
 have few:W.length<=U.length:=by
  rw[<-cu (f:=(·.1)) (as:=W)];exact jf q.keys λx h=>by
   obtain⟨p,b,rfl⟩:=cT.mp h;exact inU p b
 by_cases s:i=W.length
 .exact#[[],by rw[gS];exact q.told ()]
 .obtain⟨t,ht⟩:∃t,W[i]?=some t:=#[_,cA ()];by_cases o:j=L
  .subst o;exact Az c a W (i+1) 0 (q.next ht) () (g7 _)
  .by_cases c3:f t.1 j∈W.map (·.1)
   .exact Az c a W i (j+1) (q.old ht c3) k ()
   .have lt:W.length<U.length:=by
     have nd:(f t.1 j::W.map (·.1)).Nodup:=jw.mpr #[c3,q.keys];have z:=jf nd (U:=U) λx h=>by
      rcases dL.mp h with e|e
      .rw[e];exact a _ (inU t (c8 ht)) j ()
      .obtain⟨p,b,rfl⟩:=cT.mp e;exact inU p b
     rw[jz,cu]at z;lia
    obtain⟨g,T⟩:=Az c a _ i (j+1) (q.new ht () c3) (by rw[eh];lia) ();exact#[_::g,by rw[f']at T;exact T]
termination_by (U.length-W.length,W.length-i,L-j)
decreasing_by
 all_goals simp_wf
 .exact Prod.Lex.right _ (Prod.Lex.left _ _ ())
 .exact Prod.Lex.right _ (Prod.Lex.right _ ())
 .exact Prod.Lex.left _ _ ()
inductive mY(e:List V)(H:Hp)(Q:VK)(c:XK):Prop|mk:∀(m:Ad) (a:LN) (n most:Nat),e=[.ref m,nv most]->Mach H m a n->most<=400->(∀l f b d,Same H d->PicsAt d l f b->(b.map (·.1)).Nodup->(∀p∈b,(∀x∈p.2,x<a.length)/\cJ (fQ a) (List.range n) p.2=p.1)->(b.length<=most->Told (fQ a) a.length (List.range n) b)->Q (.ref l) d)->mY e H Q c
def KS(F:Fun K uM uM zH f fd)(l:mg "tuple"=none):FnOk P w K mg base da 1 f fd [uI,tM] cZ:=by
 refine F.ok J8 (λm A c s H z Q E B h=>?_)
 obtain⟨a,b,j,d,rfl,k,n,g,o,q⟩:=h;refine#[_,(cX (dR (jy ud zZ l oI (cL (ie (CompSc.to (N:=[uI,tM]) (osc:=cN zH) (vs:=["_law_room"]) {}) zZ zZ (xO (pv 0)) (λ_ _ _ _=>iE) (λ_ _ _ _=>(dB (IxR.k (K:=K) jo eM zZ) (pv 2) (pv 0) (λ_ _=>rfl)))) cH)))),?_];have e:(j.map nv).map (λv=>match v with|.int i=>nv (d.getD i.toNat 0)|v=>v)=(dz j d).map nv:=by
  unfold dz;rw[hK,hK];rfl
 refine#[_,zZ,a,zZ,#[_,P2 k],v0 (f:=λv=>match v with|.int i=>nv (d.getD i.toNat 0)|v=>v) (by rw[cu];exact small o) (P2 k) (λv Q r q=>?_) (λp u=>?_)]
 .obtain⟨x,y,rfl⟩:=cT.mp r;exact#[_,zZ,_,zZ,b,_,_,_,zZ,zZ,P2 n,x8 (g x y),q]
 .rw[e];exact#[p,_,zZ,.inl #[P1 cw,λt ht=>q t _ ((cM u _).trans (cM ht _)) cw]]
def Li(F:Fun K "_law_all" "_law_all" El f fd)(jJ:dj P w K mg base uM 1 [uI,tM] cZ)(jD:mg "tuple"=none)(jB:mg "range"=none)(jA:mg "len"=none):FnOk P w K mg base da 3 f fd [sF,"_law_most"] mY:=by
 refine F.ok kB (λaV A aI s H vs Q E hr h=>?_)
 obtain⟨m,g,n,most,rfl,M,aJ,q⟩:=h;have af:=lY hr;refine#[_,(cR (dE (i:=2) kB.nd zZ Z' (f7 (cL (nS (dr (cD (jy (FN zZ) zZ jD oI (cL (jy Co zZ jB boot_range (cL (eK fS zZ jA fG (cL (dB eM (pv 0) df (λ_ _=>rfl)) cH)) cH)) cH)) (cD (f7 cH) dt zZ) zZ))) cH))) (cR (dE (i:=3) kB.nd zZ Z' (Em af (dB eM (dB gW (pv 2) df (λ_ _=>rfl)) df (λ_ _=>rfl)) re)) (cR (dE (i:=4) kB.nd zZ Z' df) (cR (wN i4 (PW.pt (vJ (gn DO (pv 4) (eK fS zZ jA fG (cL (pv 2) cH)) (eY _)) (vH (gn yg (eK fS zZ jA fG (cL (pv 2) cH)) (pv 1) (eY _))))) (cR (AE (dB gW (pv 2) (pv 4) (λ_ _=>rfl)) (wH zZ (nX (gB (i:=5) kB.nd zZ Z') (nX (gB (i:=6) kB.nd zZ Z') xu)))) (cR (iG i4 zZ (lA zZ jB (cL (eK fS zZ jA fG (cL (pv 0) cH)) cH)) (gB (i:=7) kB.nd zZ Z') (cR (dE (i:=8) kB.nd zZ Z' (dv jJ hr.m zZ (dr (cD (pv 5) (cD (dB eM (pv 0) (pv 7) (λ_ _=>rfl)) dt zZ) zZ)))) (cX (iq (ux (Au af (pv 8) (pv 3))) (cR (qh af (pv 3) (pv 8) re zZ) (cX (lg (mI mG oz n' nY (pv 2) (cL (nS (dr (cD (pv 8) (cD (fE u4 (pv 6) (f7 (cL (pv 7) cH))) dt zZ) zZ))) cH))))) iA)))) (cX (dE (i:=4) kB.nd zZ Z' (fE ss (pv 4) df)))))) (cX (dR (pv 2))))))),?_];have L:=M.some1;have n5:=M.n5;have t4:=M.few;obtain⟨_,r0,b1,b2,b3,b4,b5,b6⟩:=M.at (l:=0) ();refine#[_,zZ,m,_,_,_,zZ,zZ,P2 b1,b3,r0,_,zZ,.inr (P2 b4),?_]
 try dsimp only
 rw[cu,b5];refine#[(n:Int),zZ,λp hp=>#[p,(n:Int),zZ,cw,(),(),λL aK=>?_]];have k2:=(cM hp (.rng 0 (n:Int))).trans (cM aK (.tup (ju (n:Int).toNat)));have an:cq (cq H p (.rng 0 (n:Int))) L (.tup (ju (n:Int).toNat)) L=some (.tup ((List.range n).map nv)):=cw;generalize cq (cq H p (.rng 0 (n:Int))) L (.tup (ju (n:Int).toNat))=H2 at k2 an|-;refine#[by show 0<=sizeLine;decide,λN aL=>?_];have k3:=cM aL (.lst []);have ao:cq H2 N (.lst []) N=some (.lst (([]:cn).map nv)):=cw;have ap:=k3 _ _ an;have g3:=k2.trans k3;generalize cq H2 N (.lst [])=H3 at k3 ao ap g3|-;refine#[by show 2<=sizeLine;decide,λO aM=>?_];have k4:=cM aM (.tup [.ref L,.ref N]);have aq:cq H3 O (.tup [.ref L,.ref N]) O=some (.tup [.ref L,.ref N]):=cw;have ar:=k4 _ _ ap;have ag:=k4 _ _ ao;have g4:=g3.trans k4;generalize cq H3 O (.tup [.ref L,.ref N])=H4 at k4 aq ar ag g4|-;refine#[by show 1<=sizeLine;decide,λo ah=>?_];have k5:=cM ah (.lst [.ref O]);have lw:N≠o:=dH ag ah;have nW:H o=none:=g4.free ah;have ai:cq H4 o (.lst [.ref O]) o=some (.lst ([O].map .ref)):=cw;have aj:=k5 _ _ aq;have ak:=k5 _ _ ar;have au:=k5 _ _ ag;have g5:=g4.trans k5;generalize cq H4 o (.lst [.ref O])=H5 at ai aj ak au g5|-;intro v T;have kD:=cM T (.dT []);refine#[_,zZ,o,_,_,_,zZ,zZ,P1 (kD _ _ ai),zZ,O,_,_,_,zZ,zZ,P2 (kD _ _ aj),zZ,?_];refine#[cw,L,nk (List.range n),zZ,by rw[iu];exact kD _ _ ak,?_];have g6:Same H (cq (cq H5 v (.dT [])) v (.dT [(nk (List.range n),.bl true)])):=by rw[Ee];exact g5.trans (cM T _)
 have k6:Same H5 (cq (cq H5 v (.dT [])) v (.dT [(nk (List.range n),.bl true)])):=by rw[Ee];exact cM T _
 have A0:WAt H (cq (cq H5 v (.dT [])) v (.dT [(nk (List.range n),.bl true)])) v o [O] [(List.range n,[])] [(List.range n,[])]:=#[g6,g5.free T,nW,cw,k6 _ _ ai,zZ,λj p r e1 e2=>by
  cases j with
  |zero=>
   cases e1;cases e2;exact#[L,N,k6 _ _ aj,k6 _ _ ak,k6 _ _ au,lw]
  |succ j=>simp at e1]
 generalize cq (cq H5 v (.dT [])) v (.dT [(nk (List.range n),.bl true)])=H6 at A0|-;have hU:=M.steps;have h0:=vx n;have inU:∀{d:TW} {i j:Nat},Que (fQ g) g.length (List.range n) d i j->∀r∈d,r.1∈eC n n:=λB r hr=>by
  obtain⟨r1,r2⟩:=B.run r hr;rw[<-r2];exact mX h0 hU r.2 r1
 have few:∀{d:TW} {i j:Nat},Que (fQ g) g.length (List.range n) d i j->d.length<=4000:=λ{d i j} B=>by
  rw[<-cu (f:=(·.1)) (as:=d)];refine dy (jf B.keys (U:=eC n n) λx hx=>?_) (zc n5);obtain⟨r,hr,rfl⟩:=cT.mp hx;exact inU B r hr
 have done:∀{d:TW} {i:Nat} {C:As} {D:Hp},Que (fQ g) g.length (List.range n) d i 0->WAt H D v o C d d->(d.length<=most->i=d.length)->Q (.ref o) D:=λ{d i C D} B W hi=>
  q o C d D W.g #[W.lst,W.len,λj a p e1 e2=>let⟨t,l,h1,h2,h3,h4⟩:=W.each j a p e1 e2;#[t,l,h4,h1,h2,h3]] B.keys B.run λle=>B.told (by have:=hi le;lia)
 let Wv:Nat->L2.St->Hp->Prop:=λk σ D=>∃(i:Nat) (d:TW) (C:As) (o5 o6 o7 o8:Option V),Que (fQ g) g.length (List.range n) d i 0/\WAt H D v o C d d/\k+i=4001/\i<=d.length/\σ=[some (.ref m),some (nv most),some (.ref o),some (.ref v),some (nv i),o5,o6,o7,o8]
 refine#[Wv,#[4001,0,_,_,none,none,none,none,Que.start,A0,zZ,g7 _,zZ],λk σ H6 P=>?_];obtain⟨i,d,C,o5,o6,o7,o8,B,W,hk,hi,rfl⟩:=P;have al:=W.len;refine#[_,zZ,_,zZ,o,_,zZ,.inl (P1 W.lst),_,_,zZ,zZ,_,zZ,jk (λc=>?_) (λc=>?_)]
 .have c1:i<d.length:=by
   have:=gK c;rw[cu,al]at this;lia
  refine#[_,zZ,o,_,zZ,.inl (P1 W.lst),_,zZ,_,_,zZ,zZ,_,zZ,jk (λc'=>?_) (λc'=>?_)]
  .refine#[λav D=>∃m',m'<k/\Wv m' av D,λav D h=>h,?_];obtain⟨r,G⟩:∃r,d[i]?=some r:=#[_,cA c1];obtain⟨pi,aw⟩:∃pi,C[i]?=some pi:=#[_,cA ()];obtain⟨y,l,hp,hy,hl,aN⟩:=W.each i pi r aw G;obtain⟨x1,x2⟩:=cE.mp (inU B r (c8 G));have aO:j8 (C.map V.ref) (i:Int)=some (.ref pi):=jq (by rw[cV,aw];rfl);refine#[_,zZ,_,zZ,o,_,_,_,zZ,zZ,P1 W.lst,aO,pi,_,zZ,P2 hp,zZ,_,_,zZ,_,_,zZ,zZ,?_];have aW:=B.short i r G;have ax:=few B;let Pj:Nat->L2.St->Hp->Prop:=λj σ D=>∃(d:TW) (C:As) (o7 o8:Option V),Que (fQ g) g.length (List.range n) d i j/\d[i]?=some r/\WAt H D v o C d d/\D y=some (.tup (r.1.map nv))/\D l=some (.lst (r.2.map nv))/\σ=[some (.ref m),some (nv most),some (.ref o),some (.ref v),some (nv i),some (.ref y),some (.ref l),o7,o8]
   obtain⟨rs,hm,aP,_⟩:=(M.same W.g).refs;refine#[_,zZ,m,_,zZ,.inr (P2 hm),(g.length:Int),by rw[cu,aP],(),(),oX Pj #[d,C,_,_,B,G,W,hy,hl,zZ] (λj σ H7 hj p=>?_) (λσ H7 p=>?_)]
   .obtain⟨d,C,o7,o8,B,G,W,hy,hl,rfl⟩:=p;have ay:j<g.length:=by simpa using hj
    have zj:V.int ((0:Int)+((j:Nat):Int))=nv j:=by show V.int (0+(j:Int))=V.int (j:Int);rw[ot]
    rw[zj];have li:=(cK.mp G).1;obtain⟨rs,rr,b1,b2,b3,b4,b5,b6⟩:=(M.same W.g).at ay;have ax:=few B;refine#[_,zZ,_,zZ,_,zZ,m,_,_,_,zZ,zZ,P2 b1,b3,y,rr,r.1,g.getD j [],zZ,hy,b4,λx hx=>by rw[b5];exact x2 x hx,(),λth H8 k8 I=>?_];have W8:=W.same k8;have az:=k8 _ _ hy;have aA:=k8 _ _ hl;have I:H8 th=some (.tup ((fQ g r.1 j).map nv)):=I;refine#[_,zZ,_,zZ,v,_,zZ,DGet.t W8.known (by rw[iu];exact I),_,zZ,?_];by_cases J:fQ g r.1 j∈d.map (·.1)
    .rw[HL J];exact fW #[d,C,_,_,B.old G J,G,W8,az,aA,zZ]
    .rw[Bz J];refine gJ #[_,zZ,_,zZ,v,_,zZ,DPut.t W8.known (by rw[iu];exact I) (by rw[show(mD d).length=d.length by unfold mD;rw[List.length_map],sizeLine_eq];lia),?_];rw[wL _ (Bz J)];have W9:=W8.put (r:=(fQ g r.1 j,r.2++[j]));have offD:∀{b:Ad} {u:HO},(∀aQ,u≠ .dT aQ)->H8 b=some u->(cq H8 v (.dT (mD d++[(nk (fQ g r.1 j),.bl true)]))) b=some u:=λnu hb=>by
      rw[cz (i5 hb W8.known λe=>nu _ e)];exact hb
     have aa:=offD (u:=HO.tup _) (λ_ e=>nomatch e) I;have aB:=offD (u:=HO.tup _) (λ_ e=>nomatch e) az;have am:=offD (u:=HO.lst _) (λ_ e=>nomatch e) aA;generalize cq H8 v (.dT (mD d++[(nk (fQ g r.1 j),.bl true)]))=H9 at W9 aa aB am|-;refine#[_,zZ,.inl #[zZ,_,P1 W9.lst],_,zZ,_,zZ,_,zZ,by show 1<=sizeLine;decide,λp1 aR=>?_];have ka:=cM aR (.lst [nv j]);refine#[l,p1,_,_,zZ,zZ,P1 (ka _ _ am),P1 cw,by rw[cu,dA];show r.2.length+1<=_;lia,λl2 aC=>?_];have kb:=ka.trans (cM aC (.lst (r.2.map nv++[nv j])));have aD:cq (cq H9 p1 (.lst [nv j])) l2 (.lst (r.2.map nv++[nv j])) l2=some (.lst ((r.2++[j]).map nv)):=by rw[cw,eV];rfl
     have aE:l2≠o:=(dH (ka _ _ W9.lst) aC).symm;generalize cq (cq H9 p1 (.lst [nv j])) l2 (.lst (r.2.map nv++[nv j]))=aF at kb aD|-;refine#[by show 2<=sizeLine;decide,λq2 aS=>?_];have kc:=cM aS (.tup [.ref th,.ref l2]);have aG:cq aF q2 (.tup [.ref th,.ref l2]) q2=some (.tup [.ref th,.ref l2]):=cw;have kd:=kb.trans kc;have ab:=kc _ _ aD;generalize cq aF q2 (.tup [.ref th,.ref l2])=aX at kc aG kd ab|-;have Y:=W9.same kd;have aT:=Y.len;refine#[o,_,_,zZ,zZ,Y.lst,by rw[cu,dA];lia,?_];have aU:=Y.app (r:=(fQ g r.1 j,r.2++[j])) aG (kd _ _ aa) ab aE;have ae:=kd _ _ aB;have aH:=kd _ _ am;refine#[d++[(fQ g r.1 j,r.2++[j])],C++[q2],_,_,B.new G ay J,by rw[fu li];exact G,aU,?_,?_,zZ]
     .rw[cz (nE ae Y.lst)];exact ae
     .rw[cz aN];exact aH
   .obtain⟨d,C,o7,o8,B,G,W,hy,hl,rfl⟩:=p;have ax:=few B;have li:=(cK.mp G).1;exact#[_,zZ,_,_,zZ,zZ,k-1,(),i+1,d,C,_,_,_,_,Que.next (by simpa using B) G,W,(),(),zZ]
  .refine#[_,zZ,done B W λle=>wC (dW ?_) c'];rw[cu,al];lia
 .have c1: ¬i<d.length:=λz=>c (by rw[cu,al];exact dW ());exact fW #[_,zZ,done B W λ_=>by lia]
def iI(t:cn):Nat->List Nat
 |0=>t
 |k+1=>dz (iI t k) t
section
variable{H:Hp}{m:Ad}{ts:LN}{n:Nat}{b c g d:LN}
def wM(w:cn){r:Nat}(a:r<n):(eX ts (List.range n) w).getD r 0=db ts r w:=by
 unfold eX;rw[eE,cV,lK a];rfl
def C2(M:Mach H m ts n){v w:cn}(a:∀l∈v,l<ts.length):dz (eX ts (List.range n) v) (eX ts (List.range n) w)=eX ts (List.range n) (v++w):=by
 unfold dz;show((List.range n).map _).map _=(List.range n).map _;rw[hK];refine i9 λr b=>?_;show(eX ts (List.range n) w).getD (db ts r v) 0=_;rw[wM w (lJ M v r (f8.mp b) a),ky]
theorem Il(M:Mach H m ts n){w:cn}(a:∀l∈w,l<ts.length):∀k,iI (eX ts (List.range n) w) k=eX ts (List.range n) (eQ w (k+1))
 |0=>by
  show _=eX ts _ (w++[]);rw[gS];rfl
 |k+1=>by
  show dz (iI _ k) _=_;rw[Il M a k,C2 M (sq a _)];refine i9 λr _=>?_;rw[ky,<-qa]
def G4(M:Mach H m ts n){w:cn}(b:∀l∈w,l<ts.length):dz (iI (eX ts (List.range n) w) n) (eX ts (List.range n) w)=iI (eX ts (List.range n) w) n↔ ∀r,r<n->db ts (db ts r (eQ w (n+1))) w=db ts r (eQ w (n+1)):=by
 rw[Il M b,C2 M (sq b _)];constructor
 .intro h r a;have z:=dw (λx=>x.getD r 0) h;rw[wM _ a,wM _ a,ky]at z;exact z
 .exact λh=>i9 λr a=>by rw[ky];exact h r (f8.mp a)
def GF(i:LvP ts b c g d)(W:Wds ts c d):d[0]?=some []:=by
 obtain⟨j,k,T,a⟩:=W;have f:c[0]?=some (c.headD []):=by
  cases c with
  |nil=>exact wC zZ (fR i.cls).1
  |cons x c=>rfl
 obtain⟨e,h⟩:∃e,d[0]?=some e:=#[_,cA (by rw[j];exact(cK.mp f).1)];rw[h,zY T.keys (a 0 _ e f h) (c8 T.head)]
def Km(h:AbM ts n none):∃b,FamOf ts n b/\zo ts b:=by
 obtain⟨b,told,f,g,sub,a⟩:=h;refine#[b,f,λc i=>?_];obtain⟨d,e,W,no⟩:=a c (FV g c i);exact#[d,e,GF e W,d6.mpr no]
def NK(M:Mach H m ts n){r:cn×cn}(h:AbM ts n (some r)):(∀l∈r.1,l<ts.length)/\r.2∈dF n/\2<=r.2.length/\hZ ts r.2 r.1/\∃s∈r.2,db ts s r.1≠s:=by
 obtain⟨b,told,A,od,B,i,c,d,k,l,U,W,f,⟨x,o,k',g,ws,p,a1,a2,a3,a4,a5,a6,Y⟩,er,_⟩:=h;obtain⟨v,fc⟩:=r;have Y:v=o++[l]++p:=Y;have er:fc=c.headD []:=er;subst er;subst Y;have hc:=B c (c8 U);have q:LvP ts b c (gA b (c.headD [])) d:=by
  obtain⟨l1,w1,T,a⟩:=W;exact#[hc,zZ,l1,λk x o U e2=>T.run _ (a k x o U e2)]
 have fU:=xt M A q;have f2:=(d8.mp (fR q.cls).2.2.1).2;obtain⟨k2,x2,ab,aa,t,b1,b2,hl,b4,b5,tb,ne⟩:=f.1;rw[a1]at b1;cases b1;rw[a2]at b2;cases b2;have ek:=(ig (cK.mp a3).1 (q.nd A)).mp (a3.trans b4.symm);subst ek;rw[a4]at b5;cases b5;have g1:=q.go k x o a1 a2;have g2:=q.go k' _ g a3 a4;have run:=a5.run _ a6;have N:∀z∈o++[l]++p,z<ts.length:=λz hz=>by
  rcases dh.mp hz with h|h
  .rcases dh.mp h with h|h
   .exact g1.1 z h
   .rw[cY.mp h];exact hl
  .exact run.1 z h
 have back:∀r∈c.headD [],db ts r (g++p)=r:=by
  have z:cJ (lB ts) (eX ts (c.headD []) g) p=c.headD []:=run.2;rw[Aq]at z;have z:(c.headD []).map (λr=>db ts r (g++p))=(c.headD []).map id:=by rw[tj];exact z
  exact List.map_inj_left.mp z
 have C:∀z∈g++p,z<ts.length:=λz hz=>(dh.mp hz).elim (g2.1 z) (run.1 z);have stay:∀{y:cn},y∈dF n->(∀r∈y,r∈c.headD [])->cJ (cC ts) y (g++p)=y:=λ{y} yU ys=>rk (jb M yU C) yU λr=>by
  rw[gR M yU C];exact#[λ⟨O,D,h1⟩=>by rw[<-h1,back O (ys O D)];exact D,λE=>#[r,E,back r (ys r E)]]
 have kp:hZ ts (c.headD []) (o++[l]++p):=#[N,by
  have z:=stay fU λ_ h=>h;rw[gb,g2.2]at z;rw[gb,gb,g1.2];exact z]
 refine#[N,fU,gK f2,kp,?_];apply ou;intro no;refine ne (l6 λj=>?_);have tl:=tb.1;by_cases hj:j<(gA b (c.headD [])).length
 .obtain⟨u,eu⟩:∃u,(gA b (c.headD []))[j]?=some u:=#[_,cA hj];obtain⟨j',ej⟩:∃j',t[j]?=some j':=#[_,cA ()];obtain⟨u',G,e⟩:=tb.2 j u j' eu ej;have tf:=oB M A (c.headD []);obtain⟨Q,_⟩:=q.inU M A;have I:∀{u:cn},u∈gA b (c.headD [])->∀r∈u,r∈c.headD []:=λw=>cP.mp (tf.mem _ w).2.2;have w:=c8 eu;have J:=c8 G;have z1:=stay (Q u' J) (I J);rw[gb,e]at z1;have L:cJ (cC ts) u (o++[l]++p)=u:=rk (jb M (Q u w) N) (Q u w) λr=>by
   have fx:∀s∈u,db ts s (o++[l]++p)=s:=λs hs=>ou λz=>no #[s,I w s hs,z];rw[gR M (Q u w) N];exact#[λ⟨O,D,h1⟩=>by rw[<-h1,fx O D];exact D,λE=>#[r,E,fx r E]]
  rw[gb,gb]at L;have L:cJ (cC ts) (cC ts (cJ (cC ts) u o) l) p=u:=L;rw[z1]at L;subst L;have:=(ig hj (oi M A q)).mp (eu.trans G.symm);rw[ej,lK hj,this]
 .rw[hJ (),hJ (by rw[md];lia)]
def IG(M:Mach H m ts n){S w:cn}(g:S∈dF n)(k:hZ ts S w)(i:∃s∈S,db ts s w≠s)(N:Nat): ¬∀r,r<n->db ts (db ts r (eQ w N)) w=db ts r (eQ w N):=λh=>by
 obtain⟨s,l,ne⟩:=i;have b:∀(j r:Nat),r∈S->∃a∈S,db ts a (eQ w j)=r:=λj=>by
  induction j with
  |zero=>exact λr d=>#[r,d,zZ]
  |succ j o=>
   intro r d;have c:=d;rw[<-k.2]at c;obtain⟨p,q,t⟩:=(gR M g k.1).mp c;obtain⟨a,e,f⟩:=o p q;exact#[a,e,by rw[qa,f,t]]
 obtain⟨a,e,f⟩:=b N s l;have z:=h a ((cy.mp g).2 a e);rw[f]at z;exact ne z
end
inductive fY(d:List V)(H:Hp)(Q:VK)(c:XK):Prop|mk:∀(a:Ad) (n:Nat) (t:cn),d=[.ref a]->H a=some (.tup (t.map nv))->t∈eC n n->n<=5->(∀b e,Same H e->(b=true↔dz (iI t n) t=iI t n)->Q (.bl b) e)->fY d H Q c
def v4{n k:Nat}{x y:cn}(a:x∈eC n k)(b:y∈eC n n):dz x y∈eC n k:=by
 obtain⟨c,d⟩:=cE.mp a;obtain⟨h,e⟩:=cE.mp b;refine cE.mpr #[by unfold dz;rw[List.length_map,c],λz f=>?_];obtain⟨r,g,rfl⟩:=cT.mp f;have:=d r g;exact e _ (on ()).2
theorem BW{n:Nat}{t:cn}(ht:t∈eC n n):∀k,iI t k∈eC n n
 |0=>ht
 |k+1=>v4 (BW ht k) ht
section
variable{H:Hp}{m:Ad}{ts:LN}{n:Nat}{a:LN}{L:Lv}
def LvOk.makes(ok:LvOk ts a L){t:cn}(b:rq ts L.c L.us L.wds t):t∈L.gs:=by
 have c:dz (List.range L.us.length) t∈L.gs:=(ok.g.mem _).mpr (.step .base b);obtain⟨k,l,f,x,g,d,h,i,j,m,n,e⟩:=b;rw[IJ e.1]at c;exact c
def LvOk.one(ok:LvOk ts a L):L.gs.length<=1↔qz ts L.c L.us L.wds:=by
 constructor
 .intro h k l f x i b t m n o p q r;have d:List.range L.us.length∈L.gs:=(ok.g.mem _).mpr .base;have e:=ok.makes #[k,l,f,x,i,b,m,n,o,p,q,r];generalize L.gs=s at h d e
  match s,h,d,e with
  | [g],_,d,e=>rw[cY.mp e,cY.mp d]
 .intro R;have c:∀g∈L.gs,g=List.range L.us.length:=λg j=>by
   have z:=(ok.g.mem g).mp j
   induction z with
   |base=>rfl
   |step u v w=>
    obtain⟨k,l,f,x,i,b,y,A,B,C,D,E⟩:=v;rw[w ((ok.g.mem _).mpr u),R k l f x i b _ y A B C D E,IJ md]
  exact jf (U:=[List.range L.us.length]) ok.nd λg j=>cY.mpr (c g j)
open Classical in
def LvOk.words(M:Mach H m ts n)(c:FamOf ts n a)(ok:LvOk ts a L)(t:cn):t∈L.gs↔ ∃w,hZ ts (L.c.headD []) w/\t=tw ts L.us w:=by
 have Mk:Makers ts L.c L.us L.wds (L.gs.filter λt=>decide (rq ts L.c L.us L.wds t)):=by
  refine#[λt ht=>gK (d8.mp ht).2,λk l x s h i j u=>?_];obtain⟨e,d⟩:=lU u;obtain⟨b,g⟩:∃b,L.wds[e]?=some b:=#[_,cA (by rw[ok.p.len];exact(cK.mp d).1)];obtain⟨t,o⟩:=Gz M c ok.p h i j d g;have p:rq ts L.c L.us L.wds t:=#[k,l,e,x,s,b,h,i,j,d,g,o];exact#[e,b,t,d8.mpr #[ok.makes p,dW p],d,g,o]
 have q:=(ok.p.inU M c).1;obtain⟨y,T⟩:=Az (yZ (oi M c ok.p) q) (λx v l (r:l<(L.gs.filter λt=>decide (rq ts L.c L.us L.wds t)).length)=>by
  refine zv M.n5 q v ?_;rw[eE,cA r];exact ok.inG M c (d8.mp (iD r)).1) [(_,[])] 0 0 (Que.start (f:=gG (L.gs.filter λt=>decide (rq ts L.c L.us L.wds t)))) (g7 _) (g7 _)
 rw[ok.g.mem,<-Gx (EO M c ok.p Mk),<-EY T];exact MR M c ok.p (GF ok.p ok.w) Mk T t
end
def xV(N:Nat)(w:cn):cn:=w.map λl=>N-1-l
section
variable{a:LN}
def Ic{N:Nat}{w:cn}(h:∀l∈w,l<N):∀l∈xV N w,l<N:=λl a=>by
 obtain⟨k,b,rfl⟩:=cT.mp a;have:=h k b;lia
def JY{x:cn}{l:Nat}(b:l<a.length):cC a.reverse x (a.length-1-l)=cC a x l:=by
 have e:a.reverse.getD (a.length-1-l) []=a.getD l []:=by
  rw[eE,eE,AF (),show a.length-1-(a.length-1-l)=l by lia]
 unfold cC ow;show fv (x.map λr=>(a.reverse.getD (a.length-1-l) []).getD r 0)=fv (x.map λr=>(a.getD l []).getD r 0);rw[e]
theorem yT:∀(w x:cn),(∀l∈w,l<a.length)->cJ (cC a.reverse) x (xV a.length w)=cJ (cC a) x w
 | [],_,_=>rfl
 |l::w,x,h=>by
  show cJ (cC a.reverse) (cC a.reverse x (a.length-1-l)) (xV a.length w)=cJ (cC a) (cC a x l) w;rw[JY (h l (dX ..)),yT w _ λz b=>h z (eO _ b)]
def Ff{x y:cn}(h:Rch a x y):Rch a.reverse x y:=by
 obtain⟨w,b,e⟩:=h;exact#[xV a.length w,by rw[nI];exact Ic b,by rw[yT w x b];exact e]
def i8{x y:cn}:Rch a.reverse x y↔Rch a x y:=#[λh=>by
 have z:=Ff h;rwa[AQ]at z,Ff]
def FU:fy a.reverse=fy a:=funext λx=>funext λy=>kh.mpr (cG.trans (i8.trans cG.symm))
def Jv{n:Nat}{b:LN}(h:FamOf a n b):FamOf a.reverse n b:=#[h.up,λx=>(h.mem x).trans (or_congr (i8 (x:=List.range n) (y:=x)).symm Iff.rfl)]
def OO{b told:im}(h:Ord a b told):Ord a.reverse b told:=by
 induction h with
 |nil=>exact .nil
 |cons h r c=>
  refine .cons ?_ c;unfold eA;rw[FU];exact h
def LG(b:LN):cU a.reverse b=cU a b:=by
 unfold cU de;rw[FU]
def Go{c:LN}{x t:cn}(h:∃w,hZ a x w/\t=tw a c w):∃w,hZ a.reverse x w/\t=tw a.reverse c w:=by
 obtain⟨w,⟨b,k⟩,e⟩:=h;refine#[xV a.length w,#[by rw[nI];exact Ic b,by rw[yT w x b];exact k],?_];rw[e];unfold tw;exact i9 λu _=>by rw[yT w u b]
def nP(a:List Lv):cn:=a.map λL=>L.gs.length
def OQ{H r:Hp}{m s:Ad}{n:Nat}{p d:LN}{g b:List Lv}(M:Mach H m a n)(u:Mach r s a.reverse n)(R:RowOf a n p g)(j:RowOf a.reverse n d b):nP b=nP g:=by
 cases j.ff.uniq (Jv R.ff);have q:=j.od;rw[LG]at q;have e:=q.uniq (OO R.od);have len:b.length=g.length:=by rw[<-cu (f:=(·.c)),e,cu]
 refine Bm (by unfold nP;rw[List.length_map,List.length_map,len]) λi k o=>?_;unfold nP at k o|-;rw[cu]at k o;rw[qu,qu];have z:=dw (λl=>l[i]?) e;have z:b[i].c=g[i].c:=by simpa[k,o]using z
 have c:=j.ok _ (iD k);have ok:=R.ok _ (iD o);have v:b[i].us=g[i].us:=by rw[c.p.tl,ok.p.tl,z]
 refine dw List.length (Cb qd A6 c.g.up ok.g.up λt=>?_);rw[c.words u j.ff,ok.words M R.ff,z,v];exact#[λh=>by
  have:=Go h;rwa[AQ]at this,Go]
end
def sk(a:List Lv):cn:=(nP a).filter λk=>decide (1<k)
theorem F8(a:List Lv):∀i,i<=a.length->((oC a i).filter (·.1)).map (·.2.2)=(nP (a.take i)).filter λk=>decide (1<k)
 |0,_=>rfl
 | i+1,h=>by
  have e:=cA (l:=a) (i:=i) ();have b:nP (a.take (i+1))=nP (a.take i)++[a[i].gs.length]:=by
   unfold nP;rw[yD,e,eV];rfl
  rw[HN e,b,pW,pW,eV,F8 a i ()];refine dw _ ?_;unfold vM;by_cases c:1<a[i].gs.length
  .rw[wB c];simp[c]
  .rw[wA c];simp[c]
def Jq(a:List Lv):((wW a).filter (·.1)).map (·.2.2)=sk a:=by
 have z:=F8 a a.length (cQ _);rw[ik]at z;exact z
def mR(a:List Lv):Prop:=∀L∈a,L.gs.length<=1
def LP(b:List Lv):sk b=[]↔mR b:=by
 unfold sk nP mR;rw[wY];constructor
 .intro h L a;have:=h _ (cT.mpr #[L,a,zZ]);simp at this;lia
 .intro h k c;obtain⟨L,a,rfl⟩:=cT.mp c;have:=h L a;simp;lia
section
variable{H:Hp}{m:Ad}{ts:LN}{n:Nat}{b:LN}{d:List Lv}
def fM(R:RowOf ts n b d)(q:mR d):AbM ts n none:=by
 refine#[b,_,R.ff,R.od,(Kc R.od).1,λc e=>?_];obtain⟨L,a,rfl⟩:=cT.mp e;have ok:=R.ok L a;have p:=ok.p;have r:=(ok.one).mp (q L a);rw[ok.p.tl]at p r;exact#[L.wds,p,ok.w,d6.mp r]
def HZ(R:RowOf ts n b d)(h:AbM ts n none):mR d:=λL c=>by
 obtain⟨e,told,g,i,f,a⟩:=h;cases g.uniq R.ff;cases i.uniq R.od;obtain⟨j,k,W,no⟩:=a L.c (cT.mpr #[L,c,zZ]);have ok:=R.ok L c;cases W.uniq ok.w;refine ok.one.mpr ?_;rw[ok.p.tl];exact d6.mpr no
def Ji(R:RowOf ts n b d)(q:mR d):zo ts b:=by
 obtain⟨c,e,a⟩:=Km (fM R q);cases e.uniq R.ff;exact a
end
section
variable{H:Hp}{m:Ad}{ts:LN}{n:Nat}{f:LN}{d:List Lv}
def Ae(w:cn):cJ (fQ ts) (List.range n) w=eX ts (List.range n) w:=by
 have z:=Aq (ts:=ts) (x:=List.range n) w [];have e:eX ts (List.range n) []=List.range n:=tj _;rw[e]at z;exact z
theorem wk(M:Mach H m ts n){w:cn}(a:∀l∈w,l<ts.length):∀k,Cyc.pw (eX ts (List.range n) w) k=eX ts (List.range n) (eQ w k)
 |0=>by
  show List.range (eX ts (List.range n) w).length=(List.range n).map id;unfold eX;rw[tj,cu,md]
 |k+1=>by
  show dz (Cyc.pw _ k) _=_;rw[wk M a k,C2 M (sq a _)];refine i9 λr _=>?_;rw[ky,<-qa]
def z8(n:Nat)(u:cn):Prop:=dz (iI u n) u=iI u n
def CL(M:Mach H m ts n)(R:RowOf ts n f d)(q:mR d){w:cn}(b:∀l∈w,l<ts.length):z8 n (eX ts (List.range n) w)/\∀i c,Cyc.Ring (Cyc.pw (eX ts (List.range n) w)) i c->c=1:=by
 have a:∀r,r<n->db ts (db ts r (eQ w (n+1))) w=db ts r (eQ w (n+1)):=λr g=>Oy M R.ff (Ji R q) b () g;refine#[(G4 M b).mpr a,λi c h=>?_];have e:Cyc.pw (eX ts (List.range n) w) (n+1)=Cyc.pw (eX ts (List.range n) w) (n+2):=by
  rw[wk M b,wk M b];refine i9 λr g=>?_;rw[qa ts w (n+1),a r (f8.mp g)]
 have z:=((Cyc.ring_same (F:=λy=>dz y (eX ts (List.range n) w)) (λ_=>rfl) h (n+2) (n+1) ()).mp e).2;rw[show n+2-(n+1)=1 by lia]at z;exact Nat.dvd_one.mp z
def Ea(M:Mach H m ts n)(R:RowOf ts n f d)(q: ¬mR d){r:Option (cn×cn)}(h:AbM ts n r):∃w,(∀l∈w,l<ts.length)/\ ¬z8 n (eX ts (List.range n) w)/\∀i,¬Cyc.Ring (Cyc.pw (eX ts (List.range n) w)) i 1:=by
 cases r with
 |none=>exact wC (HZ R h) q
 |some r=>
  obtain⟨a,b,_,c,e⟩:=NK M h;refine#[r.1,a,λz=>IG M b c e (n+1) ((G4 M a).mp z),λi j=>IG M b c e i λs g=>?_];have z:=j.back;rw[wk M a,wk M a]at z;have z:=dw (λx=>x.getD s 0) z;rw[wM _ g,wM _ g,qa]at z;exact z
def HH(M:Mach H m ts n)(R:RowOf ts n f d){r:Option (cn×cn)}(h:AbM ts n r){g:TW}(T:Told (fQ ts) ts.length (List.range n) g):((∀p∈g,z8 n p.1)↔mR d)/\((∀p∈g,∃i,Cyc.Ring (Cyc.pw p.1) i 1)->mR d):=by
 have back: ¬mR d->∃p∈g,¬z8 n p.1/\∀i,¬Cyc.Ring (Cyc.pw p.1) i 1:=λq=>by
  obtain⟨w,k,a,b⟩:=Ea M R q h;obtain⟨u,j,_⟩:=T.least _ w zZ k;rw[Ae]at j;exact#[_,j,a,b]
 refine#[#[λz=>ou λq=>?_,λq p c=>?_],λe=>ou λq=>?_]
 .obtain⟨p,c,a,_⟩:=back q;exact a (z p c)
 .obtain⟨l,o⟩:=T.run p c;rw[<-o,Ae];exact(CL M R q l).1
 .obtain⟨p,c,_,b⟩:=back q;obtain⟨i,s⟩:=e p c;exact b i s
def DQ{a b:TW}(T:Told (fQ ts) ts.length (List.range n) b)(d:(a.map (·.1)).Nodup)(run:∀p∈a,(∀l∈p.2,l<ts.length)/\cJ (fQ ts) (List.range n) p.2=p.1):a.length<=b.length:=by
 have z:=jf d (U:=b.map (·.1)) λx e=>by
  obtain⟨p,f,rfl⟩:=cT.mp e;obtain⟨g,h⟩:=run p f;obtain⟨u,c,_⟩:=T.least _ p.2 zZ g;rw[h]at c;exact cT.mpr #[_,c,zZ]
 rw[cu,cu]at z;exact z
end
def Oq(H:Hp)(l:Ad)(e:LN):Prop:=∃d:As,H l=some (.lst (d.map .ref))/\d.length=e.length/\∀(j:Nat) (a:Ad) (u:cn),d[j]?=some a->e[j]?=some u->∃b c,H a=some (.tup [nv b,nv c])/\Cyc.Ring (Cyc.pw u) b c
inductive eR(C:Ad)(d:List V)(H:Hp)(Q:VK)(E:XK):Prop|mk:∀(m:Ad) (c:LN) (n most:Nat),d=[.ref m,nv most]->Mach H m c n->most<=400->Tabs H->((∀l b a,Keeps H a->Tabs a->Oq a l (b.map (·.1))->Told (fQ c) c.length (List.range n) b->b.length<=most->Q (.ref l) a))->((∀(b:TW) a e,Keeps H a->Tabs a->a e=some (.xd [(sK,nv most)])->(b.map (·.1)).Nodup->(∀p∈b,(∀l∈p.2,l<c.length)/\cJ (fQ c) (List.range n) p.2=p.1)->most<b.length->E (.ref C) (some e) a))->eR C d H Q E
def rj(b:LN)(n most:Nat):Prop:=∃a:TW,(a.map (·.1)).Nodup/\(∀p∈a,(∀l∈p.2,l<b.length)/\cJ (fQ b) (List.range n) p.2=p.1)/\most<a.length
inductive kv(C:Ad)(b:List V)(H:Hp)(Q:VK)(E:XK):Prop|mk:∀(m e:Ad) (c:LN) (n most:Nat),b=[.ref m,.ref e,nv most]->Mach H m c n->most<=400->Tabs H->rj c n most->(∀a d,Keeps H a->Tabs a->a d=some (.xd [(sK,nv most)])->E (.ref C) (some d) a)->kv C b H Q E
inductive gq(b:List V)(H:Hp)(Q:VK)(a:XK):Prop|mk:∀(m:Ad) (c:LN) (n:Nat),b=[.ref m]->Mach H m c n->Tabs H->rj c n 400->(∀d,Q (.bl true) d)->gq b H Q a
inductive gc(e:List V)(H:Hp)(Q:VK)(b:XK):Prop|mk:∀(m:Ad) (f:LN) (n:Nat),e=[.ref m]->Mach H m f n->Tabs H->(∀l c g d a,Keeps H a->Tabs a->RowOf f n c g->(d:Zs).Perm ((sk g).map λ(k:Nat)=>(k:Int))->d.Pairwise (· <= ·)->a l=some (.lst (d.map V.int))->Q (.ref l) a)->gc e H Q b
inductive jj(K:P3)(c:List V)(H:Hp)(Q:VK)(b:XK):Prop|mk:∀(a:Ad) (d:Zs),c=[.ref a]->SqL K H a (d.map V.int)->d.length<=63->Tabs H->(∀e,Q (.bl true) e)->jj K c H Q b
def NP{K:P3}:PySem.W.kitOne K (.type "bool") (.type "bool")=some true:=by rfl
def NT(bs:List Bool):qe (.bl false) (bs.map V.bl)=bs.any (!·):=by
 unfold qe;rw[xH];rw[show((λy=>mV y (V.bl false))∘V.bl)=(λb:Bool=> !b)from funext λb=>by cases b<;>rfl]
def IH(n:Nat)(a:LN):LN:=a.filter λt=>decide (dz (iI t n) t≠iI t n)
def EV{K:P3}{H:Hp}{r:Ad}{bs:As}{f:LN}{n:Nat}{B:L2.St}{Q:List V->Hp->Prop}(l:H r=some (.lst (bs.map .ref)))(s:TupsAt H bs f)(m:∀u∈f,u∈eC n n)(C:n<=5)(few:f.length<=4000)(q:∀a d,Same H d->TupsAt d a (IH n f)->Q (a.map .ref) d):
  oV [sO] (iw 0) (wJ (tB (qp fY [] E0 (jd (dG 0) jh)))) (dG 0) B (r3 K r) H Q:=by
 have D:=s.len;refine i0 (xs:=bs.map .ref) (λi h d=>Same H d/\∃a,h=a.map V.ref/\a.length<=i/\TupsAt d a ((f.take i).filter λt=>decide (dz (iI t n) t≠iI t n))) (by rw[cu,dA];lia) #[Same.refl _,[],zZ,cQ _,zZ,λi b u e=>by simp at e] (λi h d G p=>?_) (λi v h d w p=>?_) (λh I p=>?_)
 .obtain⟨g,a,rfl,e,_⟩:=p;exact#[P1 (g _ _ l),by rw[cu];exact e]
 .obtain⟨g,a,rfl,e,j⟩:=p;rw[cV]at w;obtain⟨b,x,rfl⟩:=eW.mp w;have J:=(cK.mp x).1;obtain⟨u,o⟩:∃u,f[i]?=some u:=#[_,cA ()];have y:=g _ _ (s.is i b u x o);refine#[hO,_,zZ,b,n,u,zZ,y,m u (c8 o),C,λc L k A=>#[_,zZ,?_]];have z:=wG (j.same k) o (k _ _ y);cases c with
  |false=>
   rw[show decide (dz (iI u n) u≠iI u n)=true from dW λe=>Bool.noConfusion (A.mpr e),wB zZ]at z;exact gJ #[_,zZ,g.trans k,a++[b],by simp,by simp;exact e,z]
  |true=>
   rw[show decide (dz (iI u n) u≠iI u n)=false from fZ λe=>e (A.mp zZ),wA (by decide)]at z;exact fW #[g.trans k,a,zZ,(),z]
 obtain⟨E,a,rfl,_,j⟩:=p;rw[cu,D,ik]at j;exact q a _ E j
def Dw:(dM[3]'(by decide))∈dM:=iD _
section
variable{P:Pg}{w:World}{K:P3}{mg:SV}{base:Heap}{f C:Ad}{B:Fd}
def OB{I cv:Vl}(F:DefAt K sZ nQ f B I cv)(rC:dj P w K mg base "rest_of" 3 [sX] j5)(jZ:CalleeDX P w K mg base sY 10 [sA,sK] (eU C) []):FnOk P w K mg base (CX1 P w) 12 f B [sA,sK] (eR C):=by
 refine F.fnOkX KN (λvs H Q E h=>?_) (λA J s H vs Q E h hr=>?_)
 .obtain⟨m,ts,n,most,rfl,_⟩:=h;rfl
 obtain⟨m,ts,n,most,rfl,M,d,hT,q,qE⟩:=h;refine#[_,?_,(cX (dR (An (CompSc.to (N:=[sA,sK]) (osc:=cN nQ) (vs:=[sX,tH]) {}) zZ (gF (CG jZ hr.m sd zZ (dr (cD (pv 0) (cD (pv 1) dt zZ) zZ)))) (zu (CompSc.to (N:=[sA,sK]) (osc:=cN nQ) (vs:=[sX,tH]) {}) zZ zZ zZ) (λ_ _ _ _=>iE) (λ_ _ _ _=>(dv rC hr.m zZ (cL (pv 0) cH))))))];refine#[_,zZ,_,zZ,m,ts,n,most,zZ,M,d,hT,λl as L H1 k1 T1 _ _ Pi TT le=>?_,qE];obtain⟨hl,o,y⟩:=id Pi;refine#[l,zZ,#[_,P1 hl],i0 (xs:=as.map .ref) (λi G z=>Same H1 z/\∃bs:As,G=bs.map V.ref/\bs.length=i/\∀(j:Nat) (a:Ad) (u:cn),bs[j]?=some a->(L.map (·.1))[j]?=some u->∃b c,z a=some (.tup [nv b,nv c])/\Cyc.Ring (Cyc.pw u) b c) (by rw[cu,o,dA];lia) #[Same.refl _,[],zZ,zZ,λj a u e=>by simp at e] (λi G z _ p=>?_) (λi v G z hv p=>?_) (λG z p c1 O=>?_)]
 .obtain⟨g,bs,rfl,e,_⟩:=p;exact#[P1 (g _ _ hl),by rw[cu];lia]
 .obtain⟨g,bs,rfl,k,ok⟩:=p;rw[cV]at hv;obtain⟨a1,ea,rfl⟩:=eW.mp hv;obtain⟨hi,_⟩:=cK.mp ea;obtain⟨r,T⟩:∃r,L[i]?=some r:=#[_,cA ()];obtain⟨b,c,_,f1,f2,f3⟩:=y i a1 r ea T;obtain⟨r1,r2⟩:=TT.run r (c8 T);have inU:r.1∈eC n n:=by
   rw[<-r2];exact mX (vx n) M.steps r.2 r1
  obtain⟨x1,x2⟩:=cE.mp inU;have n5:=M.n5;refine#[a1,_,zZ,P2 (g _ _ f1),zZ,_,_,zZ,_,_,zZ,zZ,Ey,lG #[_,zZ,b,r.1,zZ,g _ _ f2,λx hx=>by rw[x1];exact x2 x hx,(),λt H2 x c g2 U R=>?_]];refine#[g.trans g2,bs++[t],by simp,by simp[k],λj a u D Y=>?_];by_cases hj:j<i
  .rw[fu ()]at D;obtain⟨b',c',h1,h2⟩:=ok j a u D Y;exact#[b',c',g2 _ _ h1,h2]
  .have aa:j=i:=by
    have:=(cK.mp D).1;rw[eh,k]at this;have:j<i+1:=this
    lia
   subst aa;rw[fV (),k,oN]at D;cases D;rw[cV,T]at Y;cases Y;exact#[x,c,U,R]
 obtain⟨g,bs,rfl,k,ok⟩:=p;rw[cu,o]at k;have kc:=cM O (.lst (bs.map V.ref));refine q c1 L _ (k1.trans (g.trans kc).keeps) (T1.same (g.trans kc)) #[bs,cw,by rw[k,cu],λj a u e1 U=>?_] TT le;obtain⟨b',c',h1,h2⟩:=ok j a u e1 U;exact#[b',c',kc _ _ h1,h2]
def Mu{b o:Vl}(F:DefAt K tG nO f B b o)(p:CalleeDX P w K mg base sY 10 [sA,sK] (eU C) []):FnOk P w K mg base (CX1 P w) 12 f B [sA,sD,sK] (kv C):=by
 refine F.fnOkX rG (λq H Q E h=>?_) (λA c s H q Q E h r=>?_)
 .obtain⟨m,t,e,n,most,rfl,_⟩:=h;rfl
 obtain⟨m,t,e,n,most,rfl,M,a,hT,⟨z,u,run,lt⟩,v⟩:=h;refine#[_,?_,(cR (dE (i:=3) rG.nd zZ Z0 (An (CompSc.to (N:=[sA,sD,sK,sV,"keepers","e"]) (osc:=cN nO) (vs:=[sX,tH]) {}) zZ (gF (CG p r.m sd zZ (dr (cD (pv 0) (cD (pv 2) dt zZ) zZ)))) (zu (CompSc.to (N:=[sA,sD,sK,sV,"keepers","e"]) (osc:=cN nO) (vs:=[sX,tH]) {}) zZ zZ zZ) (λ_ _ _ _=>iE) (λ_ _ _ _=>(pv 0)))) (cR EF (cR EF (cX EF))))];refine#[_,zZ,_,zZ,m,e,n,most,zZ,M,a,hT,λl D x g j k _ _ Pi TT G=>wC (DQ TT u run) (),λx g y j k d _ _ _=>v g y j k d]
def OD(F:Fun K vF vF EA f B)(I:dj P w K mg base uM 1 [uI,tM] cZ)(M:mg "range"=none)(N:mg "len"=none):FnOk P w K mg base da 3 f B [sO] fY:=by
 refine F.ok qB (λO A l s H vs Q E m h=>?_)
 obtain⟨a,n,t,rfl,g,ht,n5,q⟩:=h;have T:=m.units;refine#[_,(cR (dE (i:=1) qB.nd zZ Z' (pv 0)) (cR (iG i4 zZ (lA zZ M (cL (eK fS zZ N fG (cL (pv 0) cH)) cH)) (gB (i:=2) qB.nd zZ Z') (cX (dE (i:=1) qB.nd zZ Z' (dv I m.m zZ (dr (cD (pv 1) (cD (pv 0) dt zZ) zZ)))))) (cX (dR (l8 (ub T) (dv I m.m zZ (dr (cD (pv 1) (cD (pv 0) dt zZ) zZ))) (pv 1) (eY _)))))),?_];obtain⟨u,t2⟩:=cE.mp ht;have lt:(t.map nv).length=n:=by rw[cu,u]
 refine#[_,zZ,?_]
 let U:Nat->L2.St->Hp->Prop:=λk v J=>Same H J/\∃(p:Ad) (o:Option V),J p=some (.tup ((iI t k).map nv))/\v=[some (.ref a),some (.ref p),o]
 refine#[_,zZ,a,_,zZ,.inr (P2 g),(n:Int),by rw[lt],(),(),oX U #[Same.refl _,a,none,g,zZ] (λk v Y hk p=>?_) (λv Y p=>?_)]
 .obtain⟨c,p,o,d,rfl⟩:=p;have y:=BW ht k;obtain⟨p1,C⟩:=cE.mp y;refine#[_,zZ,_,zZ,p,a,_,t,zZ,d,c _ _ g,λx D=>by rw[u];exact C x D,(),λr H2 j G=>?_];exact#[c.trans j,r,_,G,zZ]
 .obtain⟨c,p,o,d,rfl⟩:=p;rw[show(n:Int).toNat=n from iy _]at d;have y:=BW ht n;obtain⟨p1,C⟩:=cE.mp y;refine#[_,zZ,_,zZ,p,a,_,t,zZ,d,c _ _ g,λx D=>by rw[u];exact C x D,(),λr H2 j G=>?_];refine#[_,zZ,r,p,0,_,_,zZ,zZ,iQ (P2 G),iQ (P2 (j _ _ d)),by decide,λb L=>q b _ (c.trans j) #[λh=>?_,λe=>L.mpr (by rw[e])]];have z:=L.mp h;injection z with z
  exact lL.mp (dw Dt.lst z)
def OA{T D:Ad}(F:Fun K uY uY BS f B)(jO:dj P w K mg base uW 18 [sA] (eG T (#[49,40,49,93]:Pos)))(a:CalleeDX P w K mg base sZ 12 [sA,sK] (eR C) [nv 400])(g:CalleeDX P w K mg base tG 12 [sA,sD,sK] (kv C) [nv 400])(qS:mg "TooMany"=some (.ref C))(kC:mh K C D)(gE:GetE K C sK)(jB:mg "range"=none):FnOk P w K mg base da 20 f B [sF] gq:=by
 refine F.ok kE (λah A ab s H vs Q E hr h=>?_)
 obtain⟨m,ts,n,rfl,M,hT,mn,q⟩:=h;have hu:=hr.units;refine#[_,(OZ (DT (BZ (dE (i:=1) kE.nd zZ Z' (f7 cH))) (DT (BZ (dE (i:=2) kE.nd zZ Z' (dB gW (dv jO hr.m zZ (cL (pv 0) cH)) df (λ_ _=>rfl)))) (DT (BZ (iG i4 zZ (lA zZ jB (cL df cH)) (gB (i:=3) kE.nd zZ Z') (cX (Nj (i:=4) zZ zZ zZ kE.nd zZ zZ zZ qS (K' (gn vt (pv 3) df (eY _)) (Ir (Fn a hr.m zZ (cL (pv 0) cH))) (Ir (Fn g hr.m zZ (dr (cD (pv 0) (cD (pv 2) dt zZ) zZ))))) (λ_=>(cX (lg (IR (K:=K) (λ_=>gP) zZ (mI mG oz n' nY (pv 1) (cL (Mb (K:=K) zZ (pv 4)) cH)))))))))) (Kk (L5 (xi (l8 (ub hu) (pv 1) (f7 (dr (cD df (cD df dt zZ) zZ))) (eY _))))))))),?_];have n5:=M.n5;have n2:2<=n:=by
  obtain⟨ws,kn,run,lt⟩:=mn;have z:=jf kn (U:=eC n n) λx hx=>by
   obtain⟨p,hp,rfl⟩:=cT.mp hx;obtain⟨r1,r2⟩:=run p hp;rw[<-r2];exact mX (vx n) M.steps p.2 r1
  rw[cu]at z
  rcases Nat.lt_or_ge n 2 with h|h
  .have:(eC n n).length<=1:=by
    rcases (by lia:n=0\/n=1)with rfl|rfl<;>decide
   lia
  .exact h
 refine#[by show 0<=sizeLine;decide,λG N=>?_];have k0:=cM N (.lst []);have O:cq H G (.lst []) G=some (.lst []):=cw;generalize cq H G (.lst [])=H0 at k0 O|-;refine#[_,zZ,m,ts,n,zZ,M.same k0,hT.same k0,λl as told ae ys H1 k1 T1 nl el ff od sub ai Lv nw ap aj=>?_];have la:=Lv.len;obtain⟨lv,af⟩:∃lv,as[0]?=some lv:=by
  have xb:List.range n∈big ae:=d8.mpr #[Db M ff,dW (by rw[md];lia)];obtain⟨c,hc,_⟩:=FM (ts:=ts) xb;have:=v9 (FV od c hc);exact#[_,cA ()]
 refine#[l,_,_,_,zZ,zZ,P1 el,jq (j:=0) (by rw[cV,af];rfl),?_];have Y:L2.noT H G=none:=by
  cases y:L2.noT H G with
  |none=>rfl
  |some o=>exact nomatch N.symm.trans (qw y).1
 have ag:=k0.keeps.trans k1
 let Pk:Nat->L2.St->Hp->Prop:=λi σ L=>Keeps H L/\Tabs L/\L G=some (.lst (List.replicate i (nv 400)))/\∃o3 o4,σ=[some (.ref m),some (.ref G),some (.ref lv),o3,o4]
 refine#[(2:Int),zZ,(),(),oX Pk #[ag,T1,k1 _ _ (nz O),_,_,zZ] (λk σ H2 hk p=>?_) (λσ H2 p=>?_)]
 .obtain⟨k2,T2,e2,o3,o4,rfl⟩:=p;have M2:=M.keeps k2;obtain⟨ws,kn,run,lt⟩:=id mn;refine#[λv d J=>v=.ref C/\Keeps H2 J/\Tabs J/\∃r,d=some r/\J r=some (.xd [(sK,nv 400)]),#[_,zZ,zZ,_,zZ,jk (λc=>?_) (λc=>?_)],λC' d J e=>?_]
  .exact#[_,zZ,m,ts,n,400,zZ,M2,cQ _,T2,λl vs L _ _ _ TT le=>wC (DQ TT kn run) (),λvs L r k3 T3 t _ _ _=>#[zZ,k3,T3,r,zZ,t]]
  .exact#[_,zZ,_,zZ,m,lv,ts,n,400,zZ,M2,cQ _,T2,mn,λL r k3 T3 t=>#[zZ,k3,T3,r,zZ,t]]
  .obtain⟨e1,k3,T3,r,rfl,t⟩:=e;cases e1;refine#[MK kC,λe aa=>?_];have I:cq J e (.ext (mC e C (some r))) r=some (.xd [(sK,nv 400)]):=by rw[cz (dH t aa)];exact t
   have ke:=cM aa (.ext (mC e C (some r)));have e4:=ke _ _ (k3 _ _ (nz e2));have T4:=T3.same ke;have k4:=(k2.trans k3).trans ke.keeps;have ee:cq J e (.ext (mC e C (some r))) e=some (.ext (mC e C (some r))):=cw;generalize cq J e (.ext (mC e C (some r)))=H4 at I e4 T4 k4 ee|-;refine#[_,zZ,.inl #[zZ,_,P1 e4],_,zZ,e,C,D,r,(400:Int),zZ,ee,I,kC,gE,G,_,_,zZ,zZ,e4,by rw[Ek,dA];lia,?_];refine#[Br k4 Y,T4.most λb u _ nl hb=>by rw[cz (i5 hb e4 (λz=>nl _ z))];exact hb,?_,_,_,zZ];rw[cw];show some (HO.lst (List.replicate k (nv 400)++[nv 400]))=_
   rw[<-List.replicate_succ']
 .obtain⟨k2,T2,e2,o3,o4,rfl⟩:=p;refine#[_,zZ,by show 2<=sizeLine;decide,λp hp=>?_];have kp:=cM hp (.lst [V.int 400,V.int 400]);refine#[G,p,0,_,_,zZ,zZ,pV (is:=[400,400]) (P1 (kp _ _ e2)),pV (is:=[400,400]) (P1 cw),by decide,λb hb=>?_];rw[hb.mpr zZ];exact q _
def Ka{k CR:Ad}(F:Fun K uZ uZ zw f B)(P':OwnC K k [sA,sL,sM,sV,tQ])(P0:OwnC K CR [sC,vC])(uD:z7 P w K mg base "Row" CR 20 [sW,sA] (gi k CR))(qP:zI P w K mg base CR "parts" 3 [sW] (iN k CR))(jN:mg "sorted"=none):FnOk P w K mg base da 22 f B [sF] gc:=by
 refine F.ok Nw (λaa A t s H vs Q E u h=>?_)
 obtain⟨m,J,n,rfl,M,hT,q⟩:=h;have hu:=u.units;refine#[_,(cX (dR (eK (O3 zZ) zZ jN A2 (cL (ie (CompSc.to (N:=[sF]) (osc:=cN zw) (vs:=["_law_part"]) {}) zZ zZ (gF (FK (E5 uD u.m zZ (cL (pv 0) cH)) P0.cl qP u.m)) (λ_ _ _ _=>nN (gn vt (dB (IxR.k (K:=K) jo eM zZ) (pv 0) df (λ_ _=>rfl)) Ca (eY _))) (λ_ _ _ _=>(dB (IxR.k (K:=K) jo eM zZ) (pv 0) df (λ_ _=>rfl)))) cH)))),?_];refine#[_,zZ,λx y L z ab=>?_];have gx:Same H (cq (cq H y (.own x)) x (.ins CR y [])):=λb o c=>by
  rw[cz (dH c L),cz (dH c z)];exact c
 refine#[H,x,y,m,J,n,zZ,gx,L,cw,M,hT,λC a H1 k1 T1 R O=>#[zZ,?_]];obtain⟨G,r,st,qs,r1,r2⟩:=id O;refine#[x,G,_,zZ,r1,(by kernel_rfl),x,m,J,n,a,zZ,O,R.few,λl as H2 g2 nl T PA=>?_];have U:=PA.len;have lz:(wW a).length<=2 * a.length:=Cc a a.length;have ae:=R.few;refine#[l,zZ,#[_,P1 T],i0 (xs:=as.map .ref) (λi d e=>e=H2/\d=((((wW a).take i).filter (·.1)).map (·.2.2)).map nv) (by rw[cu,dA];lia) #[zZ,zZ] (λi d e hi p=>?_) (λi v d e Y p=>?_) (λd e p c1 I=>?_)]
 .obtain⟨rfl,rfl⟩:=p;exact#[P1 T,by rw[cu,cu];exact dy (iz _ _) (by rw[hG];exact Nat.min_le_left _ _)]
 .obtain⟨rfl,rfl⟩:=p;rw[cV]at Y;obtain⟨b,eb,rfl⟩:=eW.mp Y;obtain⟨j,ep⟩:∃j,(wW a)[i]?=some j:=#[_,cA (by rw[<-U];exact(cK.mp eb).1)];have c:=PA.is i b j eb ep;rw[yD,ep,pW,eV,eV];obtain⟨pb,p1,p2⟩:=j;refine#[hO,_,zZ,b,_,_,_,zZ,zZ,P2 c,zZ,zZ,_,zZ,?_];cases pb with
  |true=>exact gJ #[_,zZ,b,_,_,_,zZ,zZ,P2 c,zZ,zZ,zZ]
  |false=>exact fW #[zZ,(gS _).symm]
 .obtain⟨rfl,rfl⟩:=p;rw[cu,U,ik,Jq,F6];have kc:=cM I (.lst (((sk a).map λ(n:Nat)=>(n:Int)).map V.int));refine#[c1,_,zZ,P1 cw,?_,λD js hD pm up=>?_]
  .rw[cu];have:(sk a).length<=a.length:=dy (iz _ _) (by unfold nP;rw[List.length_map];exact Nat.le_refl _);lia
  .have kd:=cM hD (.lst (js.map V.int));have g:=(g2.trans kc).trans kd;exact q D C a js _ (k1.trans g.keeps) (T1.same g) R pm up cw
def Ot{T:Ad}(F:Fun K "law" "law" mz f B)(kQ:dj P w K mg base uV 3 [sJ] (gh K))(kG:dj P w K mg base uZ 22 [sF] gc)(rR:dj P w K mg base "about" 20 [sA] iL)(jO:dj P w K mg base uW 18 [sA] (eG T (#[49,40,49,93]:Pos)))(qR:dj P w K mg base "rests" 15 [sA,sD] gQ)(qX:dj P w K mg base "_law_all" 3 [sF,"_law_most"] mY)(kL:dj P w K mg base vF 3 [sO] fY)(kR:dj P w K mg base uY 20 [sF] gq)(k:CalleeDX P w K mg base sZ 12 [sA,sK] (eR C) [nv 400])(qI:mg "isinstance"=none)(rY:mg "bool"=none)(jA:mg "len"=none):FnOk P w K mg base da 24 f B [sJ] (jj K):=by
 refine F.ok rK (λbi A aS s H vs Q E hr h=>?_)
 obtain⟨a,ns,rfl,hS,bj,hT,q⟩:=h;have hu:=hr.units;refine#[_,(cR (dE (i:=1) rK.nd zZ Z0 (dv kQ hr.m zZ (cL (pv 0) cH))) (cR (dE (i:=2) rK.nd zZ Z' (dv kG hr.m zZ (cL (pv 1) cH))) (cR (dE (i:=3) rK.nd zZ Z' (l8 (ub hu) (pv 2) (f7 cH) (eY _))) (cR (iq (PW.pt (EU (gn Bf (l8 OI (dv rR hr.m zZ (cL (pv 1) cH)) ti (eY _)) (pv 3) (eY _)) (Ih (gn (pU hu) (dv kG hr.m zZ (cL (Ml (pv 1) (Hr IQ df)) cH)) (pv 2) (eY _))))) (cX (dR re)) iA) (cR (wj (CompSc.to (N:=[sJ,sF,sT,tN,tT,tV]) (osc:=cN mz) (vs:=["_law_level"]) {}) zZ zZ rK.nd (j:=4) zZ zZ (gF (dv jO hr.m zZ (cL (pv 1) cH))) (λ_ _ _ _=>iE) (λ_ _ _ _=>(dv qR hr.m zZ (dr (cD (pv 2) (cD (pv 0) dt zZ) zZ))))) (cR (iq (PW.pt (EU (gn (pU hu) (ie (CompSc.to (N:=[sJ,sF,sT,tN,tT,tV]) (osc:=cN mz) (vs:=[uI]) {}) zZ zZ (gF (pv 4)) (λ_ _ _ _=>nN (r4 (pr (eK (CallR.k (K:=K) sj MJ zZ) zZ qI boot_isinstance (dr (cD (pv 0) (cD (wU zZ rY boot_bool) dt zZ) zZ)))))) (λ_ _ _ _=>(pv 0))) (f7 cH) (eY _)) (Ih (gn Bf (l8 Lb re (pv 4) (by with_unfolding_all rfl)) (pv 3) (eY _))))) (cX (dR re)) iA) (cR (HR (CompSc.to (N:=[sJ,sF,sT,tN,tT,tV]) (osc:=cN mz) (vs:=[sO,"_law_word"]) {}) zZ rK.nd (j:=5) zZ zZ (gF (dv qX hr.m zZ (dr (cD (pv 1) (cD df dt zZ) zZ)))) (zu (CompSc.to (N:=[sJ,sF,sT,tN,tT,tV]) (osc:=cN mz) (vs:=[sO,"_law_word"]) {}) zZ zZ zZ) (λ_ _ _ _=>iE) (λ_ _ _ _=>(pv 0))) (cR (iq (gn yM (eK fS zZ jA fG (cL (pv 5) cH)) df (eY _)) (cR (iq (PW.pt (vJ (pr (pv 3)) (vH (gn (pU hu) (ie (CompSc.to (N:=[sJ,sF,sT,tN,tT,tV]) (osc:=cN mz) (vs:=[sO]) {}) zZ zZ (gF (pv 5)) (λ_ _ _ _=>nN (r4 (pr (dv kL hr.m zZ (cL (pv 0) cH))))) (λ_ _ _ _=>(pv 0))) (f7 cH) (eY _))))) (cX (dR re)) iA) (cX (dR (dv kR hr.m zZ (cL (pv 1) cH))))) iA) (cR (iq (gn Bf (l8 (ub hu) (ie (CompSc.to (N:=[sJ,sF,sT,tN,tT,tV]) (osc:=cN mz) (vs:=[sO]) {}) zZ zZ (gF (pv 5)) (λ_ _ _ _=>nN (r4 (pr (dv kL hr.m zZ (cL (pv 0) cH))))) (λ_ _ _ _=>(pv 0))) (f7 cH) (eY _)) (pv 3) (eY _)) (cX (dR re)) iA) (cX (dR (l8 vt (l8 (ub hu) (ie (CompSc.to (N:=[sJ,sF,sT,tN,tT,tV]) (osc:=cN mz) (vs:=["_law_pair"]) {}) zZ zZ (gF (CG k hr.m yo zZ (cL (pv 1) cH))) (λ_ _ _ _=>nN (gn Bf (dB (IxR.k (K:=K) jo eM zZ) (pv 0) df (λ_ _=>rfl)) df (eY _))) (λ_ _ _ _=>(pv 0))) (f7 cH) (eY _)) (pv 3) (eY _))))))))))))),?_];refine#[_,zZ,a,ns,zZ,hS,λm H1 g1 M=>?_];generalize Ak ns=ts at M;generalize(1+ns.getD 0 0%5).toNat=n at M;refine#[_,zZ,m,ts,n,zZ,M,hT.same g1,λtl aT Ls js H2 k2 T2 R pm up aU=>?_];have M2:=M.keeps k2;refine#[_,zZ,by show 0<=sizeLine;decide,λp0 aV=>?_];have g3:=cM aV (.lst []);have aA:cq H2 p0 (.lst []) p0=some (.lst (([]:Zs).map V.int)):=cw;have ae:=g3 _ _ aU;generalize cq H2 p0 (.lst [])=H3 at g3 aA ae|-;refine#[tl,p0,0,_,_,zZ,zZ,pV (P1 ae),pV (P1 aA),by decide,λqb aW=>?_];have qq:qb=true↔mR Ls:=by
  rw[aW,lW,<-LP];constructor
  .intro e;rw[e]at pm;exact EG.mp pm.symm.eq_nil
  .intro e;rw[e]at pm;exact pm.eq_nil
 have M3:=M2.same g3;have T3:=T2.same g3;refine#[_,zZ,m,ts,n,zZ,M3,T3,λv r H4 k4 T4 AB AA=>#[zZ,_,zZ,zZ,_,zZ,?_]];have e1:decide (v=.non)=qb:=by
  cases r with
  |none=>
   have AA:v=.non:=AA;rw[qq.mpr (HZ R AB),dW AA]
  | some r=>
   cases qb with
   |true=>exact nomatch AB.uniq (fM R (qq.mp zZ))
   |false=>
    refine fZ λz=>?_;subst z;obtain⟨_,_,_,e,_⟩:=AA;exact nomatch e
 refine jk (λc=>wC c (by rw[e1];simp)) (λ_=>?_);have M4:=M3.keeps k4;obtain⟨rs,hm,al,aX⟩:=M4.refs;refine#[_,zZ,_,zZ,m,_,zZ,zZ,P2 hm,by rw[cu,al];exact M.some1,λom aY=>?_];have ko:=cM aY (.tup (rs.map V.ref).reverse);have aB:cq H4 om (.tup (rs.map V.ref).reverse) om=some (.tup ((rs.reverse).map V.ref)):=by rw[cw,List.map_reverse]
 have MO:Mach (cq H4 om (.tup (rs.map V.ref).reverse)) om ts.reverse n:=by
  refine#[#[rs.reverse,aB,by rw[nI,nI,al],λi r' t' e1 e2=>?_],by rw[nI];exact M.some1,by rw[nI];exact M.few,M.n1,M.n5,λt' aZ=>M.each t' (mL.mp aZ)];have li:=(cK.mp e1).1;rw[nI]at li;rw[AF li]at e1;rw[AF (),<-al]at e2;exact ko _ _ (aX _ r' t' e1 e2)
 have ai:=ko _ _ (k4 _ _ (nz ae));have M5:=M4.same ko;have T5:=T4.same ko;generalize cq H4 om (.tup (rs.map V.ref).reverse)=H5 at ko aB MO ai M5 T5|-;refine#[om,ts.reverse,n,zZ,MO,T5,λa0 bg bk a2 H6 k6 T6 R2 a3 a4 aC=>#[_,zZ,?_]];have ej:a2=js:=by
  refine List.Perm.eq_of_pairwise (le:=(· <= ·)) (λx y _ _=>Int.le_antisymm) a4 up (a3.trans ?_);unfold sk;rw[OQ M MO R R2];exact pm.symm
 refine#[a0,tl,0,_,_,zZ,zZ,pV (P1 aC),pV (P1 (k6 _ _ (nz ai))),by decide,λb J=>#[_,zZ,?_]];rw[J.mpr (by rw[ej])];refine fW ?_;have M6:=M5.keeps k6;refine#[_,zZ,m,ts,n,zZ,M6,T6,λl as told bh ys H7 k7 T7 nl el ff od sub bl Lv nw ap bm=>?_];cases ff.uniq R.ff;cases od.uniq R.od;have la:=Lv.len;have bn:=R.few;rw[cu]at la;have M7:=M6.keeps k7;refine#[l,zZ,#[_,P1 el],i0 (xs:=as.map .ref) (λi zs d=>Keeps H7 d/\Tabs d/\∃bs:List Bool,zs=bs.map V.bl/\bs.length=i/\(bs.any (!·)=false↔mR (Ls.take i))) (by rw[cu,dA];lia) #[Keeps.refl _,T7,[],zZ,zZ,#[λ_ L hL=>by simp at hL,λ_=>rfl]] (λi zs d _ p=>?_) (λi v zs d hv p=>?_) (λzs H8 p tb a5=>?_)]
 .obtain⟨k8,_,bs,rfl,e,_⟩:=p;exact#[P1 (k8 _ _ (nz el)),by rw[cu];lia]
 .obtain⟨k8,T8,bs,rfl,lb,ok⟩:=p;rw[cV]at hv;obtain⟨lv,aD,rfl⟩:=eW.mp hv;have li:=(cK.mp aD).1;obtain⟨L,eL⟩:∃L,Ls[i]?=some L:=#[_,cA ()];have hL:=c8 eL;have ec:(Ls.map (·.c))[i]?=some L.c:=by rw[cV,eL];rfl
  obtain⟨bo,a6,lp,W⟩:=(Lv.is i lv L.c aD ec).lvw (sub _ (c8 ec));have am:=R.ok L hL;cases W.uniq am.w;refine#[hO,lG #[_,zZ,_,zZ,m,lv,ts,n,aT,L.c,_,L.wds,zZ,M7.keeps k8,R.ff,LvH.keeps a6 k8,lp,T8,λb H9 k9 T9 J=>#[k8.trans k9,T9,bs++[b],by simp,by simp[lb],?_]]];rw[<-am.p.tl,<-am.one]at J;rw[List.any_append,Bool.or_eq_false_iff,ok,yD,eL];constructor
  .rintro⟨h1,h2⟩ L' an
   rcases dh.mp an with h|h
   .exact h1 L' h
   .rw[cY.mp h];exact J.mp (by simpa using h2)
  .intro h;exact#[λL' an=>h L' (dh.mpr (.inl an)),by simpa using J.mpr (h L (List.mem_append.mpr (.inr (List.mem_singleton.mpr zZ))))]
 obtain⟨k8,T8,bs,rfl,lb,ok⟩:=p;rw[cu,la]at lb ok;rw[ik]at ok;have kt:=cM a5 (.lst (bs.map V.bl));have ag:cq H8 tb (.lst (bs.map V.bl)) tb=some (.lst (bs.map V.bl)):=cw;have M9:=(M7.keeps k8).same kt;have T9:=T8.same kt;generalize cq H8 tb (.lst (bs.map V.bl))=H9 at kt ag M9 T9|-;refine#[_,zZ,tb,zZ,#[_,P1 ag],i0 (xs:=bs.map V.bl) (λi zs d=>d=H9/\zs=[]) (by rw[cu,dA];lia) #[zZ,zZ] (λi zs d _ p=>?_) (λi v zs d hv p=>?_) (λzs d p e0 a7=>?_)]
 .obtain⟨rfl,rfl⟩:=p;exact#[P1 ag,g7 _]
 .obtain⟨rfl,rfl⟩:=p;rw[cV]at hv;obtain⟨b,eb,rfl⟩:=eW.mp hv;exact#[hO,_,zZ,_,_,_,_,zZ,.bl _,NP,_,zZ,fW #[zZ,zZ]]
 obtain⟨rfl,rfl⟩:=p;have kf:=cM a7 (.lst []);refine#[by show 0<=sizeLine;decide,λf0 a8=>?_];have kg:=cM a8 (.lst []);have ao:=(M9.same kf).same kg;have aE:=(T9.same kf).same kg;have af:=(kf.trans kg) _ _ ag;have aF:=kg _ _ (cw (H:=d) (a:=e0) (o:= .lst []));have aG:cq (cq d e0 (.lst [])) f0 (.lst []) f0=some (.lst []):=cw;generalize cq (cq d e0 (.lst [])) f0 (.lst [])=bp at ao aE af aF aG|-;refine#[e0,f0,0,_,_,zZ,zZ,pV (is:=[]) (P1 aF),pV (is:=[]) (P1 aG),by decide,λb J=>#[_,zZ,?_]];rw[J.mpr zZ];refine fW #[_,zZ,tb,_,zZ,.inl (P1 af),zZ,by rw[z5];exact rh.mpr λ_ _=>rfl,_,zZ,zZ,_,zZ,?_];have e2:(!qe (.bl false) (bs.map V.bl))=qb:=by
  rw[NT];refine kh.mpr ?_;rw[qq,<-ok];cases bs.any (!·)<;>simp
 refine jk (λc=>wC c (by show ¬(!decide (V.bl (!qe (.bl false) (bs.map V.bl))=V.bl qb))=true;rw[e2];simp)) (λ_=>?_);refine#[_,zZ,m,ts,n,400,zZ,ao,cQ _,λl ps ws aH aI Pi kn run told=>?_];obtain⟨hl,aJ,aK⟩:=id Pi;have n5:=M.n5;have inU:∀p∈ws,p.1∈eC n n:=λp O=>by
  obtain⟨r1,r2⟩:=run p O;rw[<-r2];exact mX (vx n) M.steps p.2 r1
 have few:ws.length<=4000:=by
  rw[<-cu (f:=(·.1)) (as:=ws)];refine dy (jf kn (U:=eC n n) λx hx=>?_) (zc M.n5);obtain⟨p,O,rfl⟩:=cT.mp hx;exact inU p O
 refine#[l,zZ,#[_,P1 hl],i0 (xs:=ps.map .ref) (λi ys d=>d=aH/\∃bs,ys=bs.map V.ref/\TupsAt aH bs ((ws.map (·.1)).take i)) (by rw[cu,aJ,dA];lia) #[zZ,[],zZ,zZ,λi b u e=>by simp at e] (λi ys d hi p=>?_) (λi v ys d hv p=>?_) (λys d p so a9=>?_)]
 .obtain⟨rfl,bs,rfl,Tb⟩:=p;exact#[P1 hl,by rw[cu,Tb.len,hG];exact Nat.min_le_left _ _]
 .obtain⟨rfl,bs,rfl,Tb⟩:=p;rw[cV]at hv;obtain⟨a1,ea,rfl⟩:=eW.mp hv;have li:=(cK.mp ea).1;obtain⟨r,er⟩:∃r,ws[i]?=some r:=#[_,cA ()];obtain⟨b,c',_,f1,f2,f3⟩:=aK i a1 r ea er;have z:=tu Tb f2;refine#[a1,_,zZ,P2 f1,zZ,_,_,zZ,_,_,zZ,zZ,Ey,lG #[_,zZ,zZ,bs++[b],by simp,?_]];rw[yD,cV,er];exact z
 obtain⟨rfl,Y,rfl,Tb⟩:=p;rw[cu,aJ,<-cu (f:=(·.1)) (as:=ws),ik]at Tb;have ks:=cM a9 (.lst (Y.map V.ref));have aa:cq d so (.lst (Y.map V.ref)) so=some (.lst (Y.map V.ref)):=cw;have ah:=Tb.same ks;have aq:=(ao.same aI).same ks;have ar:=(aE.same aI).same ks;generalize cq d so (.lst (Y.map V.ref))=ba at aa ah aq ar|-;have au:=ah.len;rw[cu]at au;have aL:∀u∈ws.map (·.1),u∈eC n n:=λu hu=>by
  obtain⟨p,O,rfl⟩:=cT.mp hu;exact inU p O
 have aj:(ws.map (·.1)).length<=4000:=by rw[cu];exact few
 refine#[_,zZ,so,_,zZ,.inl (P1 aa),_,_,zZ,zZ,_,zZ,jk (λc=>?_) (λc=>?_)]
 .have c:=gK c;have c:(400:Int)<((Y.map V.ref).length:Int):=c;rw[cu,au]at c;have fin:∀{d:Hp},Same ba d->Tabs d/\Mach d m ts n:=λg=>#[ar.same g,aq.same g];have mn:rj ts n 400:=#[ws,kn,run,()];refine#[_,zZ,_,zZ,jk (λc2=>?_) (λc2=>?_)]
  .have ql:=qq.mp c2;refine#[_,zZ,so,zZ,#[_,P1 aa],EV aa ah aL n5 aj λt D av aw c hc=>#[by show 0<=sizeLine;decide,λz hz=>?_]];have kc:=cM hc (.lst (t.map V.ref));have ab:=av.trans kc;have ec:cq D c (.lst (t.map V.ref)) c=some (.lst (t.map V.ref)):=cw;have Tc:=aw.same kc;generalize cq D c (.lst (t.map V.ref))=aM at hz ab ec Tc|-;have kz:=cM hz (.lst []);have le:IH n (ws.map (·.1))=[]:=wY.mpr λu hu=>by
    obtain⟨p,O,rfl⟩:=cT.mp hu;obtain⟨r1,r2⟩:=run p O;have y:=(CL M R ql r1).1;rw[<-Ae,r2]at y
    simp;exact y
   rw[le]at Tc;refine#[c,z,1,_,_,zZ,zZ,qr (kz _ _ ec) (Tc.same kz),qr (bs:=[]) (us:=[]) cw #[zZ,λi b u e=>by simp at e],by decide,λb J=>#[_,zZ,?_]];rw[J.mpr zZ];obtain⟨T,M⟩:=fin (ab.trans kz);exact fW #[_,zZ,m,ts,n,zZ,M,T,mn,λ_=>q _]
  .obtain⟨T,M⟩:=fin (Same.refl _);exact fW #[_,zZ,m,ts,n,zZ,M,T,mn,λ_=>q _]
 .have c: ¬(400:Int)<((Y.map V.ref).length:Int):=λz=>c (dW z);rw[cu,au]at c;have TT:=told ();obtain⟨bb,bq⟩:=HH M R AB TT;refine#[_,zZ,so,zZ,#[_,P1 aa],EV aa ah aL n5 aj λt D av aw c hc=>#[by show 0<=sizeLine;decide,λz hz=>?_]];have kc:=cM hc (.lst (t.map V.ref));have ab:=av.trans kc;have ec:cq D c (.lst (t.map V.ref)) c=some (.lst (t.map V.ref)):=cw;have Tc:=aw.same kc;generalize cq D c (.lst (t.map V.ref))=aM at hz ab ec Tc|-;have kz:=cM hz (.lst []);refine#[c,z,1,_,_,zZ,zZ,qr (kz _ _ ec) (Tc.same kz),qr (bs:=[]) (us:=[]) cw #[zZ,λi b u e=>by simp at e],by decide,λb J=>#[_,zZ,zZ,_,zZ,?_]];have eb:b=qb:=by
   refine kh.mpr ?_;rw[J,qq,<-bb];constructor
   .intro e p O;have e:=wY.mp (xx e) p.1 (cT.mpr #[p,O,zZ]);simp at e;exact e
   .intro h;refine dw _ (dw _ (wY.mpr λu hu=>?_));obtain⟨p,O,rfl⟩:=cT.mp hu;simp;exact h p O
  refine jk (λc=>wC c (by show ¬(!decide (V.bl b=V.bl qb))=true;rw[eb];simp)) (λ_=>?_);have aN:=aq.same (ab.trans kz);have aO:=ar.same (ab.trans kz);generalize cq aM z (.lst [])=br at aN aO|-;refine#[_,zZ,m,ts,n,400,zZ,aN,cQ _,aO,λl2 vs ax bt bu RA TV bv=>?_,λvs d dx _ _ _ kn run lt=>wC (DQ TT kn run) ()];obtain⟨ay,aP,ak,I⟩:=RA;rw[cu]at ak;refine#[l2,zZ,#[_,P1 aP],i0 (xs:=ay.map .ref) (λi ys d=>d=ax/\∃t prs,ys=t.map V.ref/\t.length<=i/\TupsAt ax t prs/\(prs=[]↔ ∀(j:Nat) (a:Ad) (b c:Nat),j<i->ay[j]?=some a->ax a=some (.tup [nv b,nv c])->c=1)) (by rw[cu,ak,dA];lia) #[zZ,[],[],zZ,cQ _,#[zZ,λi b u e=>by simp at e],#[λ_ j a b c hj=>wC hj (Nat.not_lt_zero _),λ_=>rfl]] (λi ys d _ p=>?_) (λi v ys d hv p=>?_) (λys d p c2 bc=>?_)]
  .obtain⟨rfl,t,prs,rfl,e,_⟩:=p;exact#[P1 aP,by rw[cu];exact e]
  .obtain⟨rfl,t,prs,rfl,e,Tc,ok⟩:=p;rw[cV]at hv;obtain⟨a1,ea,rfl⟩:=eW.mp hv;have li:=(cK.mp ea).1;obtain⟨u,eu⟩:∃u,(vs.map (·.1))[i]?=some u:=#[_,cA (by rw[cu];lia)];obtain⟨b,c,ha,_⟩:=I i a1 u ea eu;refine#[hO,_,zZ,a1,_,_,_,zZ,zZ,P2 ha,zZ,zZ,_,zZ,jk (λc1=>?_) (λc1=>?_)]
   .have c1: ¬nv c=V.int 1:=by simpa using c1
    refine#[_,zZ,zZ,t++[a1],prs++[[b,c]],by simp,by simp;exact e,tu Tc ha,#[λz=>by simp at z,λh=>wC (h i a1 b c () ea ha) λz=>c1 (by rw[z];rfl)]]
   .have c1:nv c=V.int 1:=by simpa using c1
    have c1:(c:Int)=1:=by injection c1
    refine#[zZ,t,prs,zZ,(),Tc,#[λz j a b' c' hj ej az=>?_,λh=>ok.mpr λj a b' c' hj=>h j a b' c' ()]];by_cases bd:j=i
    .subst bd;rw[ea]at ej;cases ej;rw[ha]at az;injection az with G
     injection G with G
     injection G with _ G
     injection G with G _
     injection G with G
     lia
    .exact ok.mp z j a b' c' () ej az
  obtain⟨rfl,t,prs,rfl,_,Tc,ok⟩:=p;have k2:=cM bc (.lst (t.map V.ref));refine#[by show 0<=sizeLine;decide,λz2 be=>?_];have aQ:=cM be (.lst []);refine#[c2,z2,1,_,_,zZ,zZ,qr (aQ _ _ cw) ((Tc.same k2).same aQ),qr (bs:=[]) (us:=[]) cw #[zZ,λi b u e=>by simp at e],by decide,λb J=>#[_,zZ,zZ,?_]];have bf:b=qb:=by
   refine kh.mpr ?_;rw[J,qq];constructor
   .intro z;have z:=ok.mp (xx z);refine(HH M R AB TV).2 λp O=>?_;obtain⟨j,ej⟩:=lU O;have lj:=(cK.mp ej).1;obtain⟨a1,ea⟩:∃a,ay[j]?=some a:=#[_,cA ()];obtain⟨b,c,ha,Rg⟩:=I j a1 p.1 ea (by rw[cV,ej];rfl);cases z j a1 b c (by rw[cu];lia) ea ha;exact#[b,Rg]
   .intro ql;refine dw _ (dw _ (ok.mpr λj a1 b c hj ea ha=>?_));rw[cu]at hj;obtain⟨p,ep⟩:∃p,vs[j]?=some p:=#[_,cA ()];obtain⟨b',c',aR,Rg⟩:=I j a1 p.1 ea (by rw[cV,ep];rfl);obtain⟨r1,r2⟩:=TV.run p (c8 ep);rw[<-r2,Ae]at Rg;have y:=(CL M R ql r1).2 _ _ Rg;rw[ha]at aR;injection aR with G
    injection G with G
    injection G with _ G
    injection G with G _
    injection G with G
    lia
  show Q (V.bl (decide (V.bl b=V.bl qb))) _;rw[bf,dW zZ];exact q _
end
theorem yq{b:Type}{P:List b->Prop}(h:∀a,P [a]):∀c:List b,c.length=1->P c
 | [a],_=>h a
theorem nZ{c:Type}{P:List c->Prop}(h:∀a b,P [a,b]):∀d:List c,d.length=2->P d
 | [a,b],_=>h a b
theorem vl{d:Type}{P:List d->Prop}(h:∀a b c,P [a,b,c]):∀e:List d,e.length=3->P e
 | [a,b,c],_=>h a b c
theorem AD{d:Type}{P:List d->Prop}(h:∀a b c a3,P [a,b,c,a3]):∀e:List d,e.length=4->P e
 | [a,b,c,a3],_=>h a b c a3
theorem EJ{d:Type}{P:List d->Prop}(h:∀a b c a3 a4,P [a,b,c,a3,a4]):∀e:List d,e.length=5->P e
 | [a,b,c,a3,a4],_=>h a b c a3 a4
abbrev Rw(K:P3)(x:Str)(st:Stmt)(f:Ad)(fd:Fd):Prop:=PySem.W.nsIn K mainGlobals x=some (some (.ref f))/\Fun K x x st f fd
abbrev Rx(K:P3)(x:Str)(st:Stmt):Prop:=∃f fd,Rw K x st f fd
def fB{K:P3}{mg:SV}{x:Str}{k:Nat}{b:Ss}{g:Sp}{st:Stmt}{h:Heap}(P:Pg)(w:World)(base:Heap)(X:K.In h)(G:h.Ns mainGlobals mg)(r:Rx K x st)(o:∀{f fd},Fun K x x st f fd->FnOk P w K mg base da k f fd b g)(i:∀(kV c j:Vl) (l:Option Ad) (d m:Vl) (e:Vs),e.length=b.length->bindArgs (PySem.W.fnOf x x (gL st) (fg st) (cN st) .none kV c j l d m) #[e,[]]=pure (b.zip e):=by first|exact λ_ _ _ _ _ _=>yq λ_=>rfl|exact λ_ _ _ _ _ _=>nZ λ_ _=>rfl|exact λ_ _ _ _ _ _=>vl λ_ _ _=>rfl|exact λ_ _ _ _ _ _=>AD λ_ _ _ _=>rfl|exact λ_ _ _ _ _ _=>EJ λ_ _ _ _ _=>rfl):dj P w K mg base x k b g:=let⟨f,fd,a,F⟩:=r;#[f,fd,o F,PySem.W.mg_of X G a,F.kp,F.binds i]
abbrev vO(K:P3)(C:Ad)(m q:Str)(st:Stmt):Prop:=∃f fd,C0 K C m q st f fd
def F5{K:P3}{C:Ad}{x y:Str}{k:Nat}{c:Ss}{h:Sp}{st:Stmt}(P:Pg)(w:World)(mg:SV)(base:Heap)(r:vO K C x y st)(o:∀{f fd},Fun K x y st f fd->FnOk P w K mg base da k f fd c h)(i:∀(kV d j:Vl) (l:Option Ad) (e m:Vl) (g:Vs),g.length=c.length->bindArgs (PySem.W.fnOf x y (gL st) (fg st) (cN st) .none kV d j l e m) #[g,[]]=pure (c.zip g):=by first|exact λ_ _ _ _ _ _=>yq λ_=>rfl|exact λ_ _ _ _ _ _=>nZ λ_ _=>rfl|exact λ_ _ _ _ _ _=>vl λ_ _ _=>rfl|exact λ_ _ _ _ _ _=>AD λ_ _ _ _=>rfl|exact λ_ _ _ _ _ _=>EJ λ_ _ _ _ _=>rfl):zI P w K mg base C x k c h:=let⟨f,fd,a,b,F⟩:=r;#[f,fd,o F,#[a,b,F.kp],F.binds i]
def Fb{K:P3}{mg:SV}{C:Ad}{x z:Str}{k:Nat}{c:Ss}{i:Sp}{st:Stmt}{h:Heap}(P:Pg)(w:World)(base:Heap)(X:K.In h)(G:h.Ns mainGlobals mg)(n:PySem.W.nsIn K mainGlobals z=some (some (.ref C)))(m:PySem.W.makesIn K C=true)(j:PySem.W.keepIn K (.ref C)=true)(r:vO K C tS x st)(o:∀{f fd},Fun K tS x st f fd->FnOk P w K mg base da k f fd c i)(l:∀(kV d p:Vl) (q:Option Ad) (e s:Vl) (g:Vs),g.length=c.length->bindArgs (PySem.W.fnOf tS x (gL st) (fg st) (cN st) .none kV d p q e s) #[g,[]]=pure (c.zip g):=by first|exact λ_ _ _ _ _ _=>yq λ_=>rfl|exact λ_ _ _ _ _ _=>nZ λ_ _=>rfl|exact λ_ _ _ _ _ _=>vl λ_ _ _=>rfl|exact λ_ _ _ _ _ _=>AD λ_ _ _ _=>rfl|exact λ_ _ _ _ _ _=>EJ λ_ _ _ _ _=>rfl):z7 P w K mg base z C k c i:=let⟨f,fd,a,b,F⟩:=r;#[f,fd,o F,#[m,a,b,j],PySem.W.mg_of X G n,F.binds l]
set_option maxHeartbeats 0 in
def e0s{l:W.OpenLaw}{w:World}{K:P3}{h:Heap}{mg:SV}{fa f3 f4 f9 J L M N O bn Q u x y D p q r:Ad}{bo:Fd}(X:K.In h)(G:h.Ns mainGlobals mg)(bp:mg "law"=some (.ref fa)){bq br bs aO bt aP aQ ab aR ae aS af aT ag aU ah:Option Ad} {bu bv bw aV aW aX aY aZ:Array (Option Vl)} {bx bz bA bB a0 bC bD a1 a2 a5 T a6 bE a7 a8 ba bb bc ai aj ak al bd am ao ap aq be ar as au z av bf aw ax ay az bg aA aB aC A aD:Vl} {bh:Obj} {bF:Nat} {aE:Obj} {bi:Nat} {aF:Tok} {aG:Obj} {bj:Nat} {aH:Tok} {aI:Obj} {bk:Nat} {aJ:Tok}(r2:Rx K "led" sm)(a3:W.nsIn K mainGlobals tK=some (some (.ref f3))) (l3:K.lookup f3=some #[bx,bq,.func (W.fnOf tK tK (gL vg) (fg vg) (cN vg) .none bz bA bB br a0 bC),bu]) (c3:W.codeIn K a0 tK=true) (k3:W.keepIn K (.ref f3)=true)(a4:W.nsIn K mainGlobals tE=some (some (.ref f4))) (l4:K.lookup f4=some #[bD,bs,.func (W.fnOf tE tE (gL oY) (fg oY) (cN oY) (.ref Q) a1 a2 a5 aO T a6),bv]) (c4:W.codeIn K T tE=true) (k4:W.keepIn K (.ref f4)=true)(lD4:K.lookup Q=some bh) (qD4:bh.data=.seq ([.none]:Vs).toArray bF)(r5:Rx K "place_of" Dv)(r6:Rx K "in_order" Ed)(r7:Rx K "lies_in" AC)(r8:Rx K uG zP)(a9:W.nsIn K mainGlobals sS=some (some (.ref f9))) (l9:K.lookup f9=some #[bE,bt,.func (W.fnOf sS sS (gL oj) (fg oj) (cN oj) .none a7 a8 ba aP (.ref D) bb),bw]) (c9:W.codeIn K (.ref D) sS=true) (k9:W.keepIn K (.ref f9)=true)(hd9:W.codeHdIn K D 101=true)(bG:Rx K uJ ED)(bH:Rx K tO zC)(bJ:Rx K "rest_of" DX)(bK:Rx K "pictures" Cj)(bL:Rx K "family" vf)(bM:Rx K vD AR)(bN:Rx K sM xw)(bO:Rx K uQ CM)(bP:Rx K vE yF)(bQ:Rx K uN BP)(bR:Rx K "is_led_to" zQ)(bS:Rx K uL wX)(bT:Rx K uW yH)(bU:Rx K "carry" AH)(bV:Rx K "tile" DV)(bW:Rx K uK yw)(bX:Rx K tY Bh)(bY:Rx K uH Dp)(a28:W.nsIn K mainGlobals sU=some (some (.ref J))) (l28:K.lookup J=some #[bc,aQ,.func (W.fnOf sU sU (gL oA) (fg oA) (cN oA) .none ai aj ak ab (.ref p) al),aV]) (c28:W.codeIn K (.ref p) sU=true) (k28:W.keepIn K (.ref J)=true)(hd28:W.codeHdIn K p 212=true)(bZ:Rx K "rests" C4)(a30:W.nsIn K mainGlobals sY=some (some (.ref L))) (l30:K.lookup L=some #[bd,aR,.func (W.fnOf sY sY (gL nG) (fg nG) (cN nG) (.ref u) am ao ap ae (.ref q) aq),aW]) (c30:W.codeIn K (.ref q) sY=true) (k30:W.keepIn K (.ref L)=true)(lD30:K.lookup u=some aE) (qD30:aE.data=.seq ([.int 400 aF]:Vs).toArray bi)(hd30:W.codeHdIn K q 377=true)(a31:W.nsIn K mainGlobals sZ=some (some (.ref M))) (l31:K.lookup M=some #[be,aS,.func (W.fnOf sZ sZ (gL nQ) (fg nQ) (cN nQ) (.ref x) ar as au af z av),aX]) (c31:W.codeIn K z sZ=true) (k31:W.keepIn K (.ref M)=true)(lD31:K.lookup x=some aG) (qD31:aG.data=.seq ([.int 400 aH]:Vs).toArray bj)(b0:Rx K uX Ez)(a33:W.nsIn K mainGlobals tJ=some (some (.ref N))) (l33:K.lookup N=some #[bf,aT,.func (W.fnOf tJ tJ (gL nj) (fg nj) (cN nj) .none aw ax ay ag (.ref r) az),aY]) (c33:W.codeIn K (.ref r) tJ=true) (k33:W.keepIn K (.ref N)=true)(hd33:W.codeHdIn K r 397=true)(b1:Rx K "about" yX)(a39:W.nsIn K mainGlobals tG=some (some (.ref O))) (l39:K.lookup O=some #[bg,aU,.func (W.fnOf tG tG (gL nO) (fg nO) (cN nO) (.ref y) aA aB aC ah A aD),aZ]) (c39:W.codeIn K A tG=true) (k39:W.keepIn K (.ref O)=true)(lD39:K.lookup y=some aI) (qD39:aI.data=.seq ([.int 400 aJ]:Vs).toArray bk)(b2:Rx K uT DK)(b3:Rx K "_law_turn" AN)(b4:Rx K uV Aw)(b5:Rx K uM zH)(b6:Rx K "_law_all" El)(b7:Rx K vF EA)(b8:Rx K uY BS)(b9:Rx K uZ zw)(bl:Rw K "law" mz bn bo){kY qQ:Ad} (n_TooMany:W.nsIn K mainGlobals "TooMany"=some (some (.ref kY))) (n_HallError:W.nsIn K mainGlobals "HallError"=some (some (.ref qQ))){jT:Ad} (n_LevelParts:W.nsIn K mainGlobals "LevelParts"=some (some (.ref jT))) (P':OwnC K jT [sA,sL,sM,sV,tQ]) (mk_LevelParts:W.makesIn K jT=true) (kp_LevelParts:W.keepIn K (.ref jT)=true){rO:Ad} (n_Row:W.nsIn K mainGlobals "Row"=some (some (.ref rO))) (P0:OwnC K rO [sC,vC]) (mk_Row:W.makesIn K rO=true) (kp_Row:W.keepIn K (.ref rO)=true)(qJ:vO K jT tS "LevelParts.__init__" yP)(kZ:vO K jT "is_turning" "LevelParts.is_turning" Dz)(rH:vO K rO tS "Row.__init__" y9)(rW:vO K rO "parts" "Row.parts" DZ){fI:Ad} {ca cb:Option Ad} {cc:Array (Option Vl)} {cd ce cf cg bm ch:Vl} (lI:K.lookup fI=some #[cd,ca,.func (W.fnOf tS vB (gL um) (fg um) (cN um) .none ce cf cg cb bm ch),cc]) (cI:W.codeIn K bm vB=true) (kI:W.keepIn K (.ref fI)=true)(eI:MkE K kY qQ fI) (bI:BaseI K qQ) (sI:SetE K kY sK)(gE:GetE K kY sK)(aK:W.nsIn K mainGlobals "len"=some none) (E:W.nsIn K mainGlobals "range"=some none) (H:W.nsIn K mainGlobals "tuple"=some none) (U:W.nsIn K mainGlobals "list"=some none) (B:W.nsIn K mainGlobals "sorted"=some none) (aL:W.nsIn K mainGlobals "set"=some none) (aM:W.nsIn K mainGlobals "all"=some none) (aN:W.nsIn K mainGlobals "any"=some none) (o:W.nsIn K mainGlobals "enumerate"=some none) (m:W.nsIn K mainGlobals "isinstance"=some none) (Y:W.nsIn K mainGlobals "bool"=some none):
  ∃fd:Fd,(∀(s:Sh) (v:Vl),BindsTo s fd #[[v],[]] [(sJ,v)])/\∀base:Heap,K.In base->base.Ns mainGlobals mg->m9 mg base->FnOk l.prog w K mg base da 24 fa fd [sJ] (jj K):=by
 have e:=bp.symm.trans (kS X G bl.1);cases e;have F3:=b6k (st:=vg) l3 c3 k3;have F4:DefAt K tE oY f4 (W.fnOf tE tE (gL oY) (fg oY) (cN oY) (.ref Q) a1 a2 a5 aO T a6) (.ref Q) T:=#[c4,#[_,_,_,_,_,zZ],_,_,_,l4];have F9:DefAt K sS oj f9 (W.fnOf sS sS (gL oj) (fg oj) (cN oj) .none a7 a8 ba aP (.ref D) bb) .none (.ref D):=#[c9,#[_,_,_,_,_,zZ],_,_,_,l9];have ci:DefAt K sU oA J (W.fnOf sU sU (gL oA) (fg oA) (cN oA) .none ai aj ak ab (.ref p) al) .none (.ref p):=#[c28,#[_,_,_,_,_,zZ],_,_,_,l28];have cj:DefAt K sY nG L (W.fnOf sY sY (gL nG) (fg nG) (cN nG) (.ref u) am ao ap ae (.ref q) aq) (.ref u) (.ref q):=#[c30,#[_,_,_,_,_,zZ],_,_,_,l30];have ck:DefAt K sZ nQ M (W.fnOf sZ sZ (gL nQ) (fg nQ) (cN nQ) (.ref x) ar as au af z av) (.ref x) z:=#[c31,#[_,_,_,_,_,zZ],_,_,_,l31];have cl:DefAt K tJ nj N (W.fnOf tJ tJ (gL nj) (fg nj) (cN nj) .none aw ax ay ag (.ref r) az) .none (.ref r):=#[c33,#[_,_,_,_,_,zZ],_,_,_,l33];have cm:DefAt K tG nO O (W.fnOf tG tG (gL nO) (fg nO) (cN nO) (.ref y) aA aB aC ah A aD) (.ref y) A:=#[c39,#[_,_,_,_,_,zZ],_,_,_,l39];have k:=nh X G aK;have C:=nh X G E;have jD:=nh X G H;have qD:=nh X G U;have jN:=nh X G B;have uB:=nh X G aL;have uC:=nh X G aM;have rN:=nh X G aN;have jY:=nh X G o;have qI:=nh X G m;have rY:=nh X G Y;have qS:=kS X G n_TooMany;have qM:=kS X G n_HallError;have rL:=bl.2;obtain⟨_,_,kV,dc,pm,an,cv,ct,_,rfl,_,_⟩:=id rL.ex;refine#[W.fnOf "law" "law" (gL mz) (fg mz) (cN mz) .none kV dc pm an cv ct,λs v=> .of_eq zZ,λbase KB _ aa=>?_];have rD:=Bq KB hd9;have rJ:=Bq KB hd28;have rS:=Bq KB hd30;have rT:=Bq KB hd33;have jR:=fB l.prog w base X G b2 λF=>Kx F k;have qL:=fB l.prog w base X G b3 λF=>JF F C jD qD;have kQ:=fB l.prog w base X G b4 λF=>MT F jR qL C jD;have rM:=fB l.prog w base X G r2 λF=>Ph F;have qU:=fB l.prog w base X G r5 λF=>JV F k;have qW:=fB l.prog w base X G r6 λF=>JZ F qU jN;have jF:=fB l.prog w base X G r8 λF=>Mn F rM jD jN uB;have FI:=b6k (st:=um) lI cI kI;have rB:BH l.prog w K mg base "TooMany" _ _ _ kY:=#[_,_,_,eI,Ny (P:=l.prog) (w:=w) (mg:=mg) (base:=base) FI eI bI sI qM,FI.binds (ps:=[sW,sK]) λ_ _ _ _ _ _=>nZ (λ_ _=>rfl),qS];have jP:Ev l.prog w K mg base tK _ _ _:=#[_,_,NH (P:=l.prog) (w:=w) (base:=base) F3 rB k,kS X G a3,k3,F3.binds (ps:=["things",sK]) λ_ _ _ _ _ _=>nZ (λ_ _=>rfl)];have g:=MS (P:=l.prog) (w:=w) (base:=base) F4 jP C;have jS:CalleeDX l.prog w K mg base tE _ _ _ []:=#[_,_,[],g,kS X G a4,k4,(λs i KX j=>by have t:i.length=4:=(by simpa using j);clear j;revert i;exact AD (λ_ _ _ _=>BindsTo.of_defaults zZ (KX _ _ lD4) qD4 zZ zZ)),.nil];have a:CalleeDX l.prog w K mg base tE _ _ _ [.non]:=#[_,_,[.none],g,kS X G a4,k4,(λs i KX j=>by have t:i.length=3:=(by simpa using j);clear j;revert i;exact vl (λ_ _ _=>BindsTo.of_defaults zZ (KX _ _ lD4) qD4 zZ zZ)),.cons zZ .nil];have jL:dj l.prog w K mg base sS _ _ _:=#[_,_,Ov (P:=l.prog) (w:=w) (base:=base) F9 rD aa C6 jF (a.calm<|Dx) k,kS X G a9,k9,.all (nZ (λ_ _=>rfl))];have jH:=fB l.prog w base X G bG λF=>Po F jD C;have jC:=fB l.prog w base X G bH λF=>Oc F jD;have rC:=fB l.prog w base X G bJ λF=>Nr F jH jC k;have qV:=fB l.prog w base X G bK λF=>ML F jH jL k qD;have kX:=fB l.prog w base X G bL λF=>Me F qV qW k C;have kM:=fB l.prog w base X G r7 λF=>Mm F uC;have qF:=fB l.prog w base X G bM λF=>PN F kM rN;have rP:=fB l.prog w base X G bN λF=>JI F kX kM qF;have kK:=fB l.prog w base X G bO λF=>NZ F kX jL k;have qG:=fB l.prog w base X G bP λF=>Kv F;have kJ:=fB l.prog w base X G bQ λF=>JD F qG;have qN:=fB l.prog w base X G bR λF=>LZ F rN;have kF:=fB l.prog w base X G bS λF=>Ju F qN;have jO:=fB l.prog w base X G bT λF=>Ly F kK kJ kF rP;have rQ:=fB l.prog w base X G bU λF=>Nf F rM jD;have rX:=fB l.prog w base X G bV λF=>KO F jF;have jI:=fB l.prog w base X G bW λF=>MU F rX k C;have jE:=fB l.prog w base X G bX λF=>Mr F jF jI jD;have jW:=fB l.prog w base X G bY λF=>Jk F jE k C;have jQ:dj l.prog w K mg base sU _ _ _:=#[_,_,Mx (P:=l.prog) (w:=w) (base:=base) ci rJ aa Ec jW jH jC (a.calm<|Dx) k jN,kS X G a28,k28,.all (nZ (λ_ _=>rfl))];have qR:=fB l.prog w base X G bZ λF=>JC F jQ jH k;have qH:=Fb l.prog w base X G n_LevelParts mk_LevelParts kp_LevelParts qJ λF=>KU F P' jQ jI jE jY C k;have jM:=F5 l.prog w mg base kZ λF=>Ob F P' k;have uD:=Fb l.prog w base X G n_Row mk_Row kp_Row rH λF=>LS F P0 qH jO jH k;have qP:=F5 l.prog w mg base rW λF=>LF F P' P0 jM jY k;have c:=Nm (P:=l.prog) (w:=w) (base:=base) cj rS aa Dw jH jC (jS.imp<|MF) k qD;have jZ:CalleeDX l.prog w K mg base sY _ _ _ []:=#[_,_,[],c,kS X G a30,k30,(λs i KX j=>by have t:i.length=2:=(by simpa using j);clear j;revert i;exact nZ (λ_ _=>BindsTo.of_defaults zZ (KX _ _ lD30) qD30 zZ zZ)),.nil];have I:CalleeDX l.prog w K mg base sY _ _ _ [.int 400]:=#[_,_,[.int 400 aF],c,kS X G a30,k30,(λs i KX j=>by have t:i.length=1:=(by simpa using j);clear j;revert i;exact yq (λ_=>BindsTo.of_defaults zZ (KX _ _ lD30) qD30 zZ zZ)),.cons #[_,zZ] .nil];have d:=OB (P:=l.prog) (w:=w) (base:=base) ck rC jZ;have uE:CalleeDX l.prog w K mg base sZ _ _ _ []:=#[_,_,[],d,kS X G a31,k31,(λs i KX j=>by have t:i.length=2:=(by simpa using j);clear j;revert i;exact nZ (λ_ _=>BindsTo.of_defaults zZ (KX _ _ lD31) qD31 zZ zZ)),.nil];have b:CalleeDX l.prog w K mg base sZ _ _ _ [.int 400]:=#[_,_,[.int 400 aH],d,kS X G a31,k31,(λs i KX j=>by have t:i.length=1:=(by simpa using j);clear j;revert i;exact yq (λ_=>BindsTo.of_defaults zZ (KX _ _ lD31) qD31 zZ zZ)),.cons #[_,zZ] .nil];have kP:=fB l.prog w base X G b0 λF=>NL F jH jE k C;have qO:dj l.prog w K mg base tJ _ _ _:=#[_,_,J1 (P:=l.prog) (w:=w) (base:=base) cl rT aa BI rQ jC (a.calm<|Dx) k,kS X G a33,k33,.all (vl (λ_ _ _=>rfl))];have rR:=fB l.prog w base X G b1 λF=>K3 F jO qR kP jF qO;have f:=Mu (P:=l.prog) (w:=w) (base:=base) cm jZ;have uF:CalleeDX l.prog w K mg base tG _ _ _ []:=#[_,_,[],f,kS X G a39,k39,(λs i KX j=>by have t:i.length=3:=(by simpa using j);clear j;revert i;exact vl (λ_ _ _=>BindsTo.of_defaults zZ (KX _ _ lD39) qD39 zZ zZ)),.nil];have n:CalleeDX l.prog w K mg base tG _ _ _ [.int 400]:=#[_,_,[.int 400 aJ],f,kS X G a39,k39,(λs i KX j=>by have t:i.length=2:=(by simpa using j);clear j;revert i;exact nZ (λ_ _=>BindsTo.of_defaults zZ (KX _ _ lD39) qD39 zZ zZ)),.cons #[_,zZ] .nil];have jJ:=fB l.prog w base X G b5 λF=>KS F jD;have qX:=fB l.prog w base X G b6 λF=>Li F jJ jD C k;have kL:=fB l.prog w base X G b7 λF=>OD F jJ C k;have kR:=fB l.prog w base X G b8 λF=>OA F jO b n qS eI.cls gE C;have kG:=fB l.prog w base X G b9 λF=>Ka F P' P0 uD qP jN;exact Ot (P:=l.prog) (w:=w) (base:=base) rL kQ kG rR jO qR qX kL kR b qI rY k
def d3t:As:=[101,212,397,377]
def walk{l:PySem.W.OpenLaw}{q:Pg}{b:Ss}{j:SV->Heap->Prop}{g:World->Heap->Prop}{d:DefRec}{K:Params->P3}(m:l.most=some 63)(i:d.params.defaults=[])(o:∀(w:World) (h:Heap),g w h->(K w.params).In h) (hT:∀w:World,∀t∈d3t,(K w.params).lookup t=none/\((∃y c,PySem.W.tabIn (K w.params) y=some (c,t)/\∃e,(recsOf q).find? (λr=>r.name==y)=some e)\/((∃c,PySem.W.codeHdIn (K w.params) c t=true)/\∀h,g w h->h.get? t=some (PySem.W.tabObj #v[]))))(F:∀(w:World) (mg:SV) (fa:Ad) (h:Heap),(K w.params).In h->h.Ns mainGlobals mg->mg d.name=some (.ref fa)->
   ∃fd:Fd,(∀(s:Sh) (u:Vl),BindsTo s fd #[[u],[]] [(sJ,u)])/\∀base:Heap,(K w.params).In base->base.Ns mainGlobals mg->m9 mg base->FnOk l.prog w (K w.params) mg base da 24 fa fd [sJ] (jj (K w.params))):
  PySem.W.WalkO q b j g l.row.toRowW d [] (λf p=>PySem.call f p):=
 L2.c8d (n:=63) (k:=24) (x:=sJ) (tabs:=d3t) (sp:=λw=>jj (K w.params)) m (by decide) i #[zZ,by decide,by decide] o hT F λw H a v z ht A=>#[a,v,zZ,A,z,(λq B=> .inl (ht _ ((show dM.map (·.2.2)=d3t from rfl)▸List.mem_map_of_mem B))),λ_=>rfl]
end My
namespace PySem.W.Fast
def tw11916820977274189662:=0
theorem te11916820977274189662 : True := ⟨⟩
def tw12177691464102493279:=0
def tw13824197998050818256:=0
def tw7525964714272713984:=0
def tw8165441326393764659:=0
def tw10874836301104035873:=0
def tw4959498620067128277:=0
def tw14775739477397179963:=0
def tw18211714295717441918:=0
def tw13011313982546442748:=0
def tw4019099459423834557:=0
def tw10378429958948710880:=0
def tw8056902172161969709:=0
def tw4478271488625462469:=0
def tw9638814965106724769:=0
def tw17699599974501182690:=0
def tw14932678580165348618:=0
def tw6883117337761085058:=0
def tw3006044562795580211:=0
def tw16579512267192080474:=0
def tw6850099507637812455:=0
def tw16053689363235646264:=0
def tw6908632766818332300:=0
def tw7903044764591399919:=0
def tw14954385145388852590:=0
def tw14190378408070197727:=0
def tw17312508586364412428:=0
def tw13943417606745703055:=0
def tw16921520850889052548:=0
def tw1244864260492018090:=0
def tw2415278407837230354:=0
def tw9359968003129274718:=0
def tw18251655244556918598:=0
def tw18013978638434628835:=0
def tw10273853580043676072:=0
def tw13579173307121304023:=0
def tw4622831329363332757:=0
def tw13812304846258037601:=0
def tw17976160351614405989:=0
def tw18192438980623257058:=0
def tw5093973323462693741:=0
def tw7601813841742598678:=0
def tw3495963260635962382:=0
def tw2546795553112864798:=0
def tw10078893965648020909:=0
def tw18340120168021840540:=0
def tw14223231335726093357:=0
def tw1713495453760026291:=0
def tw17211082947998265242:=0
def tw12248038126234309039:=0
def tw6055019933073007008:=0
def tw13446176029042501356:=0
def tw1246832363095348541:=0
def tw9267833902587429777:=0
def tw4863693549935174763:=0
def tw6911674322681897715:=0
def tw14449812727107396518:=0
def tw16394863985769994396:=0
def tw6376609424671254084:=0
def tw16926881510518621534:=0
def tw6538672614601495394:=0
def tw1367872873572111105:=0
def tw6018516246080250090:=0
def tw7988640011133930047:=0
def tw12566012299113580690:=0
def tw12756658957821843765:=0
def tw16391953276067655989:=0
def tw15159075865273490138:=0
def tw2860193973537986190:=0
def tw10591211817670868825:=0
def tw14775351470504948731:=0
def tw14838715349074135969:=0
def tw3749390065440986155:=0
def tw4544824278494468621:=0
def tw13908137812356900605:=0
def tw18306782996038525038:=0
def tw5950836149182569460:=0
def tw3806678186441563274:=0
def tw17679818519407859610:=0
def tw5712081322276834101:=0
def tw14142138602440684873:=0
def tw1597585930767074778:=0
def tw10489587773327086670:=0
def tw8281046914914641223:=0
def tw6484804805850162033:=0
def tw16470557164497912459:=0
def tw16344048580911324676:=0
def tw7759915827333194501:=0
def tw758305056793328353:=0
def tw5175957672736102322:=0
def tw9019162049120827283:=0
def tw1847562885233911598:=0
def tw17412158736112112885:=0
def tw10072249198604225504:=0
def tw11182278310137412234:=0
def tw11721879926845514170:=0
def tw684786310247989644:=0
def tw11672098027867199740:=0
def tw11059735106813132451:=0
def tw15780368880327197847:=0
def tw16719025199588570271:=0
def tw12782880473808486079:=0
def tw16455866536806526490:=0
def tw11039942703219781874:=0
def tw8262711070745898904:=0
def tw15096165525232532312:=0
def tw2898402825261196875:=0
def tw17956179044642962478:=0
def tw10420403115770792763:=0
def tw6592447162526486969:=0
def tw905136965483820533:=0
def tw13032939089291587999:=0
def tw12329466844624439301:=0
def tw16379844158048660664:=0
def tw16258265867197849854:=0
def tw7008102114584608372:=0
def tw5513856069993097498:=0
def tw14915006665076034298:=0
def tw16677028807801209398:=0
def tw11096642299263334589:=0
def tw15003296848987125523:=0
def tw8593728867304831872:=0
def tw12277367840814938450:=0
def tw9950932502763697653:=0
def tw11234438720309671054:=0
def tw9455175769749097518:=0
def tw14399419384400681707:=0
def tw1314987576704226428:=0
def tw2642667396828467676:=0
def tw5900550617629289385:=0
def tw12800802367379251938:=0
def tw8183753627203302201:=0
def tw7601644481870933487:=0
def tw14142658905053169470:=0
def tw18073038792115116715:=0
def tw17393291912726755702:=0
def tw9529025964984228848:=0
def tw12236680749086492796:=0
def tw1245450830231939440:=0
def tw568927987929371208:=0
def tw6695375474610776340:=0
def tw2970958690222101021:=0
def tw8324847260899423458:=0
def tw2736726771625085285:=0
def tw2741550614464912111:=0
def tw492583608999874893:=0
def tw10305615494723551584:=0
def tw5018765957898500703:=0
def tw17743525476800067175:=0
def tw9690754967515076328:=0
def tw8376098964522116961:=0
def tw17722431629869069508:=0
def tw14470149829507750782:=0
def tw9190624235988494987:=0
def tw5475985089091677317:=0
def tw4664334601263972811:=0
def tw7381539586980315172:=0
def tw5407346180126291955:=0
def tw3304086810860177652:=0
def tw14307577182975529593:=0
def tw12226879350794111776:=0
def tw3489160645199426788:=0
def tw6581113023581050124:=0
def tw5527394534350759097:=0
def tw17524018822942773871:=0
def tw969649468848643294:=0
def tw7984516922337073322:=0
def tw17569896548863692134:=0
def tw6883087372497264705:=0
def tw6856686593090060082:=0
def tw1925675372201025020:=0
def tw4543041562421024437:=0
def tw10836884737074895972:=0
def tw9712282181591642682:=0
def tw6471775553442264422:=0
def tw10380670999252257667:=0
def tw16312962396931317802:=0
def tw6954198393122823920:=0
def tw3756683671026739571:=0
def tw14182419870803664717:=0
def tw9461332075233763479:=0
def tw13873081695580918924:=0
def tw8468411827880808723:=0
def tw8595551825509847459:=0
def tw736816767985491072:=0
def tw8148681499445260164:=0
def tw6391219772061630337:=0
def tw8528304735891657618:=0
def tw14076519722277070194:=0
def tw15778126481447650375:=0
def tw13008776453151709080:=0
def tw7456153146250323591:=0
def tw2980671473418260733:=0
def tw1873833434311125948:=0
def tw14535201448585309846:=0
def tw7736818098385689275:=0
def tw9158747411581882628:=0
def tw6980923210892316439:=0
def tw9071610524875680448:=0
def tw43553293575559362:=0
def tw14775839882979936113:=0
def tw13009085868499812715:=0
def tw14892487854365719521:=0
def tw14485179329354817421:=0
def tw16395865075037635726:=0
def tw11469593766828311434:=0
def tw4706639716047009662:=0
def tw8348882459054069394:=0
def tw6254581308078088691:=0
def tw16571805362655503554:=0
def tw17733896981555379293:=0
def tw10553583516080557547:=0
def tw7826147990173934468:=0
def tw4114456398113811217:=0
def tw1990894391912143455:=0
def tw1159997569352838642:=0
def tw1937943549232098022:=0
def tw3073705259967445814:=0
def tw5618600828494177000:=0
def tw15377163231616365970:=0
def tw15471634650627232625:=0
def tw15114937328424142661:=0
def tw13778517090359531556:=0
def tw7904807584272792135:=0
def tw15738705585902092428:=0
def tw13609039536436666175:=0
def tw12921091196995430664:=0
def tw15595048726909302243:=0
def tw12166198657154368305:=0
def tw1891326414899055278:=0
def tw6523289031246222622:=0
def tw7321229942053077643:=0
def tw12271051315956285157:=0
def tw7727921589952998342:=0
def tw1135080728059637689:=0
def tw9657548808228447962:=0
def tw10544471018626923026:=0
def tw13209286201719907086:=0
def tw10757975662229355395:=0
def tw6585436115251906274:=0
def tw13854981833044741875:=0
def tw12177999500277516222:=0
def tw129172613059516822:=0
def tw15386363262068136231:=0
def tw9813878624047519839:=0
def tw8790388667339103135:=0
def tw6641208529779241694:=0
def tw11506799347350191115:=0
def tw2283472778172539603:=0
def tw7201703609891602133:=0
def tw7631311572003798400:=0
def tw13714971628894822805:=0
def tw18271493205938268649:=0
def tw15902114143051440915:=0
def tw11919080645393372395:=0
def tw11704587173998547209:=0
def tw17261874593587446975:=0
def tw1414166888500883619:=0
def tw3649182051438277332:=0
def tw13569113897043075347:=0
def tw9429303868244594294:=0
def tw18187354731981979694:=0
def tw5983117891334161491:=0
def tw18379397439996812450:=0
def tw310210874402348315:=0
def tw3385674016634475198:=0
def tw10345490876278319882:=0
def tw1292695770174595656:=0
def tw636111442198919316:=0
def tw15964871085302239610:=0
def tw17773892204142502563:=0
def tw7132134690202339907:=0
def tw5324449990187608430:=0
def tw2377172486859631868:=0
def tw4566313099605324068:=0
def tw3577637868333767558:=0
def tw16255757894862521218:=0
def tw3663111907488294827:=0
def tw5820386529078336335:=0
def tw16481882282786441982:=0
def tw9179632718278551249:=0
def tw10960190201116002866:=0
def tw16859055037022815112:=0
def tw13278932147121104585:=0
def tw9316428382375228275:=0
def tw14559797439582362466:=0
def tw17983476008855605445:=0
def tw7448657361616815566:=0
def tw10356321423421796573:=0
def tw8143718522453805637:=0
def tw12644134821427483936:=0
def tw15107588465233990559:=0
def tw17922899651446582648:=0
def tw2355364064234898653:=0
def tw16507605488713656963:=0
def tw917880205430622972:=0
def tw1079719044179157759:=0
def tw16228404083278481797:=0
def tw1337286695936776673:=0
def tw3879644155110267350:=0
def tw6136070685143788603:=0
def tw5299269090625317042:=0
def tw11739235825200502746:=0
def tw5088056721223660833:=0
def tw7042280973825663358:=0
def tw5488479152982003315:=0
def tw10508038831706362221:=0
def tw7083768895233273733:=0
def tw7691579485495841527:=0
def tw17636238802332753474:=0
def tw5300380044676381531:=0
def tw3082417040438309669:=0
def tw5431593586744924842:=0
def tw15253295452987492202:=0
def tw15654442795201466843:=0
def tw295445546805392377:=0
def tw9041827800719216714:=0
def tw12001034079257148179:=0
def tw12234273744220181012:=0
def tw5477356578539948202:=0
def tw10690781905912256485:=0
def tw11017678863004364567:=0
def tw6153822050018733410:=0
def tw9979158397190316507:=0
def tw12359646145317055448:=0
def tw11562697991384351952:=0
def tw1026229961405783712:=0
def tw10015707597892422832:=0
def tw4237401706379819397:=0
def tw13239807706786974088:=0
def tw3442750077748920690:=0
end PySem.W.Fast
open PySem PySem.W PyProof.Rows
set_option maxRecDepth 100000 in
set_option maxHeartbeats 0 in
theorem PySem.Challenge.cw_cascade_k92_whole_no_turn_no_turning_par_holds : PySem.Challenge.rw_cascade_k92_whole_no_turn_no_turning_par.Holds := by
 w_on; o_law; k_head; (case hw => w_witness2)
 k_fill
 refine' My.walk (l := PySem.Challenge.rw_cascade_k92_whole_no_turn_no_turning_par) rfl rfl (fun w h Y => PySem.W.km_in_of Y) ?hT ?F
 case hT =>
  intro w t ht
  simp only [My.d3t, List.mem_cons, List.not_mem_nil, or_false] at ht
  rcases ht with rfl | rfl | rfl | rfl
  ·exact ⟨by kernel_rfl, .inl ⟨"sets_reached", 105, by kernel_rfl, _, rfl⟩⟩
  ·exact ⟨by kernel_rfl, .inl ⟨"level_group", 216, by kernel_rfl, _, rfl⟩⟩
  ·exact ⟨by kernel_rfl, .inl ⟨"word_back", 401, by kernel_rfl, _, rfl⟩⟩
  ·exact ⟨by kernel_rfl, .inr ⟨⟨381, by kernel_rfl⟩, fun h Y => PySem.W.km_tabs_of Y _ (by simp)⟩⟩
 case F =>
  intro w mg fa h KX G hmg
  refine' My.e0s KX G hmg ?_ ?a3 ?l3 ?c3 ?k3 ?a4 ?l4 ?c4 ?k4 ?lD4 ?qD4 ?_ ?_ ?_ ?_ ?a9 ?l9 ?c9 ?k9 ?hd9 ?_ ?_ ?_ ?_ ?_ ?_ ?_ ?_ ?_ ?_ ?_ ?_ ?_ ?_ ?_ ?_ ?_ ?_ ?a28 ?l28 ?c28 ?k28 ?hd28 ?_ ?a30 ?l30 ?c30 ?k30 ?lD30 ?qD30 ?hd30 ?a31 ?l31 ?c31 ?k31 ?lD31 ?qD31 ?_ ?a33 ?l33 ?c33 ?k33 ?hd33 ?_ ?a39 ?l39 ?c39 ?k39 ?lD39 ?qD39 ?_ ?_ ?_ ?_ ?_ ?_ ?_ ?_ ?_ ?n_TooMany ?n_HallError ?n_LevelParts ?P' ?mk_LevelParts ?kp_LevelParts ?n_Row ?P0 ?mk_Row ?kp_Row ?_ ?_ ?_ ?_ ?lI ?cI ?kI ?eI ?bI ?sI ?gE ?_ ?_ ?_ ?_ ?_ ?_ ?_ ?_ ?_ ?_ ?_
  (case a3 => k_is); (case l3 => k_is); (case c3 => k_is); (case k3 => k_is)
  (case a4 => k_is); (case l4 => k_is); (case c4 => k_is); (case k4 => k_is)
  (case lD4 => k_is); (case qD4 => rfl)
  (case a9 => k_is); (case l9 => k_is); (case c9 => k_is); (case k9 => k_is)
  (case hd9 => kernel_rfl)
  (case a28 => k_is); (case l28 => k_is); (case c28 => k_is); (case k28 => k_is)
  (case hd28 => kernel_rfl)
  (case a30 => k_is); (case l30 => k_is); (case c30 => k_is); (case k30 => k_is)
  (case lD30 => k_is); (case qD30 => rfl)
  (case hd30 => kernel_rfl)
  (case a31 => k_is); (case l31 => k_is); (case c31 => k_is); (case k31 => k_is)
  (case lD31 => k_is); (case qD31 => rfl)
  (case a33 => k_is); (case l33 => k_is); (case c33 => k_is); (case k33 => k_is)
  (case hd33 => kernel_rfl)
  (case a39 => k_is); (case l39 => k_is); (case c39 => k_is); (case k39 => k_is)
  (case lD39 => k_is); (case qD39 => rfl)
  (case n_TooMany => k_is)
  (case n_HallError => k_is)
  (case eI => exact ⟨⟨(by show PySem.W.excIn _ _ L2.veMro "ValueError.__new__" = true; k_exc), _, _, _, _, _, _, _, _, _, _, _, _, _, _, by k_is⟩, by k_is, by k_is, by k_is⟩)
  (case lI => k_is); (case cI => k_is); (case kI => k_is)
  (case bI => exact ⟨by k_is, by k_is, by k_is⟩)
  (case sI => exact ⟨by k_is, by k_is⟩)
  (case n_LevelParts => k_is); (case P' => exact ⟨⟨by k_is, by k_is, by k_is, by k_is⟩, (.cons (by k_is) (.cons (by k_is) (.cons (by k_is) (.cons (by k_is) (.cons (by k_is) .nil)))))⟩); (case mk_LevelParts => k_is); (case kp_LevelParts => k_is)
  (case n_Row => k_is); (case P0 => exact ⟨⟨by k_is, by k_is, by k_is, by k_is⟩, (.cons (by k_is) (.cons (by k_is) .nil))⟩); (case mk_Row => k_is); (case kp_Row => k_is)
  any_goals (refine' ⟨_, _, ?a, ?i, L2.b6k ?l ?c ?k⟩; (case a => k_is); (case i => k_is); (case l => k_is); (case c => k_is); (case k => k_is))
  (case gE => exact ⟨by k_is, by k_is, by k_is⟩)
  any_goals (refine' ⟨_, _, ?a, L2.b6k ?l ?c ?k⟩; (case a => k_is); (case l => k_is); (case c => k_is); (case k => k_is))
  any_goals (refine' ⟨?a, L2.b6k ?l ?c ?k⟩; (case a => k_is); (case l => k_is); (case c => k_is); (case k => k_is))
  any_goals k_is
