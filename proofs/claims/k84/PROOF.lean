import PyProof.Rows.All
import Wide.All
import OpenK.AllK
import Wide.FinOn
import Lean
import PyProof.EqAt
import PyProof.EqKinds
import PyProof.TupleCall
import PyProof.NeKinds
import PySem.Challenge.RW_cascade_k84_parts_and_what_turns
set_option maxHeartbeats 2000000
set_option Elab.async false
set_option compiler.extract_closed false
set_option linter.all false
set_option maxRecDepth 100000
local macro_rules|`(())=>`(by lia)
def bC:=@List.getElem?_eq_getElem
def bN:=@List.getElem?_eq_some_iff
def bA:=@List.length_map
def bz:=@PySem.wpAny_bind
def bX:=@List.mem_of_getElem?
def bT:=@List.getElem?_map
def cf:=@List.mem_singleton
def cW:=@List.getD_eq_getElem?_getD
def cI:=@PySem.Heap.get?_push_of_some
def bJ:=@PySem.wpAny_pure
def bR:=@Nat.le_refl
def cC:=@List.length_append
def c9:=@Option.map_eq_some_iff
def bY:=@List.mem_map
def cJ:=@List.mem_cons_self
def dQ:=@List.getElem?_append_right
def dO:=@List.getElem?_append_left
def cF:=@List.mem_append
def cL:=@List.mem_filter
def dy:=@Array.length_toList
def dE:=@PySem.Heap.get?_push_size
def cK:=@decide_eq_true
def dS:=@List.mem_cons_of_mem
def cq:=@PySem.sizeLine_eq
def cy:=@PySem.Heap.lt_size
def cz:=@Nat.le_trans
def c7:=@List.map_append
def dR:=@List.append_assoc
def dU:=@List.size_toArray
def fM:=@List.mem_iff_getElem?
def db:=@List.mem_cons
def b9:=@PyProof.Rows.wpS_bind
def gc:=@List.mem_append_right
def ci:=@PyProof.Rows.wpS_pure
def dr:=@Nat.ne_of_lt
def fT:=@Bool.false_ne_true
def fe:=@List.length_take
def iM:=@PySem.F.plainAttrs_list
def eU:=@decide_eq_false
def im:=@List.contains_iff_mem
def fF:=@List.take_length
def gn:=@Nat.lt_of_lt_of_le
def fi:=@PySem.PassesOwn.never
def iJ:=@List.getElem?_eq_none
def gj:=@List.take_add_one
def fm:=@List.mem_range
def ga:=@List.getElem_mem
def kS:=@Array.getElem?_eq_getElem
def jm:=@List.length_filter_le
def lW:=@PySem.F.slot_list_append
def lF:=@PySem.F.type_list_append
def ge:=@Option.some.inj
def cH:=@congrArg
def hY:=@Int.toNat_natCast
def ik:=@of_decide_eq_true
def eM:=@List.map_map
def jp:=@List.pairwise_append
def eZ:=@Nat.le_of_lt
def iA:=@List.getElem?_inj
def lI:=@Array.getElem?_toList
def mD:=@PySem.Heap.get?_update_other
def iw:=@List.append_nil
def i3:=@List.length_cons
def si:=@Nat.exists_eq_add_one_of_ne_zero
def hI:=@List.map_cons
def oB:=@Array.perm_iff_toList_perm
def oV:=@List.pairwise_iff_getElem
def mI:=@List.map_congr_left
def nC:=@PySem.lookup_relabel_local
def og:=@List.take_append_drop
def mw:=@List.length_range
def kq:=@Bool.eq_iff_iff
def qu:=@Array.getD_eq_getD_getElem?
def nJ:=@Array.toList_append
def dW:=@PySem.boot_len
def mC:=@PySem.wpAny_call_entry
def jg:=@PySem.wpAny_holding
def lQ:=@List.nodup_cons
def n9:=@List.getElem?_range
def u7:=@PySem.F.slot_dict_keyiterator_next
def pS:=@PySem.F.plainAttrs_str
def mO:=@Bool.and_eq_true
def nq:=@List.ext_getElem?
def qb:=@List.length_singleton
def xo:=@List.Nodup.length_le_of_subset
def pD:=@List.Pairwise.sublist
def iK:=@Nat.zero_le
def sk:=@List.length_eq_zero_iff
def m7:=@List.mem_reverse
def on:=@PySem.wpAny_truthy_bool
def pG:=@List.mem_append_left
def jw:=@PyProof.Rows.wpS_forRange
def oH:=@PySem.wpAny_setField_rec
def dX:=@Ne.symm
def qm:=@beq_eq_false_iff_ne
def pB:=@PySem.mem_of_lookup
def ka:=@PySem.F.called_set
def qa:=@Nat.add_sub_cancel'
def nQ:=@Nat.le_add_right
def iB:=@PySem.wpAny_mono
def vc:=@PySem.wpAny_callSpecial?_slot
def u6:=@List.pairwise_singleton
def oJ:=@List.foldl_append
def rf:=@PySem.Around.under_plainId
def qr:=@List.mem_of_mem_take
def nR:=@PySem.W.kia_one
def pb:=@List.all_eq_true
def zA:=@PySem.F.slot_dict_itemiterator_next
def qe:=@PySem.wpAny_newObj_type
def ub:=@Classical.choose_spec
def yW:=@List.idxOf_lt_length_iff
def pK:=@Bool.eq_false_iff
def l7:=@PySem.W.mg_none_of
def ni:=@Nat.lt_irrefl
def o0:=@PySem.codeAny_builtin
def yX:=@PyProof.Rows.F.plain_set_update_loop
def yO:=@Nat.add_sub_cancel_left
def uj:=@List.getElem?_of_mem
def py:=@List.lookup_cons
def mT:=@Nat.sub_self
def Ba:=@Array.getElem?_eq_some_iff
def yh:=@List.take_of_length_le
def wc:=@List.filterMap_cons
def vU:=@List.filter_sublist
def AZ:=@Classical.byContradiction
def Bi:=@Nat.sub_lt_left_of_lt_add
def yi:=@PySem.Heap.get?_update_self
def De:=@PySem.wpAny_typeNameOfWhole_itemiter
def pZ:=@Array.size_push
def pH:=@PyProof.Rows.boot_isinstance
def yP:=@PySem.F.slot_str_join
def yq:=@PySem.F.type_str_join
def ve:=@PySem.wpAny_Call_Name_kw
def lL:=@PyProof.Rows.boot_tuple
def ti:=@Nat.lt_succ_self
def rb:=@List.length_drop
def Ca:=@PySem.wpAny_typeNameOfWhole_keyiter
def Cq:=@PySem.F.slot_dict_keyiterator_iter
def Av:=@PySem.wpAny_getItem_str_slice
def zT:=@PySem.F.slot_list_index
def BE:=@PySem.F.type_list_index
def nX:=@PySem.codeAny_mono
def vx:=@PySem.wpAny_dictEntries
def uf:=@PySem.wpAny_setState_of
def Cm:=@PyProof.Rows.callWith_type1
def nB:=@PySem.wpAny_mkInt
def sj:=@Nat.not_lt_zero
def x4:=@List.map_eq_nil_iff
def qg:=@PySem.Paired.length
def pd:=@Nat.ne_of_gt
def AU:=@PySem.builtinLookup_eq_fast
def A7:=@List.Perm.append_left
def yo:=@List.pairwise_cons
def xw:=@List.getElem?_drop
def CM:=@List.drop_eq_getElem_cons
def D0:=@List.extract_eq_take_drop
def ul:=@PySem.wpAny_passesOwn
def CA:=@List.getElem?_take_of_lt
def wy:=@List.take_sublist
def v0:=@List.length_set
def yd:=@Array.toList_push
def zb:=@PySem.wpAny_pyIter_slot
def yI:=@List.pairwise_map
def uu:=@Nat.min_eq_left
def xg:=@List.filter_congr
def zU:=@Nat.add_le_add_left
def CK:=@PyProof.Rows.F.entry_set_update_loop
def se:=@PySem.wpAny_attempt
def zH:=@PySem.F.plain_extend_loop
def j9:=@PyProof.Rows.wpS_mono
def wD:=@beq_self_eq_true
def yw:=@List.cons_append
def y6:=@List.getElem_map
def C1:=@List.length_pos_of_mem
def D1:=@List.Perm.append_right
def BF:=@Nat.lt_of_le_of_lt
def ID:=@List.dropLast_concat_getLast
def Ae:=@Nat.lt_of_le_of_ne
def AC:=@List.getElem_idxOf
def AE:=@List.filter_append
def Ap:=@decide_eq_true_iff
def ET:=@List.countP_eq_length_filter
def rg:=@Nat.le_of_eq
def xc:=@PySem.wpAny_dictEpoch
def BZ:=@List.perm_append_comm
def td:=@Int.zero_add
def oQ:=@beq_iff_eq
def vb:=@PySem.plainId_quiet
def A5:=@List.nodup_append
def ph:=@PyProof.Rows.wpS_modify
def ES:=@List.nodup_iff_pairwise_ne
def Df:=@Array.toList_extract
def CW:=@Array.toList_reverse
def B0:=@List.mem_erase_of_ne
def ya:=@PySem.Heap.size_push
def IS:=@PySem.Calls.call_function_entry
def y3:=@PySem.wpAny_fieldsOf
def Bf:=@PySem.wpAny_askSetting
def Ab:=@List.any_eq_true
def rh:=@Nat.le_succ
def Cv:=@List.toList_toArray
def CY:=@List.length_zipWith
def DN:=@Nat.add_lt_add_left
def B8:=@List.length_reverse
def CO:=@List.getElem_of_mem
def qj:=@PySem.wpAny_rule
def GI:=@List.length_erase_of_mem
def Ho:=@List.Pairwise.imp_of_mem
def D3:=@PySem.W.callWith_K
def yU:=@List.any_cons
def DS:=@PySem.tupleKind_room_in1
def By:=@PySem.typeLookup_type
def zP:=@PyProof.Rows.get?_update_seq
def w6:=@PyProof.Rows.listUpdate_at
def Ds:=@List.filterMap_map
def AG:=@PySem.post_val_or_str
def zo:=@Nat.min_le_left
def D8:=@of_decide_eq_false
def Fu:=@PySem.Calls.callWith_builtin
def EL:=@PySem.wpAny_isOneOf_itemiter
def Hi:=@Array.getElem?_eq_none
def GO:=@List.not_of_lt_findIdx
def HY:=@PySem.StrLaws.join_length_le
def BR:=@PySem.wpAny_pyIter_list
def DP:=@List.any_eq_false
def CI:=@Nat.lt_succ_of_lt
def KQ:=@PySem.F.args_dict_itemiterator_next_1
def B7:=@Nat.le_of_lt_succ
def Ef:=@Array.size_append
def Er:=@PyProof.Rows.join_plain_closes
def Ai:=@List.drop_zero
def yL:=@List.map_nil
def ww:=@List.all_map
def yt:=@Nat.lt_or_ge
def JU:=@PySem.F.entry_dict_itemiterator_next
def F5:=@List.getElem?_zipWith
def MU:=@PySem.F.args_dict_keyiterator_next_1
def MJ:=@PySem.F.args_dict_keyiterator_iter_1
def EB:=@Array.mem_of_getElem?
def xk:=@Nat.zero_add
def ye:=@Nat.min_self
def DD:=@Nat.le_of_not_lt
def D9:=@List.ext_getElem
def MG:=@PySem.F.entry_dict_keyiterator_next
def Ka:=@PySem.F.entry_dict_keyiterator_iter
def Dz:=@Array.toList_map
def Dk:=@List.countP_cons
def EO:=@Nat.sub_succ_lt_self
def EY:=@Array.mem_toList_iff
def IG:=@Nat.le_sub_of_add_le
def G':=@List.mem_of_mem_drop
def Bo:=@Int.ofNat.inj
def zY:=@PySem.wpAny_newList
def zS:=@Bool.true_and
def ud:=@PySem.call_meets
def Em:=@PySem.wpAny_execs_nil
def Hd:=@PySem.W.plainGet_of
def BY:=@List.of_mem_zip
def D2:=@PySem.wpAny_loadPart'
def DY:=@PySem.size_of_entries
def FQ:=@PySem.wpAny_raiseNew_none
def xt:=@PySem.wpAny_field
def CB:=@PySem.wpAny_updateSeq
def nA:=@PyProof.Rows.wpS_get
def Ck:=@List.foldl_cons
def Jg:=@PySem.Calls.Name_function_global
def Nh:=@Array.toList_setIfInBounds
def Hv:=@Int.emod_lt_of_pos
def BO:=@Nat.add_zero
def AL:=@List.any_map
def Ic:=@Array.Perm.mem_iff
def Ax:=@Int.lt_trans
def EW:=@List.getElem?_take
def Fb:=@List.map_inj_right
def Et:=@Bool.false_and
def Eo:=@List.take_zero
def y7:=@PySem.wpAny_call
def Hg:=@PySem.slot_list_getitem
def xz:=@PySem.typeIs_str
def HQ:=@Option.isSome_map
def FA:=@PySem.StrLaws.subAt_one
def FD:=@List.flatMap_cons
def Cb:=@PySem.wpAny_standAt
def DM:=@PySem.evalPart_none
def Cr:=@PySem.evalPart_some
def tv:=@PyProof.Rows.boot_str
def oM:=@PySem.W.mg_of
def GF:=@Array.toList_inj
def Cy:=@Nat.lt_trans
def IK:=@Int.emod_nonneg
def EV:=@PySem.codeAny_of_tree
def FK:=@PySem.wpAny_ite_split
def Gp:=@PyProof.Rows.entry_list_sort
def xu:=@ite_congr
def Gk:=@Array.Perm.refl
def HP:=@beq_false_of_ne
def zL:=@PyProof.Rows.Subscript_
def Ah:=@PySem.intKind_is
def vg:=@PyProof.Rows.wpS_lift
def CJ:=@PySem.wpAny_of_eq
def CP:=@PyProof.Rows.seqEpoch_at
def Dc:=@List.map_id
section
open PySem
abbrev gW:=List (List (List Nat))
abbrev LN:=List (List Nat)
abbrev bw:=List Nat
abbrev VP:=Value -> Shared -> Prop
abbrev AO:=List (Addr × Obj)
abbrev SV:=Str -> Option Value
abbrev As:=List Addr
abbrev Vs:=List Value
abbrev AV:=Array Value
abbrev Zs:=List Int
abbrev Ss:=List Str
abbrev Sh:=Shared
abbrev Vl:=Value
abbrev Pg:=Program
abbrev Fd:=FuncData
abbrev Ar:=Around
end
def wA:=@if_neg
def wB:=@if_pos
abbrev wC:=@absurd
abbrev wE:=@False.elim
open PySem in
abbrev Ad:=Addr
abbrev zZ:=@rfl
abbrev V3:=PySem.W.Frag
theorem Z':a=a∨q:=.inl rfl
theorem Z0:q∨a=a:=.inr rfl
local macro_rules|`(#[$x,*])=>`(⟨$x,*⟩)
local macro_rules|`(#v[$x,*])=>`(List.toArray [$x,*])
namespace L2
open PySem PySem.Spec PyProof.Rows
abbrev cE:=Sum Int Str
noncomputable def yM:cE->Vl->Bool
 |.inl k,v=>Value.isInt k v
 |.inr x,v=>Value.isStrOf x v
noncomputable def Gj(w:World):cE->Int
 |.inl k=>hashInt k
 |.inr x=>hashStr w x
theorem pU:∀{k} {v},yM k v=true->(∃i t,k=Sum.inl i/\v=Value.int i t)\/(∃x t,k=Sum.inr x/\v=Value.str x t)
 |.inl i,v,h=>by
  obtain⟨t,e⟩:=Value.isInt_shape h;exact .inl #[i,t,zZ,e]
 |.inr x,v,h=>by
  obtain⟨t,e⟩:=Value.isStrOf_shape h;exact .inr #[x,t,zZ,e]
theorem OL(i)(t):yM (.inl i) (.int i t)=true:=by simp[yM,Value.isInt]
theorem SH(x)(t):yM (.inr x) (.str x t)=true:=by simp[yM,Value.isStrOf]
theorem NR(a b):decide ((Sum.inl a:cE)=Sum.inl b)=(a==b):=by grind
theorem Qd(a b):decide ((Sum.inr a:cE)=Sum.inr b)=decide (a=b):=by grind
theorem Va(a)(b):decide ((Sum.inl a:cE)=Sum.inr b)=false:=eU<|λq=>nomatch q
theorem N0(a)(b):decide ((Sum.inr a:cE)=Sum.inl b)=false:=eU<|λq=>nomatch q
noncomputable def lZ(c:Pg)(w):KeyKind c w cE where
 is:=yM
 hash:=Gj w
 inj:=λv a b l g=>by
  rcases pU l with⟨i,t,rfl,rfl⟩|⟨x,t,rfl,rfl⟩
  .rcases pU g with⟨j,u,rfl,e⟩|⟨y,u,rfl,e⟩
   .injection e with d _;rw[d]
   .exact nomatch e
  .rcases pU g with⟨j,u,rfl,e⟩|⟨y,u,rfl,e⟩
   .exact nomatch e
   .injection e with d _;rw[d]
 byValue:=λk v h=>by
  rcases pU h with⟨i,t,rfl,rfl⟩|⟨x,t,rfl,rfl⟩<;>rfl
 pyHash:=λf h=>by
  rcases pU f with⟨i,t,rfl,rfl⟩|⟨x,t,rfl,rfl⟩
  .exact wpAny_pyHash_int h
  .exact wpAny_pyHash_str h
 eqBool:=λm f h=>by
  rcases pU m with⟨i,t,rfl,rfl⟩|⟨x,t,rfl,rfl⟩
  .rcases pU f with⟨j,u,rfl,rfl⟩|⟨y,u,rfl,rfl⟩
   .rw[NR]at h;exact wpAny_eqBool_int h
   .rw[Va]at h;exact SeqAt.EqAt.int_str i t y u _ _ _ _ h
  .rcases pU f with⟨j,u,rfl,rfl⟩|⟨y,u,rfl,rfl⟩
   .rw[N0]at h;exact SeqAt.EqAt.str_int x t j u _ _ _ _ h
   .rw[Qd]at h;exact wpAny_eqBool_str h
 «strs»:=λk x t v h=>by
  rcases pU h with⟨i,u,rfl,e⟩|⟨y,u,rfl,e⟩
  .exact nomatch e
  .injection e with d _
   subst d;cases v<;>rfl
theorem Oq(a)(w)(i)(t):(lZ a w).is (.inl i) (.int i t)=true:=OL i t
theorem SE(a)(w)(x)(t):(lZ a w).is (.inr x) (.str x t)=true:=SH x t
inductive V where
 |non|bl (b:Bool)|int (i:Int)|str (x:Str)|byt (b:Array UInt8)|flt (b:UInt64)|ref (a:Ad)|ty (n:String)
 deriving DecidableEq
def RelV:V->Vl->Prop
 |.non,u=>u=Value.none
 |.bl b,u=>u=Value.bool b
 |.int i,u=>∃t,u=Value.int i t
 |.str x,u=>∃t,u=Value.str x t
 |.byt b,u=>∃t,u=Value.bytes b t
 |.flt b,u=>∃t,u=Value.float b t
 |.ref a,u=>u=Value.ref a
 |.ty n,u=>u=Value.type n
abbrev Vals:List V->List Vl->Prop:=Paired RelV
theorem Vals.length{a:Vs}(r:Vals xs a):xs.length=a.length:=qg r
theorem Vals.get:∀{a} {b:Vs} {i:Nat} {x},Vals a b->a[i]?=some x->∃u,b[i]?=some u/\RelV x u
 |_,_,_,_,.nil,e=>by simp at e
 |_,_,0,_,.cons r _,e=>by simp at e;subst e;exact#[_,zZ,r]
 |_,_,i+1,x,.cons _ t,e=>by
  obtain⟨u,c,d⟩:=Vals.get t e;exact#[u,by simpa using c,d]
theorem Vals.set(r:RelV x u):∀{xs} {a:Vs} i,Vals xs a->Vals (xs.set i x) (a.set i u)
 |_,_,_,.nil=> .nil
 |_,_,0,.cons _ t=> .cons r t
 |_,_,i+1,.cons q t=> .cons q<|Vals.set r i t
theorem Vals.append:∀{a b} {c d:Vs},Vals a c->Vals b d->Vals (a++b) (c++d)
 |_,_,_,_,.nil,s=>s
 |_,_,_,_,.cons r t,s=> .cons r<|Vals.append t s
theorem Vals.take:∀{a} {b:Vs} n,Vals a b->Vals (a.take n) (b.take n)
 |_,_,0,_=> .nil
 |_,_,_+1,.nil=> .nil
 |_,_,n+1,.cons r t=> .cons r<|Vals.take n t
theorem Vals.drop:∀{a} {b:Vs} n,Vals a b->Vals (a.drop n) (b.drop n)
 |_,_,0,r=>r
 |_,_,_+1,.nil=> .nil
 |_,_,n+1,.cons _ t=>Vals.drop n t
def RelO:Option V->Option Vl->Prop
 |some v,some u=>RelV v u
 |none,none=>True
 |_,_=>False
def KV:List (a×V)->List (a×Vl)->Prop:=Paired λp q=>p.1=q.1/\RelV p.2 q.2
noncomputable def kV:cE->V
 |.inl i=> .int i
 |.inr x=> .str x
inductive HO where
 |lst (xs:List V)
 |tup (xs:List V)
 |dK (kvs:List (cE×V))|dT (kvs:List (List cE×V))
 |set (S:Int->Bool) (n:Nat)
 |ins (C dx:Ad) (fs:List (Str×V))
 |own (x:Ad)
 |xd (fs:List (Str×V))
 |met (f x:Ad)
 |rng (lo hi:Int)
 |frz (o:Obj) (u:HO)
 |tbl (ps:AV)
 |ext (φ:Heap->Prop)
abbrev Hp:=Ad->Option HO
noncomputable def bx(H:Hp)(a:Ad)(o:HO):Hp:=λb=>if b=a then some o else H b
theorem bE:bx H a o a=some o:=by unfold bx;rw[wB zZ]
theorem bI(h:b≠a):bx H a o b=H b:=by unfold bx;rw[wA h]
theorem RJ:bx (bx H a o) a u=bx H a u:=by
 funext b;unfold bx;split<;>rfl
theorem j6{H:Hp}(h:H a=some o)(c:H b=some u)(d:o≠u):a≠b:=by grind
noncomputable def LF:HO->Nat
 |.lst _=>0
 |.tup _=>1
 |.dK _=>2
 |.dT _=>3
 |.tbl _=>4
 |.ext _=>5
 |.rng _ _=>6
 |.frz _ _=>7
 |_=>8
theorem nE{H:Hp}(h:H a=some o)(k:H b=some u)(d:(LF o==LF u)=false:=by rfl):a≠b:=by grind
theorem cQ{H:Hp}(h:H a=some o)(c:H b=none):a≠b:=by grind
def TupD(h:Heap)(a:Ad)(b:AV):Prop:=∃o,h.get? a=some o/\o.cls=.type "tuple"/\∃n,o.data=.seq b n/\o.dict=none
theorem TupD.is(p:TupD h a b):IsTup h a b:=let⟨o,e,c,n,d,_⟩:=p;#[o,e,c,n,d]
theorem TupD.new(h:Heap)(a:AV):TupD (h.push {cls:= .type "tuple",data:= .seq a}) h.objs.size a:=#[_,dE _ zZ,zZ,_,zZ,zZ]
section
variable(P:Pg)(w:World)
def ObjOk(H:Hp)(h:Heap)(a:Ad):HO->Prop
 |.lst d=>d.length<=sizeLine/\∃b n,Vals d b/\h.get? a=some {cls:= .type "list",data:= .seq b.toArray n}
 |.tup d=>d.length<=sizeLine/\∃b,Vals d b/\TupD h a b.toArray
 |.dK c=>c.length<=sizeLine/\(a==sysModules)=false/\∃j,KV c j/\h.DictOf (lZ P w) a j
 |.dT c=>c.length<=sizeLine/\(a==sysModules)=false/\∃d,
   Paired (λp q=>p.1=q.1/\H q.2.1=some (.tup (p.1.map kV))/\RelV p.2 q.2.2) c d/\
   ∃o k r,h.get? a=some o/\o.ExactDict/\o.data=.dict k r/\k.toList=d.map (entryOfKey (tupleKind (lZ P w)))/\(d.map (·.1)).Nodup
 |.set S n=>h.SetOf (intKind P w) a S n
 |.ins C g fs=>H g=some (.own a)/\fs.length<=1000/\g≠a/\h.get? a=some (W.instObj C g)/\
   ∃e,h.Ns1 g e/\(∀f,RelO (fs.lookup f) (e f))/\Within e (fs.map (·.1))
 |.own _=>∃o,h.get? a=some o
 |.xd fs=>∃e,h.Ns1 a e/\∀f,RelO (fs.lookup f) (e f)
 |.rng lo s=>∃t u v,h.get? a=some {cls:= .type "range",data:= .fields #v[.int lo t,.int s u,.int 1 v]}
 |.frz o u=>h.get? a=some o/\ObjOk H h a u
 |.tbl y=>h.get? a=some {cls:= .none,data:= .fields y}
 |.met f x=>h.get? a=some (W.methodObj (.ref f) (.ref x))
 |.ext i=>i h/\(∃o,h.get? a=some o)/\∀l m,i l->(∀o,l.get? a=some o->m.get? a=some o)->i m
def HOk(H:Hp)(h:Heap):Prop:=∀a o,H a=some o->ObjOk P w H h a o
end
section
variable{a:Ad}
theorem ObjOk.lt(x:ObjOk P w H h a o):a<h.objs.size:=by
 cases o with
 |lst xs=>obtain⟨_,_,_,_,e⟩:=x;exact cy e
 |tup xs=>obtain⟨_,_,_,p⟩:=x;exact p.is.lt
 |dK b=>obtain⟨_,_,_,_,o,_,_,e,_⟩:=x;exact cy e
 |dT b=>obtain⟨_,_,_,_,o,_,_,e,_⟩:=x;exact cy e
 |set S n=>obtain⟨o,_,_,_,e,_⟩:=x;exact cy e
 |ins C c fs=>obtain⟨_,_,_,e,_⟩:=x;exact cy e
 |own y=>obtain⟨_,e⟩:=x;exact cy e
 |xd fs=>obtain⟨_,⟨_,_,_,e,_⟩,_⟩:=x;exact cy e
 |rng lo d=>obtain⟨_,_,_,e⟩:=x;exact cy e
 |frz g u=>obtain⟨e,_⟩:=x;exact cy e
 |tbl i=>exact cy<|x
 |met f y=>exact cy<|x
 |ext j=>obtain⟨_,⟨_,e⟩,_⟩:=x;exact cy e
theorem Paired.mapP:∀{c:List e} {d:List g},Paired F c d->(∀a b,F a b->G a b)->Paired G c d
 |_,_,.nil,_=> .nil
 |_,_,.cons r t,f=> .cons (f _ _ r)<|Paired.mapP t f
theorem ObjOk.stay(x:ObjOk P w H h a o)(k:∀b u,(b=a\/H b=some (.own a))->h.get? b=some u->h'.get? b=some u)(E:∀b,H b=some (.own a)->H' b=some (.own a)) (ht:∀b m,H b=some (.tup m)->H' b=some (.tup m)):ObjOk P w H' h' a o:=by
 induction o with
 |lst m=>obtain⟨z,l,n,r,e⟩:=x;exact#[z,l,n,r,k _ _ (.inl zZ) e]
 |tup m=>obtain⟨z,l,r,g,e,c⟩:=x;exact#[z,l,r,g,k _ _ (.inl zZ) e,c]
 |dK s=>obtain⟨z,y,G,r,g,i,j,e,c⟩:=x;exact#[z,y,G,r,g,i,j,k _ _ (.inl zZ) e,c]
 |dT s=>
  obtain⟨z,y,m,r,g,i,j,e,c⟩:=x;exact#[z,y,m,Paired.mapP r λp q z=>#[z.1,ht _ _ z.2.1,z.2.2],g,i,j,k _ _ (.inl zZ) e,c]
 |set S n=>obtain⟨g,i,j,t,e,c⟩:=x;exact#[g,i,j,t,k _ _ (.inl zZ) e,c]
 |ins C M fs=>
  obtain⟨d,z,I,e,A,⟨B,i,j,J,c⟩,r⟩:=x;exact#[E _ d,z,I,k _ _ (.inl zZ) e,A,#[B,i,j,k _ _ (.inr d) J,c],r]
 |own y=>obtain⟨g,e⟩:=x;exact#[g,k _ _ (.inl zZ) e]
 |xd fs=>obtain⟨A,⟨B,i,j,e,c⟩,r⟩:=x;exact#[A,#[B,i,j,k _ _ (.inl zZ) e,c],r]
 |rng lo N=>obtain⟨t,u,v,e⟩:=x;exact#[t,u,v,k _ _ (.inl zZ) e]
 |frz g u L=>obtain⟨e,q⟩:=x;exact#[k _ _ (.inl zZ) e,L q]
 |tbl D=>
  have e:=x;exact k a _ (.inl zZ) e
 |met f y=>
  have e:=x;exact k a _ (.inl zZ) e
 |ext O=>obtain⟨p,⟨o,e⟩,st⟩:=x;exact#[st _ _ p λo q=>k _ _ (.inl zZ) q,#[o,k _ _ (.inl zZ) e],st]
theorem HOk.lt(x:HOk P w H h)(e:H a=some o):a<h.objs.size:=(x a o e).lt
theorem HOk.fresh(x:HOk P w H h)(e:h.objs.size<=a):H a=none:=by
 cases q:H a with
 |none=>rfl
 |some u=>exact wC (gn (x.lt q) e)<|ni _
theorem HOk.kept(x:HOk P w H h)(k:∀b u,h.get? b=some u->h'.get? b=some u):HOk P w H h':=λa o e=>
 (x a o e).stay (λb u _ q=>k b u q) (λ_ q=>q) λ_ _ q=>q
theorem HOk.laid(x:HOk P w H h)(k:∀b u,h.get? b=some u->h'.get? b=some u)(g:h.objs.size<=a)(new:ObjOk P w (bx H a o) h' a o):HOk P w (bx H a o) h':=λb u e=>by
 have d:=x.fresh g;by_cases f:b=a
 .subst f;rw[bE]at e;cases e;exact new
 .rw[bI f]at e;exact(x b u e).stay (λc v _ q=>k c v q) (λc q=>by rw[bI<|cQ q d];exact q) λc i q=>by rw[bI<|cQ q d];exact q
end
def Rd(H:Hp)(a:Ad)(u:HO):Prop:=H a=some u\/∃o,H a=some (.frz o u)
theorem Rd.ok(r:Rd H a u)(x:HOk P w H h):ObjOk P w H h a u:=by
 rcases r with r|⟨o,r⟩
 .exact x a u r
 .obtain⟨_,q⟩:=x a _ r;exact q
def Ak:Option HO->Prop
 |some (.lst _)=>True
 |some (.dK _)=>True
 |some (.dT _)=>True
 |some (.set _ _)=>True
 |some (.ins _ _ _)=>True
 |some (.ext _)=>True
 |_=>False
theorem HOk.write(ok:HOk P w H h)(i:Ak (H x))(n:e=x\/H e=some (.own x))(k:∀b u,b≠e->h.get? b=some u->h'.get? b=some u)(m:∃u,h'.get? e=some u)(new:ObjOk P w (bx H x a) h' x a):HOk P w (bx H x a) h':=λb u q=>by
 have f:∀c y,H c=some (.own y)->c≠x:=λc y r z=>by subst z;rw[r]at i;exact i
 have g:∀c j,H c=some (.tup j)->c≠x:=λc j r z=>by subst z;rw[r]at i;exact i
 by_cases l:b=x
 .subst l;rw[bE]at q;cases q;exact new
 .rw[bI l]at q;by_cases d:b=e
  .have o:H b=some (.own x):=by grind
   rw[q]at o;cases o;obtain⟨v,p⟩:=m;exact#[v,by rw[d];exact p]
  .refine(ok b u q).stay (λc v hc r=>k c v ?_ r) (λc r=>by rw[bI<|f c b r];exact r) λc j r=>by rw[bI<|g c j r];exact r
   rcases hc with rfl|hc
   .exact d
   .rintro rfl
    rcases n with z|z
    .exact f c b hc z
    .rw[hc]at z;cases z;exact l rfl
structure Un(fs ex:As)(H H':Hp)(h h':Heap):Prop where
 keep:∀b o,h.get? b=some o->H b=none->b∉fs->b∉ex->h'.get? b=some o
 slot:∀b o,h.get? b=some o->H b=none->b∈fs->b∉ex->∃sl,h'.get? b=some {o with slots:=sl}
 free:∀b o,h.get? b=some o->H b=none->b∉ex->H' b=none
 there:∀b o,h.get? b=some o->b∉ex->∃o',h'.get? b=some o'
 tups:∀b xs,H b=some (.tup xs)->H' b=some (.tup xs)
 frzs:∀b o u,H b=some (.frz o u)->H' b=some (.frz o u)
 tbls:∀b ps,H b=some (.tbl ps)->∃more,H' b=some (.tbl (ps++more))
section
variable{h d j h':Heap}{a x e:Ad}
theorem Un.any(u:Un fs c H f h d){b:Ad}(q:h.get? b=some ob)(n:H b=none)(a:b∉c):∃sl,d.get? b=some {ob with slots:=sl}:=by
 by_cases e:b∈fs
 .exact u.slot b ob q n e a
 .exact#[ob.slots,u.keep b ob q n e a]
theorem Un.kept(k:∀b u,h.get? b=some u->h'.get? b=some u):Un fs c H H h h':=
 #[λb a q _ _ _=>k b a q,λb a q _ _ _=>#[a.slots,k b a q],λ_ _ _ n _=>n,λb a q _=>#[a,k b a q],λ_ _ q=>q,λ_ _ _ q=>q,λ_ d q=>#[#v[],by rw[q];simp]]
theorem Un.refl:Un fs c H H h h:=Un.kept λ_ _ q=>q
theorem Un.laid(k:∀b u,h.get? b=some u->h'.get? b=some u)(e:h.objs.size<=a)(d:H a=none):Un fs c H (bx H a o) h h' where
 keep:=λb u q _ _ _=>k b u q
 slot:=λb u q _ _ _=>#[u.slots,k b u q]
 free:=λb u q n _=>by rw[bI<|dr<|gn (cy q) e];exact n
 there:=λb u q _=>#[u,k b u q]
 tups:=λb f q=>by rw[bI<|cQ q d];exact q
 frzs:=λb u f q=>by rw[bI<|cQ q d];exact q
 tbls:=λb g q=>#[#v[],by rw[bI<|cQ q d,q];simp]
theorem Un.write(d:Ak (H x))(l:e=x\/H e=some (.own x))(k:∀b u,b≠e->h.get? b=some u->h'.get? b=some u)(f:∃u,h'.get? e=some u):Un fs c H (bx H x o) h h':=by
 have i:∀b,H b=none->b≠x:=λb n z=>by subst z;rw[n]at d;exact d
 have j:∀b,H b=none->b≠e:=λb n z=>by
  subst z
  rcases l with r|r
  .exact i b n r
  .rw[n]at r;cases r
 have g:∀b u,H b=some u-> ¬Ak (some u)->b≠x:=λb u q m z=>by subst z;rw[q]at d;exact m d
 refine#[λb u q n _ _=>k b u (j b n) q,λb u q n _ _=>#[u.slots,k b u (j b n) q],λb u q n _=>by rw[bI<|i b n];exact n,λb u q _=>?_,
  λb p q=>by rw[bI<|g b _ q λz=>z];exact q,λb u p q=>by rw[bI<|g b _ q λz=>z];exact q,λb s q=>#[#v[],by rw[bI<|g b _ q λz=>z,q];simp]]
 by_cases a:b=e
 .subst a;exact f
 .exact#[u,k b u a q]
end
noncomputable def Eh(h:Heap)(H:Hp):As:=(List.range h.objs.size).filter λa=>(H a).isSome
noncomputable def qo(h:Heap)(H:Hp):Heap:=W.hideAll h (Eh h H)
theorem Qn(h)(H):(qo h H).objs.size=h.objs.size:=W.hideAll_size _ _
theorem Hk{b:Ad}(e:h.get? b=some o)(n:H b=none):(qo h H).get? b=some o:=
 W.hideAll_get _ e λa=>by
  have q:=(cL.mp a).2;rw[n]at q;simp at q
theorem S2{b:Ad}(e:(qo h H).get? b=some o):h.get? b=some o/\H b=none:=by
 have a:=W.of_hideAll (Eh h H) e;refine#[a,?_];cases q:H b with
 |none=>rfl
 |some x=>
  have c:b∈Eh h H:=cL.mpr #[fm.mpr<|cy a,by simp[q]];have z:(qo h H).get? b=none:=W.hideAll_none (Eh h H) c;rw[z]at e;cases e
noncomputable def SR(g h:Heap)(L:Ad):AO:=(List.range h.objs.size).filterMap λa=>if a=L\/(g.get? a).isSome=true then none else(h.get? a).map λo=>(a,o)
noncomputable def rest(g h:Heap)(L d:Ad):AO:=(SR g h L).filter λp=>decide (p.1≠d)
structure Mod(K:V3)(mg:SV)(base:Heap):Prop where
 kin:K.In base
 glob:base.Ns mainGlobals mg
 blt:∃mb,base.Ns builtinsNs mb/\∀x:Str,x≠"__name__"->mb x=bootBuiltins x
 nolimit:base.NoLimit
structure Cx where
 prog:Pg
 w:World
 K:V3
 mg:SV
 base:Heap
 A:Ar
 N:Ss
 s₀:Sh
 H₀:Hp
 env:Env
 outer:List Env
 stack:List Env
 ex:As
 fn:Str->Bool
 calm:Bool
 pn:AO
 xe:VP
noncomputable def mB(l:List Env):As:=l.filterMap (·.frame)
noncomputable abbrev Cx.fs(X:Cx):As:=mB X.outer
def CG(a:Scope)(x:Str):Prop:=a.names.lookup x=some .local\/a.names.lookup x=some .cell\/a.names.lookup x=some .free
def x6(a:Scope)(x:Str):Prop:=a.names.lookup x=some .local\/a.names.lookup x=some .cell
def IJ(a:Env)(h:Heap)(m:SV)(x:Str)(u:Vl):Prop:=
 (a.kindOf x=some .local/\m x=some u)\/((a.kindOf x=some .cell\/a.kindOf x=some .free)/\∃c,a.cells.lookup x=some c/\h.IsCell c (some u))
structure Cx.Ok(X:Cx):Prop where
 mod:Mod X.K X.mg X.base
 kind:X.env.scope.kind=.function
 glob:X.env.globals=mainGlobals
 blt:X.env.builtins=builtinsNs
 above:X.s₀.heap.objs.size<=X.env.locals
 inj:∀x y c,X.env.cells.lookup x=some c->X.env.cells.lookup y=some c->x=y
 has:∀x,(X.env.kindOf x=some .cell\/X.env.kindOf x=some .free)->∃c,X.env.cells.lookup x=some c
 cab:∀x c,X.fn x=true->X.env.cells.lookup x=some c->X.s₀.heap.objs.size<=c
 hd:X.calm=true->X.A.handled=none
 frames:X.A.frames=some X.stack
 stk:X.stack=X.outer\/(X.stack=X.env::X.outer/\X.env.frame=some X.env.locals)
 exf:∀b∈X.ex,b≠X.env.locals/\∀x c,X.env.cells.lookup x=some c->c≠b
 bs:∀b o,X.base.get? b=some o->X.s₀.heap.get? b=some o/\X.H₀ b=none
 bsz:X.base.objs.size<=X.s₀.heap.objs.size
 noex:∀b o,X.base.get? b=some o->b∉X.ex
 exfs:∀b∈X.ex,b∉X.fs
 funs:X.s₀.heap.FunFrames X.base X.outer
 frf:∀b∈X.fs,X.H₀ b=none
structure Inv(X:Cx)(za:AO)(σ:List (Option V))(H:Hp)(s:Sh):Prop where
 ok:X.Ok
 os:s.os=X.s₀.os
 bare:AllBare s.gens
 base:Un X.fs X.ex X.H₀ H X.s₀.heap s.heap
 loc:∃m,s.heap.Ns X.env.locals m/\∀(i:Nat) x v,X.N[i]?=some x->σ[i]?=some (some v)->CG X.env.scope x->∃u,RelV v u/\IJ X.env s.heap m x u
 cell:∀x c,X.env.cells.lookup x=some c->∃v,s.heap.IsCell c v
 free:H X.env.locals=none
 freeC:∀x c,X.env.cells.lookup x=some c->H c=none
 pin:∀p∈X.pn++za,s.heap.get? p.1=some p.2/\H p.1=none/\p.1≠X.env.locals/\p.1∉X.fs/\∀v,p.2.data≠ .cell v
 hok:HOk X.prog X.w H s.heap
 len:σ.length=X.N.length
section
variable{X:Cx}
theorem Cx.Ok.nofr(ok:X.Ok){b:Ad}(e:X.base.get? b=some o):b∉X.fs:=λa=>by
 have:=(ok.funs.mem a).1;rw[e]at this;cases this
theorem Inv.bs(I:Inv X f g H s):∀b o,X.base.get? b=some o->s.heap.get? b=some o/\H b=none:=λb o e=>
 #[I.base.keep b o (I.ok.bs b o e).1 (I.ok.bs b o e).2 (I.ok.nofr e)<|I.ok.noex b o e,I.base.free b o (I.ok.bs b o e).1 (I.ok.bs b o e).2<|I.ok.noex b o e]
theorem Inv.bk(I:Inv X f g H s):∀b o,X.base.get? b=some o->s.heap.get? b=some o:=λb o e=>(I.bs b o e).1
theorem Inv.mod(I:Inv X f g H s):Mod X.K X.mg X.base:=I.ok.mod
theorem Inv.kIn(I:Inv X f g H s):X.K.In s.heap:=I.ok.mod.kin.keeps I.bk
theorem Inv.lt(I:Inv X f g H s):X.env.locals<s.heap.objs.size:=let⟨_,a,_⟩:=I.loc;a.lt
theorem Inv.sz(I:Inv X f g H s):X.s₀.heap.objs.size<=s.heap.objs.size:=cz I.ok.above<|eZ I.lt
theorem Inv.nofs(I:Inv X f g H s){a:Ad}(h:s.heap.objs.size<=a):a∉X.fs:=λb=>by
 obtain⟨_,o,c,_⟩:=I.ok.funs.mem b;exact wC (gn (cy c)<|cz I.sz h)<|ni _
theorem Inv.cne(I:Inv X f g H s):∀x c,X.env.cells.lookup x=some c->c≠X.env.locals:=λx c e z=>by
 obtain⟨v,o,d,h⟩:=I.cell x c e;obtain⟨m,⟨i,j,k,a,b,_⟩,_⟩:=I.loc;rw[z,a]at d;cases d;rw[b]at h;cases h
theorem Inv.funs(I:Inv X f g H s):s.heap.FunFrames X.base X.outer:=by
 have all:∀l,(∀b∈mB l,b∈X.fs)->X.s₀.heap.FunFrames X.base l->s.heap.FunFrames X.base l:=by
  intro l
  induction l with
  |nil=>intro _ _;trivial
  |cons i r j=>
   intro h k;obtain⟨m,⟨L,o,a,n,p,q⟩,t⟩:=k;have c:=h L (by unfold mB;rw[List.filterMap_cons,a];exact List.mem_cons_self);obtain⟨sl,e⟩:=I.base.slot L o p (I.ok.frf L c) c λz=>I.ok.exfs L z c
   exact#[m,#[L,_,a,n,e,q],j (λb d=>h b (by unfold mB;rw[List.filterMap_cons,a];exact List.mem_cons_of_mem _ d)) t]
 exact all X.outer (λ_ d=>d) I.ok.funs
theorem Inv.stack(I:Inv X f g H s):s.heap.FunFrames X.base X.stack:=by
 rcases I.ok.stk with e|⟨e,a⟩
 .rw[e];exact I.funs
 .rw[e];obtain⟨m,b,_⟩:=I.loc;refine .cons (by rw[I.ok.kind];decide) a b (Heap.get?_none_of_le<|cz I.ok.bsz I.ok.above) I.funs
theorem Inv.stkSub(I:Inv X f g H s):∀b∈mB X.stack,b∈X.env.locals::X.fs:=λb a=>by
 rcases I.ok.stk with e|⟨e,c⟩
 .rw[e]at a;exact dS _ a
 .rw[e]at a;unfold mB at a;rw[wc,c]at a;exact a
theorem Inv.stkFree(I:Inv X f g H s):∀b∈mB X.stack,H b=none:=λb hb=>by
 rcases db.mp (I.stkSub b hb)with e|hb
 .rw[e];exact I.free
 .obtain⟨_,o,a,_⟩:=I.ok.funs.mem hb;exact I.base.free b o a (I.ok.frf b hb) λz=>I.ok.exfs b z hb
theorem Inv.step{g':Array GenState}{t':Nat}{d':Drawn}{ch:As}(I:Inv X f g H s)(h:∀b∈ch,(b∈X.ex\/X.s₀.heap.objs.size<=b)/\b≠X.env.locals/\(∀x c,X.env.cells.lookup x=some c->c≠b)/\∀p∈X.pn++f,p.1≠b)(keep:∀b o,b≠X.env.locals->b∉X.fs->b∉ch->s.heap.get? b=some o->H b=none->h'.get? b=some o)(A:∀b o,b≠X.env.locals->b∈X.fs->b∉ch->s.heap.get? b=some o->H b=none->∃sl,h'.get? b=some {o with slots:=sl}) (free:∀b o,b∉ch->s.heap.get? b=some o->H b=none->H' b=none)
  (C:∀b o,b∉ch->s.heap.get? b=some o->∃G,h'.get? b=some G)
  (tups:∀b B,H b=some (.tup B)->H' b=some (.tup B)) (J:∀b o u,H b=some (.frz o u)->H' b=some (.frz o u)) (L:∀b O,H b=some (.tbl O)->∃more,H' b=some (.tbl (O++more)))
  (ns:∀m,s.heap.Ns X.env.locals m->h'.Ns X.env.locals m) (Q:HOk X.prog X.w H' h') (hg:AllBare g'):
  Inv X f g H' {s with heap:=h',gens:=g',drawn:=d',toks:=t'}:=by
 have M:∀b o,X.s₀.heap.get? b=some o->b≠X.env.locals:=λb o e=>dr<|gn (cy e) I.ok.above;have w:∀b o,X.s₀.heap.get? b=some o->b∉X.ex->b∉ch:=λb o e a D=>by
  rcases (h b D).1 with z|z
  .exact a z
  .exact wC (gn (cy e) z)<|ni _
 have j:∀x c,X.env.cells.lookup x=some c->∀v,s.heap.IsCell c v->h'.IsCell c v:=λx c e v ⟨o,E,T⟩=>by
  have t:=λz=>(h c z).2.2.1 x c e rfl;by_cases Y:c∈X.fs
  .obtain⟨sl,q⟩:=A c o (I.cne x c e) Y t E<|I.freeC x c e;exact#[_,q,T]
  .exact#[o,keep c o (I.cne x c e) Y t E<|I.freeC x c e,T]
 refine#[I.ok,I.os,hg,#[λb o e n D a=>?_,λb o e n D a=>?_,λb o e n a=>?_,λb o e a=>?_,λb B e=>tups b B<|I.base.tups b B e,λb o B e=>J b o B<|I.base.frzs b o B e,λb O e=>?_],?_,λx c e=>?_,?_,λx c e=>?_,λp hp=>?_,Q,I.len]
 .exact keep b o (M b o e) D (w b o e a) (I.base.keep b o e n D a)<|I.base.free b o e n a
 .obtain⟨sl,y⟩:=I.base.slot b o e n D a;obtain⟨U,N⟩:=A b _ (M b o e) D (w b o e a) y<|I.base.free b o e n a;exact#[U,N]
 .obtain⟨G,y⟩:=I.base.there b o e a;exact free b G (w b o e a) y<|I.base.free b o e n a
 .obtain⟨G,y⟩:=I.base.there b o e a;exact C b G (w b o e a) y
 .obtain⟨m1,y⟩:=I.base.tbls b O e;obtain⟨m2,N⟩:=L b _ y;exact#[m1++m2,by rw[N,Array.append_assoc]]
 .obtain⟨m,hn,hl⟩:=I.loc;refine#[m,ns m hn,λi x v y N e3=>?_];obtain⟨u,r,l⟩:=hl i x v y N e3;refine#[u,r,?_]
  rcases l with l|⟨k,c,e,z⟩
  .exact .inl l
  .exact .inr #[k,c,e,j x c e _ z]
 .obtain⟨v,z⟩:=I.cell x c e;exact#[v,j x c e v z]
 .obtain⟨m,⟨o,_,_,E,_⟩,_⟩:=I.loc;exact free _ o (λz=>(h _ z).2.1 zZ) E I.free
 .obtain⟨v,o,E,T⟩:=I.cell x c e;exact free c o (λz=>(h c z).2.2.1 x c e zZ) E<|I.freeC x c e
 .obtain⟨e,n,ne,nf,d⟩:=I.pin p hp;have t:=λz=>(h p.1 z).2.2.2 p hp rfl;exact#[keep p.1 p.2 ne nf t e n,free p.1 p.2 t e n,ne,nf,d]
theorem Inv.un(I:Inv X f g H s)(u:Un X.fs [] H H' s.heap h')(c:HOk X.prog X.w H' h'):Inv X f g H' {s with heap:=h',toks:=t'}:=by
 obtain⟨m,⟨o,q,t,j,r⟩,_⟩:=id I.loc;obtain⟨sl,k⟩:=u.any j I.free (by simp);exact I.step (ch:=[]) (λ_ z=>nomatch z) (λb o _ d _ e n=>u.keep b o e n d<|by simp) (λb o _ d _ e n=>u.slot b o e n d<|by simp) (λb o _ e n=>u.free b o e n<|by simp) (λb o _ e=>u.there b o e<|by simp) u.tups u.frzs u.tbls (λv l=>by
  obtain⟨w,h,i,a,p⟩:=l;rw[j]at a;cases a;exact#[_,h,i,k,p]) c I.bare
theorem Inv.call(I:Inv X f g H s)(u:Un (mB X.stack) ch H H' s.heap h')(i:HOk X.prog X.w H' h')(t:AllBare g')(d:∀b∈ch,(b∈X.ex\/X.s₀.heap.objs.size<=b)/\b≠X.env.locals/\(∀x c,X.env.cells.lookup x=some c->c≠b)/\∀p∈X.pn++f,p.1≠b):
  Inv X f g H' {s with heap:=h',gens:=g',drawn:=d',toks:=t'}:=by
 obtain⟨m,⟨o,A,B,q,r⟩,_⟩:=id I.loc;obtain⟨sl,j⟩:=u.any q I.free λz=>(d _ z).2.1 rfl;exact I.step d (λb o j v a e n=>u.keep b o e n (λz=>(db.mp<|I.stkSub b z).elim j v) a) (λb o _ _ a e n=>u.any e n a) (λb o a e n=>u.free b o e n a) (λb o a e=>u.there b o e a) u.tups u.frzs u.tbls (λC w=>by
  obtain⟨D,k,l,h,y⟩:=w;rw[q]at h;cases h;exact#[_,k,l,j,y]) i t
theorem Inv.turned{it:Ad}(I:Inv X f g H s)(k:∀b o,b≠it->s.heap.get? b=some o->h'.get? b=some o)(i:H it=none)(h:it≠X.env.locals)(j:it∈X.ex\/X.s₀.heap.objs.size<=it) (l:∀x c,X.env.cells.lookup x=some c->c≠it) (t:∀p∈X.pn++f,p.1≠it):Inv X f g H {s with heap:=h',toks:=t'}:=by
 have d:∀b u,H b=some u->b≠it:=λb u e z=>by rw[z,i]at e;cases e
 refine I.step (ch:=[it]) (λb w=>?_) (λb o _ _ a e _=>k b o (λz=>a (by simp[z])) e) (λb o _ _ a e _=>#[o.slots,k b o (λz=>a (by simp[z])) e]) (λ_ _ _ _ n=>n)
  (λb o a e=>#[o,k b o (λz=>a (by simp[z])) e]) (λ_ _ e=>e) (λ_ _ _ e=>e) (λb D e=>#[#v[],by rw[e];simp]) (λm y=>?_) (λb u e=>?_) I.bare
 .have e:b=it:=by simpa using w
  subst e;exact#[j,h,l,t]
 .obtain⟨o,A,B,C,r⟩:=y;exact#[o,A,B,k _ o (dX h) C,r]
 .refine(I.hok b u e).stay (λc v a q=>k c v ?_ q) (λ_ q=>q) λ_ _ q=>q
  rcases a with z|z
  .rw[z];exact d b u e
  .exact d c _ z
theorem Inv.tok(I:Inv X f g H s)(t):Inv X f g H {s with toks:=t}:=I.un Un.refl I.hok
theorem Inv.kept(I:Inv X f g H s)(k:∀b u,s.heap.get? b=some u->h'.get? b=some u):Inv X f g H {s with heap:=h',toks:=t'}:=I.un (Un.kept k)<|I.hok.kept k
theorem Inv.laid{a:Ad}(I:Inv X f g H s)(k:∀b u,s.heap.get? b=some u->h'.get? b=some u)(c:s.heap.objs.size<=a)(new:ObjOk X.prog X.w (bx H a o) h' a o):
  Inv X f g (bx H a o) {s with heap:=h',toks:=t'}:=I.un (Un.laid k c<|I.hok.fresh c)<|I.hok.laid k c new
theorem Inv.write(I:Inv X f g H s)(c:Ak (H x))(d:e=x\/H e=some (.own x))(k:∀b u,b≠e->s.heap.get? b=some u->h'.get? b=some u)(a:∃u,h'.get? e=some u)(new:ObjOk X.prog X.w (bx H x o) h' x o):Inv X f g (bx H x o) {s with heap:=h',toks:=t'}:=I.un (Un.write c d k a)<|I.hok.write c d k a new
theorem Inv.weak(I:Inv X f g H s)(c:a.length=g.length)(w:∀(i:Nat) v,a[i]?=some (some v)->g[i]?=some (some v)):Inv X f a H s:=
 #[I.ok,I.os,I.bare,I.base,let⟨m,d,b⟩:=I.loc;#[m,d,λi x v e h j=>b i x v e (w i v h) j],I.cell,I.free,I.freeC,I.pin,I.hok,c.trans I.len]
theorem Inv.pins_of(I:Inv X f g H s)(h:∀p∈a,s.heap.get? p.1=some p.2/\H p.1=none/\p.1≠X.env.locals/\p.1∉X.fs/\∀v,p.2.data≠ .cell v):Inv X a g H s:=
 #[I.ok,I.os,I.bare,I.base,I.loc,I.cell,I.free,I.freeC,λp b=>(cF.mp b).elim (λz=>I.pin p<|pG _ z)<|h p,I.hok,I.len]
theorem Nf{N:Ss}(c:N.Nodup){i j:Nat}(a:N[i]?=some x)(b:N[j]?=some x):i=j:=by
 obtain⟨f,d⟩:=bN.mp a;obtain⟨g,e⟩:=bN.mp b;exact(List.getElem_inj c).mp<|d.trans e.symm
theorem Ko{A:Ar}{E:VP}{Q:Unit->Sh->Prop}(I:Inv X f g H s)(hN:X.N.Nodup)(O:X.N[i]?=some x)(B:x6 X.env.scope x)(r:RelV v u)(h:∀s',Inv X f (g.set i (some v)) H s'->(∃a,Heap.SameBut a s.heap s'.heap/\(a=X.env.locals\/X.env.cells.lookup x=some a))->Q ⟨⟩ s') (hf:X.fn x=true\/X.env.scope.names.lookup x=some .local:=by first|exact .inl rfl|exact .inr rfl|assumption):wpAny M A (storeName X.env x u) Q E s:=by
 obtain⟨m,hn,hl⟩:=id I.loc;have T:(X.env.scope.kind== .class || (X.env.scope.kind== .module&&X.env.locals != X.env.globals))=false:=by rw[I.ok.kind];rfl
 have G:i<g.length:=by rw[I.len];exact(bN.mp O).1
 have cne:=I.cne;have t:∀{a} {h'},(∃o,s.heap.get? a=some o/\H a=none)->Heap.SameBut a s.heap h'->HOk X.prog X.w H h':=λ{a h'} ha l b ob e=>by
  obtain⟨_,_,C⟩:=ha;refine(I.hok b ob e).stay (λc w' hc q=>(l.2 c ?_).trans q) (λ_ q=>q) λ_ _ q=>q;rintro rfl
  rcases hc with rfl|hc
  .rw[C]at e;cases e
  .rw[C]at hc;cases hc
 rcases B with hk|hk
 .refine wpAny_storeName_local hk hn (λh' ae l=>?_) T;obtain⟨oL,_,_,af,_⟩:=id hn;refine h _ #[I.ok,I.os,I.bare,#[λb o e n J B=>?_,λb o e n J B=>?_,I.base.free,λb o e B=>?_,I.base.tups,I.base.frzs,I.base.tbls],#[_,ae,λj y v' w D e3=>?_],λy c e=>?_,I.free,I.freeC,λp hp=>?_,t #[oL,af,I.free] l,by simpa using I.len] #[_,l,.inl zZ]
  .exact(l.2 b<|dr<|gn (cy e) I.ok.above).trans<|I.base.keep b o e n J B
  .obtain⟨sl,w⟩:=I.base.slot b o e n J B;exact#[sl,(l.2 b<|dr<|gn (cy e) I.ok.above).trans w]
  .obtain⟨o',w⟩:=I.base.there b o e B;exact#[o',(l.2 b<|dr<|gn (cy e) I.ok.above).trans w]
  .by_cases L:j=i
   .subst L;rw[O]at w;cases w;rw[List.getElem?_set_self G]at D;cases D;exact#[u,r,.inl #[hk,by simp]]
   .rw[List.getElem?_set_ne<|dX L]at D;obtain⟨u',r',q⟩:=hl j y v' w D e3;refine#[u',r',?_]
    rcases q with⟨k,e⟩|⟨k,c,e,z⟩
    .refine .inl #[k,?_];have:y≠x:=λe=>L<|Nf hN w<|e▸O;simp[this,e]
    .exact .inr #[k,c,e,z.sameBut l<|cne y c e]
  .obtain⟨w',z⟩:=I.cell y c e;exact#[w',z.sameBut l<|cne y c e]
  .obtain⟨e,n,ne,nf,d⟩:=I.pin p hp;exact#[(l.2 p.1 ne).trans e,n,ne,nf,d]
 .have N:X.fn x=true:=by grind
  obtain⟨c,hc⟩:=I.ok.has x<|.inl hk;obtain⟨w',z⟩:=I.cell x c hc;refine wpAny_storeName_cell I.ok.kind hk hc z<|λh' U l=>?_;obtain⟨oc,Y,aa⟩:=id z;refine h {s with heap:=h'} #[I.ok,I.os,I.bare,#[λb o e n J B=>?_,λb o e n J B=>?_,I.base.free,λb o e B=>?_,I.base.tups,I.base.frzs,I.base.tbls],#[m,hn.sameBut l<|dX<|cne x c hc,λj y v' w D e3=>?_],λy c' e=>?_,I.free,I.freeC,λp hp=>?_,t #[oc,Y,I.freeC x c hc] l,by simpa using I.len] #[c,l,.inr hc]
  .exact(l.2 b<|dr<|gn (cy e)<|I.ok.cab x c N hc).trans<|I.base.keep b o e n J B
  .obtain⟨sl,w⟩:=I.base.slot b o e n J B;exact#[sl,(l.2 b<|dr<|gn (cy e)<|I.ok.cab x c N hc).trans w]
  .obtain⟨o',w⟩:=I.base.there b o e B;exact#[o',(l.2 b<|dr<|gn (cy e)<|I.ok.cab x c N hc).trans w]
  .by_cases L:j=i
   .subst L;rw[O]at w;cases w;rw[List.getElem?_set_self G]at D;cases D;exact#[u,r,.inr #[.inl hk,c,hc,U]]
   .rw[List.getElem?_set_ne<|dX L]at D;obtain⟨u',r',q⟩:=hl j y v' w D e3;refine#[u',r',?_]
    rcases q with q|⟨k,c',e,z'⟩
    .exact .inl q
    .refine .inr #[k,c',e,z'.sameBut l ?_];rintro rfl;exact L<|Nf hN w<|I.ok.inj _ _ _ e hc▸O
  .by_cases ab:c'=c
   .subst ab;exact#[_,U]
   .obtain⟨w2,z2⟩:=I.cell y c' e;exact#[w2,z2.sameBut l ab]
  .obtain⟨e,n,ne,nf,d⟩:=I.pin p hp;refine#[(l.2 p.1 ?_).trans e,n,ne,nf,d];intro q;rw[q,Y]at e;exact d w'<|by grind
theorem Fi{A:Ar}{E:VP}{Q:Unit->Sh->Prop}(I:Inv X f g H s)(b:X.N.Nodup)(c:X.N[i]?=some x)(d:x6 X.env.scope x)(r:RelV v u)(h:∀a,Inv X f (g.set i (some v)) H a->Q ⟨⟩ a) (e:X.fn x=true\/X.env.scope.names.lookup x=some .local:=by first|exact .inl rfl|exact .inr rfl|assumption):wpAny M A (storeName X.env x u) Q E s:=
 Ko I b c d r (λa j _=>h a j) e
theorem Inv.call'(I:Inv X f g H s)(i:a.os=s.os)(u:Un (mB X.stack) ch H H' s.heap a.heap)(d:HOk X.prog X.w H' a.heap)(j:AllBare a.gens)(h:∀b∈ch,(b∈X.ex\/X.s₀.heap.objs.size<=b)/\b≠X.env.locals/\(∀x c,X.env.cells.lookup x=some c->c≠b)/\∀p∈X.pn++f,p.1≠b):Inv X f g H' a:=by
 obtain⟨_⟩:=a;subst i;exact I.call u d j h
end
abbrev XK:=Vl->Option Ad->Hp->Prop
abbrev St:=List (Option V)
abbrev VK:=V->Hp->Prop
abbrev TE:=St->Hp->VK->Prop
abbrev TT:=St->Hp->(Bool->Hp->Prop)->Prop
abbrev TA:=St->Hp->(List V->Hp->Prop)->Prop
structure Ends where
 nx:St->Hp->Prop
 rt:VK
 bk:St->Hp->Prop:=λ_ _=>False
 ct:St->Hp->Prop:=λ_ _=>False
abbrev TS:=Ends->St->Hp->Prop
def EP(X:Cx)(b:AO)(c:St)(Q:VK)(u:Vl)(d:Sh):Prop:=∃v a,Inv X b c a d/\RelV v u/\Q v a
def TP(X:Cx)(c:AO)(d:St)(Q:Bool->Hp->Prop)(b:Bool)(e:Sh):Prop:=∃a,Inv X c d a e/\Q b a
def AP(X:Cx)(c:AO)(d:St)(Q:List V->Hp->Prop)(e:Vs)(f:Sh):Prop:=∃a b,Inv X c d b f/\Vals a e/\Q a b
def SP(X:Cx)(c:AO)(D:Ends)(f:Flow)(d:Sh):Prop:=
 match f with
 |.next=>∃a b,Inv X c a b d/\D.nx a b
 |.brk=>∃a b,Inv X c a b d/\D.bk a b
 |.cont=>∃a b,Inv X c a b d/\D.ct a b
 |.ret u=>∃v a b,Inv X c a b d/\RelV v u/\D.rt v b
def PE(X:Cx)(e:Expr)(t:TE):Prop:=
 ∀b s (a:St) H Q,Inv X b a H s->t a H Q->wpAny (model X.prog X.w) X.A (eval e X.env) (EP X b a Q) X.xe s
def PT(X:Cx)(e:Expr)(t:TT):Prop:=
 ∀b s (a:St) H Q,Inv X b a H s->t a H Q->wpAny (model X.prog X.w) X.A (isTrue e X.env (eval e X.env)) (TP X b a Q) X.xe s
def PW(X:Cx)(e:Expr)(t:TT):Prop:=
 ∀(a:Sem Vl) c s (b:St) H Q,Inv X c b H s->t b H Q->wpAny (model X.prog X.w) X.A (isTrue e X.env a) (TP X c b Q) X.xe s
theorem PW.pt(h:PW X e t):PT X e t:=h _
def PA(X:Cx)(d:List Expr)(t:TA):Prop:=
 ∀a c s (b:St) H Q,Inv X c b H s->t b H Q->wpAny (model X.prog X.w) X.A (spliced (backTo a (starEach d X.env))) (AP X c b Q) X.xe s
def PS(X:Cx)(st:Stmt)(t:TS):Prop:=
 ∀a s (b:St) H D,Inv X a b H s->t D b H->wpAny (model X.prog X.w) X.A (exec st X.env) (SP X a D) X.xe s
def PSs(X:Cx)(st:List Stmt)(t:TS):Prop:=
 ∀a s (b:St) H D,Inv X a b H s->t D b H->wpAny (model X.prog X.w) X.A (execs st X.env) (SP X a D) X.xe s
theorem bS{Q c:b->Sh->Prop}{A:Ar}{E:VP}{s:Sh}(h:wpAny M A t Q E s)(d:∀a s,Q a s->c a s):wpAny M A t c E s:=iB h d λ_ _ x=>x
section
variable{X:Cx}
inductive cS(i:Nat)(a:St)(H:Hp)(Q:VK):Prop|mk:∀v,a[i]?=some (some v)->Q v H->cS i a H Q
def tC(v:V):TE:=λ_ H Q=>Q v H
theorem P6{f:Pos}(j:X.N[i]?=some x)(k:CG X.env.scope x)(b:(x==("__debug__":Str))=false:=by decide)(d:(x==("__classdict__":Str))=false:=by decide):PE X (.Name x f) (cS i):=by
 intro n s o H Q I h;obtain⟨v,e,h⟩:=h;obtain⟨m,p,q⟩:=I.loc;obtain⟨u,r,l⟩:=q i x v j e k;have fin:EP X n o Q u s:=#[v,H,I,r,h]
 rcases l with⟨hk,t⟩|⟨hk,c,g,a⟩
 .exact wpAny_Name (wpAny_loadName_local I.ok.kind hk p t fin) b
 .rcases hk with hk|hk
  .exact wpAny_Name (wpAny_loadName_cell I.ok.kind hk g a fin) b
  .exact wpAny_Name (wpAny_loadName_free I.ok.kind hk g a fin d) b
theorem bL{i j f}:PE X (.Constant (.int i) j f) (tC (.int i)):=λ_ _ _ H _ I h=>wpAny_Constant_int #[.int i,H,I.tok _,#[_,zZ],h]
theorem wn{b j f}:PE X (.Constant (.bool b) j f) (tC (.bl b)):=λ_ _ _ H _ I h=>Constant_bool #[.bl b,H,I,zZ,h]
theorem n'{j f}:PE X (.Constant .none j f) (tC .non):=λ_ _ _ H _ I h=>Constant_none #[.non,H,I,zZ,h]
theorem dM{x j f}:PE X (.Constant (.str x) j f) (tC (.str x)):=λ_ _ _ H _ I h=>Calls.Constant_str #[.str x,H,I.tok _,#[_,zZ],h]
def Gl(X:Cx)(x:Str):Prop:=X.env.kindOf x=some .globalImplicit
theorem z8{E:VP}{b:St}{u:Vl}{Q:VP}(I:Inv X a b H s)(c:Gl X x)(d:X.mg x=some u)(h:Q u s)(e:(x==("__debug__":Str))=false:=by decide):wpAny (model X.prog X.w) X.A (eval (.Name x f) X.env) Q E s:=
 Jg I.ok.kind c (Calls.loadGlobal_global (by rw[I.ok.glob];exact I.mod.glob.keeps I.bk) d h) e
theorem vh{E:VP}{b:St}{u:Vl}{f:Pos}{Q:VP}(I:Inv X a b H s)(c:Gl X x)(d:X.mg x=none)(e:bootBuiltins x=some u)(h:Q u s)(g:x≠"__name__":=by decide) (i:(x==("__debug__":Str))=false:=by decide):wpAny (model X.prog X.w) X.A (eval (.Name x f) X.env) Q E s:=by
 obtain⟨l,j,k⟩:=I.mod.blt;exact Jg I.ok.kind c (Calls.loadGlobal_builtin (by rw[I.ok.glob];exact I.mod.glob.keeps I.bk) d (by rw[I.ok.blt];exact j.keeps I.bk) ((k x g).trans e) h) i
theorem A3{u:Vl}(a:Gl X x)(b:X.mg x=some u)(r:RelV v u)(c:(x==("__debug__":Str))=false:=by decide):PE X (.Name x f) (tC v):=
 λ_ _ _ H _ I h=>z8 I a b #[v,H,I,r,h] c
theorem Ol{u:Vl}{f:Pos}(a:Gl X x)(b:X.mg x=none)(c:bootBuiltins x=some u)(r:RelV v u)(d:x≠"__name__":=by decide)(e:(x==("__debug__":Str))=false:=by decide):PE X (.Name x f) (tC v):=
 λ_ _ _ H _ I h=>vh I a b c #[v,H,I,r,h] d e
def PC(X:Cx)(g:CmpOp)(a b:Expr)(t:TE):Prop:=
 ∀f s (e:St) H Q,Inv X f e H s->t e H Q->
  wpAny (model X.prog X.w) X.A (eval a X.env) (λv c=>wpAny (model X.prog X.w) X.A (eval b X.env) (λu d=>wpAny (model X.prog X.w) X.A (compareOp g v u) (EP X f e Q) X.xe d) X.xe c) X.xe s
theorem L3(b)(h:a≠ .In)(c:a≠ .NotIn):behindInMarks a b=false:=by
 have d:(a==CmpOp.In)=false:=by grind
 have e:(a==CmpOp.NotIn)=false:=by grind
 cases b<;>simp[behindInMarks,d,e]
inductive Nn(x:V)(a:Hp)(Q:Bool->Hp->Prop):Prop|mk:∀c,x=.bl c->Q c a->Nn x a Q
def tB(t:TE):TT:=λa H Q=>t a H λx b=>Nn x b Q
theorem Pm(h:PC X c a b t)(d:behindInMarks c b=false:=by first|exact L3 _ (by decide) (by decide)|rfl):PE X (.Compare a [c] [b] f) t:=λe s g H Q I hw=>wpAny_Compare1 (h e s g H Q I hw) d
theorem vd(h:PC X e a b t)(g:behindInMarks e b=false:=by first|exact L3 _ (by decide) (by decide)|rfl):PT X (.Compare a [e] [b] f) (tB t):=by
 intro i s j H Q I hw;refine wpAny_isTrue_Compare1 (bS (h i s j H _ I hw) λv p g=>bS g λu r k=>bS k λc w ⟨x,l,m,n,o⟩=>?_) g;obtain⟨d,rfl,q⟩:=o;cases n;exact on #[l,m,q]
theorem iI(h:PE X e t)(b:∀a,isTrue e X.env a=(do let v <-a;standAt e.pos;holding [v] (truthy v)):=by intro _;rfl):PT X e (tB t):=by
 intro c s f H Q I hw;refine isTrue_plain (bS (h c s f H _ I hw) λv l ⟨x,g,i,j,k⟩=>?_)<|b _;obtain⟨d,rfl,q⟩:=k;cases j;exact on #[g,i,q]
variable{rest:List Expr}
def HF(t u:TT):TT:=λa H Q=>t a H λc b=>if c=true then u a b Q else Q false b
def Of(t u:TT):TT:=λa H Q=>t a H λc b=>if c=true then Q true b else u a b Q
def E9(t:TT):TT:=λa H Q=>t a H λc b=>Q (!c) b
theorem yK(b:PT X a k):PW X (.BoolOp .And [a] f) k:=by
 intro i d s g H Q I h;refine isTrue_and<|bS (b d s g H Q I h) λc j e=>?_;cases c with
 |true=>exact isTrue_and_nil e
 |false=>exact e
theorem yc(b:PT X a k):PW X (.BoolOp .Or [a] f) k:=by
 intro i d s g H Q I h;refine isTrue_or<|bS (b d s g H Q I h) λc j e=>?_;cases c with
 |false=>exact isTrue_or_nil e
 |true=>exact e
theorem yZ(l:PT X a k)(m:PW X (.BoolOp .And (b::rest) f) n):PW X (.BoolOp .And (a::b::rest) f) (HF k n):=by
 intro o d s e H Q I h;refine isTrue_and<|bS (l d s e H _ I h) λc p ⟨g,i,j⟩=>?_;cases c with
 |true=>exact m o d p e g Q i j
 |false=>exact#[g,i,j]
theorem zg(l:PT X a k)(m:PW X (.BoolOp .Or (b::rest) f) n):PW X (.BoolOp .Or (a::b::rest) f) (Of k n):=by
 intro o d s e H Q I h;refine isTrue_or<|bS (l d s e H _ I h) λc p ⟨g,i,j⟩=>?_;cases c with
 |true=>exact#[g,i,j]
 |false=>exact m o d p e g Q i j
theorem iC(b:PT X a k):PT X (.UnaryOp .Not a f) (E9 k):=by
 intro d s e H Q I h;exact isTrue_not<|b d s e H (λc g=>Q (!c) g) I h
def AK(g o:TE):TE:=λa H Q=>g a H λx b=>∃c,x=.bl c/\if c=true then o a b Q else Q (.bl false) b
inductive nP(x:V)(a:Hp)(Q:VK):Prop|mk:∀c,x=.bl c->Q (.bl (!c)) a->nP x a Q
def Aq(g:TE):TE:=λa H Q=>g a H λx b=>nP x b Q
theorem rq{b}(h:PE X a t):PE X (.BoolOp b [a] f) t:=λc s d H Q I hw=>BoolOp_one<|h c s d H Q I hw
theorem tz(l:PE X a g)(m:PE X (.BoolOp .And (b::rest) f) o):PE X (.BoolOp .And (a::b::rest) f) (AK g o):=by
 intro e s i H Q I h;refine BoolOp_and<|bS (l e s i H _ I h) λv n ⟨x,j,k,p,d⟩=>?_;obtain⟨c,rfl,d⟩:=d;cases p;refine on ?_;cases c with
 |true=>exact m e n i j Q k d
 |false=>exact#[.bl false,j,k,zZ,d]
theorem RX(d:PE X a g):PE X (.UnaryOp .Not a f) (Aq g):=by
 intro e s i H Q I h;refine UnaryOp_<|bS (d e s i H _ I h) λv m ⟨x,j,k,l,b⟩=>?_;obtain⟨c,rfl,b⟩:=b;cases l;exact not_of<|on #[.bl<|!c,j,k,zZ,b]
def OH(t:TT)(g o:TE):TE:=λa H Q=>t a H λc b=>if c=true then g a b Q else o a b Q
theorem Ow(p:PT X c k)(q:PE X a g)(r:PE X b o):PE X (.IfExp c a b f) (OH k g o):=by
 intro e s i H Q I h;refine wpAny_IfExp<|bS (p e s i H _ I h) λd j ⟨l,m,n⟩=>?_;cases d with
 |true=>exact q e j i l Q m n
 |false=>exact r e j i l Q m n
end
def SqL(K:V3)(H:Hp)(a:Ad)(xs:List V):Prop:=
 Rd H a (.lst xs)\/
  ∃(o:Obj) (b:AV) (n:Nat),K.lookup a=some o/\o.cls=.type "list"/\o.dict=none/\o.data=.seq b n/\b.size<=sizeLine/\Vals xs b.toList
def SqT(K:V3)(H:Hp)(a:Ad)(xs:List V):Prop:=
 Rd H a (.tup xs)\/
  ∃(o:Obj) (b:AV) (n:Nat),K.lookup a=some o/\o.cls=.type "tuple"/\o.data=.seq b n/\b.size<=sizeLine/\Vals xs b.toList
noncomputable def HW:Vl->Option V
 |.none=>some .non
 |.bool b=>some (.bl b)
 |.int i _=>some (.int i)
 |.str x _=>some (.str x)
 |.bytes b _=>some (.byt b)
 |.float b _=>some (.flt b)
 |.ref a=>some (.ref a)
 |.type n=>some (.ty n)
 |_=>none
theorem RelV.abs(r:RelV x u):HW u=some x:=by
 cases x with
 |non=>cases r;rfl
 |bl _=>cases r;rfl
 |int _=>obtain⟨t,rfl⟩:=r;rfl
 |str _=>obtain⟨t,rfl⟩:=r;rfl
 |byt _=>obtain⟨t,rfl⟩:=r;rfl
 |flt _=>obtain⟨t,rfl⟩:=r;rfl
 |ref _=>cases r;rfl
 |ty _=>cases r;rfl
theorem RelV.inj(r:RelV x u)(q:RelV y u):x=y:=ge<|r.abs.symm.trans q.abs
theorem Vals.inj:∀{a b} {c:Vs},Vals a c->Vals b c->a=b
 |_,_,_,.nil,.nil=>rfl
 |_,_,_,.cons r t,.cons d t'=>by rw[r.inj d,Vals.inj t t']
section
variable{b:St}
theorem V1{K:V3}(h:H a=some (.lst xs)):SqL K H a xs:= .inl<|.inl h
theorem V2{K:V3}(h:H a=some (.tup xs)):SqT K H a xs:= .inl<|.inl h
theorem Inv.list(I:Inv X c b H s)(h:SqL X.K H a xs):∃its:Vs,Vals xs its/\PlainL s.heap a its.toArray/\xs.length<=sizeLine:=by
 rcases h with h|⟨o,its,n,d,f,g,i,j,r⟩
 .obtain⟨z,its,n,r,e⟩:=h.ok I.hok;exact#[its,r,#[_,n,e,zZ,zZ,zZ],z]
 .refine#[its.toList,r,#[o,n,I.kIn a o d,f,g,by simpa using i],?_];have e:=r.length;simp only[Array.length_toList]at e;lia
theorem Inv.tuple(I:Inv X c b H s)(h:SqT X.K H a xs):∃its:Vs,Vals xs its/\IsTup s.heap a its.toArray/\xs.length<=sizeLine:=by
 rcases h with h|⟨o,its,n,d,f,g,i,r⟩
 .obtain⟨z,its,r,p⟩:=h.ok I.hok;exact#[its,r,p.is,z]
 .refine#[its.toList,r,#[o,I.kIn a o d,f,n,by simpa using g],?_];have e:=r.length;simp only[Array.length_toList]at e;lia
theorem Inv.list_inj(I:Inv X c b H s)(h:SqL X.K H a xs)(h':SqL X.K H a ys):xs=ys:=by
 obtain⟨g,r,⟨o,n,e,_,_,d⟩,_⟩:=I.list h;obtain⟨f,j,⟨l,m,i,_,_,d'⟩,_⟩:=I.list h';rw[e]at i;cases i;rw[d]at d';injection d' with k _
 have:g=f:=by grind
 subst this;exact r.inj j
theorem Inv.tuple_inj(I:Inv X c b H s)(h:SqT X.K H a xs)(h':SqT X.K H a ys):xs=ys:=by
 obtain⟨g,r,⟨o,e,_,n,d⟩,_⟩:=I.tuple h;obtain⟨f,j,⟨l,i,_,m,d'⟩,_⟩:=I.tuple h';rw[e]at i;cases i;rw[d]at d';injection d' with k _
 have:g=f:=by grind
 subst this;exact r.inj j
end
abbrev Cx.wish(X:Cx)(E:VP):Cx:={X with xe:=E}
abbrev Cx.nox(X:Cx):Cx:=X.wish λ_ _=>False
theorem Cx.Ok.wish{X:Cx}(ok:X.Ok)(E):(X.wish E).Ok:=
 #[ok.mod,ok.kind,ok.glob,ok.blt,ok.above,ok.inj,ok.has,ok.cab,ok.hd,ok.frames,ok.stk,ok.exf,ok.bs,ok.bsz,ok.noex,ok.exfs,ok.funs,ok.frf]
theorem Cx.Ok.unwish{X:Cx}(ok:(X.wish E).Ok):X.Ok:=
 #[ok.mod,ok.kind,ok.glob,ok.blt,ok.above,ok.inj,ok.has,ok.cab,ok.hd,ok.frames,ok.stk,ok.exf,ok.bs,ok.bsz,ok.noex,ok.exfs,ok.funs,ok.frf]
section
variable{b:St}
theorem Inv.wish(I:Inv X a b H s)(E):Inv (X.wish E) a b H s:=#[I.ok.wish E,I.os,I.bare,I.base,I.loc,I.cell,I.free,I.freeC,I.pin,I.hok,I.len]
theorem Inv.unwish(I:Inv (X.wish E) a b H s):Inv X a b H s:=#[I.ok.unwish,I.os,I.bare,I.base,I.loc,I.cell,I.free,I.freeC,I.pin,I.hok,I.len]
theorem SP.unwish(h:SP (X.wish E) a D f d):SP X a D f d:=by
 cases f with
 |next=>obtain⟨b,c,I,q⟩:=h;exact#[b,c,I.unwish,q]
 |brk=>obtain⟨b,c,I,q⟩:=h;exact#[b,c,I.unwish,q]
 |cont=>obtain⟨b,c,I,q⟩:=h;exact#[b,c,I.unwish,q]
 |ret u=>obtain⟨v,b,c,I,r,q⟩:=h;exact#[v,b,c,I.unwish,r,q]
theorem PSs.nox{st:List Stmt}(h:PSs X.nox st t):PSs X st t:=λa s b H D I hw=>
 iB (h a s b H D (I.wish _) hw) (λ_ _ q=>q.unwish) λ_ _ z=>wE z
end
section
variable{st:Stmt}{rest:List Stmt}
def LA:TS:=λD a H=>D.nx a H
def oi(t u:TS):TS:=λD a H=>t {D with nx:=u D} a H
theorem dh:PSs X [] LA:=λ_ _ a H _ I h=>Em #[a,H,I,h]
theorem bK(c:PS X st t)(d:PSs X rest u):PSs X (st::rest) (oi t u):=by
 intro b s e H D I h;refine wpAny_execs_cons<|bS (c b s e H {D with nx:=u D} I h) λf g q=>?_;cases f with
 |next=>
  obtain⟨a,i,j,q⟩:=q;exact d b g a i D j q
 |ret v=>exact q
 |brk=>exact q
 |cont=>exact q
theorem bM(a:PS X st t):PSs X [st] t:=by
 intro b s c H D I h;refine wpAny_execs_cons<|bS (a b s c H D I h) λf d q=>?_;cases f with
 |next=>exact Em q
 |ret v=>exact q
 |brk=>exact q
 |cont=>exact q
theorem Inv.quiet{b:St}(I:Inv X a b H s):interactive X.env=false:=by simp[interactive,I.ok.kind]
def zn(i:TE):TS:=λD a H=>i a H λ_ b=>D.nx a b
theorem iR(b:PE X e i)(c:swapsWith e none g.line X.env=pure false:=by rfl):PS X (.Expr e g) (zn i):=by
 intro d s a H D I h;exact wpAny_Expr_any (bS (b d s a H _ I h) λv l ⟨x,f,j,m,k⟩=>#[a,f,j,k]) I.quiet c
def v5(i:TE):TS:=λD a H=>i a H D.rt
theorem cg(b:PE X e i):PS X (.Return (some e) g) (v5 i):=by
 intro c s a H D I h;exact wpAny_Return_some<|bS (b c s a H _ I h) λv l ⟨x,d,f,j,k⟩=>#[x,a,d,f,j,k]
def zQ(c:TT)(t u:TS):TS:=λD a H=>c a H λb d=>if b=true then t D a d else u D a d
theorem di(n:PT X c i)(o:PSs X a t)(p:PSs X b u):PS X (.If c a b g) (zQ i t u):=by
 intro e s f H D I h;refine wpAny_If<|bS (n e s f H _ I h) λd j ⟨k,l,m⟩=>?_;cases d with
 |true=>exact o e j f k D l m
 |false=>exact p e j f k D l m
def QR:TS:=λ_ _ _=>False
theorem nh:PS X st QR:=λ_ _ _ _ _ _ h=>h.elim
end
abbrev TG:=V->St->Hp->(St->Hp->Prop)->Prop
abbrev yS:=List V->St->Hp->(St->Hp->Prop)->Prop
def PG(X:Cx)(a:Expr)(t:TG):Prop:=
 ∀c s (d:St) H v u Q,Inv X c d H s->RelV v u->t v d H Q->
  wpAny (model X.prog X.w) X.A (assign a X.env u) (λ_ f=>∃b e,Inv X c b e f/\Q b e) X.xe s
def CF(X:Cx)(g:List Expr)(t:yS):Prop:=
 ∀b s (c:St) H d (e:Vs) Q,Inv X b c H s->Vals d e->t d c H Q->
  wpAny (model X.prog X.w) X.A (assignInOrder ((assignEach g X.env).map (·.2)) e) (λ_ h=>∃a f,Inv X b a f h/\Q a f) X.xe s
abbrev vi:=V->V->V->Hp->(Hp->Prop)->Prop
def zj(X:Cx)(t:vi):Prop:=
 ∀a s (b:St) H o i v c d u Q,Inv X a b H s->RelV o c->RelV i d->RelV v u->t o i v H Q->
  wpAny (model X.prog X.w) X.A (setItem c d u) (λ_ f=>∃e,Inv X a b e f/\Q e) X.xe s
abbrev Dj:=V->V->Hp->VK->Prop
def K3(X:Cx)(c:Operator)(t:Dj):Prop:=
 ∀a s (b:St) H x y v u Q,Inv X a b H s->RelV x v->RelV y u->t x y H Q->
  wpAny (model X.prog X.w) X.A (inplaceOp c v u) (EP X a b Q) X.xe s
section
variable{d:Pos}
def gi(i:Nat):TG:=λv a H Q=>Q (a.set i (some v)) H
theorem dG(a:X.N.Nodup)(b:X.N[i]?=some x)(c:x6 X.env.scope x)(e:X.fn x=true\/X.env.scope.names.lookup x=some .local:=by first|exact .inl rfl|exact .inr rfl|assumption):PG X (.Name x d) (gi i):=by
 intro g s j H v u Q I r h;exact wpAny_assign_Name<|Fi I a b c r (λk f=>#[_,H,f,h]) e
def vp:yS:=λa b H Q=>a=[]/\Q b H
inductive gQ(t:TG)(u:yS)(b:List V)(c:St)(H:Hp)(Q:St->Hp->Prop):Prop|mk:∀v r,b=v::r->(t v c H λa d=>u r a d Q)->gQ t u b c H Q
theorem ua:CF X [] vp:=by
 intro b s a H c d Q I r h;obtain⟨e,h⟩:=h;subst e;cases r;exact assignInOrder_nil #[a,H,I,h]
theorem lA(d:PG X e t)(f:CF X a u)(g:(assignEach (e::a) X.env).map (·.2)=assign e X.env::(assignEach a X.env).map (·.2):=by rfl):CF X (e::a) (gQ t u):=by
 intro c s i H p q Q I r h;obtain⟨v,w,j,h⟩:=h;subst j;cases r with
 |cons r k=>
  rw[g];refine assignInOrder_cons<|bS (d c s i H _ _ _ I r h) λ_ l ⟨b,m,n,o⟩=>f c l b m _ _ Q n k o
inductive pM(K:V3)(n:Nat)(t:yS)(v:V)(c:St)(H:Hp)(Q:St->Hp->Prop):Prop|mk:∀a b,v=.ref a->SqT K H a b->b.length=n->t b c H Q->pM K n t v c H Q
theorem wm{k:Nat}(l:X.calm=true)(h:CF X c t)(m:(assignEach c X.env).length=n:=by rfl) (f:(assignEach c X.env).findIdx? (·.1)=none:=by rfl):PG X (.Tuple c k d) (pM X.K n t):=by
 intro g s i H v u Q I r hw;obtain⟨a,p,q,w,x,hw⟩:=hw;subst q;cases r;obtain⟨y,j,ht,C⟩:=I.tuple w;refine assign_Tuple_tuple (I.ok.hd l) ht (by simp[m,<-x,j.length]) f λz A=>?_;exact h g _ i H p _ Q (I.kept (t':=s.toks) λb o e=>A b o (dr<|cy e) e) j hw
def IB(to b:TE)(t:vi):TG:=λv a H Q=>to a H λo c=>b a c λi d=>t o i v d λe=>Q a e
theorem C5(g:PE X o to)(j:PE X i f)(k:zj X t)(l:∀v,assign (.Subscript o i d) X.env v=(do
   let a <-holding [v] (eval o X.env)
   let b <-holding [v,a] (eval i X.env)
   standAt d
   holding [v,a,b] (setItem a b v)
   release [v,a,b] []):=by intro _;rfl):PG X (.Subscript o i d) (IB to f t):=by
 intro e s c H v u Q I r h;rw[l];refine bz<|jg<|bS (g e s c H _ I h) λa m ⟨x,n,p,q,w⟩=>bz<|jg<|bS (j e m c n _ p w) λb z ⟨y,A,B,C,D⟩=>?_;refine bz<|Cb<|bz<|jg<|bS (k e z c A x y v a b u _ B q C r D) λ_ L ⟨E,G,J⟩=>wpAny_release #[c,E,G,J]
def oO(b:TE)(g:TG):TS:=λD a H=>b a H λx c=>g x a c D.nx
theorem Cg(i:PE X e b)(j:PG X a g)(k:swapsWithSole [a] e d.line X.env=pure false:=by rfl)(hw:swappedStores [a] e X.env=pure none:=by rfl)
  (l:(assignEach [a] X.env).map (·.2)=[assign a X.env]:=by rfl):PS X (.Assign [a] e d) (oO b g):=by
 intro c s f H D I h;refine wpAny_Assign_stores (bS (i c s f H _ I h) λv m ⟨x,n,o,p,r⟩=>?_) k hw;rw[l];exact bS (j c m f n x v _ o p r) λ_ t q=>q
theorem cj(c:X.N.Nodup)(f:X.N[i]?=some x)(g:x6 X.env.scope x)(j:PE X e b)(k:swapsWith e (some (.Name x a)) d.line X.env=pure false:=by rfl)(l:X.fn x=true\/X.env.scope.names.lookup x=some .local:=by first|exact .inl rfl|exact .inr rfl|assumption):
  PS X (.Assign [.Name x a] e d) (oO b (gi i)):=by
 intro m s n H D I h;refine wpAny_Assign_Name (bS (j m s n H _ I h) λv u ⟨y,o,p,q,r⟩=>Fi p c f g q (λw t=>#[_,o,t,r]) l) k
def Hm(i:Nat)(b:TE)(c:Dj):TS:=λD a H=>∃x,a[i]?=some (some x)/\b a H λy d=>c x y d λz e=>D.nx (a.set i (some z)) e
theorem KI(C:X.N.Nodup)(A:X.N[i]?=some x)(n:x6 X.env.scope x)(E:PE X e q)(G:K3 X j t)(J:X.fn x=true\/X.env.scope.names.lookup x=some .local:=by first|exact .inl rfl|exact .inr rfl|assumption):
  PS X (.AugAssign (.Name x b) j e d) (Hm i q t):=by
 intro o s B H D I h;obtain⟨v,L,h⟩:=h;obtain⟨m,M,N⟩:=I.loc;have p:CG X.env.scope x:=by rcases n with k|k;exact .inl k;exact .inr<|.inl k
 obtain⟨u,r,l⟩:=N i x v A L p;refine wpAny_AugAssign_Name ?_;have go:wpAny (model X.prog X.w) X.A (eval e X.env) (λw f=>wpAny (model X.prog X.w) X.A (inplaceOp j u w) (λr g=>wpAny (model X.prog X.w) X.A (storeName X.env x r) (λ_=>SP X o D .next) X.xe g) X.xe f) X.xe s:=by
  refine bS (E o s B H _ I h) λw O ⟨y,Q,T,U,Y⟩=>bS (G o O B Q v y u w _ T r U Y) λz s2 ⟨zv,H2,I2,r2,q2⟩=>?_;exact Fi I2 C A n r2 (λs3 I3=>#[_,H2,I3,q2]) J
 rcases l with⟨hk,hm⟩|⟨hk,c,hc,a⟩
 .exact wpAny_loadName_local I.ok.kind hk M hm go
 .rcases hk with hk|hk
  .exact wpAny_loadName_cell I.ok.kind hk hc a go
  .rcases n with k|k
   .have:X.env.scope.names.lookup x=some .free:=hk;rw[k]at this;cases this
   .have:X.env.scope.names.lookup x=some .free:=hk;rw[k]at this;cases this
def P'(f:Int->Int->Int):Dj:=λx y H Q=>∃i j,x=.int i/\y=.int j/\Q (.int (f i j)) H
theorem Jr:K3 X .Add (P' λi j=>i+j):=by
 intro e s f H x y v u Q I a b h;obtain⟨i,j,c,d,q⟩:=h;subst c;subst d;obtain⟨t,rfl⟩:=a;obtain⟨g,rfl⟩:=b;exact iadd_int #[.int _,H,I.tok _,#[_,zZ],q]
end
def Jq(c:TT)(h:TS):TS:=λD a H=>∃W:Nat->St->Hp->Prop,(∃m,W m a H)/\∀m a H,W m a H->
 c a H λb e=>if b=true then ∃N,(∀d f,N d f->∃g,g<m/\W g d f)/\h {D with nx:=N,ct:=N,bk:=D.nx} a e else D.nx a e
theorem Jh(x:PassesOwn (model X.prog X.w) X.A X.env X.xe)(E:PT X c u)(G:PSs X g w):PS X (.While c g [] a) (Jq u w):=by
 intro m s J H D I h;obtain⟨W,⟨L,M⟩,turn⟩:=h;refine wpAny_While<|codeAny_whileLoop (λn O=>∃i y,Inv X m i y O/\W n i y) ?_ L #[J,H,I,M];rintro n Q ⟨e,z,T,U⟩;refine ul x<|bS (E m Q e z _ T<|turn n e z U) λb Y ⟨A,B,k⟩=>?_;cases b with
 | true=>
  obtain⟨N,C,k⟩:=k;rw[wB zZ];refine ul x<|bS (G m Y e A _ B k) λf s3 l=>?_;cases f with
  |next=>
   obtain⟨d,j,o,p⟩:=l;obtain⟨q,r,t⟩:=C d j p;exact#[q,r,d,j,o,t]
  |cont=>
   obtain⟨d,j,o,p⟩:=l;obtain⟨q,r,t⟩:=C d j p;exact#[q,r,d,j,o,t]
  |brk=>exact l
  |ret v=>exact l
 |false=>
  rw[wA fT];exact Em #[e,A,B,k]
structure It where
 go:Nat->Hp->Prop
 yld:Nat->Hp->V->Hp->Prop
 stop:Nat->Hp->Prop
def FpOk(X:Cx)(a:AO)(H:Hp)(b:Ad):Prop:=
 H b=none/\b≠X.env.locals/\b∉X.fs/\(b∈X.ex\/X.s₀.heap.objs.size<=b)/\(∀x c,X.env.cells.lookup x=some c->c≠b)/\∀p∈X.pn++a,p.1≠b
theorem Inv.fpOk{f:St}{b:Ad}(I:Inv X d f H s)(a:s.heap.objs.size<=b)(g:H' b=none):FpOk X d H' b:=by
 refine#[g,pd (gn I.lt a),I.nofs a,.inr (cz I.sz a),λx c e z=>?_,λp h z=>?_]
 .obtain⟨v,q⟩:=I.cell x c e;exact wC (gn q.lt (by rw[z];exact a)) (ni _)
 .exact wC (gn (cy (I.pin p h).1) (by rw[z];exact a)) (ni _)
structure Turn(P:Pg)(w:World)(K:V3)(tg:Expr)(J:It)(fp:As)(it:Ad)(tn:Nat->Heap->Prop):Prop where
 mem:it∈fp
 obj:∀i h,tn i h->∀b∈fp,∃o,h.get? b=some o/\∀v,o.data≠ .cell v
 keep:∀i h h',tn i h->(∀b∈fp,∀o,h.get? b=some o->h'.get? b=some o)->tn i h'
 item:∀X,X.prog=P->X.w=w->X.K=K->X.calm=true->∀i za s (σ:St) H (E:VP),Inv X za σ H s->(∀b∈fp,FpOk X za H b)->tn i s.heap->J.go i H->
  wpAny (model P w) X.A (pyNext (.ref it)) (λr s1=>∃u,r=some u/\
   wpAny (model P w) X.A (letOwnedTupleGo tg (.ref it) u) (λ_ s2=>∃x H',Inv X za σ H' s2/\RelV x u/\J.yld i H x H'/\tn (i+1) s2.heap/\∀b∈fp,H' b=none) E s1) E s
 done:∀X,X.prog=P->X.w=w->X.K=K->X.calm=true->∀i za s (σ:St) H (E:VP),Inv X za σ H s->(∀b∈fp,FpOk X za H b)->tn i s.heap->J.stop i H->
  wpAny (model P w) X.A (pyNext (.ref it)) (λr s1=>r=none/\Inv X za σ H s1) E s
 self:∀(A:Ar) i (s:Sh) (Q:VP) (E:VP),tn i s.heap->Q (.ref it) s->wpAny (model P w) A (pyIter (.ref it)) Q E s
abbrev TI:=St->Hp->(It->Hp->Prop)->Prop
def Gx(X:Cx)(d:AO)(i:St)(j:Expr)(R:It->Hp->Prop)(a:Vl)(e:Sh):Prop:=
 ∃(f:Ad) (g:As) (h:Nat->Heap->Prop) (J:It) (c:Hp),a=.ref f/\Inv X d i c e/\Turn X.prog X.w X.K j J g f h/\h 0 e.heap/\(∀b∈g,FpOk X d c b)/\R J c
def PI(X:Cx)(d a:Expr)(e:TI):Prop:=
 ∀c s (b:St) H R,Inv X c b H s->e b H R->
  wpAny (model X.prog X.w) X.A (eval a X.env) (λv f=>wpAny (model X.prog X.w) X.A (pyIter v) (Gx X c b d R) X.xe f) X.xe s
theorem AD{A:Ar}{E:VP}{c:Ad}{u:Vl}{d:AV}{Q:Unit->Sh->Prop}(e:s.heap.get? c=some o)(f:o.cls=.type n)(g:o.data=.fields d)(i:["enumerate","zip","dict_itemiterator","dict_reverseitemiterator","odict_iterator","itertools.zip_longest","itertools.pairwise"].contains n=false) (a:Q ⟨⟩ s):wpAny M A (letOwnedTupleGo b (.ref c) u) Q E s:=by
  cases b<;>first
    |exact bJ a
    |(cases u<;>first
        |exact bJ a
        | (refine bz (wpAny_load e ?_)
           rw[f,g];show wpAny M A (if(["enumerate","zip","dict_itemiterator","dict_reverseitemiterator","odict_iterator","itertools.zip_longest","itertools.pairwise"].contains n&&d[0]? ==some (rawInt _))=true then _ else _) Q E s
           rw[wA<|by grind];exact bJ a))
noncomputable def vt(K:V3)(a:Ad):It:=
 #[λi H=>∃b x,SqL K H a b/\b[i]?=some x,λi H x c=>c=H/\∀b,SqL K H a b->b[i]?=some x,λi H=>∃b,SqL K H a b/\b.length<=i]
noncomputable def vf(K:V3)(a:Ad):It:=
 #[λi H=>∃b x,SqT K H a b/\b[i]?=some x,λi H x c=>c=H/\∀b,SqT K H a b->b[i]?=some x,λi H=>∃b,SqT K H a b/\b.length<=i]
noncomputable def sd(lo:Int)(n:Nat):It:=#[λi _=>i<n,λi H x a=>a=H/\x=.int (lo+i),λi _=>n<=i]
theorem Sq{K:V3}(a f:Ad):Turn P w K Q (vt K a) [f] f (λi h=>h.IsListIter f a i) where
 mem:=by simp
 obj:=λi h st b g=>by
  have e:b=f:=by simpa using g
  subst e;obtain⟨o,e,c,d⟩:=st;exact#[o,e,λv z=>by rw[d]at z;cases z]
 keep:=λi h l st k=>st.at λo e=>k f (by simp) o e
 item:=by
  intro X q hw r M i N s O H E I m st t;subst q hw r;obtain⟨T,x,n,y⟩:=t;obtain⟨A,B,p,U⟩:=I.list n;obtain⟨u,Y,ru⟩:=B.get y;obtain⟨C,D,f2,G,J,L⟩:=m f (by simp);refine wpAny_pyNext_list_item st p.isList (by simpa using Y) λl j sb=>?_;obtain⟨o,e,c,d⟩:=id j;exact#[u,zZ,AD e c d zZ #[x,H,(I.turned (t':=s.toks) (λb o g e=>(sb.2 b g).trans e) C D G J L),ru,#[rfl,λys hy=>by rw[I.list_inj hy n];exact y],j,λb g=>(m b g).1]]
 done:=by
  intro X q hw r M i N s O H E I m st t;subst q hw r;obtain⟨T,n,y⟩:=t;obtain⟨A,B,p,U⟩:=I.list n;obtain⟨C,D,f2,G,J,L⟩:=m f (by simp);have hl:=B.length;exact wpAny_pyNext_list_end (I.ok.hd M) st p.isList (by simp;lia) λl eb=>#[zZ,I.turned (λb o g e=>eb b o g e) C D G J L]
 self:=λ_ _ _ _ _ st h=>wpAny_pyIter_listiter st h
theorem Rc{K:V3}(a f:Ad):Turn P w K Q (vf K a) [f] f (λi h=>h.IsTupleIter f a i) where
 mem:=by simp
 obj:=λi h st b g=>by
  have e:b=f:=by simpa using g
  subst e;obtain⟨o,e,c,d⟩:=st;exact#[o,e,λv z=>by rw[d]at z;cases z]
 keep:=λi h m st k=>st.at λo e=>k f (by simp) o e
 item:=by
  intro X r hw t M i N s O H E I n st y;subst r hw t;obtain⟨T,x,q,A⟩:=y;obtain⟨j,B,p,U⟩:=I.tuple q;obtain⟨u,Y,ru⟩:=B.get A;obtain⟨C,D,f2,G,J,L⟩:=n f (by simp);refine wpAny_pyNext_tuple_item st (p) (by simpa using Y) λm l sb=>?_;obtain⟨o,e,c,d⟩:=id l;exact#[u,zZ,AD e c d zZ #[x,H,(I.turned (t':=s.toks) (λb o g e=>(sb.2 b g).trans e) C D G J L),ru,#[rfl,λys hy=>by rw[I.tuple_inj hy q];exact A],l,λb g=>(n b g).1]]
 done:=by
  intro X r hw t M i N s O H E I n st y;subst r hw t;obtain⟨T,q,A⟩:=y;obtain⟨j,B,p,U⟩:=I.tuple q;obtain⟨C,D,f2,G,J,L⟩:=n f (by simp);have hl:=B.length;exact wpAny_pyNext_tuple_end (I.ok.hd M) st (p) (by simp;lia) λm eb=>#[zZ,I.turned (λb o g e=>eb b o g e) C D G J L]
 self:=λ_ _ _ _ _ st h=>wpAny_pyIter_tupleiter st h
theorem RC{K:V3}(a:Ad)(lo)(n):Turn P w K D (sd lo n) [a] a (λi h=>IsRangeIter h a (lo+(i:Nat) * 1) ((n:Int)-(i:Nat)) 1) where
 mem:=by simp
 obj:=λi h st b c=>by
  have e:b=a:=by simpa using c
  subst e;exact#[_,st,λv z=>by
   cases z]
 keep:=λi h f st k=>k a (by simp) _ st
 item:=by
  intro X j hw l m i A s B H E I g st p;subst j hw l;obtain⟨q,r,J,u,x,y⟩:=g a (by simp);refine (Walks.range (prog:=X.prog) (w:=X.w) (I.ok.hd m) a lo 1 n).item i s _ _ p st λv f C L d M=>?_;obtain⟨t,rfl⟩:=L;have N:Inv X A B H {s with heap:=f,toks:=C}:=I.turned (λb o c e=>M b o (by simpa using c) e) q r u x y;refine#[_,zZ,AD d rfl rfl zZ #[.int (lo+i),H,N,#[t,?_],#[rfl,rfl],d,λb c=>(g b c).1]];rw[Int.mul_one]
 done:=by
  intro X j hw l m i A s B H E I g st p;obtain⟨q,r,J,u,x,y⟩:=g a (by simp);exact wpAny_pyNext_range_end (I.ok.hd m) st (by have:n<=i:=p;lia) λf O=>#[zZ,I.turned (λb o c e=>O b o c e) q r u x y]
 self:=λ_ _ _ _ _ st h=>wpAny_pyIter_rangeiter st h
def Je(K:V3)(tl:TE):TI:=λc H R=>tl c H λx b=>∃a,x=.ref a/\(∃d,SqL K b a d)/\R (vt K a) b
def Hq(K:V3)(tl:TE):TI:=λc H R=>tl c H λx b=>∃a,x=.ref a/\(∃d,SqT K b a d)/\R (vf K a) b
theorem fq(g:PE X l tl):PI X c l (Je X.K tl):=by
 intro i s j H R I h;refine bS (g i s j H _ I h) λv d ⟨x,k,f,m,n⟩=>?_;obtain⟨a,e,⟨w,r⟩,q⟩:=n;subst e;cases m;obtain⟨t,y,p,z⟩:=f.list r;refine BR p.isList ?_;refine#[d.heap.objs.size,[d.heap.objs.size],_,_,k,zZ,f.kept λb o e=>cI _ e,Sq a _,#[_,dE _ zZ,zZ,zZ],λb u=>?_,q];have e:b=d.heap.objs.size:=by simpa using u
 subst e;exact f.fpOk (bR _) (f.hok.fresh (bR _))
theorem pY(i:PE X l tl):PI X c l (Hq X.K tl):=by
 intro j s k H R I h;refine bS (i j s k H _ I h) λv d ⟨x,m,f,n,r⟩=>?_;obtain⟨a,e,⟨w,t⟩,q⟩:=r;subst e;cases n;obtain⟨g,y,p,z⟩:=f.tuple t;refine wpAny_pyIter_tuple (p) ?_;refine#[d.heap.objs.size,[d.heap.objs.size],_,_,m,zZ,f.kept λb o e=>cI _ e,Rc a _,#[_,dE _ zZ,zZ,zZ],λb u=>?_,q];have e:b=d.heap.objs.size:=by simpa using u
 subst e;exact f.fpOk (bR _) (f.hok.fresh (bR _))
theorem Sk{f:St}{E:VP}{lo a:Int}(I:Inv X d f H s)(i: -(2 ^ 62)<=lo)(j:lo<2 ^ 62)(k: -(2 ^ 62)<=a)(l:a<2 ^ 62)(q:R (sd lo (a-lo).toNat) H):wpAny (model X.prog X.w) X.A (pyIter (.ref s.heap.objs.size)) (Gx X d f c R) E {s with heap:=s.heap.push {cls:= .type "range",data:= .fields #v[.int lo t,.int a u,.int 1 v]},toks:=g}:=by
 refine wpAny_pyIter_range (IsRange.new ..) (small_one i j k l) ?_;have h:Inv X d f H {s with heap:=s.heap.push {cls:= .type "range",data:= .fields #v[.int lo t,.int a u,.int 1 v]},toks:=g}:=I.kept λb o e=>cI _ e;refine#[(s.heap.push {cls:= .type "range",data:= .fields #v[.int lo t,.int a u,.int 1 v]}).objs.size,[(s.heap.push {cls:= .type "range",data:= .fields #v[.int lo t,.int a u,.int 1 v]}).objs.size],_,_,H,zZ,
  h.kept λb o e=>cI _ e,RC _ lo (a-lo).toNat,?_,λb m=>?_,q]
 .have n:lo+((0:Nat):Int) * 1=lo:=by simp
  have p:(((a-lo).toNat:Nat):Int)-((0:Nat):Int)=Builtin.Range.rangeSize lo a 1:=by rw[rangeSize_one];split<;>lia
  rw[n,p];exact dE _ rfl
 .have e:b=(s.heap.push {cls:= .type "range",data:= .fields #v[.int lo t,.int a u,.int 1 v]}).objs.size:=by simpa using m
  subst e;exact h.fpOk (bR _) (h.hok.fresh (bR _))
def IY(a:TA):TI:=λb H R=>a b H λc d=>∃j,c=[.int j]/\ -(2 ^ 62)<=j/\j<2 ^ 62/\R (sd 0 j.toNat) d
theorem j8(g:Gl X "range")(i:X.mg "range"=none)(k:PA X [a] f)(l:starEach [a] X.env=[(false,eval a X.env)]:=by rfl):PI X c (.Call (.Name "range" p) [a] [] b) (IY f):=by
 intro m s n H R I h;refine Call_ (vh I g i boot_range (Cm (bS (k b m s n H _ I h) λx y ⟨z,A,o,u,d⟩=>?_) l zZ));obtain⟨j,e,d,v,q⟩:=d;subst e;cases u with
 |cons r w=>
  cases w;obtain⟨t,rfl⟩:=r;exact call_range_1 (Sk o () () d v (by simpa using q))
def uc(f:TI)(g:TG)(h:TS):TS:=λD a H=>f a H λJ j=>∃W:Nat->Nat->St->Hp->Prop,(∃m,W 0 m a j)/\∀i m a H,W i m a H->
 (J.stop i H/\D.nx a H)\/(J.go i H/\∃N,(∀b c,N b c->∃e,e<m/\W (i+1) e b c)/\∀x c,J.yld i H x c->g x a c λd k=>h {D with nx:=N,ct:=N,bk:=D.nx} d k)
noncomputable def A1(a:As)(h:Heap):AO:=a.filterMap λb=>(h.get? b).map λo=>(b,o)
theorem Dw{b:Ad}(c:b∈a)(e:h.get? b=some o):(b,o)∈A1 a h:=List.mem_filterMap.mpr #[b,c,by rw[e];rfl]
theorem Tk{p:Ad×Obj}(c:p∈A1 a h):p.1∈a/\h.get? p.1=some p.2:=by
 obtain⟨b,d,e⟩:=List.mem_filterMap.mp c;cases q:h.get? b with
 |none=>rw[q]at e;cases e
 |some o=>
  rw[q]at e;have f:=ge e;subst f;exact#[d,q]
theorem Inv.pinned{f:St}{c:As}(I:Inv X a f H s)(i:∀b∈c,FpOk X a H b)(j:∀b∈c,∃o,s.heap.get? b=some o/\∀v,o.data≠ .cell v):Inv X (a++A1 c s.heap) f H s:=
 I.pins_of λp k=>(cF.mp k).elim (λz=>I.pin p<|gc _ z) λz=>by
  obtain⟨g,e⟩:=Tk z;obtain⟨l,m,n,_⟩:=i p.1 g;obtain⟨o,h,d⟩:=j p.1 g;rw[e]at h;cases h;exact#[e,l,m,n,d]
theorem Inv.unpinned{b:St}(I:Inv X (a++c) b H s):Inv X a b H s:=I.pins_of λp d=>I.pin p<|gc _<|pG _ d
theorem fA(E:PassesOwn (model X.prog X.w) X.A X.env X.xe)(hc:X.calm=true)(hi:PI X c j wi)(hg:PG X c g)(k:PSs X z tb)(hs:∀x,foldedSetIterable j X.env x=pure x:=by intro _;rfl):PS X (.For c j z [] U) (uc wi g tb):=by
 intro B s σ H D I h;refine wpAny_For (bS (hi B s σ H _ I h) λv s1 h1=>bS h1 λaf s2 h2=>?_) hs;obtain⟨it,G,tn,J,H2,e,I2,T,Y,f2,W,⟨m0,w0⟩,turn⟩:=h2;subst e;have l:∀{y},(∀b∈G,y b=none)->∀b∈G,FpOk X B y b:=λhn b k=>#[hn b k,(f2 b k).2];refine codeAny_forLoop_any (λn s'=>∃i p y,Inv X B p y s'/\tn i s'.heap/\(∀b∈G,y b=none)/\W i n p y) ?_ m0 #[0,σ,H2,I2,Y,λb k=>(f2 b k).1,w0];rintro n s3 ⟨i,q,Q,I3,L,M,w3⟩
 rcases turn i n q Q w3 with⟨stop,qn⟩|⟨go,N,hN,step⟩
 .refine ul E<|bS (T.done X zZ zZ zZ hc i B s3 q Q X.xe I3 (l M) L stop) λr s4 ⟨hr,I4⟩=>?_;subst hr;exact Em #[q,Q,I4,qn]
 .refine ul E<|bS (T.item X zZ zZ zZ hc i B s3 q Q X.xe I3 (l M) L go) λr s4 ⟨u,hr,h4⟩=>?_;subst hr;refine ul E<|bS h4 λ_ s5 ⟨x,H5,I5,r5,y5,C,aa⟩=>?_;refine ul E<|bS (hg _ s5 q H5 x u _ (I5.pinned (l aa)<|T.obj _ _ C) r5<|step x H5 y5) λ_ s6 ⟨ae,H6,I6,q6⟩=>ul E<|bS (k _ s6 ae H6 _ I6 q6) λf s7 A=>?_;have again:∀{a} {t},Inv X (B++A1 G s5.heap) a t s7->N a t->∃m,m<n/\∃i p y,Inv X B p y s7/\tn i s7.heap/\(∀b∈G,y b=none)/\W i m p y:=λ{a t} w O=>by
   obtain⟨m',hm,w7⟩:=hN a t O;refine#[m',hm,i+1,a,t,w.unpinned,T.keep _ _ _ C λb k o e=>(w.pin (b,o)<|gc _<|gc _<|Dw k e).1,λb k=>?_,w7];obtain⟨o,e,d⟩:=T.obj _ _ C b k;exact(w.pin (b,o)<|gc _<|gc _<|Dw k e).2.1
  cases f with
  |next=>obtain⟨a,t,w,O⟩:=A;exact again w O
  |cont=>obtain⟨a,t,w,O⟩:=A;exact again w O
  |brk=>obtain⟨a,t,w,A⟩:=A;exact#[a,t,w.unpinned,A]
  |ret v=>obtain⟨x7,a,t,w,r7,A⟩:=A;exact#[x7,a,t,w.unpinned,r7,A]
theorem oX{K:V3}{g:TG}{k:TS}{D:Ends}(Pv:Nat->St->Hp->Prop)(n:Pv 0 b H)(o:∀i b H,i<=xs.length->Pv i b H->SqL K H a xs)(r:∀i x b H,xs[i]?=some x->Pv i b H->g x b H λc j=>k {D with nx:=Pv (i+1),ct:=Pv (i+1),bk:=D.nx} c j) (s:∀b H,Pv xs.length b H->D.nx b H):
  ∃W:Nat->Nat->St->Hp->Prop,(∃m,W 0 m b H)/\∀i m b H,W i m b H->
   ((vt K a).stop i H/\D.nx b H)\/((vt K a).go i H/\∃N,(∀d f,N d f->∃l,l<m/\W (i+1) l d f)/\∀x f,(vt K a).yld i H x f->g x b f λc j=>k {D with nx:=N,ct:=N,bk:=D.nx} c j):=by
 refine#[λi m b H=>m=xs.length-i/\i<=xs.length/\Pv i b H,#[xs.length,by simp,Nat.zero_le _,n],?_];rintro i m b H ⟨rfl,t,p⟩;have q:=o i b H t p;by_cases h:i<xs.length
 .refine .inr #[#[xs,xs[i],q,by simp],Pv<|i+1,λd f u=>#[xs.length-(i+1),Nat.sub_succ_lt_self _ _ h,zZ,h,u],λx f y=>?_];obtain⟨e,y⟩:=y;subst e;exact r i x b _ (y xs q) p
 .have e:i=xs.length:=by lia
  subst e;exact .inl #[#[xs,q,bR _],s b H p]
theorem IX{K:V3}{g:TG}{k:TS}{D:Ends}(Pv:Nat->St->Hp->Prop)(n:Pv 0 b H)(o:∀i b H,i<=xs.length->Pv i b H->SqT K H a xs)(r:∀i x b H,xs[i]?=some x->Pv i b H->g x b H λc j=>k {D with nx:=Pv (i+1),ct:=Pv (i+1),bk:=D.nx} c j) (s:∀b H,Pv xs.length b H->D.nx b H):
  ∃W:Nat->Nat->St->Hp->Prop,(∃m,W 0 m b H)/\∀i m b H,W i m b H->
   ((vf K a).stop i H/\D.nx b H)\/((vf K a).go i H/\∃N,(∀d f,N d f->∃l,l<m/\W (i+1) l d f)/\∀x f,(vf K a).yld i H x f->g x b f λc j=>k {D with nx:=N,ct:=N,bk:=D.nx} c j):=by
 refine#[λi m b H=>m=xs.length-i/\i<=xs.length/\Pv i b H,#[xs.length,by simp,Nat.zero_le _,n],?_];rintro i m b H ⟨rfl,t,p⟩;have q:=o i b H t p;by_cases h:i<xs.length
 .refine .inr #[#[xs,xs[i],q,by simp],Pv<|i+1,λd f u=>#[xs.length-(i+1),Nat.sub_succ_lt_self _ _ h,zZ,h,u],λx f y=>?_];obtain⟨e,y⟩:=y;subst e;exact r i x b _ (y xs q) p
 .have e:i=xs.length:=by lia
  subst e;exact .inl #[#[xs,q,bR _],s b H p]
theorem nS{lo:Int}{g:TG}{j:TS}{D:Ends}(Pv:Nat->St->Hp->Prop)(l:Pv 0 a H)(o:∀i a H,i<n->Pv i a H->g (.int (lo+i)) a H λc h=>j {D with nx:=Pv (i+1),ct:=Pv (i+1),bk:=D.nx} c h) (q:∀a H,Pv n a H->D.nx a H):
  ∃W:Nat->Nat->St->Hp->Prop,(∃m,W 0 m a H)/\∀i m a H,W i m a H->
   ((sd lo n).stop i H/\D.nx a H)\/((sd lo n).go i H/\∃N,(∀d f,N d f->∃k,k<m/\W (i+1) k d f)/\∀x f,(sd lo n).yld i H x f->g x a f λc h=>j {D with nx:=N,ct:=N,bk:=D.nx} c h):=by
 refine#[λi m a H=>m=n-i/\i<=n/\Pv i a H,#[n,by simp,Nat.zero_le _,l],?_];rintro i m a H ⟨rfl,s,p⟩;by_cases b:i<n
 .refine .inr #[b,Pv<|i+1,λd f r=>#[n-(i+1),EO _ _ b,zZ,b,r],λx f y=>?_];obtain⟨e,y⟩:=y;subst e y;exact o i a _ b p
 .have e:i=n:=by lia
  subst e;exact .inl #[bR _,q a H p]
abbrev R2:=V->V->Hp->VK->Prop
def OpR(X:Cx)(f:Vl->Vl->Sem Vl)(r:R2):Prop:=
 ∀a s (b:St) H x y v u Q,Inv X a b H s->RelV x v->RelV y u->r x y H Q->
  wpAny (model X.prog X.w) X.A (f v u) (EP X a b Q) X.xe s
def Fh(X:Cx)(f:Vl->Sem Vl)(r:V->Hp->VK->Prop):Prop:=
 ∀a s (b:St) H x v Q,Inv X a b H s->RelV x v->r x H Q->
  wpAny (model X.prog X.w) X.A (f v) (EP X a b Q) X.xe s
def iu(X:Cx)(f:Vl)(r:List V->Hp->VK->Prop):Prop:=
 ∀a s (b:St) H c (d:Vs) Q,Inv X a b H s->Vals c d->r c H Q->
  wpAny (model X.prog X.w) X.A (call f d) (EP X a b Q) X.xe s
def IP(X:Cx)(r:V->Hp->(Bool->Hp->Prop)->Prop):Prop:=
 ∀a s (b:St) H x v Q,Inv X a b H s->RelV x v->r x H Q->
  wpAny (model X.prog X.w) X.A (truthy v) (TP X a b Q) X.xe s
def yJ(r:R2)(b c:TE):TE:=λa H Q=>b a H λx d=>c a d λy e=>r x y e Q
def Sl(r:V->Hp->VK->Prop)(a:TE):TE:=λb H Q=>a b H λx c=>r x c Q
inductive rI(C:Int->Int->Prop)(g:Int->Int->V)(x y:V)(H:Hp)(Q:VK):Prop|mk:∀i j,x=.int i->y=.int j->C i j->Q (g i j) H->rI C g x y H Q
inductive qx(g:Int->Int->V)(x y:V)(H:Hp)(Q:VK):Prop|mk:∀i j,x=.int i->y=.int j->Q (g i j) H->qx g x y H Q
inductive rU(g:Int->V)(x:V)(H:Hp)(Q:VK):Prop|mk:∀i,x=.int i->Q (g i) H->rU g x H Q
theorem va(n:PE X a d)(o:PE X b k){c:St}{R:V->V->Hp->Prop}(I:Inv X j c H s)(h:d c H λx m=>k c m λy e=>R x y e) {Q:VP} {f:Vl->Vl->Sem Vl}(p:∀v u l x y e,Inv X j c e l->RelV x v->RelV y u->R x y e->wpAny (model X.prog X.w) X.A (f v u) Q X.xe l):
  wpAny (model X.prog X.w) X.A (eval a X.env) (λv g=>wpAny (model X.prog X.w) X.A (eval b X.env) (λu i=>wpAny (model X.prog X.w) X.A (f v u) Q X.xe i) X.xe g) X.xe s:=by
 refine bS (n j s c H _ I h) λv q ⟨x,m,r,t,w⟩=>bS (o j q c m _ r w) λu l ⟨y,e,z,A,B⟩=>?_;exact p v u l x y e z t A B
theorem cw(f:OpR X (binaryOp c) r)(g:PE X a d)(i:PE X b k):PE X (.BinOp a c b e) (yJ r d k):=by
 intro j s l H Q I h;exact wpAny_BinOp<|va g i I h λv u m x y n o p t q=>f j m l n x y v u Q o p t q
theorem zq(g:Fh X (unaryOp b) r)(i:PE X a d):PE X (.UnaryOp b a e) (Sl r d):=by
 intro c s f H Q I h;exact UnaryOp_<|bS (i c s f H _ I h) λv j ⟨x,k,l,m,n⟩=>g c j f k x v Q l m n
theorem Fw{f:Vl->Vl->Sem Vl}{g:Int->Int->Int}(rule:∀i j t u (s:Sh) (Q:VP) (E:VP),C i j->Q (.int (g i j) s.toks) {s with toks:=s.toks+1}->wpAny (model X.prog X.w) X.A (f (.int i t) (.int j u)) Q E s):
  OpR X f (rI C λi j=> .int (g i j)):=by
 intro e s k H x y v u Q I a b h;obtain⟨i,j,rfl,rfl,c,q⟩:=h;obtain⟨t,rfl⟩:=a;obtain⟨d,rfl⟩:=b;exact rule i j t d s _ _ c #[.int<|g i j,H,I.tok _,#[_,zZ],q]
theorem Be{f:Vl->Vl->Sem Vl}{g:Int->Int->Int}(rule:∀i j t u (s:Sh) (Q:VP) (E:VP),Q (.int (g i j) s.toks) {s with toks:=s.toks+1}->wpAny (model X.prog X.w) X.A (f (.int i t) (.int j u)) Q E s):
  OpR X f (qx λi j=> .int (g i j)):=by
 intro d s e H x y v u Q I a b h;obtain⟨i,j,rfl,rfl,q⟩:=h;obtain⟨t,rfl⟩:=a;obtain⟨c,rfl⟩:=b;exact rule i j t c s _ _ #[.int<|g i j,H,I.tok _,#[_,zZ],q]
theorem ux{f:Vl->Vl->Sem Vl}{g:Int->Int->Bool}(rule:∀i j t u (s:Sh) (Q:VP) (E:VP),Q (.bool (g i j)) s->wpAny (model X.prog X.w) X.A (f (.int i t) (.int j u)) Q E s):
  OpR X f (qx λi j=> .bl (g i j)):=by
 intro d s e H x y v u Q I a b h;obtain⟨i,j,rfl,rfl,q⟩:=h;obtain⟨t,rfl⟩:=a;obtain⟨c,rfl⟩:=b;exact rule i j t c s _ _ #[.bl<|g i j,H,I,zZ,q]
def Fe(i j:Int):Prop:=0<j/\j<1073741824
def CMul(i j:Int):Prop:=(-(2 ^ 64)<i/\i<2 ^ 64)\/(-(2 ^ 64)<j/\j<2 ^ 64)
theorem CMul.ok(h:CMul i j):IntMulOk i j:=by
 rcases h with⟨a,b⟩|⟨a,b⟩
 .exact .of_left<|intBits_le_64 a b
 .exact .of_right<|intBits_le_64 a b
theorem mJ:OpR X (binaryOp .Add) (qx λi j=> .int (i+j)):=Be λ_ _ _ _ _ _ _ q=>add_int q
theorem Pt:OpR X (binaryOp .Sub) (qx λi j=> .int (i-j)):=Be λ_ _ _ _ _ _ _ q=>sub_int q
theorem tF:OpR X (binaryOp .Mult) (rI CMul λi j=> .int (i * j)):=Fw λ_ _ _ _ _ _ _ a q=>mul_int q a.ok
theorem oR:OpR X (binaryOp .FloorDiv) (rI Fe λi j=> .int (i/j)):=Fw λi j _ _ _ _ _ a q=>by
 have b:=a.1;have c:=a.2;exact floordiv_int () (by rw[Int.fdiv_eq_ediv_of_nonneg i ()];exact q) (.inl (PyProof.noPylong_small ()))
theorem gM:OpR X (binaryOp .Mod) (rI (λ_ j=>0<j) λi j=> .int (i%j)):=Fw λi j _ _ _ _ _ a q=>by
 have b:=a;exact mod_int' () (by rw[Int.fmod_eq_emod_of_nonneg i ()];exact q)
theorem Uw{f:Vl->Sem Vl}{g:Int->Int}(rule:∀i t (s:Sh) (Q:VP) (E:VP),Q (.int (g i) s.toks) {s with toks:=s.toks+1}->wpAny (model X.prog X.w) X.A (f (.int i t)) Q E s):
  Fh X f (rU λi=> .int (g i)):=by
 intro b s c H x v Q I a h;obtain⟨i,rfl,q⟩:=h;obtain⟨t,rfl⟩:=a;exact rule i t s _ _ #[.int<|g i,H,I.tok _,#[_,zZ],q]
theorem zB:Fh X (unaryOp .USub) (rU λi=> .int (-i)):=Uw λ_ _ _ _ _ q=>neg_int q
noncomputable def zr:V->V->Bool
 |.non,.non=>true|.non,.int _=>true|.int _,.non=>true|.non,.bl _=>true|.bl _,.non=>true|.non,.str _=>true|.str _,.non=>true
 |.int _,.int _=>true|.bl _,.bl _=>true|.str _,.str _=>true|.byt _,.byt _=>true
 |.int _,.str _=>true|.str _,.int _=>true|.bl _,.str _=>true|.str _,.bl _=>true
 |_,_=>false
def NP:R2:=λx y H Q=>zr x y=true/\Q (.bl (decide (x=y))) H
def Py:R2:=λx y H Q=>zr x y=true/\Q (.bl (!decide (x=y))) H
theorem Nj:decide (V.int i=V.int j)=(i==j):=by
 rw[kq];simp
theorem KW:decide (V.bl i=V.bl j)=(i==j):=by
 rw[kq];simp
theorem MR:decide (V.str i=V.str j)=(i==j):=by
 rw[kq];simp
theorem Jn:decide (V.byt i=V.byt j)=(i.toList==j.toList):=by
 rw[kq];cases i;cases j;simp
theorem eV{b:St}(I:Inv X a b H s)(q:Q (.bl k) H)(e:k=c):EP X a b Q (.bool c) s:=by
 subst e;exact#[.bl k,H,I,zZ,q]
theorem iH:OpR X (compareOp .Eq) NP:=by
 intro e s f H x y v u Q I d a h;obtain⟨c,q⟩:=h;cases x with
 |non=>
  cases d;cases y with
  |non=>cases a;exact EqNone.eq_none_none<|eV I q<|by simp
  |bl j=>cases a;exact EqNone.eq_none_bool<|eV I q<|by simp
  |int j=>obtain⟨b,rfl⟩:=a;exact EqNone.eq_none_int<|eV I q<|by simp
  |str j=>obtain⟨b,rfl⟩:=a;exact EqNone.eq_none_str<|eV I q<|by simp
  |_=>exact wC (c) fT
 |bl i=>
  cases d;cases y with
  |non=>cases a;exact EqNone.eq_bool_none<|eV I q<|by simp
  |bl j=>cases a;exact eq_bool<|eV I q KW
  |str j=>obtain⟨b,rfl⟩:=a;exact EqMixed.eq_bool_str<|eV I q<|by simp
  |_=>exact wC (c) fT
 |int i=>
  obtain⟨t,rfl⟩:=d;cases y with
  |non=>cases a;exact EqNone.eq_int_none<|eV I q<|by simp
  |int j=>obtain⟨b,rfl⟩:=a;exact eq_int<|eV I q Nj
  |str j=>obtain⟨b,rfl⟩:=a;exact EqMixed.eq_int_str<|eV I q<|by simp
  |_=>exact wC (c) fT
 |str i=>
  obtain⟨t,rfl⟩:=d;cases y with
  |non=>cases a;exact EqNone.eq_str_none<|eV I q<|by simp
  |bl j=>cases a;exact EqMixed.eq_str_bool<|eV I q<|by simp
  |int j=>obtain⟨b,rfl⟩:=a;exact EqMixed.eq_str_int<|eV I q<|by simp
  |str j=>obtain⟨b,rfl⟩:=a;exact eq_str<|eV I q MR
  |_=>exact wC (c) fT
 |byt i=>
  obtain⟨t,rfl⟩:=d;cases y with
  |byt j=>obtain⟨b,rfl⟩:=a;exact W.eq_bytes<|eV I q Jn
  |_=>exact wC (c) fT
 |_=>cases y<;>exact wC (c) fT
theorem FJ:OpR X (compareOp .NotEq) Py:=by
 intro e s f H x y v u Q I d a h;obtain⟨c,q⟩:=h;cases x with
 |non=>
  cases d;cases y with
  |non=>cases a;exact EqNone.ne_none_none<|eV I q<|by simp
  |bl j=>cases a;exact EqNone.ne_none_bool<|eV I q<|by simp
  |int j=>obtain⟨b,rfl⟩:=a;exact EqNone.ne_none_int<|eV I q<|by simp
  |str j=>obtain⟨b,rfl⟩:=a;exact EqNone.ne_none_str<|eV I q<|by simp
  |_=>exact wC (c) fT
 |bl i=>
  cases d;cases y with
  |non=>cases a;exact EqNone.ne_bool_none<|eV I q<|by simp
  |bl j=>cases a;exact ne_bool<|eV I q<|cH not KW
  |str j=>obtain⟨b,rfl⟩:=a;exact EqMixed.ne_bool_str<|eV I q<|by simp
  |_=>exact wC (c) fT
 |int i=>
  obtain⟨t,rfl⟩:=d;cases y with
  |non=>cases a;exact EqNone.ne_int_none<|eV I q<|by simp
  |int j=>obtain⟨b,rfl⟩:=a;exact ne_int<|eV I q<|cH not Nj
  |str j=>obtain⟨b,rfl⟩:=a;exact EqMixed.ne_int_str<|eV I q<|by simp
  |_=>exact wC (c) fT
 |str i=>
  obtain⟨t,rfl⟩:=d;cases y with
  |non=>cases a;exact EqNone.ne_str_none<|eV I q<|by simp
  |bl j=>cases a;exact EqMixed.ne_str_bool<|eV I q<|by simp
  |int j=>obtain⟨b,rfl⟩:=a;exact EqMixed.ne_str_int<|eV I q<|by simp
  |str j=>obtain⟨b,rfl⟩:=a;exact ne_str<|eV I q<|cH not MR
  |_=>exact wC (c) fT
 |byt i=>
  obtain⟨t,rfl⟩:=d;cases y with
  |byt j=>obtain⟨b,rfl⟩:=a;exact W.ne_bytes<|eV I q<|cH not Jn
  |_=>exact wC (c) fT
 |_=>cases y<;>exact wC (c) fT
theorem MF:OpR X (compareOp .Lt) (qx λi j=> .bl (decide (i<j))):=ux λ_ _ _ _ _ _ _ q=>lt_int q
theorem u9:OpR X (compareOp .LtE) (qx λi j=> .bl (decide (i<=j))):=ux λ_ _ _ _ _ _ _ q=>le_int q
theorem Co:OpR X (compareOp .Gt) (qx λi j=> .bl (decide (j<i))):=ux λ_ _ _ _ _ _ _ q=>gt_int q
theorem N':OpR X (compareOp .In) (λx y H Q=>∃i j,x=.str i/\y=.str j/\Q (.bl (!(Builtin.Str.occurrences j i 0 j.length 1).isEmpty)) H):=by
 intro c s d H x y v u Q I a b h;obtain⟨i,j,rfl,rfl,q⟩:=h;obtain⟨t,rfl⟩:=a;obtain⟨e,rfl⟩:=b;exact in_str<|eV I q zZ
theorem Hx:OpR X (compareOp .Is) (λx y H Q=>y=.non/\Q (.bl (decide (x=.non))) H):=by
 intro c s d H x y v u Q I a b h;obtain⟨rfl,q⟩:=h;cases b;refine is_none_gen<|eV I q ?_;cases x<;>first
  |(cases a;rfl)
  |(obtain⟨t,rfl⟩:=a;rfl)
theorem HN:OpR X (compareOp .IsNot) (λx y H Q=>y=.non/\Q (.bl (!decide (x=.non))) H):=by
 intro c s d H x y v u Q I a b h;obtain⟨rfl,q⟩:=h;cases b;refine isnot_none_gen<|eV I q ?_;cases x<;>first
  |(cases a;rfl)
  |(obtain⟨t,rfl⟩:=a;rfl)
theorem dC(b)(h:a≠ .In:=by decide)(c:a≠ .NotIn:=by decide):behindInMarks a b=false:=by
 have d:(a==CmpOp.In)=false:=by grind
 have e:(a==CmpOp.NotIn)=false:=by grind
 cases b<;>simp[behindInMarks,d,e]
theorem mK(d:OpR X (compareOp c) r)(e:PE X a f)(i:PE X b g)(j:behindInMarks c b=false):PE X (.Compare a [c] [b] l) (yJ r f g):=by
 intro k s m H Q I h;exact wpAny_Compare1 (va e i I h λv u n x y o p t w q=>d k n m o x y v u Q p t w q) j
inductive nV(x:V)(a:Hp)(Q:Bool->Hp->Prop):Prop|mk:∀k,x=.bl k->Q k a->nV x a Q
def J0(t:TE):TT:=λa H Q=>t a H λx b=>nV x b Q
theorem eG(m:OpR X (compareOp d) r)(n:PE X a f)(o:PE X b g)(p:behindInMarks d b=false):PT X (.Compare a [d] [b] l) (J0 (yJ r f g)):=by
 intro i s j H Q I h;refine wpAny_isTrue_Compare1 (bS (n i s j H _ I h) λv q ⟨x,t,w,A,B⟩=>bS (o i q j t _ w B) λu C ⟨y,D,E,G,J⟩=>
  bS (m i C j D x y v u _ E A G J) λc T ⟨z,L,M,N,k,e,O⟩=>?_) p
 subst e;cases N;exact on #[L,M,O]
def Me(r c:R2)(f g n:TE):TE:=λa H Q=>f a H λx d=>g a d λy e=>r x y e λz b=>∃k,z=.bl k/\
 (if k=true then n a b λh i=>c y h i Q else Q (.bl false) b)
theorem KS(C:OpR X (compareOp o) r)(p:OpR X (compareOp i) q)(D:PE X a f)(E:PE X b g)(G:PE X c n)(J:lastMarks [o,i] [b,c]=false:=by with_unfolding_all rfl):PE X (.Compare a [o,i] [b,c] l) (Me r q f g n):=by
 intro j s m H Q I h;refine Compare_chain (bS (D j s m H _ I h) λv L ⟨x,M,N,O,T⟩=>chain_link (bS (E j L m M _ N T) λu U ⟨y,Y,I2,t,q2⟩=>
  bS (C j U m Y x y v u _ I2 O t q2) λd s3 ⟨z,w,A,r3,k,e,B⟩=>?_)) J
 subst e;cases r3;refine on ?_;cases k with
 |false=>exact ite_ff #[.bl false,w,A,zZ,B]
 |true=>exact ite_tt<|chain_last<|bS (G j s3 m w _ A B) λw' s4 ⟨z',H4,I4,r4,q4⟩=>p j s4 m H4 y z' u w' Q I4 t r4 q4
theorem JH(C:OpR X (compareOp o) r)(p:OpR X (compareOp i) q)(D:PE X a f)(E:PE X b g)(G:PE X c n)(J:lastMarks [o,i] [b,c]=false:=by with_unfolding_all rfl):PT X (.Compare a [o,i] [b,c] l) (J0 (Me r q f g n)):=by
 intro j s m H Q I h;refine isTrue_chain (bS (D j s m H _ I h) λv L ⟨x,M,N,O,T⟩=>test_link (bS (E j L m M _ N T) λu U ⟨y,Y,I2,t,q2⟩=>
  bS (C j U m Y x y v u _ I2 O t q2) λd s3 ⟨z,w,A,r3,k,e,B⟩=>?_)) J
 subst e;cases r3;refine on ?_;cases k with
 |false=>
  obtain⟨k',e',q'⟩:=B;cases e';exact ite_ff #[w,A,q']
 |true=>
  refine ite_tt<|test_last<|bS (G j s3 m w _ A B) λw' s4 ⟨z',H4,I4,r4,q4⟩=>bS (p j s4 m H4 y z' u w' _ I4 t r4 q4) λd' s5 ⟨z2,H5,I5,r5,k2,e2,q5⟩=>?_;subst e2;cases r5;exact on #[H5,I5,q5]
def v6(K:V3)(x:V)(H:Hp)(k:Bool):Prop:=
 match x with
 |.non=>k=false
 |.bl b=>k=b
 |.int i=>k=(i != 0)
 |.str y=>y.length<=sizeLine/\k=((y.length:Int) != 0)
 |.byt y=>y.size<=sizeLine/\k=((y.size:Int) != 0)
 |.ref p=>(∃a,SqL K H p a/\k= !a.isEmpty)\/(∃a,SqT K H p a/\k= !a.isEmpty)\/∃c,H p=some (.dK c)/\k= !c.isEmpty
 |_=>False
theorem RE{c:List (b×Vl)}(r:KV a c):(!c.isEmpty)= !a.isEmpty:=by
 cases r<;>rfl
theorem Ji{a:Vs}(r:Vals b a):(!a.toArray.isEmpty)= !b.isEmpty:=by
 cases r<;>simp
theorem vo:(sizeLine:Nat)<2 ^ 63:=by rw[cq];decide
theorem Pp:IP X (λx H Q=>∃k,v6 X.K x H k/\Q k H):=by
 intro A s B H x v Q I g h;obtain⟨k,e,q⟩:=h;have C:=vo;have D:=cq;cases x with
 |non=>
  cases g;have a:=e;subst a;exact truthy_none #[H,I,q]
 |bl b=>
  cases g;have a:=e;subst a;exact on #[H,I,q]
 |int i=>
  obtain⟨t,rfl⟩:=g;have a:=e;subst a;exact P.truthy_int #[H,I,q]
 |str y=>
  obtain⟨t,rfl⟩:=g;obtain⟨w,a⟩:y.length<=sizeLine/\k=((y.length:Int) != 0):=e;subst a;exact P.truthy_str () #[H,I.tok _,q]
 |byt y=>
  obtain⟨t,rfl⟩:=g;obtain⟨w,a⟩:y.size<=sizeLine/\k=((y.size:Int) != 0):=e;subst a;exact W.truthy_bytes () #[H,I.tok _,q]
 | ref p=>
  cases g;have a:=e
  rcases a with⟨f,j,a⟩|⟨f,j,a⟩|⟨c,j,a⟩
  .subst a;obtain⟨n,r,o,u⟩:=I.list j;have d:=r.length;exact wpAny_truthy_list o.isList (by simp;lia) #[H,I.tok _,by rw[Ji r];exact q]
  .subst a;obtain⟨n,r,o,u⟩:=I.tuple j;have d:=r.length;exact truthy_tuple o (by simp;lia) #[H,I.tok _,by rw[Ji r];exact q]
  .subst a;obtain⟨u,z,l,r,m⟩:c.length<=sizeLine/\(p==sysModules)=false/\∃l,KV c l/\s.heap.DictOf (lZ X.prog X.w) p l:=I.hok p _ j;have d:=qg r;exact wpAny_truthy_dict z m () #[H,I.tok _,by rw[RE r];exact q]
 |_=>exact(e).elim
theorem B4(g:PE X a f)(i:∀b,isTrue a X.env b=(do let v <-b;standAt a.pos;holding [v] (truthy v))):
  PT X a (λc H Q=>f c H λx d=>∃k,v6 X.K x d k/\Q k d):=by
 intro e s c H Q I h;exact isTrue_plain (bS (g e s c H _ I h) λv j ⟨x,l,m,n,o⟩=>Pp e j c l x v Q m n o)<|i _
inductive fI(x y:V)(H:Hp)(Q:VK):Prop|mk:∀i j,x=.str i->y=.str j->i.length+j.length<=sizeLine->Q (.str (i++j)) H->fI x y H Q
theorem mG:OpR X (binaryOp .Add) fI:=by
 intro e s f H x y v u Q I a b h;obtain⟨i,j,rfl,rfl,c,q⟩:=h;obtain⟨t,rfl⟩:=a;obtain⟨d,rfl⟩:=b;exact add_str (λd g=>#[.str<|i++j,H,I.tok _,#[_,zZ],q]) c
theorem hV{a:Vs}(r:Vals [x] a):∃u,a=[u]/\RelV x u:=by
 cases r with
 |cons b c=>cases c;exact#[_,zZ,b]
theorem AH{a:Vs}(r:Vals [x,y] a):∃u b,a=[u,b]/\RelV x u/\RelV y b:=by
 cases r with
 |cons c d=>
  cases d with
  |cons e f=>cases f;exact#[_,_,zZ,c,e]
theorem Qv:iu X (.type "int") (λa H Q=>(∃i,a=[.int i]/\Q (.int i) H)\/∃k,a=[.bl k]/\Q (.int (if k then 1 else 0)) H):=by
 intro c s d H a e Q I r h
 rcases h with⟨i,rfl,q⟩|⟨k,rfl,q⟩
 .obtain⟨u,rfl,t,rfl⟩:=hV r;exact call_int_int #[.int i,H,I,#[_,zZ],q]
 .obtain⟨u,rfl,b⟩:=hV r;cases b;exact call_int_bool #[.int<|if k then 1 else 0,H,I.tok _,#[_,zZ],q]
inductive dZ(a:List V)(H:Hp)(Q:VK):Prop|mk:∀i,a=[.int i]->i.natAbs.log2<1920->Q (.str (toString i)) H->dZ a H Q
theorem DG:iu X (.type "str") dZ:=by
 intro b s c H d e Q I r h;obtain⟨i,rfl,a,q⟩:=h;obtain⟨u,rfl,t,rfl⟩:=hV r;exact P.str_of_int a #[.str _,H,I.tok _,#[_,zZ],q]
structure ObjM(h:Heap)(x dx C:Ad)(mA:SV):Prop where
 obj:h.get? x=some (W.instObj C dx)
 ns:h.Ns1 dx mA
 ne:dx≠x
theorem Vo{h:Heap}{c:Ad}{d:SV}(n:h.Ns1 c d):∃f,h.get? c=some f/\∀name,W.lookIn name f=some (d name):=by
 obtain⟨o,g,r,i,j,k,_,l⟩:=n;refine#[o,i,λname=>?_];have e:=l name;unfold nsFind findBy at e;rw[<-Array.find?_toList]at e;unfold PySem.W.lookIn;rw[j];dsimp only;split
 .rename_i y q
  rw[q]at e;exact cH some e
 .rename_i q
  rw[q]at e;have a:g.toList.any (·.refKey)=false:=by
   rw[DP];intro y m;obtain⟨z,t,b⟩:=k y<|EY.mp m;simp[DictEntry.refKey,b]
  have p: ¬g.toList.any (·.refKey)=true:=by rw[a];exact fT
  rw[wA p];exact cH some e
theorem ObjM.look(I:ObjM h x b C c):∃a,W.InstAt h x (W.instObj C b) C (some a)/\∀name,W.lookIn name a=some (c name):=
 let⟨a,d,e⟩:=Vo I.ns
 #[a,#[I.obj,zZ,zZ,d],e]
section
variable{c:Pg}{A:Ar}{E:VP}{s:Sh}{K:V3}{x i C f:Ad}{v:Vl}
theorem R6{Q:VP}(X:K.In s.heap)(I:ObjM s.heap x i C e)(d:W.plainGet K C name=true)(f:W.hasDictIn K C=true)(g:W.findIn K (.ref C) name=some none) (j:e name=some v) (b:W.handedIn v=true) (h:Q v {s with toks:=s.toks+1}):
  wpAny (model c w) A (getAttr (.ref x) name a) Q E s:=by
 obtain⟨l,J,k⟩:=I.look;exact W.get_value X J (Hd d).1 (W.findObj_own f g zZ<|by rw[k,j]) b h
theorem Ul{Q:Vl×Vs->Sh->Prop}(X:K.In s.heap)(I:ObjM s.heap x i C e)(a:W.plainGet K C name=true)(d:W.findIn K (.ref C) name=some (some (.ref f))) (ht:W.isFn K (.ref f)=true) (g:e name=none) (h:Q (.ref f,[.ref x]) s):
  wpAny (model c w) A (getMethod (.ref x) name b) Q E s:=by
 obtain⟨j,J,k⟩:=I.look;exact W.method_fn X J (Hd a).1 (Hd a).2 d (oQ.mp ht) (by show(W.lookIn name j).map (·.isSome)=some false;rw[k,g];rfl) h
theorem TC{n:Ss}{Q:Unit->Sh->Prop}(X:K.In s.heap)(I:ObjM s.heap x i C e)(o:W.findIn K (.ref C) "__setattr__"=some (some (.builtin "object.__setattr__"))) (p:W.plainOver K C=true) (ht:W.takerIn K C name=some none) (q:W.hasDictIn K C=true)(hw:Within e n) (t:n.length<=sizeLine)(h:∀g,ObjM g x i C (λy=>if y=name then some v else e y)->Heap.SameBut i s.heap g->Q ⟨⟩ {s with heap:=g,toks:=s.toks+2}):
  wpAny (model c w) A (setAttr (.ref x) name v) Q E s:=by
 obtain⟨G,J,H⟩:=I.look;refine W.set_plain X J o<|W.osa_open X J p ht λb=>?_;obtain⟨L,u,j⟩:=W.any_some q;refine bz<|bJ<|bz<|bz<|wpAny_loadPart I.obj<|bz<|W.Looks.here (W.looks_clsIn X u) ?_;rw[j];refine bJ<|bz<|bJ<|bz ?_;refine wpAny_nsSet1 I.ns λg d f=>?_;obtain⟨M,B,D,k,l,m⟩:=d.count<|Within.cons name v hw;refine bz<|wpAny_lookBehind k (by rw[l];exact pastItsLine_dict<|cz m (by rw[i3];lia))<|bJ<|h _ #[(f.2 _<|dX I.ne).trans I.obj,d,I.ne] f
theorem Qa{R:Result->Sh->Prop}{a:Vs}{b:List (Str×Vl)}(X:K.In s.heap)(e:W.makesIn K C=true)(i:W.findIn K (.ref C) "__init__"=some (some (.ref f))) (j:W.typeIn K (.ref f)=some (.type "function"))(h:codeAny (model c w) (A.under (.builtin "type.__call__" #[.ref C::a,b])) (.call (.ref f) #[.ref (s.heap.objs.size+1)::a,b]) (W.InitBack (s.heap.objs.size+1) R) {s with heap:=(s.heap.push W.emptyDict).push (W.instObj C s.heap.objs.size)}):
    codeAny (model c w) A (.call (.ref C) #[a,b]) R s:=by
  obtain⟨_⟩:=s;exact W.make_core (W.makes_of X e) (W.looks_findIn X i) (λself=>W.bind_fn X self j) (.inl zZ) h
end
noncomputable def cP(f:Str)(v:V):List (Str×V)->List (Str×V)
 | []=>[(f,v)]
 |(g,x)::r=>if g=f then(g,v)::r else(g,x)::cP f v r
theorem K4(f g)(v):∀fs,(cP f v fs).lookup g=if g=f then some v else fs.lookup g
 | []=>by
  show List.lookup g [(f,v)]=_;by_cases h:g=f
  .have a:=oQ.mpr h;simp only[List.lookup,a,wB h]
  .have a:=qm.mpr h;simp only[List.lookup,a,wA h]
 | (k,x)::r=>by
  rw[show cP f v ((k,x)::r)=(if k=f then(k,v)::r else(k,x)::cP f v r)from rfl];by_cases b:k=f
  .rw[wB b];by_cases h:g=k
   .have a:=oQ.mpr h;simp only[List.lookup,a,wB<|h.trans b]
   .have a:=qm.mpr h;simp only[List.lookup,a,wA<|λe:g=f=>h<|e.trans b.symm]
  .rw[wA b];by_cases h:g=k
   .have a:=oQ.mpr h;simp only[List.lookup,a,wA<|λe=>b<|h.symm.trans e]
   .have a:=qm.mpr h;simp only[List.lookup,a];exact (K4 f g v r)
theorem HK(f)(v):∀fs,f∈(cP f v fs).map (·.1)/\∀g,g∈fs.map (·.1)->g∈(cP f v fs).map (·.1)
 | []=>#[by simp[cP],λg h=>by simp at h]
 | (k,x)::r=>by
  obtain⟨b,c⟩:=HK f v r;rw[show cP f v ((k,x)::r)=(if k=f then(k,v)::r else(k,x)::cP f v r)from rfl];by_cases a:k=f
  .rw[wB a];subst a;exact#[by simp,λg h=>by simpa using h]
  .rw[wA a];refine#[?_,λg h=>?_]
   .rw[hI];exact dS _ b
   .rw[hI]at h|-
    rcases db.mp h with e|e
    .exact db.mpr<|.inl e
    .exact dS _<|c g e
theorem MD(f)(v):∀fs,(cP f v fs).length<=fs.length+1
 | []=>by simp[cP]
 |(k,x)::r=>by
  have b:=MD f v r;rw[show cP f v ((k,x)::r)=(if k=f then(k,v)::r else(k,x)::cP f v r)from rfl];by_cases a:k=f
  .rw[wB a,i3,i3];lia
  .rw[wA a,i3,i3];lia
theorem RelO.some_of(r:RelO (some v) o):∃u,o=some u/\RelV v u:=by
 cases o with
 |none=>exact(r).elim
 |some u=>exact#[u,zZ,r]
theorem RelO.none_of(r:RelO none o):o=none:=by
 cases o with
 |none=>rfl
 |some u=>exact(r).elim
theorem OU(r:RelV v u):W.handedIn u=true:=by
 cases v with
 |non=>cases(r);rfl
 |bl b=>cases(r);rfl
 |int i=>obtain⟨t,e⟩:=(r);cases e;rfl
 |str x=>obtain⟨t,e⟩:=(r);cases e;rfl
 |byt b=>obtain⟨t,e⟩:=(r);cases e;rfl
 |flt b=>obtain⟨t,e⟩:=(r);cases e;rfl
 |ref a=>cases(r);rfl
 |ty n=>cases(r);rfl
theorem Ev(g:HOk P w H h)(e:H a=some (.ins C b fs)):∃c,ObjM h a b C c/\(∀f,RelO (fs.lookup f) (c f))/\Within c (fs.map (·.1))/\fs.length<=1000/\H b=some (.own a):=by
 obtain⟨d,z,i,j,c,n,r,q⟩:=(g a _ e);exact#[c,#[j,n,i],r,q,z,d]
structure Cls(K:V3)(C:Ad):Prop where
 pg:W.plainGet K C Str.empty=true
 hd:W.hasDictIn K C=true
 po:W.plainOver K C=true
 sa:W.findIn K (.ref C) "__setattr__"=some (some (.builtin "object.__setattr__"))
theorem Cls.get{K:V3}(c:Cls K C)(f):W.plainGet K C f=true:=c.pg
def NoAttr(K:V3)(C:Ad)(f:Str):Prop:=W.findIn K (.ref C) f=some none
theorem NoAttr.taker{K:V3}(n:NoAttr K C f):W.takerIn K C f=some none:=by
 unfold W.takerIn;rw[n];rfl
structure Meth(K:V3)(C:Ad)(m:Str)(f:Ad):Prop where
 at_:W.findIn K (.ref C) m=some (some (.ref f))
 fn:W.isFn K (.ref f)=true
 kp:W.keepIn K (.ref f)=true
section
variable{d:St}{A:Ar}{E:VP}
theorem Sm{Q:VP}(I:Inv X i d H s)(e:H a=some (.ins C j fs))(c:Cls X.K C)(n:NoAttr X.K C f)(l:fs.lookup f=some v)(h:∀u g,Inv X i d H g->RelV v u->Q u g):wpAny (model X.prog X.w) A (getAttr (.ref a) f b) Q E s:=by
 obtain⟨m,O,r,_⟩:=Ev I.hok e;obtain⟨u,p,k⟩:=RelO.some_of (by rw[<-l];exact r f);exact R6 I.kIn O (c.get f) c.hd n p (OU k)<|h u _ (I.tok _) k
theorem LG{Q:Vl×Vs->Sh->Prop}(I:Inv X i d H s)(e:H a=some (.ins C j fs))(c:Cls X.K C)(k:Meth X.K C m g)(l:fs.lookup m=none)(h:Q (.ref g,[.ref a]) s):wpAny (model X.prog X.w) A (getMethod (.ref a) m b) Q E s:=by
 obtain⟨f,O,r,_⟩:=Ev I.hok e;exact Ul I.kIn O (c.get m) k.at_ k.fn (RelO.none_of<|by grind) h
theorem Qx{Q:Unit->Sh->Prop}(I:Inv X i d H s)(e:H a=some (.ins C j fs))(c:Cls X.K C)(n:NoAttr X.K C f)(N:fs.length<1000)(v:RelV y u)(h:∀l,Inv X i d (bx H a (.ins C j (cP f y fs))) l->Q ⟨⟩ l):wpAny (model X.prog X.w) A (setAttr (.ref a) f u) Q E s:=by
 obtain⟨m,O,r,p,_,t⟩:=Ev I.hok e;have w:(fs.map (·.1)).length<=sizeLine:=by rw[bA,cq];lia
 refine TC I.kIn O c.sa c.po n.taker c.hd p w λB k D=>h _ ?_;have G:∃o,B.get? j=some o:=let⟨o,_,_,J,_⟩:=k.ns;#[o,J]
 refine I.write (by rw[e];exact True.intro) (.inr t) (λb q L z=>(D.2 b L).trans z) G #[by rw[bI O.ne];exact t,?_,O.ne,k.obj,_,k.ns,λg=>?_,λg M=>?_]
 .have:=MD f y fs;lia
 .rw[K4];by_cases q:g=f
  .rw[wB q,wB q];exact v
  .rw[wA q,wA q];exact r g
 .by_cases q:g=f
  .rw[q];exact(HK f y fs).1
  .refine(HK f y fs).2 g<|p g λz=>M ?_;show(if g=f then some u else m g)=none;rw[wA q];exact z
theorem Inv.made(I:Inv X i d H s):Inv X i d (bx (bx H s.heap.objs.size (.own (s.heap.objs.size+1))) (s.heap.objs.size+1) (.ins C s.heap.objs.size [])) {s with heap:=(s.heap.push W.emptyDict).push (W.instObj C s.heap.objs.size)}:=by
  have c:(s.heap.push W.emptyDict).get? s.heap.objs.size=some W.emptyDict:=dE s.heap rfl;have g:((s.heap.push W.emptyDict).push<|W.instObj C s.heap.objs.size).get? (s.heap.objs.size+1)=some (W.instObj C s.heap.objs.size):=by
    have:=dE (s.heap.push W.emptyDict) (o:=W.instObj C s.heap.objs.size) rfl;rwa[ya]at this
  have h:(s.heap.push W.emptyDict).Ns s.heap.objs.size (λ_=>none):=#[W.emptyDict,#v[],_,c,zZ,(λe j=>wC j<|by simp),λ_=>rfl];have k:=I.laid (o:= .own<|s.heap.objs.size+1) (t':=s.toks) (λb u q=>cI _ q) (bR _) #[_,c];refine k.laid (λb u q=>cI _ q) (rg<|ya _ _) ?_;have f:s.heap.objs.size≠s.heap.objs.size+1:=dr<|ti _;refine#[by rw[bI f,bE],iK _,f,g,λ_=>none,(Heap.Ns1.of_empty h).at λo q=>cI _ q,λ_=>True.intro,λy l=>wC rfl l]
theorem Q6{a:Pg}{d:Pos}{s:Sh}{Q:VP}(g:attributeBase e f b (eval e b)=eval e b)(h:wpAny (model a w) A (eval e b) (λo c=>wpAny (model a w) A (getAttr o f true) Q E c) E s):wpAny (model a w) A (eval (.Attribute e f d) b) Q E s:=
 Attribute_any_ h<|by rw[arm_eval_Attribute,g]
end
inductive rn(K:V3)(f:Str)(x:V)(b:Hp)(Q:VK):Prop|mk:∀a C c fs v,x=.ref a->b a=some (.ins C c fs)->Cls K C->NoAttr K C f->fs.lookup f=some v->Q v b->rn K f x b Q
def Bj(K:V3)(a:TE)(f:Str):TE:=λb H Q=>a b H λx c=>rn K f x c Q
def HS(K:V3)(e g:TE)(f:Str):TS:=λD b H=>g b H λy h=>e b h λx c=>∃a C d fs,x=.ref a/\c a=some (.ins C d fs)/\Cls K C/\NoAttr K C f/\fs.length<1000/\
 D.nx b (bx c a (.ins C d (cP f y fs)))
theorem dJ(b:PE X e i)(d:attributeBase e f X.env (eval e X.env)=eval e X.env):PE X (.Attribute e f g) (Bj X.K i f):=by
 intro j s k H Q I h;refine Q6 d<|bS (b j s k H _ I h) λu z ⟨x,m,o,p,a,C,A,fs,v,r,t,c,n,l,q⟩=>?_;subst r;obtain rfl:u=Value.ref a:=p;exact Sm o t c n l λB D w y=>#[v,m,w,y,q]
theorem mY(m:PE X o i)(p:PE X b j)(r:swapsWith b (some (.Attribute o f d)) g.line X.env=pure false):PS X (.Assign [.Attribute o f d] b g) (HS X.K i j f):=by
 intro k s e H D I h;refine plainObj_wpAny_Assign_Attribute (bS (p k s e H _ I h) λu t ⟨y,v,w,z,q⟩=>bS (m k t e v _ w q) λA N ⟨x,O,B,E,a,C,Q,fs,G,J,c,n,l,L⟩=>?_) r;subst G;obtain rfl:A=Value.ref a:=E;exact Qx B J c n l z λT M=>#[e,_,M,L]
section
variable{σ:St}{A:Ar}{E:VP}{Q:VP}{c:Vl}
inductive TyOf (K:V3) (H:Hp):V->Vl->Prop where
 |non:TyOf K H .non (.type "NoneType")
 |bl (x:Bool):TyOf K H (.bl x) (.type "bool")
 |int (i:Int):TyOf K H (.int i) (.type "int")
 |str (x:Str):TyOf K H (.str x) (.type "str")
 |flt (x:UInt64):TyOf K H (.flt x) (.type "float")
 |lst {a:Ad} {xs:List V} (e:H a=some (.lst xs)):TyOf K H (.ref a) (.type "list")
 |frz {a:Ad} {o:Obj} {xs:List V} (e:H a=some (.frz o (.lst xs))):TyOf K H (.ref a) (.type "list")
 |tup {a:Ad} {xs:List V} (e:H a=some (.tup xs)):TyOf K H (.ref a) (.type "tuple")
 |dK {a:Ad} {kvs:List (cE×V)} (e:H a=some (.dK kvs)):TyOf K H (.ref a) (.type "dict")
 |dT {a:Ad} {kvs:List (List cE×V)} (e:H a=some (.dT kvs)):TyOf K H (.ref a) (.type "dict")
 | ins {a C dx:Ad} {fs:List (Str×V)} (e:H a=some (.ins C dx fs)) (cl:Cls K C) (ha:W.findIn K (.ref C) "__class__"=some (some (.builtin "object.__class__")))
   (hn:W.specialIn K (.builtin "object.__class__") "__get__"=some (some (.builtin "getset_descriptor.__get__"))) (htk:W.takesIn K (.builtin "object.__class__")=some true)
   (hm:W.mroIn K C (.type "object")=some true):TyOf K H (.ref a) (.ref C)
theorem Ug(I:Inv X za σ H s)(d:RelV x u)(ty:TyOf X.K H x t)(e:W.kitOne X.K t c=some b)(h:∀v,Q (.bool b) {s with toks:=v}):
  wpAny (model X.prog X.w) A (call (.builtin "isinstance") [u,c]) Q E s:=by
 cases ty with
 |non=>cases(d);exact nR W.kitx_none I.kIn True.intro e (λz=>nomatch z) h
 |bl y=>cases(d);exact nR W.kitx_bool I.kIn True.intro e (λz=>nomatch z) h
 |int i=>obtain⟨t,q⟩:=(d);cases q;exact nR W.kitx_int I.kIn True.intro e (λz=>nomatch z) h
 |str y=>obtain⟨t,q⟩:=(d);cases q;exact nR W.kitx_str I.kIn True.intro e (λz=>nomatch z) h
 |flt y=>obtain⟨t,q⟩:=(d);cases q;exact nR W.kitx_float I.kIn True.intro e (λz=>nomatch z) h
 | @lst a k f=>
  cases(d);obtain⟨_,_,n,_,g⟩:=(I.hok a _ f);exact nR W.kitx_list I.kIn #[_,g,zZ] e (λz=>nomatch z) h
 | @frz a w k f=>
  cases(d);obtain⟨_,_,_,n,_,g⟩:=(I.hok a _ f);exact nR W.kitx_list I.kIn #[_,g,zZ] e (λz=>nomatch z) h
 | @tup a k f=>
  cases(d);obtain⟨_,_,_,p⟩:=(I.hok a _ f);obtain⟨o,g,l,_⟩:=p;exact nR W.kitx_tuple I.kIn #[o,g,l] e (λz=>nomatch z) h
 | @dK a j f=>
  cases(d);obtain⟨_,_,N,_,p⟩:=(I.hok a _ f);obtain⟨o,B,D,g,l,_⟩:=p;exact nR W.kitx_dict I.kIn #[o,g,l.1] e (λz=>nomatch z) h
 | @dT a j f=>
  cases(d);obtain⟨_,_,k,_,o,B,D,g,l,_⟩:=(I.hok a _ f);exact nR W.kitx_dict I.kIn #[o,g,l.1] e (λz=>nomatch z) h
 | @ins a C T fs f r G L m M=>
  cases(d);obtain⟨U,O,_⟩:=Ev I.hok f;obtain⟨Y,J,_⟩:=O.look;exact nR (W.kitx_own (r.get _) r.hd G L m M) I.kIn J e (λz=>nomatch z) h
end
structure Room(k:Nat)(A:Ar):Prop where
 hd:A.handled=none
 dp:A.depth+3 * k+5<recursionLimit
 un:A.units+16 * k+200<cLine
theorem Room.mono(r:Room k A)(h:j<=k):Room j A:=#[r.hd,by have:=r.dp;lia,by have:=r.un;lia]
theorem Room.m(h:Room k A)(d:j≤k:=by decide):Room j A:=h.mono d
theorem Room.deeper(r:Room (k+1) A)(a):Room k (A.deeper a):=
 #[r.hd,by have:=r.dp;show A.depth+1+3 * k+5<_;lia,by have:=r.un;show A.units+3+16 * k+200<_;lia]
theorem Room.in1(r:Room (k+1) A):Room k A.in1:=
 #[r.hd,by have:=r.dp;lia,by have:=r.un;lia]
theorem O5{A:Ar}{C:Ad}{a:Vs}{b:List (Str×Vl)}:(A.under (.builtin "type.__call__" #[.ref C::a,b])).depth=A.depth+1:=by
 first|rfl|simp
theorem Uv{A:Ar}{C:Ad}{a:Vs}{b:List (Str×Vl)}:(A.under (.builtin "type.__call__" #[.ref C::a,b])).units=A.units+1:=by
 first|rfl|simp
theorem Room.make(r:Room (k+1) A)(C:Ad)(a:Vs)(b:List (Str×Vl)):Room k (A.under (.builtin "type.__call__" #[.ref C::a,b])):=
 #[r.hd,by have:=r.dp;rw[O5];lia,by have:=r.un;rw[Uv];lia]
theorem Room.depth(r:Room k A):A.depth<recursionLimit:=by have:=r.dp;lia
theorem Room.units(r:Room k A):A.units+64<cLine:=by have:=r.un;lia
def lG:TA:=λ_ H Q=>Q [] H
def lO(b:TE)(c:TA):TA:=λa H Q=>b a H λx d=>c a d λe f=>Q (x::e) f
theorem bF:PA X [] lG:=λ_ _ _ _ H Q I h=>Calls.spliced_nil #[[],H,I,.nil,h]
theorem bG(g:PE X e d)(i:PA X c t)(j:starEach (e::c) X.env=(false,eval e X.env)::starEach c X.env:=by rfl):PA X (e::c) (lO d t):=by
 intro a b s f H Q I h;rw[j];refine Calls.spliced_cons<|bS (g b s f H _ I h) λu k ⟨x,l,m,n,o⟩=>bS (i a b k f l _ m o) λy z ⟨p,q,r,v,w⟩=>#[x::p,q,r,.cons n v,w]
def Ii(t:TA):TE:=λc H Q=>t c H λa b=>a.length<=sizeLine/\∀p,b p=none->Q (.ref p) (bx b p (.tup a))
def AT(t:TA):TE:=λc H Q=>t c H λa b=>a.length<=sizeLine/\∀p,b p=none->Q (.ref p) (bx b p (.lst a))
theorem jo{i}(h:PA X c t):PE X (.Tuple c i a) (Ii t):=by
 intro j s k H Q I l;refine wpAny_Tuple_spliced<|bS (h a j s k H _ I l) λm d ⟨n,f,g,r,z,q⟩=>#[by rw[<-r.length];exact z,?_];refine#[.ref d.heap.objs.size,bx f d.heap.objs.size<|.tup n,g.laid (λb u e=>cI _ e) (bR _) #[z,m,r,#[_,dE _ zZ,zZ,_,zZ,zZ]],zZ,q _<|g.hok.fresh<|bR _]
theorem gw(h:PA X c t):PE X (.List c a) (AT t):=by
 intro i s j H Q I k;refine wpAny_List_spliced<|bS (h a i s j H _ I k) λl d ⟨m,f,g,r,z,q⟩=>#[by rw[<-r.length];exact z,?_];refine#[.ref d.heap.objs.size,bx f d.heap.objs.size<|.lst m,g.laid (λb u e=>cI _ e) (bR _) #[z,l,0,r,dE _ zZ],zZ,q _<|g.hok.fresh<|bR _]
abbrev Sp:=List V->Hp->VK->XK->Prop
abbrev tm:=List Env->Hp->Sh->XK->Vl->Sh->Prop
structure Env0(P:Pg)(w:World)(K:V3)(mg:SV)(base:Heap)(A:Ar)(outer:List Env)(s:Sh)(H:Hp):Prop where
 frames:A.frames=some outer
 mod:Mod K mg base
 bs:∀b o,base.get? b=some o->s.heap.get? b=some o/\H b=none
 bsz:base.objs.size<=s.heap.objs.size
 funs:s.heap.FunFrames base outer
 frf:∀b∈mB outer,H b=none
 hok:HOk P w H s.heap
 bare:AllBare s.gens
def CE(a:List Env)(P:Pg)(w:World)(H:Hp)(s:Sh)(Q:VK)(u:Vl)(b:Sh):Prop:=
 ∃v c,b.os=s.os/\AllBare b.gens/\Un (mB a) [] H c s.heap b.heap/\HOk P w c b.heap/\RelV v u/\Q v c
def CR(c:tm)(a:List Env)(P:Pg)(w:World)(H:Hp)(s:Sh)(Q:VK)(E:XK)(r:Result)(b:Sh):Prop:=
 match r with
 |.ok (.ret u)=>CE a P w H s Q u b
 |.ok _=>False
 |.error e=>c a H s E e b
structure FnOk(P:Pg)(w:World)(K:V3)(mg:SV)(base:Heap)(CX:tm)(k:Nat)(f:Ad)(fd:Fd)(ps:Ss)(sp:Sp):Prop where
 len:∀vs H Q E,sp vs H Q E->vs.length=ps.length
 run:∀A outer s H args (us:Vs) vs Q E,Room k A->Env0 P w K mg base A outer s H->BindsTo s fd args (ps.zip us)->Vals vs us->sp vs H Q E->
  codeAny (model P w) A (.call (.ref f) args) (CR CX outer P w H s Q E) s
theorem Env0.make{K:V3}(e:Env0 P w K mg b A a s H)(C:Ad)(c:Vs)(d:List (Str×Vl)):
  Env0 P w K mg b (A.under (.builtin "type.__call__" #[.ref C::c,d])) a s H:=#[by first|exact e.frames|(simpa[Around.under,Code.envs,Code.isFrame,pushEnvs]using e.frames),e.mod,e.bs,e.bsz,e.funs,e.frf,e.hok,e.bare]
theorem Env0.in1{K:V3}(e:Env0 P w K mg b A a s H):
  Env0 P w K mg b A.in1 a s H:=#[e.frames,e.mod,e.bs,e.bsz,e.funs,e.frf,e.hok,e.bare]
section
variable{c:St}
theorem Inv.env0(I:Inv X e c H s):Env0 X.prog X.w X.K X.mg X.base X.A X.stack s H:=
 #[I.ok.frames,I.ok.mod,I.bs,cz I.ok.bsz I.sz,I.stack,I.stkFree,I.hok,I.bare]
theorem Inv.after(I:Inv X e c H s)(h:CE X.stack X.prog X.w H s Q u a):EP X e c Q u a:=by
 obtain⟨v,H',os,f,un,i,r,q⟩:=h;obtain⟨k,g,d,t,j⟩:=a;obtain rfl:j=s.os:=os;exact#[v,H',I.call un i f<|λb z=>wC z<|by simp,r,q]
end
def Cs(b:Sp)(a:List V)(E:XK)(t:TA):TE:=λc H Q=>t c H λd e=>b (d++a) e Q E
inductive oz(C:Ad)(m:Str)(d:Sp)(b:List V)(E:XK)(t:TA)(e:St)(x:V)(c:Hp)(Q:VK):Prop|mk:∀a f fs,x=.ref a->c a=some (.ins C f fs)->fs.lookup m=none->(t e c λg h=>d (x::(g++b)) h Q E)->oz C m d b E t e x c Q
def Cc(C:Ad)(m:Str)(c:Sp)(a:List V)(E:XK)(d:TE)(t:TA):TE:=λb H Q=>d b H λx e=>oz C m c a E t b x e Q
def Lk(C:Ad)(d:Sp)(b:List V)(E:XK)(t:TA):TE:=λe H Q=>t e H λf c=>∀x a,c x=none->c a=none->a≠x->
 d (.ref x::(f++b)) (bx (bx c a (.own x)) x (.ins C a [])) (λv g=>v=.non/\Q (.ref x) g) E
def Binds(K:V3)(d:Fd)(b:Ss)(c:Vs):Prop:=
 ∀(s:Sh) a,K.In s.heap->(a++c).length=b.length->BindsTo s d #[a,[]] (b.zip (a++c))
theorem Binds.all{K:V3}{c:Fd}(h:∀a:Vs,a.length=b.length->bindArgs c #[a,[]]=pure (b.zip a)):Binds K c b []:=λs a _ d=>by
 rw[iw]at d|-;exact .of_eq<|h a d
def wh(b:tm)(X:Cx)(E:XK):Prop:=∀c (d:St) H s e a,Inv X c d H s->b X.stack H s E e a->X.xe e a
section
variable{p pos apos:Pos}
theorem Ez{c:St}{us:Vs}(F:FnOk X.prog X.w X.K X.mg X.base CX k f fd ps sp)(g:Room k X.A)(i:Binds X.K fd ps ds)(j:Vals dvs ds)(l:wh CX X E)(I:Inv X b c H s) (r:Vals vs us) (h:sp (vs++dvs) H Q E):wpAny (model X.prog X.w) X.A (call (.ref f) us) (EP X b c Q) X.xe s:=by
 have d:=r.append j;have m:(us++ds).length=ps.length:=by rw[<-d.length];exact F.len _ _ _ _ h
 refine y7<|nX (F.run X.A X.stack s H #[us,[]] (us++ds) (vs++dvs) Q E g I.env0 (i s us I.kIn m) d h) λr n a=>?_;cases r with
 |error e=>exact l b c H s e n I a
 |ok o=>
  cases o with
  |ret u=>exact I.after a
  |next=>exact wE a
  |brk=>exact wE a
  |cont=>exact wE a
theorem NI(F:FnOk X.prog X.w X.K X.mg X.base CX k f fd ps sp)(d:Room k X.A)(g:Gl X x)(i:X.mg x=some (.ref f))(j:W.keepIn X.K (.ref f)=true)(l:Binds X.K fd ps ds)(m:Vals dvs ds)(n:wh CX X E)(o:PA X (e::es) t) (a:(x==("__debug__":Str))=false:=by decide) (u:starEach (e::es) X.env=(false,eval e X.env)::starEach es X.env:=by rfl) (b:(backTo pos (starEach es X.env)).any (·.1)=false:=by rfl):
  PE X (.Call (.Name x p) (e::es) [] pos) (Cs sp dvs E t):=by
 intro v s w H Q I h;refine ve<|z8 I g i ?_ a;refine D3 I.ok.mod.kin j (bS (o pos v s w H _ I h) λy z ⟨A,B,c,r,q⟩=>#[c.kIn,?_]) u b;exact Ez F d l m n c r q
theorem R8{g:Sem Bool}(y:PE X o ta)(c:Cls X.K C)(i:Meth X.K C m f)(F:FnOk X.prog X.w X.K X.mg X.base CX k f fd ps sp)(z:Room k X.A)(A:Binds X.K fd ps ds)(B:Vals dvs ds)(D:wh CX X E)(G:PA X (e::es) t)(b:starEach (e::es) X.env=(false,eval e X.env)::starEach es X.env:=by rfl) (d:(backTo pos (starEach es X.env)).any (·.1)=false:=by rfl)
  (ht:eval (.Call (.Attribute o m apos) (e::es) [] pos) X.env=(do
   let j <-eval o X.env
   standAt apos.atName
   let(f,first) <-holding [j] (getMethod j m g)
   callWith pos f first (backTo pos (starEach (e::es) X.env)) (backToKw pos (keywordEach [] X.env))):=by rfl):
  PE X (.Call (.Attribute o m apos) (e::es) [] pos) (Cc C m sp dvs E ta t):=by
 intro n s p H Q I h;refine W.methodCall_KW (bS (y n s p H _ I h) λu J ⟨x,L,v,M,a,dx,fs,N,O,l,q⟩=>?_) ht;subst N;obtain rfl:u=Value.ref a:=M;refine LG v O c i l ?_;refine D3 I.ok.mod.kin i.kp (bS (G pos n J p L _ v q) λT s2 ⟨U,H2,w,r,Y⟩=>#[w.kIn,?_]) b d;exact Ez (vs:= .ref a::U) F z A B D w (.cons zZ r) Y
theorem TY(g:PE X o ta)(c:Cls X.K C)(d:Meth X.K C m f)(F:FnOk X.prog X.w X.K X.mg X.base CX k f fd ps sp)(i:Room k X.A)(j:Binds X.K fd ps ds)(n:Vals dvs ds)(p:wh CX X E)(ht:eval (.Call (.Attribute o m apos) [] [] pos) X.env=(do
   let e <-eval o X.env
   standAt apos.atName
   let(f,first) <-holding [e] (getMethod e m pl)
   callWith pos f first (backTo pos (starEach [] X.env)) (backToKw pos (keywordEach [] X.env))):=by rfl):
  PE X (.Call (.Attribute o m apos) [] [] pos) (Cc C m sp dvs E ta lG):=by
 intro r s t H Q I h;refine W.methodCall_KW (bS (g r s t H _ I h) λu z ⟨x,A,b,v,a,B,fs,w,y,l,q⟩=>?_) ht;subst w;obtain rfl:u=Value.ref a:=v;refine LG b y c d l ?_;exact W.callWith_K0 b.kIn d.kp<|Ez (vs:=[.ref a]) F i j n p b (.cons zZ .nil) q
structure Mk(K:V3)(C f:Ad):Prop where
 makes:W.makesIn K C=true
 init:W.findIn K (.ref C) "__init__"=some (some (.ref f))
 fn:W.isFn K (.ref f)=true
 kp:W.keepIn K (.ref C)=true
theorem Vg{i:St}{b:Vs}(M:Mk X.K C f)(F:FnOk X.prog X.w X.K X.mg X.base CX k f fd ps sp)(n:Room (k+1) X.A)(o:Binds X.K fd ps ds)(p:Vals dvs ds)(q:wh CX X E) (I:Inv X g i H s) (r:Vals j b)(h:∀x c,H x=none->H c=none->c≠x->sp (.ref x::(j++dvs)) (bx (bx H c (.own x)) x (.ins C c [])) (λv t=>v=.non/\Q (.ref x) t) E):
  wpAny (model X.prog X.w) X.A (call (.ref C) b) (EP X g i Q) X.xe s:=by
 have l:=h (s.heap.objs.size+1) s.heap.objs.size (I.hok.fresh<|rh _) (I.hok.fresh<|bR _)<|dr<|ti _;have d:=Inv.made (C:=C) I;have m:Vals (V.ref (s.heap.objs.size+1)::(j++dvs)) (Value.ref (s.heap.objs.size+1)::(b++ds)):= .cons zZ<|r.append p;have w:(Value.ref (s.heap.objs.size+1)::b++ds).length=ps.length:=by
  have e:=m.length;rw[F.len _ _ _ _ l]at e;exact e.symm
 refine y7 (Qa I.kIn M.makes M.init (oQ.mp M.fn) (nX (F.run _ X.stack _ _ #[Value.ref (s.heap.objs.size+1)::b,[]] (Value.ref (s.heap.objs.size+1)::(b++ds)) _ _ E (n.make C b [])
  (d.env0.make C b []) (o _ (Value.ref (s.heap.objs.size+1)::b) d.kIn w) m l) λr y a=>?_))
 cases r with
 |error e=>exact q g i _ _ e y d a
 | ok z=>
  cases z with
  |ret u=>
   obtain⟨v,A,B,D,G,J⟩:=d.after a;subst G;exact#[D,#[V.ref<|s.heap.objs.size+1,A,B,zZ,J]]
  |next=>exact wE a
  |brk=>exact wE a
  |cont=>exact wE a
theorem Ra(M:Mk X.K C f)(F:FnOk X.prog X.w X.K X.mg X.base CX k f fd ps sp)(d:Room (k+1) X.A)(g:Gl X x)(i:X.mg x=some (.ref C))(j:Binds X.K fd ps ds)(l:Vals dvs ds)(m:wh CX X E)(n:PA X (e::es) t) (a:(x==("__debug__":Str))=false:=by decide) (o:starEach (e::es) X.env=(false,eval e X.env)::starEach es X.env:=by rfl) (b:(backTo pos (starEach es X.env)).any (·.1)=false:=by rfl):
  PE X (.Call (.Name x p) (e::es) [] pos) (Lk C sp dvs E t):=by
 intro u s v H Q I h;refine ve<|z8 I g i ?_ a;refine D3 I.ok.mod.kin M.kp (bS (n pos u s v H _ I h) λw y ⟨z,A,c,r,q⟩=>#[c.kIn,?_]) o b;exact Vg M F d j l m c r q
end
structure FnScope(N P:Ss)(sc:Scope):Prop where
 kind:sc.kind=.function:=by rfl
 co:sc.isCoroutine=false:=by rfl
 gen:sc.isGenerator=false:=by rfl
 nd:N.Nodup:=by decide+kernel
 pre:N.take P.length=P:=by rfl
 par:∀x∈P,sc.names.lookup x=some .local\/sc.names.lookup x=some .cell:=by decide+kernel
 nofree:∀y∈sc.names,y.2≠ .free:=by decide+kernel
theorem Mo{kindOf:Str->Option NameKind}:∀{binds:List (Str×Vl)} {m:SV},(∀v,(x,v)∉binds)->bindL kindOf binds m x=m x
 | [],_,_=>rfl
 | (n,v)::r,m,h=>by
  unfold bindL;rw[Mo λw hw=>h w (dS _ hw)];split
  .have:x≠n:=by rintro rfl;exact h v cJ
   simp[this]
  .rfl
theorem Mq{kindOf:Str->Option NameKind}:∀{binds:List (Str×Vl)} {m:SV},(∀v,(x,v)∉binds)->bindC kindOf binds m x=m x
 | [],_,_=>rfl
 | (n,v)::r,m,h=>by
  unfold bindC;rw[Mq λw hw=>h w (dS _ hw)];split
  .rfl
  .have:x≠n:=by rintro rfl;exact h v cJ
   simp[this]
theorem MC{kindOf:Str->Option NameKind}{v:Vl}:∀{P:Ss} {a:Vs} {i:Nat} {m:SV},P.Nodup->P[i]?=some x->a[i]?=some v->kindOf x=some .local->
  bindL kindOf (P.zip a) m x=some v
 | [],_,_,_,_,h,_,_=>by simp at h
 |_::_,[],_,_,_,_,h,_=>by simp at h
 |p::P,w::a,0,m,nd,b,c,d=>by
  simp at b c;subst b;subst c;show bindL kindOf ((p,w)::P.zip a) m p=_;unfold bindL;rw[Mo λv e=>(lQ.mp nd).1 (BY e).1,wB d];simp
 |p::P,w::a,i+1,m,nd,b,c,d=>by
  unfold bindL;exact MC (lQ.mp nd).2 b c d
theorem LK{kindOf:Str->Option NameKind}{v:Vl}:∀{P:Ss} {a:Vs} {i:Nat} {m:SV},P.Nodup->P[i]?=some x->a[i]?=some v->kindOf x≠some .local->
  bindC kindOf (P.zip a) m x=some v
 | [],_,_,_,_,h,_,_=>by simp at h
 |_::_,[],_,_,_,_,h,_=>by simp at h
 |p::P,w::a,0,m,nd,b,c,d=>by
  simp at b c;subst b;subst c;show bindC kindOf ((p,w)::P.zip a) m p=_;unfold bindC;rw[Mq λv e=>(lQ.mp nd).1 (BY e).1,wA d];simp
 |p::P,w::a,i+1,m,nd,b,c,d=>by
  unfold bindC;exact LK (lQ.mp nd).2 b c d
noncomputable def start(N:Ss)(a:List V):St:=a.map some++List.replicate (N.length-a.length) none
noncomputable def t8(g:tm)(P:Pg)(w:World)(K:V3)(mg:SV)(base:Heap)(N:Ss)(b:Str)(a:Scope)(f:Ad)(d:Vl)(A:Ar)(outer:List Env)(s:Sh)(H:Hp)(E:XK):Cx where
 prog:=P
 w:=w
 K:=K
 mg:=mg
 base:=base
 A:=A.deeper (envOfC b a s.heap.objs.size f d)
 N:=N
 s₀:=s
 H₀:=H
 env:=envOfC b a s.heap.objs.size f d
 outer:=outer
 stack:=envOfC b a s.heap.objs.size f d::outer
 ex:=[]
 calm:=true
 fn:=λ_=>true
 pn:=[]
 xe:=λe h=>wpAny (model P w) (A.deeper (envOfC b a s.heap.objs.size f d)) (leaving (envOfC b a s.heap.objs.size f d) e) (λ_ c=>g outer H s E e c) (λi c=>g outer H s E i c) h
theorem Ln{a:Scope}(h:a.names.lookup x=some .cell):∃c,(cellsFrom n a.names []).lookup x=some c:=by
 exact Option.isSome_iff_exists.mp<|PySem.W.cellsFrom_some a.names n []<|.inl h
theorem SK{K:V3}{f:Ad}{I:Vl}{s Q:Sh}{M:Vs}(S:FnScope N t d) (Y:A.handled=none) (o:Env0 P w K mg m A g s H) (hl:B.length=t.length) (r:Vals B M)(x:InCallC s s.heap.objs.size (bindL (envOfC j d s.heap.objs.size f I).kindOf (t.zip M) λ_=>none) (cellsFrom (s.heap.objs.size+1) d.names []) (bindC (envOfC j d s.heap.objs.size f I).kindOf (t.zip M) λ_=>none) Q):
  Inv (t8 O P w K mg m N j d f I A g s H E) [] (start N B) H Q:=by
 have aa:t.length<=N.length:=by have:=cH List.length S.pre;rw[fe]at this;lia
 obtain⟨J,tk,rfl,T⟩:=x.done;have C:∀b,b∉(t8 O P w K mg m N j d f I A g s H E).ex:=λb z=>wC (show b∈([]:As)from z) (by simp);refine#[#[o.mod,S.kind,zZ,zZ,bR _,λy z c J l=>?_,λy hy=>?_,λy c _ h=>?_,λ_=>Y,Around.frames_deeper o.frames,.inr #[zZ,zZ],λb z=>wC z (C b),o.bs,o.bsz,λb _ _=>C b,λb z=>wC z (C b),o.funs,o.frf],
  rfl,o.bare,Un.kept T,#[_,x.toInCall.ns,λi y v J l h3=>?_],λy c h=>#[_,x.cell y c h],o.hok.fresh (bR _),λy c h=>?_,λp D=>wC (show p∈([]:AO)from D) (by simp),o.hok.kept T,?_]
 .exact name_of_addr x.apart (pB J) (pB l)
 .have hy:=hy
  rcases hy with hy|hy
  .exact Ln hy
  .exact wC zZ (S.nofree _ (pB hy))
 .exact eZ (x.above y c (pB h))
 .have L:i<B.length:=by
   unfold start at l;by_cases L:i<B.length
   .exact L
   .rw[dQ (by simpa using L)]at l;rw[List.getElem?_replicate]at l;split at l<;>cases l
  have ha:B[i]?=some v:=by
   unfold start at l;rw[dO (by simpa using L),List.getElem?_map]at l;cases e:B[i]? with
   |none=>rw[e]at l;cases l
   |some a=>rw[e]at l;cases l;rfl
  obtain⟨u,U,rv⟩:=r.get ha;have D:t[i]?=some y:=by
   rw[<-S.pre,CA ()];exact J
  have G:t.Nodup:=by rw[<-S.pre];exact S.nd.sublist (wy _ _)
  refine#[u,rv,?_]
  rcases S.par y (bX D)with k|k
  .exact .inl #[k,MC G D U k]
  .obtain⟨c,e⟩:=Ln k;refine .inr #[.inl k,c,e,?_];have q:=x.cell y c e;rw[LK G D U (by show d.names.lookup y≠_;rw[k];decide)]at q;exact q
 .exact o.hok.fresh (eZ (x.above y c (pB h)))
 .unfold start;show _=N.length;rw[cC,bA,List.length_replicate];lia
theorem Lq{K:V3}{f:Ad}{dV kV D pm g ct oc:Vl}{an od:Option Ad}{T:Array (Option Vl)}   (lk:K.lookup f=some #[oc,od,.func (W.fnOf name d i j a dV kV D pm an g ct),T]) (Y:W.codeIn K g d=true) (S:FnScope N O a)(len:∀l H Q E,U l H Q E->l.length=O.length)(z:∀A c s H l Q E,Room k (A.deeper (envOfC d a s.heap.objs.size f g))->U l H Q E->
   ∃t,PSs (t8 M P w K mg h N d a f g A c s H E) j t/\t {nx:=λ_ p=>Q .non p,rt:=Q} (start N l) H):
  FnOk P w K mg h M (k+1) f (W.fnOf name d i j a dV kV D pm an g ct) O U:=by
 refine#[len,λA c s H args us l Q E hr G hb r L=>?_];have KX:=G.mod.kin.keeps λb o e=>(G.bs b o e).1;have aa:=G.mod.nolimit.keeps λb o e=>(G.bs b o e).1;have B:∀y∈O.zip us,a.names.lookup y.1=some .local\/(a.names.lookup y.1=some .cell/\((cellsFrom (s.heap.objs.size+1) a.names []).lookup y.1).isSome=true):=λ⟨n,v⟩ hy=>by
  rcases S.par n (BY hy).1 with q|q
  .exact .inl q
  .exact .inr #[q,PySem.W.cellsFrom_some _ _ _<|.inl q]
 refine codeAny_call_function hr.depth (KX _ _ lk) zZ S.co S.gen zZ (PySem.W.codeRec_of KX Y)<|hb _ _ _ _<|wpAny_newFunctionEnv_cells S.kind B λab he s1 x=>?_;subst he;refine#[aa.keeps x.toInCall.keep,codeAny_func ?_];obtain⟨t,ht,hq⟩:=z A c s H l Q E (hr.deeper _) L;have I:Inv (t8 M P w K mg h N d a f g A c s H E) [] (start N l) H s1:=SK S hr.hd G (len _ _ _ _ L) r x;refine iB (ht [] s1 (start N l) H _ I hq) (λfl s' C=>?_) λe s' C=>C;have fin:∀{m} {p} {v} {u},Inv (t8 M P w K mg h N d a f g A c s H E) [] m p s'->RelV v u->Q v p->CE c P w H s Q u s':=
  λ{m p v u} J rv q=>#[v,p,J.os,J.bare,J.base,J.hok,rv,q]
 cases fl with
 |ret u=>
  obtain⟨v,m,p,J,rv,q⟩:=C;exact fin J rv q
 |next=>
  obtain⟨m,p,J,q⟩:=C;exact fin (v:=V.non) J zZ q
 |brk=>
  obtain⟨_,_,_,q⟩:=C;exact wE q
 |cont=>
  obtain⟨_,_,_,q⟩:=C;exact wE q
section
variable{p a:Pos}{id T:String}
def MK(r:List V->Hp->VK->Prop)(t:TA):TE:=λa H Q=>t a H λb c=>r b c Q
theorem cX(i:iu X (.builtin id) r)(j:Gl X x)(k:X.mg x=none)(l:bootBuiltins x=some (.builtin id))(m:PA X (e::b) t)(n:x≠"__name__":=by decide)(c:(x==("__debug__":Str))=false:=by decide)
  (o:starEach (e::b) X.env=(false,eval e X.env)::starEach b X.env:=by rfl) (d:(backTo a (starEach b X.env)).any (·.1)=false:=by rfl):PE X (.Call (.Name x p) (e::b) [] a) (MK r t):=by
 intro f s g H Q I h;refine ve<|vh I j k l (callWith_builtin1 (bS (m a f s g H _ I h) λq u ⟨v,w,y,z,A⟩=>i f u g w v q Q y z A) o d) n c
theorem gE(i:iu X (.type T) r)(j:Gl X x)(k:X.mg x=none)(l:bootBuiltins x=some (.type T))(m:PA X (e::b) t)(n:x≠"__name__":=by decide)(c:(x==("__debug__":Str))=false:=by decide)
  (o:starEach (e::b) X.env=(false,eval e X.env)::starEach b X.env:=by rfl) (d:(backTo a (starEach b X.env)).any (·.1)=false:=by rfl):PE X (.Call (.Name x p) (e::b) [] a) (MK r t):=by
 intro f s g H Q I h;refine ve<|vh I j k l (Cm (bS (m a f s g H _ I h) λq u ⟨v,w,y,z,A⟩=>i f u g w v q Q y z A) o d) n c
end
end L2
namespace HT
open PySem PyProof.Rows
noncomputable def BP:Zs->List Int->Bool
 | [],[]=>false
 | [],_::_=>true
 |_::_,[]=>false
 |x::a,y::b=>if x=y then BP a b else decide (x<y)
theorem fu(A:Ar)(s:Sh)(a)(t)(c)(u):∃e,SeqAt.EqAt A s (.int a t) (.int c u) e/\(e=true↔a=c):=
 #[(a==c),SeqAt.EqAt.int_int a t c u,by simp]
noncomputable def sIx(n d:Nat):Option Int->Nat
 |none=>d
 |some v=>if v<0 then(v+(n:Int)).toNat else min v.toNat n
theorem sIx_none(n d):sIx n d none=d:=rfl
theorem sIx_nat(n d k:Nat):sIx n d (some (k:Int))=min k n:=by
 show(if(k:Int)<0 then((k:Int)+(n:Int)).toNat else min (k:Int).toNat n)=min k n;rw[wA (),hY]
end HT
namespace L2
open PySem PySem.Spec PyProof.Rows
abbrev TO:=St->Hp->(Option Int->Hp->Prop)->Prop
def PO(X:Cx)(e:Option Expr)(t:TO):Prop:=
 ∀b s (a:St) H Q,Inv X b a H s->t a H Q->
  wpAny (model X.prog X.w) X.A (evalPart e X.env) (λu d=>∃o c,Inv X b a c d/\IsPart u o/\Q o c) X.xe s
def Rp:TO:=λ_ H Q=>Q none H
def AB(t:TE):TO:=λa H Q=>t a H λx b=>∃i,x=.int i/\Q (some i) b
theorem S7{a:Zs}:∀{b:Vs},Vals (a.map V.int) b->IntsAre b a:=by
 induction a with
 |nil=>intro b r;rw[yL]at r;cases r;exact .nil
 | cons n a c=>
  intro b r;rw[hI]at r;cases r with
  |cons d f=>
   obtain⟨t,e⟩:=d;subst e;exact .cons n t<|c f
section
variable{lo a:Option Expr}
theorem Mr:PO X none Rp:=by
 intro a s b H Q I h;rw[DM];exact bJ #[none,H,I,.none,h]
theorem Cz(h:PE X e c):PO X (some e) (AB c):=by
 intro a s b H Q I hw;rw[Cr];refine bS (h a s b H _ I hw) λu k ⟨x,d,f,g,j⟩=>?_;obtain⟨i,rfl,q⟩:=j;obtain⟨t,rfl⟩:=g;exact#[some i,d,f,.int i t,q]
def Ht(X:Cx)(r:V->Option Int->Option Int->Hp->VK->Prop):Prop:=
 ∀b s (c:St) H x (v d e:Vl) lo a (sl:Ad) Q,Inv X b c H s->RelV x v->s.heap.IsSliceOf sl d e .none->IsPart d lo->IsPart e a->r x lo a H Q->
  ∃T id,typeLookup (.type T) "__getitem__"=pure (some (.builtin id))/\s.TypeIs v T/\wpAny (model X.prog X.w) X.A (getItem v (.ref sl)) (EP X b c Q) X.xe s
def SM(r:V->Option Int->Option Int->Hp->VK->Prop)(c:TE)(tl d:TO):TE:=λa H Q=>c a H λx b=>tl a b λl e=>d a e λu f=>r x l u f Q
theorem GU(n:Ht X r)(o:PE X e c)(p:PO X lo tl)(t:PO X a d):PE X (.Subscript e (.Slice lo a none g) f) (SM r c tl d):=by
 intro i s j H Q I h;refine zL<|bS (o i s j H _ I h) λv w ⟨x,y,z,A,B⟩=>wpAny_Slice<|bS (p i w j y _ z B) λk C ⟨l,D,E,G,J⟩=>bS (t i C j D _ E J) λvu s3 ⟨u,m,L,M,N⟩=>?_;rw[DM];refine bJ ?_;have O:Inv X i j m {s3 with heap:=s3.heap.push {cls:= .type "slice",data:= .fields #v[k,vu,.none]}}:=L.kept λb Y q=>cI _ q;obtain⟨T,id,hT,ht,U⟩:=n i {s3 with heap:=s3.heap.push {cls:= .type "slice",data:= .fields #v[k,vu,.none]}} j m x v k vu l u s3.heap.objs.size Q O A (Heap.IsSliceOf.new ..) G M N;exact tail_any ht hT U<|by with_unfolding_all rfl
noncomputable def t6(b:List V)(lo a:Option Int):List V:=(b.drop (HT.sIx b.length 0 lo)).take (HT.sIx b.length b.length a-HT.sIx b.length 0 lo)
theorem Qc(b)(lo a):(t6 b lo a).length<=b.length:=by
 unfold t6;rw[fe,rb];lia
end
noncomputable def nY(n:Nat)(i:Int):Option Nat:=if 0<=i then(if i<n then some i.toNat else none)else if -(n:Int)<=i then some (i+n).toNat else none
noncomputable def fL{a:Type}(b:List a)(i:Int):Option a:=(nY b.length i).bind λj=>b[j]?
theorem Lg(h:nY n i=some j):seqIndex? i n=some j/\j<n/\ -(n:Int)<=i/\i<n:=by
 unfold nY at h;by_cases b:0<=i
 .rw[wB b]at h;by_cases a:i<n
  .rw[wB a]at h;have e:=ge h;exact#[by rw[seqIndex_of b a,e],(),(),a]
  .rw[wA a]at h;cases h
 .rw[wA b]at h;by_cases a: -(n:Int)<=i
  .rw[wB a]at h;exact#[by rw[seqIndex_neg () a,(ge h)],(),a,()]
  .rw[wA a]at h;cases h
theorem DL{v:b}(h:fL a i=some v):∃j,seqIndex? i a.length=some j/\a[j]?=some v/\j<a.length/\ -(a.length:Int)<=i/\i<a.length:=by
 unfold fL at h;cases e:nY a.length i with
 |none=>rw[e]at h;cases h
 |some j=>
  rw[e]at h;obtain⟨c,d,f,g⟩:=Lg e;exact#[j,c,h,d,f,g]
theorem fE{j:Nat}{v:b}(h:a[j]?=some v):fL a (j:Int)=some v:=by
 have c:=(bN.mp h).1;have e:nY a.length (j:Int)=some j:=by
  unfold nY;rw[wB (),wB ()];simp
 unfold fL;rw[e];exact h
theorem Uu(a)(v:b):fL (a++[v]) (-1)=some v:=by
 have c:(a++[v]).length=a.length+1:=by simp
 have e:nY (a++[v]).length (-1)=some a.length:=by
  unfold nY;rw[c,wA<|by decide,wB ()]
  congr 1
  lia
 unfold fL;rw[e];simp
def SD(b:Expr):Prop:=∀o i,subscripted b false o i=operate [o,i] (getItem o i)
def IxR(X:Cx)(r:R2):Prop:=
 ∀b a c s (d:St) H x y v u Q,Inv X c d H s->RelV x v->RelV y u->r x y H Q->
  subscripted a false v u=operate [v,u] (getItem v u)->wpAny (model X.prog X.w) X.A (subscriptTail b a v u) (EP X c d Q) X.xe s
def mZ(X:Cx)(id:String)(r:V->List V->Hp->VK->Prop):Prop:=
 ∀a s (b:St) H x c v (d:Vs) Q,Inv X a b H s->RelV x v->Vals c d->r x c H Q->
  wpAny (model X.prog X.w) X.A (call (.builtin id) (v::d)) (EP X a b Q) X.xe s
section
theorem b7(c:IxR X r)(d:PE X a C)(e:PE X b D)(f:SD b):PE X (.Subscript a b B) (yJ r C D):=by
 intro g s i H Q I h;exact zL<|va d e I h λv u j x y k l m n q=>c a b g j i k x y v u Q l m n q<|f _ _
inductive mQ(K:V3)(x y:V)(H:Hp)(Q:VK):Prop|mk:∀p a i v,x=.ref p->y=.int i->SqL K H p a->fL a i=some v->Q v H->mQ K x y H Q
inductive oh(K:V3)(x y:V)(H:Hp)(Q:VK):Prop|mk:∀p a i v,x=.ref p->y=.int i->SqT K H p a->fL a i=some v->Q v H->oh K x y H Q
inductive zI(x y:V)(H:Hp)(Q:VK):Prop|mk:∀z i c,x=.str z->y=.int i->z.length<=sizeLine->fL z.cps.toList i=some c->Q (.str #[#v[c]]) H->zI x y H Q
theorem dD:IxR X (mQ X.K):=by
 intro b c k s l H x y v u Q I A B h m;obtain⟨p,N,i,z,rfl,rfl,C,D,q⟩:=h;cases A;obtain⟨t,rfl⟩:=B;obtain⟨d,r,e,O⟩:=I.list C;obtain⟨j,a,E,T,G,J⟩:=DL D;obtain⟨w,n,f⟩:=r.get E;have L:=r.length;have U:=vo;have fin:EP X k l Q w s:=#[z,H,I,f,q];by_cases o:0<=i
 .have g:i.toNat=j:=by
   rw[seqIndex_of o J]at a;exact ge a
  exact item_listR e.isList o () (by rw[g];simpa using n) fin m
 .have g:(i+(d.toArray.size:Int)).toNat=j:=by
   rw[seqIndex_neg () G]at a;rw[dU,<-L];exact ge a
  exact subscriptTail_builtinR e.isList.typeIs Hg.lookup
   (wpAny_getItem_list_neg e.isList () (by rw[dU]<;>lia) () (by rw[g];simpa using n) #[zZ,fin]) m
theorem cO:IxR X (oh X.K):=by
 intro a b d s e H x y v u Q I g k h l;obtain⟨p,G,i,z,rfl,rfl,m,n,q⟩:=h;cases g;obtain⟨t,rfl⟩:=k;obtain⟨o,r,f,J⟩:=I.tuple m;obtain⟨j,A,B,L,M,N⟩:=DL n;obtain⟨w,C,c⟩:=r.get B;have O:=vo;have fin:EP X d e Q w s:=#[z,H,I,c,q];exact subscriptTail_builtinR f.typeIs slot_tuple_getitem.lookup
  (getItem_tuple f () () (by rw[dU,<-r.length];exact A) (by simpa using C) #[zZ,fin]) l
theorem Jj:IxR X zI:=by
 intro a b w s A H x y v u Q I e f h g;obtain⟨z,i,c,rfl,rfl,B,k,q⟩:=h;obtain⟨t,rfl⟩:=e;obtain⟨C,rfl⟩:=f;obtain⟨j,d,l,D,m,n⟩:=DL k;have o:z.cps.toList.length=z.length:=by simp[Str.length]
 rw[o]at d m n;have E:=vo;exact tail_any (xz s z t) slot_str_getitem.lookup (getItem_str (by grind) (by grind) #[.str #[#v[c]],H,I.tok _,#[_,zZ],q]) g
theorem N2(a:Vs)(n j)(u:Vl):Obj.mapSeq (·.setIfInBounds j u) {cls:= .type "list",data:= .seq a.toArray n}={cls:= .type "list",data:= .seq (a.set j u).toArray n}:=by
 simp[Obj.mapSeq]
theorem Inv.lst{b:AO}{c:St}{H:Hp}{s:Sh}{p:Ad}{a:List V}(I:Inv X b c H s)(h:H p=some (.lst a)):
  ∃(its:Vs) (n:Nat),Vals a its/\s.heap.get? p=some {cls:= .type "list",data:= .seq its.toArray n}/\a.length<=sizeLine:=by
 obtain⟨z,its,n,r,e⟩:=I.hok p _ h;exact#[its,n,r,e,z]
theorem Inv.lstUpd{j:St}{c a:Vs}(I:Inv X i j H s)(h:H p=some (.lst l))(m:s.heap.get? p=some {cls:= .type "list",data:= .seq c.toArray n}) (k:f {cls:= .type "list",data:= .seq c.toArray n}={cls:= .type "list",data:= .seq a.toArray g}) (r:Vals d a) (o:d.length<=sizeLine) (t):
  Inv X i j (bx H p (.lst d)) {s with heap:=s.heap.update p f,toks:=t}:=by
 have e:(s.heap.update p f).get? p=some {cls:= .type "list",data:= .seq a.toArray g}:=by
  rw[yi f m (by rw[k]<;>rfl),k]
 refine I.write (by rw[h];trivial) (.inl zZ) (λb u v q=>(mD _ _<|dX v).trans q) #[_,e] #[o,a,g,r,e]
inductive su(o i v:V)(H:Hp)(Q:Hp->Prop):Prop|mk:∀p a k j,o=.ref p->i=.int k->H p=some (.lst a)->nY a.length k=some j->Q (bx H p (.lst (a.set j v)))->su o i v H Q
theorem B9:zj X su:=by
 intro x s y H o i v G J u Q I z A B h;obtain⟨p,C,k,j,rfl,rfl,f,D,q⟩:=h;cases z;obtain⟨t,rfl⟩:=A;obtain⟨a,n,r,c,E⟩:=I.lst f;obtain⟨b,L,g,l⟩:=Lg D;have d:=r.length;have M:=vo;have m:=
  I.lstUpd f c (N2 a n j u) (r.set B j) (by rw[v0];exact E) s.toks
 by_cases w:0<=k
 .have e:k.toNat=j:=by
   rw[seqIndex_of w l]at b;exact ge b
  exact W.ki_setAt c w () (by rw[dU,<-d];exact l) (by rw[e];exact#[_,m,q])
 .have e:(k+(a.toArray.size:Int)).toNat=j:=by
   rw[seqIndex_neg () g]at b;rw[dU,<-d];exact ge b
  exact W.ki_setBack c () (by rw[dU,<-d];exact g) () (by rw[e];exact#[_,m,q])
theorem Vw(lo a)(n):(sliceBounds lo a none n).1=((HT.sIx n 0 lo:Nat):Int)/\(sliceBounds lo a none n).2.1=((HT.sIx n n a:Nat):Int)/\(sliceBounds lo a none n).2.2=1:=by
 refine#[?_,?_,zZ]
 .cases lo with
  |none=>simp[sliceBounds,HT.sIx]
  |some i=>
   simp only[sliceBounds,HT.sIx,Option.getD_none,show(1:Int)>0 by decide,if_true];by_cases h:i<0
   .simp only[h,if_true]<;>lia
   .simp only[h,if_false]<;>lia
 .cases a with
  |none=>simp[sliceBounds,HT.sIx]
  |some i=>
   simp only[sliceBounds,HT.sIx,Option.getD_none,show(1:Int)>0 by decide,if_true];by_cases h:i<0
   .simp only[h,if_true]<;>lia
   .simp only[h,if_false]<;>lia
theorem P9(a:Vs)(lo b):slicePick a.toArray lo b none=((a.drop (HT.sIx a.length 0 lo)).take (HT.sIx a.length a.length b-HT.sIx a.length 0 lo)).toArray:=by
 obtain⟨c,d,e⟩:=Vw lo b a.toArray.size;unfold slicePick;rw[c,d,e];simp only[sliceRange_one,pick_run,List.size_toArray]<;>rfl
inductive A2(K:V3)(x:V)(lo b:Option Int)(H:Hp)(Q:VK):Prop|mk:∀a c,x=.ref a->SqL K H a c->(∀p,H p=none->Q (.ref p) (bx H p (.lst (t6 c lo b))))->A2 K x lo b H Q
theorem Ny:Ht X (A2 X.K):=by
 intro n s p H x v t u lo e sl Q I f g i j h;obtain⟨a,c,rfl,k,q⟩:=h;cases f;obtain⟨l,r,ht,m⟩:=I.list k;have d:=r.length;refine#["list",_,Hg.lookup,ht.isList.typeIs,(wpAny_getItem_list_slice ht.isList g i j .none (by simp) ?_<|by grind)];rw[P9,<-d];refine#[.ref s.heap.objs.size,_,I.laid (λb w q=>cI _ q) (bR _) ?_,zZ,q _<|I.hok.fresh<|bR _];exact#[cz (Qc c lo e) m,_,0,(r.drop<|HT.sIx c.length 0 lo).take<|HT.sIx c.length c.length e-HT.sIx c.length 0 lo,dE _ zZ]
noncomputable def jh:V->Bool
 |.non=>true
 |.bl _=>true
 |.int _=>true
 |.str _=>true
 |_=>false
noncomputable def ko:V->V->Bool
 |.non,.non=>true
 |.bl a,.bl b=>a==b
 |.bl a,.int b=>(if a then 1 else 0)==b
 |.int a,.bl b=>a==(if b then 1 else 0)
 |.int a,.int b=>a==b
 |.str a,.str b=>a==b
 |_,_=>false
theorem zC{A:Ar}{s:Sh}(e:RelV y u)(c:RelV x v)(g:jh y=true)(f:jh x=true):SeqAt.EqAt A s u v (ko y x):=by
 cases y with
 |non=>
  cases e;cases x with
  |non=>cases c;exact SeqAt.EqAt.same _
  |bl b=>cases c;exact SeqAt.EqAt.none_bool b
  |int b=>obtain⟨t,rfl⟩:=c;exact SeqAt.EqAt.none_int b t
  |str b=>obtain⟨t,rfl⟩:=c;exact SeqAt.EqAt.none_str b t
  |_=>exact wC (f) fT
 |bl a=>
  cases e;cases x with
  |non=>cases c;exact SeqAt.EqAt.bool_none a
  |bl b=>cases c;exact SeqAt.EqAt.bool_bool a b
  |int b=>obtain⟨t,rfl⟩:=c;exact SeqAt.EqAt.bool_int a b t
  |str b=>obtain⟨t,rfl⟩:=c;exact SeqAt.EqAt.bool_str a b t
  |_=>exact wC (f) fT
 |int a=>
  obtain⟨d,rfl⟩:=e;cases x with
  |non=>cases c;exact SeqAt.EqAt.int_none a d
  |bl b=>cases c;exact SeqAt.EqAt.int_bool a d b
  |int b=>obtain⟨t,rfl⟩:=c;exact SeqAt.EqAt.int_int a d b t
  |str b=>obtain⟨t,rfl⟩:=c;exact SeqAt.EqAt.int_str a d b t
  |_=>exact wC (f) fT
 |str a=>
  obtain⟨d,rfl⟩:=e;cases x with
  |non=>cases c;exact SeqAt.EqAt.str_none a d
  |bl b=>cases c;exact SeqAt.EqAt.str_bool a d b
  |int b=>obtain⟨t,rfl⟩:=c;exact SeqAt.EqAt.str_int a d b t
  |str b=>obtain⟨t,rfl⟩:=c;exact SeqAt.EqAt.str_str a d b t
  |_=>exact wC (f) fT
 |_=>exact wC (g) fT
noncomputable def lN(x:V)(u:Vl):Bool:=match u with
 |.none=>ko .non x
 |.bool b=>ko (.bl b) x
 |.int i _=>ko (.int i) x
 |.str z _=>ko (.str z) x
 |_=>false
theorem ME(r:RelV y u)(f:jh y=true):lN x u=ko y x:=by
 cases y with
 |non=>cases r;rfl
 |bl b=>cases r;rfl
 |int i=>obtain⟨t,rfl⟩:=r;rfl
 |str z=>obtain⟨t,rfl⟩:=r;rfl
 |_=>exact wC (f) fT
theorem Bc:∀{a} {b:Vs},Vals a b->a.all jh=true->b.any (lN x)=a.any λy=>ko y x
 |_,_,.nil,_=>rfl
 |y::a,u::b,.cons r t,f=>by
  rw[List.all_cons,mO]at f;rw[yU,yU,ME r f.1,Bc t f.2]
theorem A8{A:Ar}{s:Sh}{x:V}{v:Vl}(c:RelV x v)(d:jh x=true):∀{a} {b:Vs},Vals a b->a.all jh=true->∀u∈b,SeqAt.EqAt A s u v (lN x u)
 |_,_,.nil,_=>λu hu=>by cases hu
 |y::a,u::b,.cons r t,f=>λe hu=>by
  rw[List.all_cons,mO]at f
  rcases db.mp hu with rfl|hu
  .rw[ME r f.1];exact zC r c f.1 d
  .exact A8 c d t f.2 e hu
noncomputable def uh(x:V)(a:List V):Bool:=a.any λy=>ko y x
inductive Eu(K:V3)(a:Bool)(x y:V)(H:Hp)(Q:VK):Prop|mk:∀p b,y=.ref p->((SqL K H p b\/SqT K H p b))->jh x=true->b.all jh=true->(Q (.bl (if a then !uh x b else uh x b)) H)->Eu K a x y H Q
theorem Ks:OpR X (compareOp .In) (Eu X.K false):=by
 intro g s i H x y v u Q I c e h;obtain⟨p,j,rfl,hq,d,fs,q⟩:=h;cases e
 rcases hq with hq|hq
 .obtain⟨a,r,b,f⟩:=I.list hq;refine SeqAt.in_listAt (lN x) b.isList (λw hw=>A8 c d r fs w<|by grind) #[.bl _,H,I,zZ,?_];rw[show a.toArray.any (lN x)=a.any (lN x) by simp,Bc r fs];exact q
 .obtain⟨a,r,b,f⟩:=I.tuple hq;refine SeqAt.in_tupleAt (lN x) b (λw hw=>A8 c d r fs w<|by grind) #[.bl _,H,I,zZ,?_];rw[show a.toArray.any (lN x)=a.any (lN x) by simp,Bc r fs];exact q
theorem Uf:OpR X (compareOp .NotIn) (Eu X.K true):=by
 intro g s i H x y v u Q I c e h;obtain⟨p,j,rfl,hq,d,fs,q⟩:=h;cases e
 rcases hq with hq|hq
 .obtain⟨a,r,b,f⟩:=I.list hq;refine SeqAt.notIn_listAt (lN x) b.isList (λw hw=>A8 c d r fs w<|by grind) #[.bl _,H,I,zZ,?_];rw[show a.toArray.any (lN x)=a.any (lN x) by simp,Bc r fs];exact q
 .obtain⟨a,r,b,f⟩:=I.tuple hq;refine SeqAt.notIn_tupleAt (lN x) b (λw hw=>A8 c d r fs w<|by grind) #[.bl _,H,I,zZ,?_];rw[show a.toArray.any (lN x)=a.any (lN x) by simp,Bc r fs];exact q
inductive eI(K:V3)(b:List V)(H:Hp)(Q:VK):Prop|mk:∀p a,b=[.ref p]->((SqL K H p a\/SqT K H p a))->Q (.int a.length) H->eI K b H Q
theorem eR:iu X (.builtin "len") (eI X.K):=by
 intro i s j H k l Q I r h;obtain⟨p,e,rfl,hq,q⟩:=h;obtain⟨u,rfl,f⟩:=hV r;cases f;have m:=vo
 rcases hq with hq|hq
 .obtain⟨b,c,d,g⟩:=I.list hq;have a:=c.length;exact Calls.call_len_list d.isList (by simp<;>lia) #[.int e.length,H,I.tok _,#[s.toks+1,by rw[List.size_toArray,a]],q]
 .obtain⟨b,c,d,g⟩:=I.tuple hq;have a:=c.length;exact len_tuple d (by simp<;>lia) #[.int e.length,H,I.tok _,#[s.toks+1,by rw[List.size_toArray,a]],q]
inductive eC(a:List V)(H:Hp)(Q:VK):Prop|mk:∀z,a=[.str z]->z.length<=sizeLine->Q (.int z.length) H->eC a H Q
theorem Nq:iu X (.builtin "len") eC:=by
 intro a s b H c d Q I r h;obtain⟨z,rfl,e,q⟩:=h;obtain⟨u,rfl,t,rfl⟩:=hV r;have f:=vo;exact len_str () #[.int z.length,H,I.tok _,#[_,zZ],q]
theorem nL:iu X (.type "tuple") (λj H Q=>∃p c,j=[.ref p]/\((SqL X.K H p c/\∀l,H l=none->Q (.ref l) (bx H l (.tup c)))\/(SqT X.K H p c/\Q (.ref p) H))):=by
 intro k s m H j z Q I r h;obtain⟨p,c,rfl,h⟩:=h;obtain⟨u,rfl,w⟩:=hV r;cases w
 rcases h with⟨f,q⟩|⟨f,q⟩
 .obtain⟨a,g,i,n⟩:=I.list f;have t:=g.length;refine call_tuple_list i.isList (λd x=>?_) (by simp<;>lia);have v:=I.kept (t':=s.toks) x;have y:=
   v.laid (t':=s.toks) (λb o e=>cI _ e) (bR _)<|show ObjOk X.prog X.w _ _ _ (.tup c)from#[n,a,g,TupD.new _ _]
  exact#[.ref d.objs.size,_,y,zZ,q _<|v.hok.fresh<|bR _]
 .obtain⟨a,g,i,n⟩:=I.tuple f;exact call_tuple_same i #[.ref p,H,I,zZ,q]
def IA(K:V3)(T:String)(x:V)(H:Hp):Prop:=match x with
 |.str _=>T="str"
 |.int _=>T="int"
 |.ref p=>(T="list"/\∃b,SqL K H p b)\/(T="tuple"/\∃o,K.lookup p=some o/\o.cls=.type "tuple"/\o.dict=none)\/
   (T="dict"/\((∃a,H p=some (.dK a))\/∃a,H p=some (.dT a)))\/(T="set"/\∃S n,H p=some (.set S n))
 |_=>False
theorem Nt{m:St}(I:Inv X l m H s)(r:RelV x v)(ty:IA X.K T x H):
  s.TypeIs v T/\∀a,v=.ref a->∃j,s.heap.get? a=some j/\j.dict=none:=by
 cases x with
 |str z=>
  obtain⟨t,rfl⟩:=r;cases(ty);exact#[xz s z t,λ_ e=>nomatch e]
 |int i=>
  obtain⟨t,rfl⟩:=r;cases(ty);exact#[typeIs_int s i t,λ_ e=>nomatch e]
 | ref p=>
  cases r
  rcases ty with⟨rfl,y,q⟩|⟨rfl,o,b,u,f⟩|⟨rfl,b⟩|⟨rfl,S,n,b⟩
  .obtain⟨w,_,k,_⟩:=I.list q;refine#[k.isList.typeIs,λa e=>?_];cases e;obtain⟨o,n,e,c,f,_⟩:=k;exact#[o,e,f]
  .refine#[#[o,I.kIn p o b,u],λa e=>?_];cases e;exact#[o,I.kIn _ o b,f]
  .have z:∃o,s.heap.get? p=some o/\o.ExactDict:=by
    rcases b with⟨g,b⟩|⟨g,b⟩
    .obtain⟨_,_,_,_,o,_,_,e,d,_⟩:=I.hok p _ b;exact#[o,e,d]
    .obtain⟨_,_,_,_,o,_,_,e,d,_⟩:=I.hok p _ b;exact#[o,e,d]
   obtain⟨o,e,d⟩:=z;refine#[#[o,e,d.1],λa h=>?_];cases h;exact#[o,e,d.2.1]
  .obtain⟨o,_,_,_,e,d,_⟩:=I.hok p _ b;refine#[#[o,e,d.1],λa h=>?_];cases h;exact#[o,e,d.2.1]
 |_=>exact wE ty
def II(K:V3)(T:String)(r:V->List V->Hp->VK->Prop)(to:TE):TE:=λb H Q=>to b H λx a=>IA K T x a/\r x [] a Q
def zm(K:V3)(T:String)(r:V->List V->Hp->VK->Prop)(to:TE)(t:TA):TE:=λa H Q=>to a H λx b=>IA K T x b/\t a b λc d=>r x c d Q
variable{g d:Pos}{T id:String}
theorem Ut(l:PlainAttrs T)(c:Slot T name id)(e:typeOf (.builtin id)=pure (.type "method_descriptor"))(m:mZ X id r)(n:PE X o to)(a:attributeBase o name X.env (eval o X.env)=eval o X.env:=by rfl) (b:(g.endLine==d.line)=true:=by rfl):PE X (.Call (.Attribute o name g) [] [] d) (II X.K T r to):=by
 intro f s i H Q I h;refine wpAny_Call_method0_late a b<|bS (n f s i H _ I h) λv p ⟨x,q,j,k,ty,t⟩=>?_;obtain⟨u,w⟩:=Nt j k ty;exact#[T,id,l,c,e,u,w,Fu zZ<|PySem.evalArgs_none<|m f p i q x [] v [] Q j k .nil t]
theorem hO(u:PlainAttrs T)(f:Slot T name id)(j:typeOf (.builtin id)=pure (.type "method_descriptor"))(w:mZ X id r)(y:PE X o to)(z:PA X (e::m) t)(b:attributeBase o name X.env (eval o X.env)=eval o X.env:=by rfl)
  (i:((backTo d (starEach (e::m) X.env)).all (λx=> !x.1)&&(backToKw d (keywordEach [] X.env)).all (λx=>x.1.isSome)
   &&decide ((e::m).length+([]:List Keyword).length+(if([]:List Keyword).isEmpty then 0 else 1)<30))=true:=by rfl)
  (c:(g.endLine==d.line)=true:=by rfl) (A:starEach (e::m) X.env=(false,eval e X.env)::starEach m X.env:=by rfl) (a:(backTo d (starEach m X.env)).any (·.1)=false:=by rfl):
  PE X (.Call (.Attribute o name g) (e::m) [] d) (zm X.K T r to t):=by
 intro k s l H Q I h;refine wpAny_Call_method_late b i c zZ (bS (y k s l H _ I h) λv B ⟨x,C,n,p,ty,D⟩=>?_);obtain⟨E,G⟩:=Nt n p ty;refine#[T,id,u,f,j,E,G,?_];have q:=z d k B l C _ n D;rw[A]at q|-;refine Fu (by show(false || (backTo d (starEach m X.env)).any (·.1))=false;rw[a]<;>rfl) (Calls.evalArgs_plain (bS q λJ L ⟨M,N,O,U,Y⟩=>w k L l N x M v J Q O p U Y))
end
def QA(X:Cx)(id:String)(r:V->List V->Hp->VK->Prop):Prop:=
 ∀a s (b:St) H x c v (d:Vs) Q,Inv X a b H s->RelV x v->Vals c d->r x c H Q->
  wpAny (model X.prog X.w) X.A (call (.builtin id) (v::d)) (EP X a b Q) X.xe s
theorem Vals.one:∀{x} {a:Vs},Vals [x] a->∃u,a=[u]/\RelV x u
 |_,_,.cons r .nil=>#[_,zZ,r]
section
variable{a:St}
theorem Inv.lset{b its':Vs}{f:AV->Array Vl}(I:Inv X d a H s)(h:H l=some (.lst g))(e:s.heap.get? l=some {cls:= .type "list",data:= .seq b.toArray n}) (i:f b.toArray=its'.toArray) (j:Vals c its') (k:c.length<=sizeLine):
  Inv X d a (bx H l (.lst c)) {s with heap:=s.heap.update l (Obj.mapSeq f),toks:=t'}:=by
 have q:=IsL.update e f;rw[i]at q;refine I.write (by rw[h];exact trivial) (.inl zZ) (λp u m o=>(mD s.heap (Obj.mapSeq f)<|dX m).trans o) #[_,q] #[k,its',_,j,q]
theorem Inv.lnew{b:Vs}(I:Inv X d a H s)(e:Vals c b)(f:c.length<=sizeLine):
  Inv X d a (bx H s.heap.objs.size (.lst c)) {s with heap:=s.heap.push {cls:= .type "list",data:= .seq b.toArray},toks:=t'}:=
 I.laid (λ_ _ q=>cI _ q) (bR _) #[f,b,0,e,dE _ zZ]
theorem Inv.fresh(I:Inv X d a H s):H s.heap.objs.size=none:=I.hok.fresh<|bR _
theorem Inv.lstM(I:Inv X d a H s)(c:H l=some (.lst g)):g.length<=sizeLine/\∃(b:Vs) (n:Nat),Vals g b/\g.length=b.length/\s.heap.get? l=some {cls:= .type "list",data:= .seq b.toArray n}:=by
 obtain⟨z,b,n,r,e⟩:=I.hok l _ c;exact#[z,b,n,r,r.length,e]
end
inductive i5(x:V)(b:List V)(H:Hp)(Q:VK):Prop|mk:∀l a y,x=.ref l->b=[y]->H l=some (.lst a)->a.length<sizeLine->Q .non (bx H l (.lst (a++[y])))->i5 x b H Q
theorem lJ:QA X "list.append" i5:=by
 intro g s i H x j v k Q I c d h;obtain⟨l,m,y,rfl,rfl,b,o,q⟩:=h;cases c;obtain⟨u,rfl,f⟩:=d.one;obtain⟨z,a,n,r,p,e⟩:=I.lstM b;refine ud F.slot_list_append #[_,e,zZ] F.entry_list_append (F.args_list_append_2 _ _) (list_append l a.toArray n u (by rw[dU];lia)) #[e,?_];refine#[.non,_,I.lset b e (by simp) (r.append<|.cons f .nil) ?_,zZ,q];rw[cC,qb];lia
end L2
namespace Att
open PySem PySem.W PySem.Calls PyProof.Rows
theorem R0:∀(c:Zs) (d:Vs),WellAll P h d (c.map WData.int)->IntsAre d c:=by
 intro c
 induction c with
 |nil=>
  intro d w;rw[yL]at w;cases w;exact .nil
 | cons n c e=>
  intro d w;rw[hI]at w;cases w with
  |cons a b=>
   cases a;exact .cons _ _<|e _ b
theorem Pd{l:OpenLaw}(s:l.most=some n){c:Vs}(e:l.row.toRowW.claim.pre args=true) (k:WellAll P h c args):
  ∃a o b,c=[Value.ref a]/\args=[WData.list (b.map WData.int)]/\h.get? a=some {cls:= .type "list",data:= .seq o.toArray}/\IntsAre o b/\b.length<=n:=by
 have p:l.pre.holds [] {args:=args}=true:=(pre_splitW e).2;obtain⟨d,r,rfl,t,u⟩:=hasAllW_cons<|(pre_splitW e).1;obtain rfl:=hasAllW_nil u;obtain⟨A,rfl,v⟩:=hasW_list t;obtain⟨b,rfl⟩:=items_int v;have f:b.length<=n:=by
  unfold OpenLaw.pre at p;have i:(WTm.not<|.lt (.lit<|.int (n:Int))<|.len<|.arg 0).holds [] {args:=[.list<|b.map .int]}=true:=by
   have i:=(holds_andW p).1;rw[s]at i;exact i
  have j:=condW_of i<|w_not<|w_lt w_lit<|w_len_list<|w_arg zZ;rw[bA]at j;refine DD λq=>?_;have w:(n:Int)<((b.length:Nat):Int):=by lia
  first
   |(rw[cK w]at j;exact wC j zZ)
   |(simp at j;lia)
 cases k with
 |cons x y=>
  cases y;cases x with
  |list z g=>exact#[_,_,b,zZ,zZ,z,R0 b _ g,f]
theorem O6(l:OpenLaw)(args):l.row.toRowW.claim.post args (.bool true) args=true:=
 postW_of
  (show WShape.has [] (.bool true) .bool=true by first|rfl|decide|simp)
  (w_eq_bool (w_res zZ) w_lit) rfl
theorem attach_call{l:OpenLaw}{q:Pg}{c:Ss}{z:SV->Heap->Prop}(E:l.most=some n) (u:d.params.defaults=[])(call:∀w (e b:Sh) (mg v:SV) (fa:Ad) o (pm p g:Vl) (a:Ad) (i:Vs) (s:Zs),
   Ground q c [] z w e mg v b.heap->A w b.heap->
   b.heap.get? fa=some o->o.data=.func (docDef d.name d.params d.body d.scope pm p g)->b.heap.CodeRec p d.name->mg d.name=some (.ref fa)->
   b.heap.get? a=some {cls:= .type "list",data:= .seq i.toArray}->IntsAre i s->s.length<=n->b.gens= #v[]->
   codeAny (model l.prog w) callerA (.call (.ref fa) #[[.ref a],[]]) (λr t=>r=.ok (.ret (.bool true))/\OldK b.heap t.heap/\t.os=b.os/\AllBare t.gens) b):
  WalkO q c z A l.row.toRowW d [] (λf i=>PySem.call f i):=by
 intro w e b mg v G Y fa o pm p g H kV I J x B hmg L args C as j D M y N;obtain rfl:H=.none:=Dflts.none B u;obtain rfl:kV=.none:=Dflts.noKw B;obtain⟨a,i,s,rfl,rfl,k,h,m⟩:=Pd E j y;refine enter_call<|nX (call w e b mg v fa o pm p g a i s G Y I (fd_plain J) x hmg k h m L) λr t O=>?_;obtain⟨rfl,Q,T,U⟩:=O;exact#[.inl #[.bool true,.bool true,[],zZ,λ_=>rfl,.bool true,O6 l _,λ_=>#[List.Pairwise.nil,λ_ hm=>(nomatch hm)]],Q,T,U]
end Att
namespace L2
open PySem PySem.Spec PyProof.Rows
theorem Ng:∀{a:Vs} {b:Zs},IntsAre a b->Vals (b.map V.int) a
 |_,_,.nil=> .nil
 |_,_,.cons n t h=> .cons #[t,zZ]<|Ng h
abbrev Vx{K:V3}(_:K.In h):V3:=K
end L2
namespace L2
open PySem PySem.Spec PyProof.Rows
noncomputable def jv(s:Stmt):Arguments:=match s with
 | .FunctionDef _ a _ _ _ _ _ _ _ _=>a
 |_=>{posonlyargs:=[],args:=[],vararg:=none,kwonlyargs:=[],kw_defaults:=[],kwarg:=none,defaults:=[]}
noncomputable def gK(s:Stmt):List Stmt:=match s with
 | .FunctionDef _ _ b _ _ _ _ _ _ _=>b
 |_=>[]
noncomputable def bQ(s:Stmt):Scope:=match s with
 | .FunctionDef _ _ _ _ _ _ a _ _ _=>a
 |_=>{kind:= .function,names:=[],isGenerator:=false,isCoroutine:=false}
abbrev bZ:tm:=λ_ _ _ _ _ _=>False
abbrev E0:XK:=λ_ _ _=>False
theorem An:wh bZ X E0:=λ_ _ _ _ _ _ _ h=>h.elim
structure Fun(K:V3)(x qual:Str)(st:Stmt)(f:Ad)(fd:Fd):Prop where
 ex:∃(oc:Vl) (od:Option Ad) (kV doc pm:Vl) (an:Option Ad) (cdv ct:Vl) (osl:Array (Option Vl)),
  fd=W.fnOf x qual (jv st) (gK st) (bQ st) .none kV doc pm an cdv ct/\K.lookup f=some #[oc,od,.func fd,osl]/\W.codeIn K cdv qual=true
 kp:W.keepIn K (.ref f)=true
section
variable{K:V3}
theorem Fun.ok{st:Stmt}(F:Fun K x c st f m)(S:FnScope N g (bQ st))(e:∀d A b s H vs Q E,Room k (A.deeper (envOfC c (bQ st) s.heap.objs.size f d))->i vs H Q E->
   ∃t,PSs (t8 bZ P w K mg a N c (bQ st) f d A b s H E).nox (gK st) t/\t {nx:=λ_ H'=>Q .non H',rt:=Q} (start N vs) H)(len:∀vs H Q E,i vs H Q E->vs.length=g.length:=by (intro _ _ _ _ h;first|(cases h;subst_vars;rfl)|((repeat obtain⟨_,h⟩:=h);subst_vars;rfl))):FnOk P w K mg a bZ (k+1) f m g i:=by
 obtain⟨r,u,kV,n,pm,v,d,y,o,rfl,lk,j⟩:=F.ex;refine Lq lk j S len λA b s H vs Q E p l=>?_;obtain⟨t,h,q⟩:=e d A b s H vs Q E p l;exact#[t,h.nox,q]
theorem Fun.binds{st:Stmt}(F:Fun K x a st f j)(h:∀(kV b pm:Vl) (e:Option Ad) (c g:Vl) (i:Vs),i.length=d.length->bindArgs (W.fnOf x a (jv st) (gK st) (bQ st) .none kV b pm e c g) #[i,[]]=pure (d.zip i)):Binds K j d []:=by
 obtain⟨m,n,kV,b,pm,e,c,g,k,rfl,lk,l⟩:=F.ex;exact .all<|h kV b pm e c g
theorem d1a{st:Stmt}{f:Ad}{i:Vl}{j g:Option Ad}{e:Array (Option Vl)}{kV d pm b h:Vl}(l:K.lookup f=some #[i,j,.func (W.fnOf x a (jv st) (gK st) (bQ st) .none kV d pm g b h),e])(c:W.codeIn K b a=true) (k:W.keepIn K (.ref f)=true):Fun K x a st f (W.fnOf x a (jv st) (gK st) (bQ st) .none kV d pm g b h):=#[#[i,j,kV,d,pm,g,b,h,e,zZ,l,c],k]
end
theorem gJ(a:Room k A):A.units+1<cLine:=BF (zU (by decide:1<=64) _) a.units
theorem O4(h:n<=1000):n<sizeLine:=BF h<|by decide
section
variable{X:Cx}
theorem pv(i){a:Pos}(c:X.N[i]?=some x:=by rfl)(d:CG X.env.scope x:=by first|exact Or.inl rfl|exact Or.inr Z'|exact Or.inr Z0)(e:(x==("__debug__":Str))=false:=by decide)
  (b:(x==("__classdict__":Str))=false:=by decide):PE X (.Name x a) (cS i):=P6 c d e b
end
theorem cR{A B:Prop}(h:B):if false=true then A else B:=by
 rw[wA fT];exact h
theorem dP{A B:Prop}(h:A):if true=true then A else B:=by
 rw[wB zZ];exact h
theorem mL{c A B:Prop}[Decidable c](a:c->A)(b: ¬c->B):if c then A else B:=by grind
theorem zK{c A B:Prop}[Decidable c](a:c)(h:B):if(!decide c)=true then A else B:=by
 rw[cK a];exact cR h
def Same(H a:Hp):Prop:=∀b o,H b=some o->a b=some o
theorem Same.refl(H):Same H H:=λ_ _ h=>h
theorem Same.trans(a:Same H d)(b:Same d e):Same H e:=λc o h=>b c o<|a c o h
theorem Same.free(e:Same H a)(h:a l=Option.none):H l=Option.none:=by
 cases q:H l with
 |none=>rfl
 |some o=>
  rw[e l o q]at h;cases h
theorem Same.seq{K:V3}(e:Same H b)(h:SqL K H a c):SqL K b a c:=by
 rcases h with(h|⟨o,h⟩)|h
 .exact .inl<|.inl<|e _ _ h
 .exact .inl<|.inr #[o,e _ _ h]
 .exact .inr h
section
variable{a:Type}[DecidableEq a]
noncomputable def iq(b:List (a×V))(k:a):Option V:=(b.find? λc=>decide (c.1=k)).map (·.2)
noncomputable def jz(b:List (a×V))(k:a)(v:V):List (a×V):=
 if(b.any λc=>decide (c.1=k))=true then b.map (λc=>if c.1=k then(c.1,v)else c)else b++[(k,v)]
theorem Cn{k:a}(e:p.1=k):iq (p::r) k=some p.2:=by simp[iq,List.find?_cons,e]
theorem A'{k:a}(e: ¬p.1=k):iq (p::r) k=iq r k:=by simp[iq,List.find?_cons,e]
theorem Hb(k:a):∀b,(b.any λc=>decide (c.1=k))=(iq b k).isSome
 | []=>rfl
 |p::r=>by
  rw[yU];by_cases e:p.1=k
  .simp only[Cn e,decide_eq_true e,Bool.true_or,Option.isSome_some]
  .rw[A' e,eU e,Bool.false_or];exact Hb k r
theorem MX(b:List (a×V))(k)(v):(jz b k v).length<=b.length+1:=by
 unfold jz;split
 .rw[bA];lia
 .rw[cC,i3,List.length_nil];lia
theorem HH{k:a}(v)(h:iq b k=none):jz b k v=b++[(k,v)]:=by
 unfold jz;rw[Hb,h];exact wA<|by decide
theorem RelO.isSome_eq(r:RelO o u):o.isSome=u.isSome:=by
 cases o with
 |none=>cases u with
  |none=>rfl
  |some _=>exact(r).elim
 |some _=>cases u with
  |none=>exact(r).elim
  |some _=>rfl
theorem KV.val(r:KV c g)(k:a):RelO (iq c k) (valueAt g k):=by
 unfold KV at r
 induction r with
 |nil=>exact True.intro
 | @cons p q m d h t j=>
  obtain⟨i,l⟩:=h;by_cases e:p.1=k
  .have f:q.1=k:=i.symm.trans e;have b:valueAt (q::d) k=some q.2:=by simp[valueAt,List.find?_cons,f]
   rw[Cn e,b];exact l
  .have f: ¬q.1=k:=λz=>e<|i.trans z;have b:valueAt (q::d) k=valueAt d k:=by simp[valueAt,List.find?_cons,f]
   rw[A' e,b];exact j
theorem KV.any(r:KV b d)(k:a):(b.any λc=>decide (c.1=k))=d.any λc=>decide (c.1=k):=by
 induction r with
 |nil=>rfl
 |cons h t e=>rw[yU,yU,e,h.1]
theorem KV.repl(r:KV c f)(k:a)(g:RelV y u):
  KV (c.map λb=>if b.1=k then(b.1,y)else b) (f.map λb=>if b.1=k then(b.1,u)else b):=by
 induction r with
 |nil=>exact .nil
 | @cons p q l m h t i=>
  rw[hI,hI];refine .cons ?_ i;obtain⟨d,j⟩:=h;by_cases e:p.1=k
  .rw[wB e,wB<|d.symm.trans e];exact#[d,g]
  .rw[wA e,wA<|λz=>e<|d.trans z];exact#[d,j]
theorem KV.put(r:KV b c)(k:a)(d:RelV y u):KV (jz b k y) (stored c k u):=by
 unfold jz stored;rw[r.any k];by_cases e:(c.any λf=>decide<|f.1=k)=true
 .rw[wB e,wB e];exact r.repl k d
 .rw[wA e,wA e];exact Paired.snoc r #[zZ,d]
theorem KV.length{vs:List (a×Vl)}(r:KV b vs):b.length=vs.length:=qg r
end
theorem Bu(r:RelV (kV k) u):(lZ P w).is k u=true:=by
 cases k with
 |inl i=>obtain⟨t,e⟩:=(r);subst e;exact Oq P w i t
 |inr x=>obtain⟨t,e⟩:=(r);subst e;exact SE P w x t
theorem Ja:∀{a} {b:Vs},Vals (a.map kV) b->ItemsAre (lZ P w) a b
 | [],_,r=>by rw[yL]at r;cases r;exact .nil
 |k::a,_,r=>by
  rw[hI]at r;cases r with
  |cons h t=>exact .cons (Bu h)<|Ja t
abbrev KT(H:Hp):List (List cE×V)->List (List cE×Ad×Vl)->Prop:=Paired λp q=>p.1=q.1/\H q.2.1=some (.tup (p.1.map kV))/\RelV p.2 q.2.2
theorem KT.val(r:KT H a f)(k):RelO (iq a k) ((atKey f k).map (·.2)):=by
 induction r with
 |nil=>exact True.intro
 | @cons p q l c h t i=>
  obtain⟨g,_,j⟩:=h;by_cases e:p.1=k
  .have d:q.1=k:=g.symm.trans e;have b:atKey (q::c) k=some q.2:=by simp[atKey,List.find?_cons,d]
   rw[Cn e,b];exact j
  .have d: ¬q.1=k:=λz=>e<|g.trans z;have b:atKey (q::c) k=atKey c k:=by simp[atKey,List.find?_cons,d]
   rw[A' e,b];exact i
theorem KT.repl(r:KT H a d)(k)(g:RelV y u):
  KT H (a.map λc=>if c.1=k then(c.1,y)else c) (d.map (putAt k u)):=by
 induction r with
 |nil=>exact .nil
 | @cons p q l m h t i=>
  rw[hI,hI];refine .cons ?_ i;obtain⟨b,f,j⟩:=h;unfold putAt;by_cases e:p.1=k
  .rw[wB e,wB<|b.symm.trans e];exact#[b,f,g]
  .rw[wA e,wA<|λz=>e<|b.trans z];exact#[b,f,j]
theorem KT.put(r:KT H a c)(k)(f:H b=some (.tup (k.map kV)))(d:RelV y u):
  KT H (jz a k y) (storedH c k b u):=by
 have e:(a.any λg=>decide<|g.1=k)=(atKey c k).isSome:=by
  rw[Hb,(r.val k).isSome_eq,HQ]
 unfold jz storedH;rw[e];by_cases q:(atKey c k).isSome=true
 .rw[wB q,wB q];exact r.repl k d
 .rw[wA q,wA q];exact Paired.snoc r #[zZ,f,d]
theorem KT.keeps(r:KT H a d)(ht:∀b ys,H b=some (.tup ys)->c b=some (.tup ys)):KT c a d:=
 Paired.mapP r λ_ _ z=>#[z.1,ht _ _ z.2.1,z.2.2]
theorem LV(ok:HOk P w H h)(e:Rd H a u):ObjOk P w H h a u:=e.ok ok
theorem zE(ok:HOk P w H h)(e:Rd H a (.dK b)):b.length<=sizeLine/\(a==sysModules)=false/\∃c,KV b c/\h.DictOf (lZ P w) a c:=
 show ObjOk P w H h a (.dK b)from LV ok e
theorem Bt(ok:HOk P w H h)(e:H a=some (.dK b)):b.length<=sizeLine/\(a==sysModules)=false/\∃c,KV b c/\h.DictOf (lZ P w) a c:=zE ok<|.inl e
theorem yT(ok:HOk P w H h)(e:H a=some (.tup (b.map kV))):(tupleKind (lZ P w)).is h b a:=by
 obtain⟨_,c,r,o,d,f,n,g,_⟩:=(ok a _ e);exact#[o,c.toArray,n,d,f,g,by simpa using Ja r]
theorem AW(ok:HOk P w H h)(e:Rd H a (.dT b)):b.length<=sizeLine/\(a==sysModules)=false/\
  ∃c,KT H b c/\h.DictOfH (tupleKind (lZ P w)) a c:=by
 obtain⟨z,y,c,r,o,f,g,i,j,k,n,s⟩:=(LV ok e);refine#[z,y,c,r,o,f,g,i,j,k,n,λx hx=>?_,s];have all:∀{l} {m},KT H l m->∀x∈m,(tupleKind (lZ P w)).is h x.1 x.2.1:=by
  intro l m q
  induction q with
  |nil=>intro x hx;exact nomatch hx
  | @cons p q v A d t u=>
   intro x hx
   rcases db.mp hx with e|hx
   .subst e;exact yT ok (by rw[<-d.1];exact d.2.1)
   .exact u x hx
 exact all r x hx
theorem FO(ok:HOk P w H h)(e:H a=some (.dT b)):b.length<=sizeLine/\(a==sysModules)=false/\
  ∃c,KT H b c/\h.DictOfH (tupleKind (lZ P w)) a c:=AW ok<|.inl e
def DGet(H:Hp)(a:Ad)(y:V)(r:Option V):Prop:=
 (∃c k,Rd H a (.dK c)/\y=kV k/\r=iq c k)\/∃c k b,Rd H a (.dT c)/\y=.ref b/\H b=some (.tup (k.map kV))/\r=iq c k
def DPut(H:Hp)(a:Ad)(y v:V)(d:Hp):Prop:=
 (∃c k,H a=some (.dK c)/\y=kV k/\c.length<sizeLine/\d=bx H a (.dK (jz c k v)))\/
 ∃c k b,H a=some (.dT c)/\y=.ref b/\H b=some (.tup (k.map kV))/\c.length<sizeLine/\d=bx H a (.dT (jz c k v))
theorem DGet.t(e:H a=some (.dT c))(d:H b=some (.tup (k.map kV))):DGet H a (.ref b) (iq c k):= .inr #[c,k,b,.inl e,zZ,d,zZ]
theorem DPut.t(e:H a=some (.dT c))(d:H b=some (.tup (k.map kV)))(f:c.length<sizeLine):
  DPut H a (.ref b) v (bx H a (.dT (jz c k v))):= .inr #[c,k,b,e,zZ,d,f,zZ]
section
variable{d:St}{a:Ad}{A:Ar}{E:VP}
theorem Inv.big(I:Inv X f d H s):sysModules<s.heap.objs.size:=by
 exact Cy (by decide)<|(I.mod.glob.keeps I.bk).lt
theorem PV{Q:VP}(x:A.units+1<cLine)(I:Inv X f d H s)(g:DGet H a y (some v))(t:RelV y u)(h:∀j w,Inv X f d H w->RelV v j->Q j w):
  wpAny (model X.prog X.w) A (getItem (.ref a) u) Q E s:=by
 rcases g with⟨m,k,e,n,l⟩|⟨m,k,b,e,n,B,l⟩
 .subst n;obtain⟨z,C,D,c,q⟩:=zE I.hok e;obtain⟨j,hw,i⟩:=RelO.some_of (by rw[l];exact c.val k);exact wpAny_getItem_of (Bu t) q.mapOf hw<|h j _ (I.tok _) i
 .subst n;cases(t);obtain⟨z,C,G,c,q⟩:=AW I.hok e;obtain⟨j,hw,i⟩:=RelO.some_of (by rw[l];exact c.val k);obtain⟨p,J,r⟩:=c9.mp hw;refine wpAny_getItem_heap (DS x) (yT I.hok B) q J ?_;rw[r];exact h j _ (I.tok _) i
theorem IN{Q:VP}(t:A.units+1<cLine)(I:Inv X f d H s)(g:DGet H a y o)(p:RelV y u)(h:∀r,Inv X f d H r->Q (.bool o.isSome) r):
  wpAny (model X.prog X.w) A (compareOp .In u (.ref a)) Q E s:=by
 rcases g with⟨i,k,e,j,l⟩|⟨i,k,b,e,j,v,l⟩
 .subst j;obtain⟨z,m,w,c,n⟩:=zE I.hok e;refine wpAny_in_of (Bu p) m n.mapOf ?_;rw[<-(c.val k).isSome_eq,<-l];exact h _<|I.tok _
 .subst j;cases(p);obtain⟨z,m,x,c,n⟩:=AW I.hok e;refine wpAny_in_heap (DS t) (yT I.hok v) m n ?_;have q:=(c.val k).isSome_eq;rw[HQ]at q;rw[<-q,<-l];exact h _<|I.tok _
theorem QQ{Q:VP}(t:A.units+1<cLine)(I:Inv X f d H s)(g:DGet H a y o)(p:RelV y u)(h:∀r,Inv X f d H r->Q (.bool (!o.isSome)) r):
  wpAny (model X.prog X.w) A (compareOp .NotIn u (.ref a)) Q E s:=by
 rcases g with⟨i,k,e,j,l⟩|⟨i,k,b,e,j,v,l⟩
 .subst j;obtain⟨z,m,w,c,n⟩:=zE I.hok e;refine wpAny_notIn_of (Bu p) m n.mapOf ?_;rw[<-(c.val k).isSome_eq,<-l];exact h _<|I.tok _
 .subst j;cases(p);obtain⟨z,m,x,c,n⟩:=AW I.hok e;refine wpAny_notIn_heap (DS t) (yT I.hok v) m n ?_;have q:=(c.val k).isSome_eq;rw[HQ]at q;rw[<-q,<-l];exact h _<|I.tok _
theorem Hf(I:Inv X f d H s)(i:Ak (H a))(j:Heap.SameBut a s.heap c)(k:∃q,c.get? a=some q)(new:ObjOk X.prog X.w (bx H a g) c a g):
  Inv X f d (bx H a g) {s with heap:=c,toks:=h}:=
 I.write i (.inl zZ) (λb q l z=>(j.2 b l).trans z) k new
theorem Sj(z:b.length<=sizeLine)(g:(a==sysModules)=false)(d:KV b c)(h:e.DictOf (lZ P w) a c):
  ObjOk P w f e a (.dK b):=#[z,g,c,d,h]
theorem UV{Q:Unit->Sh->Prop}(T:A.units+1<cLine)(I:Inv X f d H s)(g:DPut H a y v D)(G:RelV y u)(J:RelV v r)(h:∀L,Inv X f d D L->Q ⟨⟩ L):
  wpAny (model X.prog X.w) A (setItem (.ref a) u r) Q E s:=by
 rcases g with⟨i,k,e,o,l,p⟩|⟨i,k,b,e,o,M,l,p⟩
 .subst o p;obtain⟨z,t,U,j,w⟩:=Bt I.hok e;have x:U.length<=sizeLine:=by rw[<-j.length];exact z
  have B:(jz i k v).length<=sizeLine:=by have:=MX i k v;lia
  refine wpAny_setItem_pairs (Bu G) w λN m C=>h _ ?_;have Y:∃q,N.get? a=some q:=let⟨q,_,_,n,_⟩:=m;#[q,n]
  exact Hf I (by rw[e];exact True.intro) C Y<|Sj B t (j.put k J) m
 .subst o p;cases(G);obtain⟨z,t,xs,j,w⟩:=FO I.hok e;have x:xs.length<=sizeLine:=by rw[<-qg j];exact z
  have B:(jz i k v).length<=sizeLine:=by have:=MX i k v;lia
  refine wpAny_setItem_heap (DS T) (yT I.hok M) w λN m C=>h _ ?_;obtain⟨q,es,ep,n,h2,h3,h4,_,h5⟩:=m;refine Hf I (by rw[e];exact True.intro) C #[q,n] #[B,t,_,(j.put k M J).keeps λc ys O=>?_,q,es,ep,n,h2,h3,h4,h5];rw[bI<|nE O e];exact O
end
def A0(i:Expr):Prop:=∀a b,subscripted i false a b=operate [a,b] (getItem a b)
theorem PM{a:Pg}{A:Ar}{E:VP}{s:Sh}{T id:String}{Q:VP}(n:typeLookup (.type T) "__getitem__"=pure (some (.builtin id))) (p:A0 b)(h:wpAny (model a w) A (eval c j) (λo f=>wpAny (model a w) A (eval b j) (λi d=>d.TypeIs o T/\wpAny (model a w) A (getItem o i) Q E d) E f) E s):
  wpAny (model a w) A (eval (.Subscript c b m) j) Q E s:=by
 refine zL<|iB h (λo f k=>iB k (λi d e=>?_) λ_ _ x=>x) λ_ _ x=>x;obtain⟨hT,e⟩:=e;refine bz ?_;rw[getitemInPython_of_ne hT.not_modules];refine bz<|wpAny_specialOf hT n ?_;have fin:wpAny (model a w) A (subscripted b false o i) (λr g=>wpAny (model a w) A (letTemporaryGo c o r >>= λ_=>pure r) Q E g) E d:=by
  rw[p o i];exact wpAny_operating<|iB e (λr g l=>bz<|wpAny_letTemporaryGo<|bJ l) λ_ _ x=>x
 first
  |exact bJ<|bz fin
  |exact bz<|bJ<|bz fin
  |exact bz fin
theorem TQ{h:St}(I:Inv X f h H s)(g:DGet H a y o):s.TypeIs (.ref a) "dict":=by
 rcases g with⟨c,k,e,_,_⟩|⟨c,k,b,e,_,_,_⟩
 .obtain⟨_,_,i,_,d⟩:=zE I.hok e;exact d.typeIs
 .obtain⟨_,_,j,_,d⟩:=AW I.hok e;exact d.typeIs
inductive ov(x y:V)(b:Hp)(Q:VK):Prop|mk:∀a v,x=.ref a->DGet b a y (some v)->Q v b->ov x y b Q
def Lr(b ty:TE):TE:=λa H Q=>b a H λx c=>ty a c λy d=>ov x y d Q
inductive sr(x y:V)(b:Hp)(Q:VK):Prop|mk:∀a o,x=.ref a->DGet b a y o->Q (.bl o.isSome) b->sr x y b Q
def ER(ty b:TE):TE:=λa H Q=>ty a H λy c=>b a c λx d=>sr x y d Q
inductive j3(x y:V)(b:Hp)(Q:VK):Prop|mk:∀a o,x=.ref a->DGet b a y o->Q (.bl (!o.isSome)) b->j3 x y b Q
def KU(ty b:TE):TE:=λa H Q=>ty a H λy c=>b a c λx d=>j3 x y d Q
def Mf(d ty e:TE):TS:=λD b H=>e b H λv f=>d b f λx g=>ty b g λy h=>∃a c,x=.ref a/\DPut h a y v c/\D.nx b c
theorem oK(k:X.A.units+1<cLine)(l:PE X o d)(m:PE X i ty)(n:A0 i):PE X (.Subscript o i f) (Lr d ty):=by
 intro c s e H Q I h;refine PM F.slot_dict_getitem.lookup n<|bS (l c s e H _ I h) λu p ⟨x,q,r,t,w⟩=>bS (m c p e q _ r w) λE G ⟨y,z,j,A,a,v,B,g,C⟩=>?_;subst B;obtain rfl:u=Value.ref a:=t;exact#[TQ j g,PV k j g A λJ L D b=>#[v,z,D,b,C]]
theorem zp(e:X.A.units+1<cLine)(f:PE X i ty)(j:PE X o d):PC X .In i o (ER ty d):=by
 intro b s c H Q I h;refine bS (f b s c H _ I h) λB k ⟨y,l,m,n,p⟩=>bS (j b k c l _ m p) λu C ⟨x,q,r,t,a,v,w,g,z⟩=>?_;subst w;obtain rfl:u=Value.ref a:=t;exact IN e r g n λD A=>#[.bl v.isSome,q,A,zZ,z]
theorem Fv(e:X.A.units+1<cLine)(f:PE X i ty)(j:PE X o d):PC X .NotIn i o (KU ty d):=by
 intro b s c H Q I h;refine bS (f b s c H _ I h) λB k ⟨y,l,m,n,p⟩=>bS (j b k c l _ m p) λu C ⟨x,q,r,t,a,v,w,g,z⟩=>?_;subst w;obtain rfl:u=Value.ref a:=t;exact QQ e r g n λD A=>#[.bl<|!v.isSome,q,A,zZ,z]
theorem z9(l:X.A.units+1<cLine)(m:PE X o d)(n:PE X i ty)(p:PE X b j)(q:swapsWith b (some (.Subscript o i c)) f.line X.env=pure false):
  PS X (.Assign [.Subscript o i c] b f) (Mf d ty j):=by
 intro k s e H D I h;refine wpAny_Assign_Subscript (bS (p k s e H _ I h) λr t ⟨v,w,z,A,B⟩=>bS (m k t e w _ z B) λu C ⟨x,E,G,J,L⟩=>bS (n k C e E _ G L) λY s3 ⟨y,H3,M,N,a,O,Q,g,T⟩=>?_) q;subst Q;obtain rfl:u=Value.ref a:=J;exact UV l M g N A λs4 U=>#[e,O,U,T]
theorem LO(h:Heap)(a:sysModules<h.objs.size):ObjOk P w H (h.push {cls:= .type "dict",data:= .dict #v[]}) h.objs.size (.dT []):=
 #[iK _,qm.mpr<|dX<|dr a,[],.nil,_,#v[],0,dE _ zZ,#[zZ,zZ,zZ],zZ,zZ,List.nodup_nil]
def OE:TE:=λ_ H Q=>∀p,H p=none->Q (.ref p) (bx H p (.dT []))
theorem Ey:PE X (.Dict [] [] b) OE:=λc s d H Q I h=>
 wpAny_Dict_empty #[.ref s.heap.objs.size,_,I.laid (λ_ _ q=>cI _ q) (bR _)<|LO s.heap I.big,zZ,h _<|I.hok.fresh<|bR _]
def KY:List (TE×TE)->St->Hp->(List (V×V)->Hp->Prop)->Prop
 | [],_,H,Q=>Q [] H
 |(b,c)::r,a,H,Q=>b a H λx d=>c a d λy e=>KY r a e λf g=>Q ((x,y)::f) g
abbrev VV:List (V×V)->List (Vl×Vl)->Prop:=Paired λp q=>RelV p.1 q.1/\RelV p.2 q.2
def FV(X:Cx)(b:Pos)(keys:List (Option Expr))(a:List Expr)(c:List (TE×TE)):Prop:=
 ∀e s (d:St) H Q,Inv X e d H s->KY c d H Q->
  wpAny (model X.prog X.w) X.A (evalPairs (pairTrees keys a X.env b)) (λh i=>∃f g,Inv X e d g i/\VV f h/\Q f g) X.xe s
theorem Qs:FV X a [] [] []:=λb s c H Q I h=>pairTrees_nil_walk #[[],H,I,.nil,h]
theorem Uz(j:PE X k g)(l:PE X v i)(m:FV X pos e f a):
  FV X pos (some k::e) (v::f) ((g,i)::a):=λb s c H Q I h=>
 pairTrees_cons_walk (bS (j b s c H _ I h) λu n ⟨x,o,p,q,r⟩=>bS (l b n c o _ p r) λJ t ⟨y,w,z,A,B⟩=>
  bS (m b t c w _ z B) λL M ⟨C,D,E,d,G⟩=>#[(x,y)::C,D,E,.cons #[q,A] d,G])
structure M1(X:Cx)(o:Expr)(m:Str)(apos:Pos)(e:Expr)(cpos:Pos):Prop where
 base:attributeBase o m X.env (eval o X.env)=eval o X.env
 few:((backTo cpos (starEach [e] X.env)).all (λx=> !x.1)&&(backToKw cpos (keywordEach [] X.env)).all (λx=>x.1.isSome)
  &&decide (([e]:List Expr).length+([]:List Keyword).length+(if([]:List Keyword).isEmpty then 0 else 1)<30))=true
 line:(apos.endLine==cpos.line)=true
 trees:backTo cpos (starEach [e] X.env)=[(false,eval e X.env)]
structure M2(X:Cx)(o:Expr)(m:Str)(apos:Pos)(e f:Expr)(cpos:Pos):Prop where
 base:attributeBase o m X.env (eval o X.env)=eval o X.env
 few:((backTo cpos (starEach [e,f] X.env)).all (λx=> !x.1)&&(backToKw cpos (keywordEach [] X.env)).all (λx=>x.1.isSome)
  &&decide (([e,f]:List Expr).length+([]:List Keyword).length+(if([]:List Keyword).isEmpty then 0 else 1)<30))=true
 line:(apos.endLine==cpos.line)=true
 trees:backTo cpos (starEach [e,f] X.env)=[(false,eval e X.env),(false,eval f X.env)]
theorem Nr{b a:Type}{f:b->a->Sem (ForInStep a)}{g:a->b->a}:∀{l:List b} c,(∀x∈l,∀c,f x c=pure (.yield (g c x)))->forIn l c f=pure (l.foldl g c)
 | [],_,_=>rfl
 |x::l,c,h=>by
  rw[List.forIn_cons,h x<|cJ ..,pure_bind];exact Nr (g c x) λy d=>h y<|dS _ d
noncomputable def oE(b:Env)(a:List (Str×Ad))(y:Str×NameKind):List (Str×Ad):=
 if y.2== .free then(match b.cells.lookup y.1 with|some c=>(y.1,c)::a|none=>a)else a
noncomputable def rm(a:Env)(b:Scope):List (Str×Ad):=b.names.foldl (oE a) []
theorem QF(h:∀y∈b.names,y.2=.free->∃c,a.cells.lookup y.1=some c):closureFor b a=pure (rm a b):=by
 simp only[closureFor];rw[Nr [] λx i c=>?_]
 .rfl
 .obtain⟨n,k⟩:=x;by_cases f:k=.free
  .subst f;obtain⟨d,j⟩:=h _ i rfl;simp only[oE,cellOf,j,beq_self_eq_true,if_true,pure_bind]
  .have l:(k==NameKind.free)=false:=by simpa using f
   simp only[oE,l,Bool.false_eq_true,if_false]
theorem DB{a:Env}:∀(names:List (Str×NameKind)) (b:List (Str×Ad)),(∀y c,b.lookup y=some c->a.cells.lookup y=some c)->
  ∀y c,(names.foldl (oE a) b).lookup y=some c->a.cells.lookup y=some c
 | [],_,h=>h
 | (n,k)::r,b,h=>by
  refine DB r _ λy c e=>?_;unfold oE at e;split at e
  .split at e
   .rename_i d i
    rw[py]at e;cases f:y==n with
    |true=>
     rw[f]at e;cases e;rw[(eq_of_beq f)];exact i
    |false=>rw[f]at e;exact h y c e
   .exact h y c e
  .exact h y c e
theorem Li:∀(a:List (Str×NameKind)) b y,(∃c,b.lookup y=some c)->∃c,(a.foldl (oE e) b).lookup y=some c
 | [],_,_,h=>h
 | (n,k)::r,b,y,h=>by
  refine Li r _ y ?_;unfold oE;split
  .split
   .rename_i d f
    rw[py];cases g:y==n with
    |true=>exact#[_,zZ]
    |false=>exact h
   .exact h
  .exact h
theorem Nl:∀(a:List (Str×NameKind)) b y,a.lookup y=some .free->(∃c,d.cells.lookup y=some c)->∃c,(a.foldl (oE d) b).lookup y=some c
 | [],_,_,h,_=>by simp at h
 | (n,k)::r,b,y,h,e=>by
  rw[py]at h;cases f:y==n with
  |true=>
   rw[f]at h;cases h;have g:=eq_of_beq f;subst g;obtain⟨c,e⟩:=e;refine Li r _ y #[c,?_];unfold oE;rw[wB<|by rfl]
   rw[e];simp
  |false=>
   rw[f]at h;exact Nl r _ y h e
theorem Di{a:Env}:∀{names:List (Str×NameKind)} {y} {k},
  (names.map λ(n,k)=>if(k==NameKind.free&&a.scope.kind== .function&&a.kindOf n==some .cell)then(n,NameKind.cell)else(n,k)).lookup y=some k->
   names.lookup y=some k\/(names.lookup y=some .free/\k=.cell)
 | [],_,_,h=>by simp at h
 | (n,c)::r,y,k,h=>by
  have g:=@Di a r y k;rw[hI]at h;by_cases f:(c==NameKind.free&&a.scope.kind== .function&&a.kindOf n==some .cell)=true
  .have b:List.lookup y ((n,NameKind.cell)::(r.map λ(n,k)=>if(k==NameKind.free&&a.scope.kind== .function&&a.kindOf n==some .cell)then(n,NameKind.cell)else(n,k)))=some k:=by grind
   rw[py]at b|-;cases d:y==n with
   | true=>
    rw[d]at b;cases b;have i:c=.free:=by grind
    exact .inr #[by rw[i],zZ]
   |false=>rw[d]at b;exact g b
  .have b:List.lookup y ((n,c)::(r.map λ(n,k)=>if(k==NameKind.free&&a.scope.kind== .function&&a.kindOf n==some .cell)then(n,NameKind.cell)else(n,k)))=some k:=by grind
   rw[py]at b|-;cases d:y==n with
   |true=>rw[d]at b;exact .inl b
   |false=>rw[d]at b;exact g b
noncomputable def Fc(y:Str):Str:=#[#v[46]++y.cps]
noncomputable def oT(a:Ss)(y:Str):Str:=if a.contains y=true then Fc y else y
structure CompScope(X:Cx)(vs:Ss)(sc:Scope):Prop where
 kind:sc.kind=.function
 cell:∀y∈sc.names,y.2≠ .cell
 locs:∀y∈sc.names,y.2=.local->sc.names.lookup y.1=some .local
 own:∀y∈X.N.map (oT vs),sc.names.lookup y≠some .local
 hid:∀y∈vs,sc.names.lookup (Fc y)=none
 nd:(vs++X.N.map (oT vs)).Nodup
 free:∀y∈sc.names,y.2=.free->X.env.kindOf y.1=some .cell\/X.env.kindOf y.1=some .free
noncomputable def gf(X:Cx)(a:Ss)(b:Scope)(C:Ad)(s:Sh)(H:Hp)(c:As):Cx where
 prog:=X.prog
 w:=X.w
 K:=X.K
 mg:=X.mg
 base:=X.base
 A:=X.A
 N:=a++X.N.map (oT a)
 s₀:=s
 H₀:=H
 env:=compEnvC b (rm X.env b) C X.env
 outer:=X.stack
 stack:=X.stack
 ex:=c
 fn:=λ_=>false
 calm:=X.calm
 pn:=X.pn
 xe:=λ_ _=>False
noncomputable def jt(a:Ss)(b:St):St:=List.replicate a.length none++b
section
variable{g:St}
theorem Q0{C:Ad}{L:As}{m0:SV}(S:CompScope X f a)(I:Inv X h g H s)(M:∀b∈L,FpOk X h H b)(ho:∀b∈L,∃o,s.heap.get? b=some o)(k:∀b o,s.heap.get? b=some o->E.get? b=some o) (N:E.Ns C m0) (G:s.heap.objs.size<=C):Inv (gf X f a C s H L) h (jt f g) H {s with heap:=E,toks:=tk}:=by
 have j:∀y c,(rm X.env a).lookup y=some c->X.env.cells.lookup y=some c:=DB a.names [] λy c e=>by simp at e
 have fr:=λy e=>S.free (y,.free) (pB e) rfl;have l:∀{y} {J},(relabel a X.env).names.lookup y=some J->J=.cell\/J=.free->a.names.lookup y=some .free:=λ{y J} e hk=>by
  rcases Di e with z|⟨z,_⟩
  .rcases hk with q|q
   .subst q;exact wC zZ (S.cell _ (pB z))
   .subst q;exact z
  .exact z
 have has:=λy e=>Nl a.names [] y e ((λy e=>I.ok.has y e) y (fr y e));have aa:=λy c e=>let⟨_,z⟩:=I.cell y c e;z.lt
 have kc:∀{c v},s.heap.IsCell c v->E.IsCell c v:=λ{c v} ⟨o,e,d⟩=>#[o,k _ _ e,d];refine#[#[I.ok.mod,S.kind,I.ok.glob,I.ok.blt,G,λy z c Q T=>I.ok.inj y z c (j y c Q) (j z c T),λy hy=>?_,λy c z _=>(nomatch z),I.ok.hd,I.ok.frames,.inl zZ,λb A=>#[?_,λy c e=>?_],I.bs,cz I.ok.bsz I.sz,λb o e A=>?_,λb A hs=>?_,I.stack,I.stkFree],
  rfl,I.bare,Un.kept k,#[m0,N,λi y v e1 B e3=>?_],λy c e=>?_,I.hok.fresh G,λy c e=>I.freeC y c (j y c e),λp hp=>?_,I.hok.kept k,?_]
 .have U:=hy
  rcases U with z|z
  .exact has y (l z (.inl zZ))
  .exact has y (l z (.inr zZ))
 .obtain⟨o,e⟩:=ho b A;exact dr (gn (cy e) G)
 .exact(M b A).2.2.2.2.1 y c (j y c e)
 .obtain⟨_,_,_,z,_⟩:=M b A
  rcases z with z|z
  .exact I.ok.noex b o e z
  .exact wC (gn (cy (I.ok.bs b o e).1) z) (ni _)
 .obtain⟨_,Q,T,_⟩:=M b A
  rcases db.mp (I.stkSub b hs)with z|z
  .exact Q z
  .exact T z
 .have t:(f++X.N.map (oT f))[i]?=some y:=e1;have w:(List.replicate f.length none++g)[i]?=some (some v):=B;have hi:f.length<=i:=by
   by_cases z:i<f.length
   .rw[dO (by simpa using z),List.getElem?_replicate]at w;split at w<;>cases w
   .lia
  rw[dQ hi]at t;rw[dQ (by simpa using hi),List.length_replicate]at w;have yN:=bX t;have D:=e3;have x:a.names.lookup y=some .free:=by
   rcases D with z|z|z
   .rcases Di z with q|⟨_,q⟩
    .exact wC q (S.own y yN)
    .cases q
   .exact l z (.inl zZ)
   .exact l z (.inr zZ)
  have t:X.N[i-f.length]?=some y:=by
   rw[bT]at t;cases e:X.N[i-f.length]? with
   |none=>rw[e]at t;cases t
   | some y0=>
    rw[e]at t;have B:=ge t;unfold oT at B
    split at B
    .rename_i Y
     rw[<-B,S.hid y0 (by simpa using Y)]at x;cases x
    .rw[B]
  have ok:=fr y x;obtain⟨m,_,hl⟩:=I.loc;obtain⟨u,r,lk⟩:=hl (i-f.length) y v t w (.inr ok);refine#[u,r,?_]
  rcases lk with⟨q,_⟩|⟨_,c,ec,Y⟩
  .rcases ok with z|z<;>rw[z]at q<;>cases q
  .obtain⟨c',e'⟩:=has y x;have:=ge ((j y c' e').symm.trans ec);subst this;refine .inr #[?_,c',e',kc Y]
   rcases D with z|z|z
   .rcases Di z with q|⟨_,q⟩
    .exact wC q (S.own y yN)
    .cases q
   .exact .inl z
   .exact .inr z
 .obtain⟨v,z⟩:=I.cell y c (j y c e);exact#[v,kc z]
 .obtain⟨e,n,ne,nf,d⟩:=I.pin p hp;refine#[k _ _ e,n,dr (gn (cy e) G),λz=>?_,d]
  rcases db.mp (I.stkSub p.1 z)with q|q
  .exact ne q
  .exact nf q
 .show(List.replicate f.length none++g).length=(f++X.N.map (oT f)).length;rw[cC,cC,List.length_replicate,bA,I.len]
theorem Inv.adopt{a:Vs}(I:Inv X h g H s)(i:f.length<=sizeLine)(j:Vals f a)(k:H D=none)(e:s.heap.get? D=some {cls:= .type "list",data:= .seq a.toArray n})
  (l:X.s₀.heap.objs.size<=D) (r:D≠X.env.locals) (t:∀x c,X.env.cells.lookup x=some c->c≠D) (v:∀p∈X.pn++h,p.1≠D):Inv X h g (bx H D (.lst f)) s:=by
 have nd:∀b u,H b=some u->b≠D:=λb u q z=>by rw[z,k]at q;cases q
 have q:=I.step (H':=bx H D (.lst f)) (t':=s.toks) (d':=s.drawn) (ch:=[D]) (λb d=>by
   have z:b=D:=by simpa using d
   subst z;exact#[.inr l,r,t,v])
  (λb o _ _ _ e _=>e) (λb o _ _ _ e _=>#[o.slots,e]) (λb o d _ n=>by rw[bI (λz=>d (by simp[z]))];exact n) (λb o _ e=>#[o,e])
  (λb w q=>by rw[bI (nd b _ q)];exact q) (λb o u q=>by rw[bI (nd b _ q)];exact q) (λb A q=>#[#v[],by rw[bI (nd b _ q),q];simp]) (λm y=>y) (λb u q=>?_) I.bare
 .exact q
 .by_cases d:b=D
  .subst d;rw[bE]at q;cases q;exact#[i,a,n,j,e]
  .rw[bI d]at q;exact(I.hok b u q).stay (λ_ _ _ z=>z) (λc z=>by rw[bI (nd c _ z)];exact z) λc w z=>by rw[bI (nd c _ z)];exact z
end
def u4(X:Cx)(a:List Expr)(t:TT):Prop:=
 ∀d s (b:St) H Q,Inv X d b H s->t b H Q->
  wpAny (model X.prog X.w) X.A (forIn a true λc r=>if r=true then do let ok <-isTrue c X.env (eval c X.env);pure (ForInStep.yield ok)else pure (ForInStep.yield r)) (TP X d b Q) X.xe s
def yf:TT:=λ_ H Q=>Q true H
theorem jc{F G:Hp->Prop}(h:F H):yf c H (λb a=>if b=true then F a else G a):=by
 show(if true=true then F H else G H);exact dP h
theorem fK:u4 X [] yf:=λ_ _ _ H _ I h=>bJ #[H,I,h]
theorem yu(h:PT X c t):u4 X [c] t:=λa s b H Q I q=>wpAny_tests_one<|h a s b H Q I q
theorem QP{a:Pg}{A:Ar}{R:Result->Sh->Prop}{o g:Vl}(j:Nat->Sh->Prop)(turn:∀n s,j n s->wpAny (model a w) A (pyNext o) (λr k=>match r with
   |none=>R (.ok .next) k
   | some v=>wpAny (model a w) A (letOwnedTupleGo l o v) (λ_ k=>wpAny (model a w) A (assign l b v) (λ_ u=>
     wpAny (model a w) A (forIn f true λc r=>if r=true then do let ok <-isTrue c b (eval c b);pure (ForInStep.yield ok)else pure (ForInStep.yield r)) (λok p=>
      if ok=true then wpAny (model a w) A (eval e b) (λy B=>wpAny (model a w) A (call (.builtin "list.append") [g,y]) (λ_ C=>∃m,m<n/\j m C) (λ_ _=>False) B) (λ_ _=>False) p
      else ∃m,m<n/\j m p) (λ_ _=>False) u) (λ_ _=>False) k) (λ_ _=>False) k) (λ_ _=>False) s)(n) (h:j n s):codeAny (model a w) A (.compLoop (.ListComp e [#[l,d,f,0]] t i) 0 o g b) R s:=by
 refine codeAny_loop zZ j (λn s H=>?_) n h;refine wpAny_noted<|iB (E:=λ_ _=>False) ?_ (λ_ _ q=>q) λ_ _ z=>z.elim;rw[compTurn_list];refine bz<|Cb<|bz<|bS (turn n s H) λr k D=>?_;cases r with
 |none=>exact bJ D
 |some v=>
  refine bz<|bS D λ_ u I=>bz<|bS I λ_ p J=>bz<|bS J λok B G=>?_;cases ok with
  |false=>exact bJ #[zZ,G]
  |true=>exact bz<|bz<|bS G λy C L=>bz<|bS L λ_ N M=>bJ<|bJ #[zZ,M]
def b7i(b a:St):Prop:=∀(i:Nat) v,b[i]?=some (some v)->a[i]?=some (some v)
theorem iE{a:St}:b7i (none::a) (x::a):=λi v e=>by
 cases i with
 |zero=>cases e
 |succ i=>exact e
theorem Ip{a:St}:b7i (none::none::a) (x::y::a):=λi v e=>by
 match i,e with
 |0,e=>cases e
 |1,e=>cases e
 |_+2,e=>exact e
section
variable{A:St}
def n7(l:Ss)(g:TG)(G:TT)(L:TE)(A:St)(J:It)(H:Hp)(Fin:List V->Hp->Prop):Prop:=
 ∃W:Nat->Nat->List V->Hp->Prop,(∃m,W 0 m [] H)/\∀i m c H,W i m c H->
  (J.stop i H/\c.length<=sizeLine/\Fin c H)\/(J.go i H/\c.length<sizeLine/\∃N:List V->Hp->Prop,(∀e d,N e d->∃f,f<m/\W (i+1) f e d)/\
   ∀v d,J.yld i H v d->g v (jt l A) d λa j=>b7i (jt l A) a/\G a j λb h=>if b=true then L a h λy k=>N (c++[y]) k else N c h)
theorem JL{E:VP}{RR:Vl->Ad->Result->Sh->Prop}{Fin:List V->Hp->Prop}(S:CompScope X l k) (hc:X.calm=true) (hg:∀C s H h,PG (gf X l k C s H h) M g) (ht:∀C s H h,u4 (gf X l k C s H h) q G) (he:∀C s H h,PE (gf X l k C s H h) t L)(I:Inv X w A H s) (T:Turn X.prog X.w X.K M J h it tn) (st:tn 0 s.heap) (hf:∀b∈h,FpOk X w H b) (hW:n7 l g G L A J H Fin)(av:∀D C Q a U m',Inv X w A (bx a D (.lst U)) Q->a D=none->FpOk X w (bx a D (.lst U)) C->Q.heap.Ns C m'->Fin U a->RR (.ref D) C (.ok .next) Q):
  wpAny (model X.prog X.w) X.A (newList []) (λar s3=>wpAny (model X.prog X.w) X.A (newFunctionEnv k X.env.globals (rm X.env k) [] X.env.qual none .none (some X.env)) (λcenv s4=>
   codeAny (model X.prog X.w) X.A (.compStart (.ListComp t [#[M,f,q,0]] k B) 0 (.ref it) ar {cenv with scope:=relabel k X.env}) (RR ar cenv.locals) s4) E s3) E s:=by
 obtain⟨W,⟨m0,w0⟩,turn⟩:=hW;refine qe<|wpAny_newFunctionEnv S.cell (by grind) (λh1 ab Y=>?_) S.kind;dsimp only at ab Y|-;generalize am:s.heap.push {cls:= .type "list",dict:=none,data:= .seq ([]:Vs).toArray}=H2 at ab Y|-;have hC:H2.objs.size=s.heap.objs.size+1:=by rw[<-am,ya]
 generalize aI:H2.objs.size=C at ab Y hC|-;generalize ae:s.heap.objs.size=D at hC|-;have af:D≠C:=by lia
 have below:∀b o,s.heap.get? b=some o->b≠D/\b≠C:=λb o e=>by
  have z:=cy e;rw[ae]at z;exact#[dr z,dr (by rw[hC];exact CI z)]
 have old:=λb o e=>Y.extBut b o (below b o e).2<|cI _<|am▸cI _ e;have aw:=
  Y.extBut _ _ af<|cI _ (by rw[<-am,<-ae];exact dE _ zZ)
 have ai:∀b∈h,∃o,s.heap.get? b=some o:=λb m=>let⟨o,e,_⟩:=T.obj 0 _ st b m;#[o,e]
 have an:=λb m=>let⟨o,e⟩:=ai b m;below b o e
 have fD:∀a,a D=none->FpOk X w a D:=λa n=>I.fpOk () n;have fC:∀a,a C=none->FpOk X w a C:=λa n=>I.fpOk () n;have ax:∀p∈X.pn++w,p.1≠D:=λp hp=>(below _ _ (I.pin p hp).1).1;have ao:∀y c,(rm X.env k).lookup y=some c->c≠D:=λy c e=>by
  have e':=DB k.names [] (λy c e=>by simp at e) y c e;obtain⟨v,z⟩:=I.cell y c e';have z':c<s.heap.objs.size:=z.lt;rw[ae]at z';exact dr z'
 have ay:∀b,b∈mB X.stack->∃o,s.heap.get? b=some o:=λb m=>let⟨_,o,ho,_⟩:=I.stack.mem m;#[o,ho]
 have az:D∉mB X.stack:=λz=>let⟨o,e⟩:=ay D z;(below _ _ e).1 rfl
 have ap:∀{pl:AO} {a:Hp},(∀p∈pl,p.1=D)->(∀b∈h,a b=none)->∀b∈h,FpOk (gf X l k C s H h) (w++pl) a b:=λ{pl a} aA hn b m=>by
  obtain⟨_,q1,q2,q3,q4,q5⟩:=hf b m;refine#[hn b m,(an b m).2,λz=>?_,.inl m,λy c e=>q4 y c<|DB k.names [] (λy c e=>by simp at e) y c e,λp hp=>?_]
  .rcases db.mp (I.stkSub b z)with y|y
   .exact q1 y
   .exact q2 y
  .rcases cF.mp hp with z|z
   .exact q5 p<|pG _ z
   .rcases cF.mp z with y|y
    .exact q5 p<|gc _ y
    .rw[aA p y];exact dX (an b m).1
 have aj:∀s3:Sh,s3={s with heap:=h1,toks:=s.toks+([]:List<|Str×Vl).length}->
   codeAny (model X.prog X.w) X.A (.compLoop (.ListComp t [#[M,f,q,0]] k B) 0 (.ref it) (.ref D)<|compEnvC k (rm X.env k) C X.env) (RR (.ref D) C) s3:=by
  rintro s3 rfl;have I0:Inv (gf X l k C s H h) w (jt l A) H {s with heap:=h1,toks:=s.toks+([]:List<|Str×Vl).length}:=Q0 S I hf ai old ab ();refine QP (λn Q=>∃i U j no a,Inv (gf X l k C s H h) w (jt l A) a Q/\tn i Q.heap/\(∀b∈h,a b=none)/\a D=none/\
   Q.heap.get? D=some {cls:= .type "list",data:= .seq j.toArray no}/\Vals U j/\W i n U a) ?_ m0
   #[0,[],[],0,H,I0,T.keep 0 _ _ st λb m o e=>old b o e,λb m=>(hf b m).1,I.hok.fresh (),aw,.nil,w0]
  rintro n Q ⟨i,U,j,no,a,I1,as,au,ag,aB,ah,w1⟩;have ak:Inv (gf X l k C s H h) (w++[(D,{cls:= .type "list",data:= .seq j.toArray no})]) (jt l A) a Q:=I1.pins_of λp hp=>by
   rcases cF.mp hp with z|z
   .exact I1.pin p<|gc _ z
   .have e:p=(D,{cls:= .type "list",data:= .seq j.toArray no}):=by simpa using z
    subst e;exact#[aB,ag,af,az,λv z=>by have z':Data.seq _ _=Data.cell v:=z;cases z']
  have O:∀p∈[((D,{cls:= .type "list",data:= .seq j.toArray no}):Ad×Obj)],p.1=D:=λp hp=>by
   have e:p=(D,{cls:= .type "list",data:= .seq j.toArray no}):=by simpa using hp
   rw[e]
  rcases turn i n U a w1 with⟨stop,hz,fin⟩|⟨go,hz,N,hN,step⟩
  .refine bS (T.done (gf X l k C s H h) zZ zZ zZ hc i _ Q _ a (λ_ _=>False) ak (ap O au) as stop) λr s4 ⟨hr,I4⟩=>?_;subst hr;have d4:s4.heap.get? D=some {cls:= .type "list",data:= .seq j.toArray no}:=(I4.pin (D,_)<|gc _<|gc _<|cJ ..).1;have Io:Inv X w A a s4:=I.call' (H':=a) (ch:=h) I4.os I4.base I4.hok I4.bare λb m=>by
    obtain⟨_,q1,_,q3,q4,q5⟩:=hf b m;exact#[q3,q1,q4,q5]
   obtain⟨_,a1,_,a3,a4,a5⟩:=fD a ag;obtain⟨m4,aC,_⟩:=I4.loc;refine av D C s4 a U m4 (Io.adopt hz ah ag d4 (cz I.sz ()) a1 a4 a5) ag (fC _ ?_) aC fin;rw[bI<|dX af];exact I4.free
  .refine bS (T.item (gf X l k C s H h) zZ zZ zZ hc i _ Q _ a (λ_ _=>False) ak (ap O au) as go) λr s4 ⟨u,hr,h4⟩=>?_;subst hr;refine bS h4 λ_ s5 ⟨x,H5,I5,r5,y5,aq,aD⟩=>?_;refine bS (hg C s H h _ s5 _ H5 x u _ (I5.pinned (ap O aD)<|T.obj _ _ aq) r5<|step x H5 y5) λ_ s6 ⟨aa,H6,I6,k6,q6⟩=>?_;refine bS (ht C s H h _ s6 aa H6 _ I6 q6) λok s7 ⟨H7,I7,q7⟩=>?_;have al:(jt l A).length=aa.length:=by rw[I1.len,I6.len]
   have pinned:∀{H8:Hp} {s8:Sh},Inv (gf X l k C s H h) (w++[(D,{cls:= .type "list",data:= .seq j.toArray no})]++A1 h s5.heap) aa H8 s8->
     tn (i+1) s8.heap/\(∀b∈h,H8 b=none)/\H8 D=none/\s8.heap.get? D=some {cls:= .type "list",data:= .seq j.toArray no}:=λ{H8 s8} I8=>by
    refine#[T.keep _ _ _ aq λb m o e=>(I8.pin (b,o)<|gc _<|gc _<|Dw m e).1,λb m=>?_,?_,?_]
    .obtain⟨o,e,d⟩:=T.obj _ _ aq b m;exact(I8.pin (b,o)<|gc _<|gc _<|Dw m e).2.1
    .exact(I8.pin (D,_)<|gc _<|pG _<|gc _<|cJ ..).2.1
    .exact(I8.pin (D,_)<|gc _<|pG _<|gc _<|cJ ..).1
   cases ok with
   |false=>
    rw[wA<|by decide]at q7|-;obtain⟨m',hm,w7⟩:=hN _ _ q7;obtain⟨a1,a2,a3,a4⟩:=pinned I7;exact#[m',hm,i+1,U,j,no,H7,(I7.unpinned.unpinned).weak al k6,a1,a2,a3,a4,ah,w7]
   | true=>
    rw[wB zZ]at q7|-;refine bS (he C s H h _ s7 aa H7 _ I7 q7) λyv s8 ⟨y,H8,I8,r8,n8⟩=>?_;obtain⟨m',hm,w8⟩:=hN _ _ n8;obtain⟨a1,a2,a3,a4⟩:=pinned I8;have aF:j.toArray.size<=sizeLine:=by
     have:=ah.length;rw[dU];lia
    refine wpAny_list_append_plain #[no,a4] (λh' pl sb=>?_) aF;obtain⟨aG,aH⟩:=pl;have I9:Inv (gf X l k C s H h) w aa H8 {s8 with heap:=h'}:=(I8.unpinned.unpinned).turned (t':=s8.toks) (it:=D) (λb o m e=>(sb.2 b m).trans e) a3 af (.inr<|rg ae) ao ax;refine#[m',hm,i+1,U++[y],j++[yv],aG,H8,I9.weak al k6,T.keep _ _ _ a1 λb m o e=>(sb.2 b (an b m).1).trans e,a2,a3,?_,ah.append<|.cons r8 .nil,w8];rw[aH]
    simp
 exact codeAny_compStart_list (aj _ zZ)<|T.self _ 0 _ _ _ (T.keep 0 _ _ st λb m o e=>old b o e)<|aj _ zZ
def Cp(l:Ss)(b:TI)(g:TG)(G:TT)(L:TE):TE:=λA H Q=>b A H λJ c=>n7 l g G L A J c λd a=>∀p,a p=none->Q (.ref p) (bx a p (.lst d))
theorem CompScope.clos(S:CompScope X l k)(I:Inv X w A H s):closureFor k X.env=pure (rm X.env k):=
 QF λy a b=>I.ok.has y.1<|S.free y a b
theorem BJ(S:CompScope X l k)(j:X.calm=true)(m:PI X M f i)(n:∀C s H a,PG (gf X l k C s H a) M g)(ht:∀C s H a,u4 (gf X l k C s H a) q G)(p:∀C s H a,PE (gf X l k C s H a) t L) (r:∀x,foldedSetIterable f X.env x=pure x:=by intro _;rfl):PE X (.ListComp t [#[M,f,q,0]] k B) (Cp l i g G L):=by
 intro w s A H Q I h;rw[eval_ListComp];refine wpAny_comprehension_free zZ r (S.clos I) S.kind S.locs<|bS (m w s A H _ I h) λv s1 u=>bS u λy s2 z=>?_;obtain⟨it,a,tn,J,H2,e,E,T,c,N,O⟩:=z;subst e;refine JL S j n ht p E T c N O λD C U H' ys Y I' hD fC ns fin=>?_;obtain⟨c0,c1,c2,c3,c4,c5⟩:=fC;refine#[Y,ns,λh' sb=>#[.ref D,_,?_,zZ,fin D hD]];exact I'.turned (λb o hb e=>(sb.2 b hb).trans e) c0 c1 c3 c4 c5
theorem JV(S:CompScope X [x] k)(a:k.names.lookup x=some .local):∀C s H b,PG (gf X [x] k C s H b) (.Name x p) (gi 0):=λC s H b=>
 dG S.nd zZ (.inl<|nC a)<|.inr<|nC a
theorem gN(S:CompScope X [x] k)(c:X.calm=true)(d:k.names.lookup x=some .local)(e:PI X (.Name x p) f b)(ht:∀C s H a,u4 (gf X [x] k C s H a) q G)(g:∀C s H a,PE (gf X [x] k C s H a) t L) (h:∀x,foldedSetIterable f X.env x=pure x:=by intro _;rfl):PE X (.ListComp t [#[.Name x p,f,q,0]] k B) (Cp [x] b (gi 0) G L):=
 BJ S c e (JV S d) ht g h
theorem Lb{d c:Pos}(S:CompScope X l k)(hc:X.calm=true)(hN:X.N.Nodup)(hj:X.N[j]?=some y)(U:X.env.scope.names.lookup y=some .local)(hi:PI X M f O)(hg:∀C s H i,PG (gf X l k C s H i) M g)(ht:∀C s H i,u4 (gf X l k C s H i) q G)(he:∀C s H i,PE (gf X l k C s H i) t L) (p:swapsWith (.ListComp t [#[M,f,q,0]] k B) (some (.Name y d)) c.line X.env=pure true:=by rfl) (hs:∀x,foldedSetIterable f X.env x=pure x:=by intro _;rfl):
  PS X (.Assign [.Name y d] (.ListComp t [#[M,f,q,0]] k B) c) (oO (Cp l O g G L) (gi j)):=by
 intro w s A H D I h;rw[exec_Assign_Name_used _ _ _ _ p];refine bz (Cb (bz ?_));refine bz (iB (wpAny_comprehension_free zZ hs (S.clos I) S.kind S.locs (bS (hi w s A H _ I h) λv s1 h1=>bS h1 λaa s2 h2=>?_)) (λ_ m hq=>bJ (bJ hq)) λ_ _ e=>e);obtain⟨it,i,tn,J,H2,e,I2,T,r,f2,hW⟩:=h2;subst e;refine JL S hc hg ht he I2 T r f2 hW λn C m H' ys m' I' hD fC ns fin=>?_;obtain⟨c0,Y,c2,c3,c4,c5⟩:=fC;refine wpAny_assign_Name (Ko (v:= .ref n) I' hN hj (.inl U) (rfl) (λs3 I3 ⟨a,sb,ha⟩=>?_) (.inr U));have E:a≠C:=by
  rcases ha with z|z
  .rw[z];exact dX Y
  .exact c4 y a z
 refine#[m',ns.sameBut sb (dX E),λh' N=>#[_,_,I3.turned (λb o hb e=>(N.2 b hb).trans e) c0 Y c3 c4 c5,fin n hD]]
theorem vw{p e a:Pos}(S:CompScope X [x] k)(g:X.calm=true)(h:k.names.lookup x=some .local)(i:X.N.Nodup)(l:X.N[j]?=some y)(m:X.env.scope.names.lookup y=some .local)(n:PI X (.Name x p) f d)(ht:∀C s H b,u4 (gf X [x] k C s H b) q G) (o:∀C s H b,PE (gf X [x] k C s H b) t L)(c:swapsWith (.ListComp t [#[.Name x p,f,q,0]] k B) (some (.Name y e)) a.line X.env=pure true:=by rfl) (r:∀x,foldedSetIterable f X.env x=pure x:=by intro _;rfl):
  PS X (.Assign [.Name y e] (.ListComp t [#[.Name x p,f,q,0]] k B) a) (oO (Cp [x] d (gi 0) G L) (gi j)):=Lb S g i l m n (JV S h) ht o c r
end
section
variable{K:V3}{c:St}{Fin:List V->Hp->Prop}
theorem O2(Pv:Nat->List V->Hp->Prop)(B:xs.length<=sizeLine)(o:Pv 0 [] H)(r:∀i f H,i<=xs.length->Pv i f H->SqT K H a xs/\f.length<=i)(s:∀i v f H,xs[i]?=some v->Pv i f H->g v (jt h c) H λk t=>b7i (jt h c) k/\j k t λb n=>if b=true then d k n λy u=>Pv (i+1) (f++[y]) u else Pv (i+1) f n)(w:∀f H,Pv xs.length f H->Fin f H):n7 h g j d c (vf K a) H Fin:=by
 refine#[λi m f H=>m=xs.length-i/\i<=xs.length/\Pv i f H,#[xs.length,by simp,Nat.zero_le _,o],?_];rintro i m f H ⟨rfl,x,p⟩;obtain⟨q,C⟩:=r i f H x p;by_cases l:i<xs.length
 .refine .inr #[#[xs,xs[i],q,by simp],(),Pv<|i+1,λD z A=>#[xs.length-(i+1),Nat.sub_succ_lt_self _ _ l,zZ,l,A],λv z y=>?_];obtain⟨e,y⟩:=y;subst e;exact s i v f _ (y xs q) p
 .have e:i=xs.length:=by lia
  subst e;exact .inl #[#[xs,q,bR _],(),w f H p]
theorem je(Pv:Nat->List V->Hp->Prop)(B:xs.length<=sizeLine)(o:Pv 0 [] H)(r:∀i f H,i<=xs.length->Pv i f H->SqL K H a xs/\f.length<=i)(s:∀i v f H,xs[i]?=some v->Pv i f H->g v (jt h c) H λk t=>b7i (jt h c) k/\j k t λb n=>if b=true then d k n λy u=>Pv (i+1) (f++[y]) u else Pv (i+1) f n)(w:∀f H,Pv xs.length f H->Fin f H):n7 h g j d c (vt K a) H Fin:=by
 refine#[λi m f H=>m=xs.length-i/\i<=xs.length/\Pv i f H,#[xs.length,by simp,Nat.zero_le _,o],?_];rintro i m f H ⟨rfl,x,p⟩;obtain⟨q,C⟩:=r i f H x p;by_cases l:i<xs.length
 .refine .inr #[#[xs,xs[i],q,by simp],(),Pv<|i+1,λD z A=>#[xs.length-(i+1),Nat.sub_succ_lt_self _ _ l,zZ,l,A],λv z y=>?_];obtain⟨e,y⟩:=y;subst e;exact s i v f _ (y xs q) p
 .have e:i=xs.length:=by lia
  subst e;exact .inl #[#[xs,q,bR _],(),w f H p]
theorem D'{lo:Int}(Pv:Nat->List V->Hp->Prop)(A:n<=sizeLine)(o:Pv 0 [] H)(q:∀i a H,i<=n->Pv i a H->a.length<=i)(r:∀i a H,i<n->Pv i a H->g (.int (lo+i)) (jt h c) H λk s=>b7i (jt h c) k/\j k s λb l=>if b=true then d k l λy t=>Pv (i+1) (a++[y]) t else Pv (i+1) a l)(u:∀a H,Pv n a H->Fin a H):n7 h g j d c (sd lo n) H Fin:=by
 refine#[λi m a H=>m=n-i/\i<=n/\Pv i a H,#[n,by simp,Nat.zero_le _,o],?_];rintro i m a H ⟨rfl,w,p⟩;have B:=q i a H w p;by_cases f:i<n
 .refine .inr #[f,(),Pv<|i+1,λC x z=>#[n-(i+1),EO _ _ f,zZ,f,z],λv x y=>?_];obtain⟨e,y⟩:=y;subst e y;exact r i a _ f p
 .have e:i=n:=by lia
  subst e;exact .inl #[bR _,(),u a H p]
theorem t9(k:xs.length<=sizeLine)(l:SqT K H a xs)(m:∀v Q,v∈xs->Q (f v) H->d (some v::c) H Q)(n:Fin (xs.map f) H):
  n7 [x] (gi 0) yf d c (vf K a) H Fin:=by
 refine O2 (λi g h=>h=H/\g=(xs.take i).map f) k #[zZ,zZ] (λi g h o ⟨e,b⟩=>?_) (λi v g h j ⟨e,b⟩=>#[iE,?_])<|λg h ⟨e,b⟩=>?_
 .subst e b;exact#[l,by simp;lia]
 .subst e b;refine jc<|m v _ (bX j) #[zZ,?_];rw[gj,j,c7];rfl
 .subst e b;rw[fF];exact n
theorem Fj(k:xs.length<=sizeLine)(l:SqL K H a xs)(m:∀v Q,v∈xs->Q (f v) H->d (some v::c) H Q)(n:Fin (xs.map f) H):
  n7 [x] (gi 0) yf d c (vt K a) H Fin:=by
 refine je (λi g h=>h=H/\g=(xs.take i).map f) k #[zZ,zZ] (λi g h o ⟨e,b⟩=>?_) (λi v g h j ⟨e,b⟩=>#[iE,?_])<|λg h ⟨e,b⟩=>?_
 .subst e b;exact#[l,by simp;lia]
 .subst e b;refine jc<|m v _ (bX j) #[zZ,?_];rw[gj,j,c7];rfl
 .subst e b;rw[fF];exact n
theorem MH{lo:Int}(h:n<=sizeLine)(j:∀i Q,i<n->Q (f i) H->d (some (.int (lo+(i:Nat)))::c) H Q)(k:Fin ((List.range n).map f) H):
  n7 [x] (gi 0) yf d c (sd lo n) H Fin:=by
 refine D' (λi b g=>g=H/\b=(List.range i).map f) h #[zZ,zZ] (λi b g m ⟨e,a⟩=>?_) (λi b g l ⟨e,a⟩=>#[iE,?_])<|λb g ⟨e,a⟩=>?_
 .subst e a;simp
 .subst e a;refine jc<|j i _ l #[zZ,?_];rw[List.range_succ,c7];rfl
 .subst e a;exact k
end
inductive Dt where
 |non|int (i:Int)|str (x:Str)|lst (ds:List Dt)|tup (ds:List Dt)
inductive Rep (K:V3) (H:Hp):Nat->Dt->V->Prop where
 |non (n:Nat):Rep K H n .non .non
 |int (n:Nat) (i:Int):Rep K H n (.int i) (.int i)
 |str (n:Nat) (x:Str):Rep K H n (.str x) (.str x)
 |lst {n:Nat} {ds:List Dt} {a:Ad} {xs:List V} (h:SqL K H a xs) (hl:xs.length=ds.length) (hi:∀(i:Nat) d v,ds[i]?=some d->xs[i]?=some v->Rep K H n d v):Rep K H (n+1) (.lst ds) (.ref a)
 |tup {n:Nat} {ds:List Dt} {a:Ad} {xs:List V} (h:SqT K H a xs) (hl:xs.length=ds.length) (hi:∀(i:Nat) d v,ds[i]?=some d->xs[i]?=some v->Rep K H n d v):Rep K H (n+1) (.tup ds) (.ref a)
theorem Ac{e:Type}{c d:List e}(f:c.length=d.length)(h:∀(i:Nat) a b,c[i]?=some a->d[i]?=some b->a=b):c=d:=by
 refine D9 f λi g j=>h i _ _ (by simp)<|by simp
section
variable{X:Cx}{c:St}{s:Sh}
theorem Kv(I:Inv X k c H s)(h:SqL X.K H a b)(e:SqT X.K H a d):False:=by
 obtain⟨_,_,p,_⟩:=I.list h;obtain⟨_,_,q,_⟩:=I.tuple e;exact SeqAt.ne_of_list_tuple p.isList (q) rfl
theorem HM(I:Inv X k c H s):∀n {d f} {v},Rep X.K H n d v->Rep X.K H n f v->d=f:=by
 intro n
 induction n with
 |zero=>
  intro d f v r g;cases r<;>cases g<;>rfl
 | succ n y=>
  intro d f v r g;cases r with
  |non=>cases g;rfl
  |int=>cases g;rfl
  |str=>cases g;rfl
  | @lst _ z a j h p t=>
   cases g with
   | @lst _ u _ w l m o=>
    have e:=I.list_inj h l;subst e;refine cH Dt.lst (Ac (p.symm.trans m) λi d f q x=>?_);have b:i<j.length:=by rw[p];exact(bN.mp q).1
    exact y (t i d j[i] q (bC b)) (o i f j[i] x (bC b))
   |tup l _ _=>exact(Kv I h l).elim
  | @tup _ z a j h p t=>
   cases g with
   |lst l _ _=>exact(Kv I l h).elim
   | @tup _ u _ w l m o=>
    have e:=I.tuple_inj h l;subst e;refine cH Dt.tup (Ac (p.symm.trans m) λi d f q x=>?_);have b:i<j.length:=by rw[p];exact(bN.mp q).1
    exact y (t i d j[i] q (bC b)) (o i f j[i] x (bC b))
theorem Lu{f c:List Dt}(n:f.length=c.length)(o:N=f.length)(k:∀j d l,f[j]?=some d->c[j]?=some l->(e j=true↔d=l)):((List.range N).all e=true↔f=c):=by
 subst o;rw[pb];constructor
 .intro h;refine Ac n λi a b m p=>(k i a b m p).mp<|h i<|fm.mpr (bN.mp m).1
 .intro h i q;have g:=fm.mp q;subst h;exact(k i f[i] f[i] (by simp)<|by simp).mpr rfl
theorem RW{P:Nat->Bool->Prop}(h:∀j,∃b,P j b):∃e:Nat->Bool,∀j,P j (e j):=#[λj=>Classical.choose<|h j,λj=>ub<|h j]
theorem Jx{A:Ar}{its its':Vs}{ds ds':List Dt}(o:its.length=ds.length)(p:its'.length=ds'.length)(h:∀(j:Nat) u f d a,its[j]?=some u->its'[j]?=some f->ds[j]?=some d->ds'[j]?=some a->∃b,SeqAt.EqAt A s u f b/\(b=true↔d=a)):
  ∃e:Nat->Bool,(∀j i (k:j<its'.toArray.size),SeqAt.EqAt A s its.toArray[j] its'.toArray[j] (e j))/\∀j d a,ds[j]?=some d->ds'[j]?=some a->(e j=true↔d=a):=by
 obtain⟨e,l⟩:=RW (P:=λj b=>(∀u f,its[j]?=some u->its'[j]?=some f->SeqAt.EqAt A s u f b)/\∀d a,ds[j]?=some d->ds'[j]?=some a->(b=true↔d=a)) λj=>by
  by_cases g:j<its.length/\j<its'.length
  .obtain⟨b,m,n⟩:=h j its[j] its'[j] (ds[j]'()) (ds'[j]'()) (by simp) (by simp) (List.getElem?_eq_getElem _)<|List.getElem?_eq_getElem _;refine#[b,λu f q c=>?_,λd a q c=>?_]
   .rw[bC g.1]at q;rw[bC g.2]at c;cases q;cases c;exact m
   .rw[bC ()]at q;rw[bC ()]at c;cases q;cases c;exact n
  .refine#[true,λu f q c=>wC #[(bN.mp q).1,(bN.mp c).1] g,λd a q c=>?_];have r:=(bN.mp q).1;have t:=(bN.mp c).1;exact wC #[(),()] g
 refine#[e,λj i k=>?_,λj=>(l j).2];exact(l j).1 _ _ (by simp)<|by simp
theorem EC(I:Inv X k c H s){A:Ar}(m:A.units<cLine)(r:Rep X.K H (n+1) d (.ref a))(r':Rep X.K H (n+1) o (.ref t))(ih:∀{d o} {v v'} {u O},Rep X.K H n d v->Rep X.K H n o v'->RelV v u->RelV v' O->∃b,SeqAt.EqAt A.in1 s u O b/\(b=true↔d=o)):
  ∃b,SeqAt.RcAt A s (.ref a) (.ref t) b/\SeqAt.RcNeAt A s (.ref a) (.ref t) (!b)/\(b=true↔d=o):=by
 cases r with
 | @lst _ ds _ y h hl Q=>
  obtain⟨its,B,p,_⟩:=I.list h;have l1:=B.length;cases r' with
  | @lst _ ds' _ f w x l=>
   obtain⟨its',g,i,_⟩:=I.list w;have l2:=g.length;by_cases C:ds.length=ds'.length
   .obtain⟨e,D,T⟩:=Jx (A:=A.in1) (s:=s) (its:=its) (its':=its') (ds:=ds) (ds':=ds') () () λj u O d o U Y E G=>by
     have g1:=(bN.mp E).1;have g2:=(bN.mp G).1;have J:y[j]?=some (y[j]'()):=bC _;have L:f[j]?=some (f[j]'()):=bC _;obtain⟨w1,M,y1⟩:=B.get J;obtain⟨w2,N,y2⟩:=g.get L;rw[U]at M;rw[Y]at N;cases M;cases N;exact ih (Q j d _ E J) (l j o _ G L) y1 y2
    have q:its.toArray.size=its'.toArray.size:=by simp;lia
    refine#[_,SeqAt.RcAt.lists p.isList i.isList q m D,SeqAt.RcNeAt.lists p.isList i.isList q m D,?_];rw[Lu C (by simp;lia) T];exact#[λz=>by rw[z],λz=>by cases z;rfl]
   .have q:(its.toArray.size != its'.toArray.size)=true:=by
     rw[bne_iff_ne];simp;lia
    refine#[false,SeqAt.RcAt.lists_lengths p.isList i.isList q m,SeqAt.RcNeAt.lists_lengths p.isList i.isList q m,#[λz=>(by cases z),λz=>?_]];cases z;exact wC zZ C
  | @tup _ ds' _ f w x l=>
   obtain⟨its',g,i,_⟩:=I.tuple w;exact#[false,SeqAt.RcAt.list_tuple p.isList (i) m,SeqAt.RcNeAt.list_tuple p.isList (i) m,#[λz=>(by cases z),λz=>(by cases z)]]
 | @tup _ ds _ y h hl Q=>
  obtain⟨its,B,p,_⟩:=I.tuple h;have l1:=B.length;cases r' with
  | @lst _ ds' _ f w x l=>
   obtain⟨its',g,i,_⟩:=I.list w;exact#[false,SeqAt.RcAt.tuple_list (p) i.isList m,SeqAt.RcNeAt.tuple_list (p) i.isList m,#[λz=>(by cases z),λz=>(by cases z)]]
  | @tup _ ds' _ f w x l=>
   obtain⟨its',g,i,_⟩:=I.tuple w;have l2:=g.length;obtain⟨e,D,T⟩:=Jx (A:=A.in1) (s:=s) (its:=its) (its':=its') (ds:=ds) (ds':=ds') () () λj u O d o U Y E G=>by
     have g1:=(bN.mp E).1;have g2:=(bN.mp G).1;have J:y[j]?=some (y[j]'()):=bC _;have L:f[j]?=some (f[j]'()):=bC _;obtain⟨w1,M,y1⟩:=B.get J;obtain⟨w2,N,y2⟩:=g.get L;rw[U]at M;rw[Y]at N;cases M;cases N;exact ih (Q j d _ E J) (l j o _ G L) y1 y2
   refine#[_,SeqAt.RcAt.tuples (p) (i) m D,SeqAt.RcNeAt.tuples (p) (i) m D,?_];by_cases C:ds.length=ds'.length
   .have q:(its.toArray.size==its'.toArray.size)=true:=by
     rw[oQ];simp;lia
    rw[q,Bool.and_true,Lu C (by simp;lia) T];exact#[λz=>by rw[z],λz=>by cases z;rfl]
   .have q:(its.toArray.size==its'.toArray.size)=false:=by
     rw[qm];simp;lia
    rw[q,Bool.and_false];refine#[λz=>(by cases z),λz=>?_];cases z;exact wC zZ C
theorem J9(r:Rep X.K H n d v)(c:Rep X.K H m b a)(f:jh v=true)(e:jh a=true):(ko v a=true↔d=b):=by
 cases r<;>first|(cases f;done)|skip
 all_goals (cases c<;>first|(cases e;done)|skip)
 all_goals first|exact#[λ_=>rfl,λ_=>rfl]|exact#[λz=>Bool.noConfusion z,λz=>by cases z]|exact#[λz=>cH Dt.int<|eq_of_beq z,λz=>by injection z with z;exact oQ.mpr z]|exact#[λz=>cH Dt.str<|eq_of_beq z,λz=>by injection z with z;exact oQ.mpr z]
theorem Bg(I:Inv X k c H s):∀n {A:Ar},A.units+n<cLine->∀{d y} {v o} {u B},Rep X.K H n d v->Rep X.K H n y o->RelV v u->RelV o B->∃b,SeqAt.EqAt A s u B b/\(b=true↔d=y):=by
 intro n
 induction n with
 |zero=>
  intro A M d y v o u B r g q j;have f:jh v=true:=by cases r<;>rfl
  have e:jh o=true:=by cases g<;>rfl
  exact#[_,zC q j f e,J9 r g f e]
 | succ n N=>
  intro A M d y v o u B r g q j;by_cases f:jh v=true
  .by_cases e:jh o=true
   .exact#[_,zC q j f e,J9 r g f e]
   .refine#[false,?_,#[λz=>(by cases z),λz=>?_]]
    .cases g with
     |non=>exact wC zZ e
     |int=>exact wC zZ e
     |str=>exact wC zZ e
     | @lst _ C a D h E G=>
      cases j;obtain⟨l,_,p,_⟩:=I.list h;cases r with
      |non=>cases q;exact SeqAt.EqAt.none_list p.isList ()
      |int _ i=>obtain⟨t,rfl⟩:=q;exact SeqAt.EqAt.int_list i t p.isList ()
      |str _ x=>obtain⟨t,rfl⟩:=q;exact SeqAt.EqAt.str_list x t p.isList ()
      |lst _ _ _=>cases f
      |tup _ _ _=>cases f
     | @tup _ C a D h E G=>
      cases j;obtain⟨l,_,p,_⟩:=I.tuple h;have w:=p;cases r with
      |non=>cases q;exact SeqAt.EqAt.none_tuple w ()
      |int _ i=>obtain⟨t,rfl⟩:=q;exact SeqAt.EqAt.int_tuple i t w ()
      |str _ x=>obtain⟨t,rfl⟩:=q;exact SeqAt.EqAt.str_tuple x t w ()
      |lst _ _ _=>cases f
      |tup _ _ _=>cases f
    .subst z;cases r<;>first|(cases f;done)|skip
     all_goals (cases g;exact wC zZ e)
  .by_cases e:jh o=true
   .refine#[false,?_,#[λz=>(by cases z),λz=>?_]]
    .cases r with
     |non=>exact wC zZ f
     |int=>exact wC zZ f
     |str=>exact wC zZ f
     | @lst _ C a D h E G=>
      cases q;obtain⟨l,_,p,_⟩:=I.list h;cases g with
      |non=>cases j;exact SeqAt.EqAt.list_none p.isList ()
      |int _ i=>obtain⟨t,rfl⟩:=j;exact SeqAt.EqAt.list_int i t p.isList ()
      |str _ x=>obtain⟨t,rfl⟩:=j;exact SeqAt.EqAt.list_str x t p.isList ()
      |lst _ _ _=>cases e
      |tup _ _ _=>cases e
     | @tup _ C a D h E G=>
      cases q;obtain⟨l,_,p,_⟩:=I.tuple h;have w:=p;cases g with
      |non=>cases j;exact SeqAt.EqAt.tuple_none w ()
      |int _ i=>obtain⟨t,rfl⟩:=j;exact SeqAt.EqAt.tuple_int i t w ()
      |str _ x=>obtain⟨t,rfl⟩:=j;exact SeqAt.EqAt.tuple_str x t w ()
      |lst _ _ _=>cases e
      |tup _ _ _=>cases e
    .subst z;cases g<;>first|(cases e;done)|skip
     all_goals (cases r;exact wC zZ f)
   .have J:∀{m:Nat} {d:Dt} {v:V},Rep X.K H m d v-> ¬jh v=true->∃a,v=.ref a:=λ{m d v} r f=>by
     cases r<;>first|exact#[_,zZ]|exact wC zZ f
    obtain⟨a,rfl⟩:=J r f;obtain⟨O,rfl⟩:=J g e;cases q;cases j;by_cases L:a=O
    .subst L;exact#[true,SeqAt.EqAt.same _,#[λ_=>HM I (n+1) r g,λ_=>rfl]]
    .obtain⟨b,Q,_,T⟩:=EC I (A:=A) () r g λr g q j=>N (A:=A.in1) (by lia) r g q j;exact#[b,.of_refs L Q,T]
inductive lE(K:V3)(c:Bool)(x y:V)(H:Hp)(Q:VK):Prop|mk:∀a e n d f,x=.ref a->y=.ref e->Rep K H (n+1) d (.ref a)->Rep K H (n+1) f (.ref e)->n<=30->(∀b,(b=true↔d=f)->Q (.bl (if c then !b else b)) H)->lE K c x y H Q
theorem DR(m:X.A.units+64<cLine):OpR X (compareOp .Eq) (lE X.K false):=by
 intro k s c H x y v u Q I f g h;obtain⟨a,o,n,d,p,rfl,rfl,r,e,t,q⟩:=h;cases f;cases g;obtain⟨b,i,_,j⟩:=EC I () r e λr e q l=>Bg I n (A:=X.A.in1) (by lia) r e q l;exact i _ _ _ _ #[.bl b,H,I,zZ,q b j]
theorem At(m:X.A.units+64<cLine):OpR X (compareOp .NotEq) (lE X.K true):=by
 intro k s c H x y v u Q I f g h;obtain⟨a,o,n,d,p,rfl,rfl,r,e,t,q⟩:=h;cases f;cases g;obtain⟨b,_,i,j⟩:=EC I () r e λr e q l=>Bg I n (A:=X.A.in1) (by lia) r e q l;exact i _ _ _ _ #[.bl<|!b,H,I,zZ,q b j]
end
theorem Qq{K:V3}{is:Zs}(i:Nat)(d)(v)(a:(is.map Dt.int)[i]?=some d)(b:(is.map V.int)[i]?=some v):Rep K H n d v:=by
 rw[bT]at a b;cases e:is[i]? with
 |none=>rw[e]at a;cases a
 |some k=>
  rw[e]at a b;cases a;cases b;exact .int n k
theorem Fo{K:V3}{is:Zs}(h:SqT K H a (is.map V.int)):Rep K H (n+1) (.tup (is.map Dt.int)) (.ref a):= .tup h (by simp) Qq
theorem ue{e i:Type}{f:e->i}(g:∀a b,f a=f b->a=b):∀{c d:List e},c.map f=d.map f->c=d
 | [],[],_=>rfl
 | [],_::_,h=>by simp at h
 |_::_,[],h=>by simp at h
 |a::c,b::d,h=>by
  simp only[List.map_cons,List.cons.injEq]at h;rw[g a b h.1,ue g h.2]
theorem pJ{c d:Zs}:Dt.lst (c.map Dt.int)=Dt.lst (d.map Dt.int)↔c=d:=
 #[λh=>by injection h with h;exact ue (λa b e=>by injection e) h,λh=>by rw[h]]
theorem oq{c d:Zs}:Dt.tup (c.map Dt.int)=Dt.tup (d.map Dt.int)↔c=d:=
 #[λh=>by injection h with h;exact ue (λa b e=>by injection e) h,λh=>by rw[h]]
noncomputable def mP(n:Nat):List V:=(List.range n).map λ(i:Nat)=>V.int (i:Int)
inductive om(a:List V)(H:Hp)(Q:VK):Prop|mk:∀j,a=[.int j]->(∀p,H p=none->Q (.ref p) (bx H p (.rng 0 j)))->om a H Q
theorem JD:iu X (.type "range") om:=by
 intro a s c H d f Q I r h;obtain⟨j,rfl,q⟩:=h;obtain⟨u,rfl,t,rfl⟩:=hV r;refine call_range_1 #[.ref s.heap.objs.size,_,I.laid (λb o e=>cI _ e) (bR _)<|show ObjOk X.prog X.w _ _ _ (.rng 0 j)from#[_,_,_,dE _ zZ],zZ,q _<|I.hok.fresh<|bR _]
theorem LX{f:AV}(h:ItemsOf (λi v=>∃t,v=Value.int ((0:Int)+(i:Nat) * 1) t) f n):Vals (mP n) f.toList:=by
 obtain⟨l,m⟩:=h;have go:∀(d:List V) (c:Vs),d.length=c.length->(∀(j:Nat) x u,d[j]?=some x->c[j]?=some u->RelV x u)->Vals d c:=by
  intro d
  induction d with
  |nil=>intro c g _;cases c with
   |nil=>exact .nil
   |cons=>simp at g
  |cons x d o=>
   intro c g h;cases c with
   |nil=>simp at g
   |cons u c=>exact .cons (h 0 x u zZ zZ)<|o c (by simpa using g) λj a b e k=>h (j+1) a b (by simpa using e)<|by simpa using k
 refine go _ _ (by simp[mP,l]) λj x u e k=>?_;obtain⟨t,rfl⟩:=m j u (by simpa using k);unfold mP at e;rw[bT]at e;have p:j<n:=by
  have:=(bN.mp k).1;simpa[l]using this
 rw[n9 p]at e;cases e;refine#[t,?_]
 congr 1
 lia
theorem Jv(a:0<=j)(b:j<=1000000):Builtin.Range.small 0 j 1=true:=small_one (by decide) (by decide) () ()
theorem Mz(a:0<=j):Builtin.Range.rangeSize 0 j 1=(j.toNat:Nat):=by
 rw[rangeSize_one];split<;>lia
inductive jr(a:List V)(H:Hp)(Q:VK):Prop|mk:∀p j,a=[.ref p]->H p=some (.rng 0 j)->0<=j->j<=1000000->(∀l,H l=none->Q (.ref l) (bx H l (.lst (mP j.toNat))))->jr a H Q
theorem Rr(g:X.calm=true):iu X (.type "list") jr:=by
 intro w s x H y z Q I r h;obtain⟨p,j,rfl,i,c,k,q⟩:=h;obtain⟨u,rfl,l⟩:=hV r;cases l;obtain⟨A,B,C,e⟩:=I.hok p _ i;refine call_list_range (I.ok.hd g) e (Jv c k) (Mz c) () λd m a f n o b=>?_;have t:=LX b;have v:d.get? s.heap.objs.size=some {cls:= .type "list",data:= .seq a.toList.toArray f}:=by simp_all
 exact#[.ref s.heap.objs.size,_,I.laid n (bR _)<|show ObjOk X.prog X.w _ d _ (.lst<|mP j.toNat)from#[by rw[cq];simp[mP];lia,a.toList,f,t,v],zZ,q _<|I.hok.fresh<|Nat.le_refl _]
section
open AutoSeq1 (wpAny_loadPart')
abbrev Es(j:Int)(a:AV):Prop:=ItemsOf (λi v=>∃t,v=Value.int ((0:Int)+(i:Nat) * 1) t) a j.toNat
theorem Oa{k:Pg}{A:Ar}{E:VP}{s:Sh}{Q:Vs->Sh->Prop}{r:Ad}(C:A.handled=none)(y:IsRange s.heap r 0 j 1 t u v)(B:0<=j)(D:j<=1000000)(G:∀d i c,(∀b o,s.heap.get? b=some o->d.get? b=some o)->Es j c->Q c.toList {s with heap:=d,toks:=i}):wpAny (model k w) A (collect (.ref r)) Q E s:=by
 have H:(s.heap.push {cls:= .type "list",data:= .seq ([]:Vs).toArray}).get? s.heap.objs.size=some {cls:= .type "list",data:= .seq #v[] 0}:=by exact dE _ rfl
 unfold collect;refine wpAny_bind<|wpAny_runValue<|codeAny_builtin F.entry_proto_collect ?_;rw[Around.under_plainId F.plain_proto_collect _];refine bz<|qe<|bJ #[vb F.plain_list_iadd _,o0 F.entry_list_iadd ?_];rw[rf F.plain_list_iadd _];have m:∀n,(∃d i c p,n={s with heap:=d,toks:=i}/\(∀b o,s.heap.get? b=some o->d.get? b=some o)/\d.get? s.heap.objs.size=some {cls:= .type "list",dict:=none,data:= .seq c p,slots:= #v[]}/\Es j c)->
   wpAny (model k w) A (match Value.ref s.heap.objs.size with
    | Value.ref a=>do
     let o <-load a
     match o.data with
      |Data.seq I _=>pure I.toList
      |_=>unsupported "internal:collect"
    |_=>unsupported "internal:collect") Q E n:=by
  rintro n ⟨d,i,c,p,rfl,z,q,x⟩;exact bz<|wpAny_load q<|bJ<|G d i c z x
 refine iB (wpAny_extend_range (A:=A) (R:=λr n=>r=.ok (.ret<|.ref s.heap.objs.size)/\∃d i c p,n={s with heap:=d,toks:=i}/\(∀b o,s.heap.get? b=some o->d.get? b=some o)/\d.get? s.heap.objs.size=some {cls:= .type "list",dict:=none,data:= .seq c p,slots:= #v[]}/\Es j c)
  (s:={s with heap:=s.heap.push {cls:= .type "list",data:= .seq ([]:Vs).toArray}}) C (cI _ y) (Jv B D) (Mz B) () _ (.ref s.heap.objs.size) 0 H λd i c p z q x=>
   #[zZ,d,i,c,p,zZ,λb o e=>z b o (dr<|cy e)<|cI _ e,q,x]) (λfin n h=>?_)<|λe n h=>wC h.1<|by simp
 cases fin with
 |done f=>obtain⟨e,g⟩:=h;cases e;exact m _ g
 |again p=>exact#[h.1,nX h.2 λr J y=>by obtain⟨rfl,g⟩:=y;exact m _ g]
theorem R9(r:Ad)(j)(t u v)(q:0<=j)(x:j<=1000000):Meets (Builtin.«tuple.__new__» #[[.type "tuple",.ref r],[]]) (λA R s=>A.handled=none/\IsRange s.heap r 0 j 1 t u v/\∀(c:Heap) i a,(∀b o,s.heap.get? b=some o->c.get? b=some o)->Es j a->
   R (.ok (.ret (.ref c.objs.size))) {s with heap:=c.push {cls:= .type "tuple",data:= .seq a},toks:=i}):=
 .of_wp λn w A R s h=>by
  obtain⟨y,g,d,i,os⟩:=s;obtain⟨z,k,h⟩:=h;have p:=sub_tuple_self;have l:=init_tuple_lookup;have B:=madeHere_tuple
  have hT:Shared.TypeIs #[y,g,d,i,os] (.ref r) "range":=#[_,k,zZ]
  wp_walk using D2 k,wpAny_typeOf hT,Oa (A:=A.in1) z k q x
  intro c m a C f;show wpAny _ _ (Builtin.Tuple.tupleExact a.toList.toArray >>= λv=>ret v) _ _ _;have D:a.toList.toArray.size<=sizeLine:=by
   have:=f.1;rw[cq];simp;lia
  unfold Builtin.Tuple.tupleExact;refine wpAny_bind<|wpAny_newObj_type (wpAny_pure #[_,zZ,?_]) D;have e:a.toList.toArray=a:=by simp
  rw[e];exact h c m a C f
end
inductive mq(a:List V)(H:Hp)(Q:VK):Prop|mk:∀p j,a=[.ref p]->H p=some (.rng 0 j)->0<=j->j<=1000000->(∀l,H l=none->Q (.ref l) (bx H l (.tup (mP j.toNat))))->mq a H Q
theorem Qo(m:X.calm=true):iu X (.type "tuple") mq:=by
 intro i s k H E G Q I r h;obtain⟨p,j,rfl,n,t,v,q⟩:=h;obtain⟨u,rfl,w⟩:=hV r;cases w;obtain⟨x,y,z,e⟩:=I.hok p _ n;refine callType_new F.called_tuple (by decide) (F.typeCall_tuple_1 _) (F.newCall_tuple_1 _) (λd=>F.args_object_init_2 d _) F.entry_tuple_new (R9 p j x y z t v) #[I.ok.hd m,e,λc f a A g=>#[#[_,dE _ zZ,zZ],?_]];have l:Inv X i k H {s with heap:=c,toks:=f}:=I.kept A;have C:(mP j.toNat).length<=sizeLine:=by rw[cq];simp[mP];lia
 have D:=
  l.laid (t':=f) (λb o e=>cI _ e) (bR _)<|show ObjOk X.prog X.w _ _ _ (.tup<|mP j.toNat)from#[C,a.toList,(LX g),by simpa using TupD.new c a]
 exact#[.ref c.objs.size,_,D,zZ,q _<|l.hok.fresh<|bR _]
inductive z7(K:V3)(a:List V)(H:Hp)(Q:VK):Prop|mk:∀x n t b,a=[x,.ty n]->TyOf K H x t->W.kitOne K t (.type n)=some b->Q (.bl b) H->z7 K a H Q
theorem qp:iu X (.builtin "isinstance") (z7 X.K):=by
 intro f s g H i j Q I r h;obtain⟨x,n,t,b,rfl,ty,e,q⟩:=h;obtain⟨u,k,rfl,a,c⟩:=AH r;cases c;exact Ug I a ty e λd=>#[.bl b,H,I.tok d,zZ,q]
structure CompSc(N:Ss)(osc:Scope)(vs:Ss)(sc:Scope):Prop where
 kind:sc.kind=.function:=by rfl
 cell:∀y∈sc.names,y.2≠ .cell:=by decide+kernel
 locs:∀y∈sc.names,y.2=.local->sc.names.lookup y.1=some .local:=by decide+kernel
 own:∀y∈N.map (oT vs),sc.names.lookup y≠some .local:=by decide+kernel
 hid:∀y∈vs,sc.names.lookup (Fc y)=none:=by decide+kernel
 nd:(vs++N.map (oT vs)).Nodup:=by decide+kernel
 free:∀y∈sc.names,y.2=.free->osc.names.lookup y.1=some .cell\/osc.names.lookup y.1=some .free:=by decide+kernel
theorem CompSc.to{X:Cx}(h:CompSc N osc vs a)(b:X.N=N:=by rfl)(c:X.env.scope=osc:=by rfl):CompScope X vs a:=by
 subst b c;exact#[h.kind,h.cell,h.locs,h.own,h.hid,h.nd,h.free]
def cn(P:Pg)(w:World)(K:V3)(mg:SV)(a:Heap)(x:Str)(k:Nat)(b:Ss)(d:Sp):Prop:=
 ∃f c,FnOk P w K mg a bZ k f c b d/\mg x=some (.ref f)/\W.keepIn K (.ref f)=true/\Binds K c b []
theorem ck{p d:Pos}(c:cn X.prog X.w X.K X.mg X.base x k h g)(i:Room k X.A)(j:Gl X x)(l:PA X (e::a) t)(n:(x==("__debug__":Str))=false:=by decide) (o:starEach (e::a) X.env=(false,eval e X.env)::starEach a X.env:=by rfl) (q:(backTo d (starEach a X.env)).any (·.1)=false:=by rfl):
  PE X (.Call (.Name x p) (e::a) [] d) (Cs g [] E0 t):=by
 obtain⟨f,s,F,m,r,b⟩:=c;exact NI F i j m r b .nil An l n o q
theorem qq{a:Pos}(b:Gl X x)(c:X.mg x=none)(d:bootBuiltins x=some (.type n))(e:x≠"__name__":=by decide)(f:(x==("__debug__":Str))=false:=by decide):PE X (.Name x a) (tC (.ty n)):=
 Ol b c d (rfl) e f
theorem IxR.k{K:V3}(r:V3->R2)(h:IxR X (r X.K))(a:X.K=K):IxR X (r K):=a▸h
theorem OpR.k{K:V3}(r:V3->R2)(h:OpR X f (r X.K))(a:X.K=K):OpR X f (r K):=a▸h
theorem bP(h:H p=none)(o):Same H (bx H p o):=λb u q=>by rw[bI<|cQ q h];exact q
theorem small(h:n<=1000):n<=sizeLine:=eZ<|O4 h
abbrev nv(n:Nat):V:= .int (n:Int)
theorem SI(a:bw):a.map nv=(a.map λ(n:Nat)=>(n:Int)).map V.int:=by rw[eM];rfl
theorem Mc{c d:bw}:(c.map λ(n:Nat)=>(n:Int))=(d.map λ(n:Nat)=>(n:Int))↔c=d:=
 #[λh=>ue (λa b e=>Bo e) h,λh=>by rw[h]]
theorem iD{K:V3}{is:bw}(h:SqT K H a (is.map nv)):Rep K H (n+1) (.tup ((is.map λ(n:Nat)=>(n:Int)).map Dt.int)) (.ref a):=Fo (by rw[<-SI];exact h)
theorem px{a b:bw}:Dt.lst ((a.map λ(n:Nat)=>(n:Int)).map Dt.int)=Dt.lst ((b.map λ(n:Nat)=>(n:Int)).map Dt.int)↔a=b:=pJ.trans Mc
theorem cM{a b:bw}:Dt.tup ((a.map λ(n:Nat)=>(n:Int)).map Dt.int)=Dt.tup ((b.map λ(n:Nat)=>(n:Int)).map Dt.int)↔a=b:=oq.trans Mc
theorem sv{a:bw}(h:k<a.length):fL (a.map nv) (k:Int)=some (nv (a.getD k 0)):=fE (by rw[bT,bC h,cW,bC h];rfl)
def yj(H:Hp)(b:List V)(Q:VK):Prop:=∀r a,Same H a->a r=some (.tup b)->Q (.ref r) a
def Ij(t:TS):TS:=λD c H=>∃S,t {D with nx:=S} c H/\∀a b,S a b->D.nx a b
theorem vy{st:Stmt}(h:PS X st t):PS X st (Ij t):=by
 intro c s d H D I q;obtain⟨S,e,g⟩:=q;refine bS (h c s d H _ I e) λf j z=>?_;cases f with
 |next=>obtain⟨a,b,i,z⟩:=z;exact#[a,b,i,g a b z]
 |brk=>exact z
 |cont=>exact z
 |ret u=>exact z
theorem Am{c A B:Prop}[Decidable c](a:c)(h:A):if decide c=true then A else B:=by
 rw[wB<|cK a];exact h
theorem Az{c A B:Prop}[Decidable c](a: ¬c)(h:B):if decide c=true then A else B:=by grind
theorem gh(g:Same H a)(c:H l=none):Same H (bx a l o):=λb u e=>by rw[bI<|cQ e c];exact g b u e
theorem J5{a:Zs}(h:k<a.length):fL (a.map V.int) (k:Int)=some (.int (a.getD k 0)):=fE (by rw[bT,bC h,cW,bC h];rfl)
theorem Dn(h:k<n):nY n (k:Int)=some k:=by
 unfold nY;rw[wB (),wB (),hY]
theorem df(c){n:Nat}(h:1<=n):V.int (c%(n:Int))=nv (c%(n:Int)).toNat/\(c%(n:Int)).toNat<n:=by
 have b:=Hv c (by lia:(0:Int)<(n:Int));refine#[?_,()];show V.int _=V.int (((c%(n:Int)).toNat:Nat):Int);rw[Int.toNat_of_nonneg<|IK c<|by grind]
theorem BV(a:bw)(j v):(a.map nv).set j (nv v)=(a.set j v).map nv:=(List.map_set).symm
theorem DJ{a:bw}(h:∀y∈a,y<n)(b:v<n):∀y∈a.set j v,y<n:=by grind
theorem xj{a:bw}(h:∀y∈a,y<n)(b:j<a.length):a.getD j 0<n:=by simp_all
theorem S0{K:V3}:W.kitOne K (.type "int") (.type "int")=some true:=zZ
theorem Qf{K:V3}:W.kitOne K (.type "int") (.type "bool")=some false:=zZ
theorem ED{K:V3}:W.kitOne K (.type "tuple") (.type "tuple")=some true:=zZ
theorem U2{P:Pg}{a:Ad}[DecidableEq c]{kd:HeapKind P w c}(d:(a==sysModules)=false):
  MeetsIn P w (Builtin.«dict.__len__» #[[.ref a],[]]) λ_ R s=>∃b,s.heap.DictOfH kd a b/\R (.ok (.ret (.int b.length s.toks))) {s with toks:=s.toks+1}:=
 .of_wp λA R s ⟨b,e,q⟩=>by
  obtain⟨k,f,l,g,m,h,i,_⟩:=e;show wpAny _ _ (dictSize a >>= _) _ _ s;refine bz<|bz<|vx g h<|bJ<|bz<|wpAny_pendingCount_other d<|wpAny_ret_mkInt ?_;rw[BO,(DY i)];exact q
theorem Qw{P:Pg}{A:Ar}{E:VP}{s:Sh}{a:Ad}[DecidableEq c]{e:HeapKind P w c}{b:List (c×Ad×Vl)}{Q:VP}(f:(a==sysModules)=false)(d:s.heap.DictOfH e a b) (few:(b.length:Int)<2 ^ 63) (q:Q (.int b.length (s.toks+1)) {s with toks:=s.toks+1+1}):wpAny (model P w) A (Builtin.«len» #[[.ref a],[]]) (λfin g=>∃r,fin=.done (.ret r)/\Q r g) E s:=by
 have h: ¬((b.length:Nat):Int)<0:=by lia
 have i: ¬((b.length:Nat):Int)>=2 ^ 63:=by lia
 refine bz<|bJ<|bz ?_;refine vc d.typeIs F.slot_dict_len<|call_meetsIn F.slot_dict_len d.typeIs F.entry_dict_len (F.args_dict_len_1 _) (U2 f) #[b,d,?_];refine bz<|jg<|bJ<|bz<|wpAny_letGo ?_;rw[wA h,wA i];exact bz<|nB<|bJ #[_,zZ,q]
inductive gb(c:List V)(H:Hp)(Q:VK):Prop|mk:∀a b,c=[V.ref a]->H a=some (.dT b)->Q (.int b.length) H->gb c H Q
theorem UH:iu X (.builtin "len") gb:=by
 intro k s l H m n Q I r h;obtain⟨a,b,rfl,e,q⟩:=h;obtain⟨u,rfl,f⟩:=hV r;cases f;obtain⟨z,g,i,c,j⟩:=FO I.hok e;have d:=qg c;refine IS kind_len plain_len entry_len (args_len1 _)<|Qw g j (by rw[<-d];rw[cq]at z;lia) #[.int b.length,H,I.tok _,#[_,by rw[d]],q]
noncomputable def nk(a:bw):List cE:=a.map λ(n:Nat)=>(Sum.inl (n:Int):cE)
theorem jI(a):(nk a).map kV=a.map nv:=by
 unfold nk;rw[eM];rfl
theorem DU(h:nk c=nk d):c=d:=by
 exact ue (λa b e=>by injection e with e;exact Bo e) h
inductive oo(K:V3)(x y:V)(H:Hp)(Q:VK):Prop|mk:∀l b a c,x=.ref l->y=.ref b->SqL K H l a->SqL K H b c->a.length+c.length<=sizeLine->(∀p,H p=none->Q (.ref p) (bx H p (.lst (a++c))))->oo K x y H Q
theorem DV:OpR X (binaryOp .Add) (oo X.K):=by
 intro E s G H x y v u Q I p t h;obtain⟨l,b,J,L,rfl,rfl,w,z,M,q⟩:=h;cases p;cases t;obtain⟨c,r,⟨⟨N,O,T,A⟩,n,e,i,j,k⟩,_⟩:=I.list w;obtain⟨a,m,⟨⟨U,Y,k2,B⟩,C,o,d,f,g⟩,_⟩:=I.list z;subst i j k d f g;have l1:=r.length;have l2:=m.length;have D:c.toArray++a.toArray=(c++a).toArray:=by simp
 refine concat_meets #[_,e,zZ] #[_,o,zZ] noFill_list_add seq_list_add F.slot_list_add F.entry_list_add (F.args_list_add_2 _ _) (list_addW l b c.toArray a.toArray n C none none A B (by simp;lia)) #[e,o,?_];rw[D];exact#[.ref _,_,I.lnew (r.append m) (by rw[cC];lia),zZ,q _ I.fresh]
inductive Bk(K:V3)(a:List V)(H:Hp)(Q:VK):Prop|mk:∀p (bs:List Bool),a=[.ref p]->SqL K H p (bs.map V.bl)->Q (.bl (bs.all id)) H->Bk K a H Q
theorem FR(n:X.calm=true):iu X (.builtin "all") (Bk X.K):=by
 intro G s J H L M Q I r h;obtain⟨p,bs,rfl,t,q⟩:=h;obtain⟨u,rfl,w⟩:=hV r;cases w;obtain⟨a,g,j,_⟩:=I.list t;have k:=j.isList;have c:a.length=bs.length:=by rw[<-g.length,bA]
 refine call_all_walk (BR k #[_,_,_,_,_,_,λi=>bs.getD i false,zZ,Walks.list (A:=X.A.in1) (I.ok.hd n) _ p (dr j.lt) a.toArray,#[#[_,dE _ zZ,zZ,zZ],k.push _],?_,λN O y=>?_])
 .intro i v T U Y B C;have d:a[i]?=some v:=by simpa using B
  have l:i<bs.length:=by rw[<-c];exact(bN.mp d).1
  obtain⟨u2,m,D⟩:=g.get (x:= .bl (bs.getD i false)) (by rw[bT,bC l,cW,bC l];rfl);rw[d]at m;cases m;cases(D);exact on C
 .have e:(List.range a.toArray.size).all (λi=>bs.getD i false)=bs.all id:=by
   rw[dU,c];have:bs=(List.range bs.length).map λi=>bs.getD i false:=by
    refine D9 (by simp) λi E h2=>?_;simp[List.getD_eq_getElem?_getD,E]
   conv=>rhs;rw[this,ww]
   rfl
  rw[e];exact#[.bl (bs.all id),H,I.kept λb o z=>y b o (by simp;exact Nat.ne_of_lt (Heap.lt_size z)) (Heap.get?_push_of_some _ z),zZ,q]
abbrev TJ:=Str->St->Hp->(Str->Hp->Prop)->Prop
def PJ(X:Cx)(e:List Expr)(t:TJ):Prop:=∀c s (b:St) H a Q,Inv X c b H s->t a b H Q->
 wpAny (model X.prog X.w) X.A (joinParts a (evalEach e X.env)) (λu f=>∃x d,Inv X c b d f/\RelV (.str x) u/\Q x d) X.xe s
def F4:TJ:=λa _ H Q=>a.length<=sizeLine/\Q a H
def Fp(x:Str)(t:TJ):TJ:=λa b H Q=>(a++x).length<=sizeLine/\t (a++x) b H Q
inductive sw(t:TJ)(a:Str)(b:St)(v:V)(c:Hp)(Q:Str->Hp->Prop):Prop|mk:∀i,v=.int i->i.natAbs.log2<1920->(a++Str.ofString (toString i)).length<=sizeLine->t (a++Str.ofString (toString i)) b c Q->sw t a b v c Q
def FC(c:TE)(t:TJ):TJ:=λa b H Q=>c b H λv d=>sw t a b v d Q
theorem F0:PJ X [] F4:=λb s c H a Q I h=>joinParts_nil #[a,H,I.tok _,#[_,zZ],h.2] h.1
theorem GH(d:PJ X b t):PJ X (.Constant (.str x) j a::b) (Fp x t):=by
 intro e s f H c Q I h;exact joinParts_cons<|Calls.Constant_str #[h.1,d e _ f H _ Q (I.tok _) h.2]
theorem Ku(j:PE X e d)(k:PJ X b t):PJ X (.FormattedValue e (-1) none a::b) (FC d t):=by
 intro f s g H c Q I h;refine joinParts_cons<|FormattedValue_plain<|bS (j f s g H _ I h) λv u ⟨y,l,m,n,i,o,p,r,q⟩=>?_;subst o;obtain⟨w,rfl⟩:=n;exact formatField_int_small p #[r,k f _ g l _ Q (m.tok _) q]
theorem EN(h:PJ X (c::d::e) t):PE X (.JoinedStr (c::d::e) a) (λb H Q=>t Str.empty b H λx f=>Q (.str x) f):=by
 intro g s b H Q I i;exact JoinedStr_many<|bS (h g s b H Str.empty _ I i) λu l ⟨x,j,k,r,q⟩=>#[.str x,j,k,r,q]
theorem Og{a:Ss}:∀{b:Vs},Vals (a.map V.str) b->StrsAre b a:=by
 induction a with
 |nil=>intro b r;cases r;exact .nil
 | cons x a c=>
  intro b r;cases r with
  |cons d e=>
   obtain⟨t,rfl⟩:=d;exact .cons x t<|c e
inductive rk(K:V3)(x:V)(b:List V)(H:Hp)(Q:VK):Prop|mk:∀z l (a:Ss),x=.str z->b=[.ref l]->SqL K H l (a.map V.str)->z.length<=16->(a.map (·.length)).sum+a.length<=1048576->Q (.str (Txt.join z a)) H->rk K x b H Q
theorem xx:mZ X "str.join" (rk X.K):=by
 intro j s m H x n v o Q I a b h;obtain⟨z,l,c,rfl,rfl,d,e,hw,q⟩:=h;obtain⟨t,rfl⟩:=a;obtain⟨u,rfl,f⟩:=b.one;cases f;obtain⟨g,r,i,_⟩:=I.list d;exact join_listW i.isList (Og r) e hw λp k=>#[.str<|Txt.join z c,H,I.tok _,#[_,zZ],q]
structure PL(X:Cx)(es:List Expr)(t:TA):Prop where
 pa:PA X es t
structure QE(X:Cx)(e:Expr)(t:TE):Prop where
 pe:PE X e t
structure QS(X:Cx)(st:Stmt)(t:TS):Prop where
 ps:PS X st t
structure QSs(X:Cx)(b:List Stmt)(t:TS):Prop where
 pss:PSs X b t
theorem bW:PL X [] lG:=#[bF]
theorem bB(a:PE X e d)(b:PL X c t)(f:starEach (e::c) X.env=(false,eval e X.env)::starEach c X.env):PL X (e::c) (lO d t):=#[bG a b.pa f]
theorem b8(h:PL X c t):PA X c t:=h.pa
theorem u8(a:QE X e d)(b:PL X c t)(f:starEach (e::c) X.env=(false,eval e X.env)::starEach c X.env):PL X (e::c) (lO d t):=#[bG a.pe b.pa f]
theorem ku(h:PE X e d):QE X e d:=#[h]
theorem BM(d:OpR X (binaryOp c) r)(e:QE X a g)(h:QE X b i):QE X (.BinOp a c b f) (yJ r g i):=#[cw d e.pe h.pe]
section
variable{st:Stmt}{rest:List Stmt}
theorem oP(h:PS X st t):QS X st t:=#[h]
theorem C2(b:QE X e c):QS X (.Return (some e) a) (v5 c):=#[cg b.pe]
theorem JQ(d:X.N.Nodup)(f:X.N[i]?=some x)(g:x6 X.env.scope x)(h:QE X e c)(j:swapsWith e (some (.Name x b)) a.line X.env=pure false)(k:X.fn x=true\/X.env.scope.names.lookup x=some .local):
  QS X (.Assign [.Name x b] e a) (oO c (gi i)):=#[cj d f g h.pe j k]
theorem xq(a:QS X st t):QSs X [st] t:=#[bM a.ps]
theorem nN(a:QS X st t)(b:QSs X rest u):QSs X (st::rest) (oi t u):=#[bK a.ps b.pss]
theorem zx(h:QSs X b t):PSs X b t:=h.pss
end
def Bm(op:CmpOp)(A:Ar)(s:Sh)(x y:Vl)(r:Bool):Prop:=
 ∀(P:Pg) w (E:VP) (Q:VP),Q (.bool r) s->wpAny (model P w) A (richCompare op x y) Q E s
inductive Cmp (op:CmpOp) (A:Ar) (s:Sh):List (Vl×Vl)->Option Bool->Prop where
 |nil:Cmp op A s [] none
 |eq {x y zs o}:SeqAt.EqAt A s x y true->Cmp op A s zs o->Cmp op A s ((x,y)::zs) o
 |ne {x y zs r}:SeqAt.EqAt A s x y false->Bm op A s x y r->Cmp op A s ((x,y)::zs) (some r)
def SeqObj(c:String)(h:Heap)(a:Ad)(b:Vs):Prop:=∃n d sl,h.get? a=some #[.type c,d,.seq b.toArray n,sl]
section
variable{P:Pg}{E:VP}
theorem PY{Q:i->Sh->Prop}(h:Cmp a A s j o)(k:∀x y Q,SeqAt.EqAt A s x y true->Q (.yield d) s->wpAny (model P w) A (f (x,y) d) Q E s)(no:∀x y r,SeqAt.EqAt A s x y false->Bm a A s x y r->o=some r->wpAny (model P w) A (f (x,y) d) (λt g=>match t with|.yield _=>False|.done b=>Q b g) E s)(fin:o=none->Q d s):wpAny (model P w) A (forIn j d f) Q E s:=by
 refine wpAny_forIn_list f (λrest b g=>b=d/\g=s/\Cmp a A s rest o) Q (λz rest b g q=>?_) (λb g q=>?_) j d #[zZ,zZ,h]
 .obtain⟨rfl,rfl,c⟩:=q;cases c with
  |eq e c=>exact k _ _ _ e #[zZ,zZ,c]
  |ne e c=>
   refine iB (no _ _ _ e c zZ) (λt l z=>?_) λ_ _ z=>z;cases t with
   |yield _=>exact z.elim
   |done _=>exact z
 .obtain⟨rfl,rfl,c⟩:=q;cases c;exact fin rfl
end
section
open AutoSeq1
open MeetsSeq MeetsSeq2 MeetsSeq3 SeqRoads2 SeqAt
variable{l b:Ad}
theorem Tt:Meets (Builtin.«tuple.__lt__» #[[.ref l,.ref b],[]]) (λA R s=>SeqObj "tuple" s.heap l a/\SeqObj "tuple" s.heap b d/\∃o,Cmp .Lt A.in1 s (a.zip d) o/\R (.ok (.ret (.bool (o.getD (decide (a.length<d.length)))))) s):=by
 refine .of_wp λP w A R ⟨h,p,t,k,os⟩ ⟨⟨n,u,sl,f⟩,⟨m,v,tl,i⟩,o,c,q⟩=>?_;have sub:=AutoSeq1.sub_tuple_tuple
 wp_walk using D2 f,D2 i
 refine PY c (λx y Q e z=>?_) (λx y r e j z=>?_)<|λz=>?_
 .refine bz<|e P w _ _ ?_
  wp_walk
  exact z
 .refine bz<|e P w _ _ ?_;generalize g:richCompare .Lt x y=ask
  wp_walk
  subst g;refine j P w _ _ ?_
  wp_walk
  subst z;exact#[_,zZ,q]
 .subst z
  wp_walk
  exact#[_,zZ,by simpa[Builtin.Tuple.tupleCompareSizes]using q]
end
noncomputable def gq:bw->List Nat->Option Bool
 |a::c,b::d=>if a=b then gq c d else some (decide (a<b))
 |_,_=>none
noncomputable def dF(a b:bw):Bool:=(gq a b).getD (decide (a.length<b.length))
theorem pz(b):dF b b=false:=by
 have no:gq b b=none:=by
  induction b with
  |nil=>rfl
  |cons a b c=>rw[gq,wB zZ,c]
 unfold dF;rw[no];simp
section
variable{A:Ar}{s:Sh}{l b:Ad}{a d:Vs}
theorem OV:Bm .Lt A s (.int i t) (.int j u) (decide (i<j)):=λP w E Q q=>lt_int q
theorem fu:SeqAt.EqAt A s (.int i t) (.int j u) (decide (i=j)):=by
 have z:=zC (A:=A) (s:=s) (y:= .int i) (x:= .int j) #[t,zZ] #[u,zZ] zZ rfl;have e:ko (.int i) (.int j)=decide (i=j):=by
  show(i==j)=_;by_cases h:i=j<;>simp[h]
 rwa[e]at z
theorem Jw(f:∀(i j:Nat) t u,i≠j->Bm op A s (.int (i:Int) t) (.int (j:Int) u) (F (decide (i<j)))):
  ∀{c b:bw} {a d:Vs},Vals (c.map nv) a->Vals (b.map nv) d->Cmp op A s (a.zip d) ((gq c b).map F)
 | [],b,_,_,.nil,_=>by rw[List.zip_nil_left,show gq [] b=none by cases b<;>rfl];exact .nil
 |n::c,[],_,_,.cons _ _,.nil=>by rw[List.zip_nil_right];exact .nil
 | n::c,m::b,_,_,.cons ⟨t,g⟩ h,.cons ⟨u,k⟩ l=>by
  subst g k;have z:=fu (A:=A) (s:=s) (i:=(n:Int)) (j:=(m:Int)) (t:=t) (u:=u);by_cases e:n=m
  .rw[cK ()]at z;rw[gq,wB e];exact .eq z<|Jw f h l
  .rw[eU ()]at z;rw[gq,wA e];exact .ne z<|f n m t u e
theorem Rf{c f:bw}(g:Vals (c.map nv) a)(h:Vals (f.map nv) d):Cmp .Lt A s (a.zip d) (gq c f):=by
 have z:=Jw (A:=A) (s:=s) (F:=λb=>b) (λi j t u _=>by
  have e:decide ((i:Int)<(j:Int))=decide (i<j):=by simp
  exact e▸OV) g h
 rwa[Option.map_id']at z
theorem TU(h:s.heap.IsTuple l a.toArray):SeqObj "tuple" s.heap l a:=by
 obtain⟨⟨c,b,g,sl⟩,e,d,n,f⟩:=h;cases d;cases f;exact#[n,b,sl,e]
theorem SeqObj.ty(h:SeqObj c s.heap l a):s.TypeIs (.ref l) c:=let⟨_,_,_,e⟩:=h;#[_,e,zZ]
theorem N9(e:SeqObj "tuple" s.heap l a)(f:SeqObj "tuple" s.heap b d)(g:A.units<cLine)(c:Cmp .Lt A.in1 s (a.zip d) o):Bm .Lt A s (.ref l) (.ref b) (o.getD (decide (a.length<d.length))):=λP w E Q q=>
 richCompare_meets_room e.ty f.ty F.slot_tuple_lt F.entry_tuple_lt (F.args_tuple_lt_2 _ _) Tt #[e,f,o,c,(λz=>nomatch z),q] g
end
noncomputable def wj(i:Int)(a:bw)(j:Int)(b:bw):Bool:=if i=j then dF a b else decide (i<j)
noncomputable def bV(m:Nat):bw:=(List.range 5).filter λi=>m.testBit i
noncomputable def gv(led:Bool)(a:bw):SetTable:={mask:=if a.length=5 then 31 else 7,place:=a.toArray,dummies:= #v[],finger:=0,led,moves:=if a.length=5 then 1 else 0,plain:=true}
noncomputable def nZ(a:bw)(k:Nat):Nat:=(a.filter (· <k)).length
noncomputable def mS(a:Bool)(m k:Nat):SetTable:={gv a (bV m)with place:=(bV (m |||2 ^ k)).toArray}
theorem BI:∀a (m:Fin 32),(gv a (bV m)).fits (bV m).length=true:=by decide+kernel
theorem OF:∀a (m:Fin 32) (k:Fin 5),(m:Nat).testBit k=false->(gv a (bV m)).freeSlot ((k:Nat):Int)=some ((k:Nat),false):=by decide+kernel
theorem P0:∀a (m:Fin 32) (k:Fin 5),(m:Nat).testBit k=false->(gv a (bV m)).put k=(mS a m k,nZ (bV m) k)/\(mS a m k).fits ((bV m).length+1)=true:=by decide+kernel
theorem RF:∀(m:Fin 32) (k:Fin 5),(m:Nat).testBit k=false->bV (m |||2 ^ (k:Nat))=(bV m).take (nZ (bV m) k)++(k:Nat)::(bV m).drop (nZ (bV m) k):=by decide+kernel
theorem NT:∀(m:Fin 32) (k:Fin 5),(k:Nat)∈bV m->(m |||2 ^ (k:Nat):Nat)=m:=by decide+kernel
theorem OJ:∀(m:Fin 32) (k:Fin 5),(k:Nat)∉bV m->(m:Nat).testBit k=false:=by decide+kernel
theorem Kb:∀(m:Fin 32) (k:Fin 5),(m |||2 ^ (k:Nat):Nat)<32:=by decide+kernel
theorem Bd:∀m:Fin 32,(bV m).length<=5:=by decide+kernel
theorem RV:∀a (m:Fin 32) (k:Fin 5),(m:Nat).testBit k=false->(bV m).length≠4->mS a m k=gv a (bV (m |||2 ^ (k:Nat)))/\(mS a m k).tooFull=false:=by decide+kernel
theorem PN:∀a (m:Fin 32) (k:Fin 5),(m:Nat).testBit k=false->(bV m).length=4->(mS a m k).tooFull=true/\
  (mS a m k).relaid #v[0,1,2,3,4] (SetTable.grown 5)=some (gv a (bV (m |||2 ^ (k:Nat))),#v[0,1,2,3,4])/\bV (m |||2 ^ (k:Nat))=[0,1,2,3,4]/\(gv a (bV (m |||2 ^ (k:Nat)))).fits 5=true:=by decide+kernel
theorem Fm:∀k:Fin 5,hashInt ((k:Nat):Int)=((k:Nat):Int):=by decide+kernel
def Ents:bw->List (Int×Vl)->Prop:=Paired λn e=>e.1=(n:Int)/\∃t,e.2=.int (n:Int) t
noncomputable def oj(a:List (Int×Vl))(b:Nat)(t:SetTable):Obj:={cls:= .type "set",data:= .set a.toArray b t}
def IsSet5(h:Heap)(a:Ad)(b:Bool)(m:Nat):Prop:=m<32/\∃c d,h.get? a=some (oj c d (gv b (bV m)))/\Ents (bV m) c
theorem Ents.take:∀{a} {b} p,Ents a b->Ents (a.take p) (b.take p)
 |_,_,0,_=> .nil
 |_,_,_+1,.nil=> .nil
 |_,_,p+1,.cons r t=> .cons r<|Ents.take p t
theorem Ents.drop:∀{a} {b} p,Ents a b->Ents (a.drop p) (b.drop p)
 |_,_,0,r=>r
 |_,_,_+1,.nil=> .nil
 |_,_,p+1,.cons _ t=>Ents.drop p t
theorem Ents.app:∀{a b} {c fs},Ents a c->Ents b fs->Ents (a++b) (c++fs)
 |_,_,_,_,.nil,r=>r
 |_,_,_,_,.cons q t,r=> .cons q<|Ents.app t r
theorem Ents.len(h:Ents a b):b.length=a.length:=(qg h).symm
theorem Ents.keys:∀{a} {b},Ents a b->b.map (·.1)=a.map λ(n:Nat)=>(n:Int)
 |_,_,.nil=>rfl
 |_,_,.cons q t=>by rw[hI,hI,q.1,Ents.keys t]
theorem Ents.mem:∀{a} {b} {e},Ents a b->e∈b->∃n∈a,e.1=(n:Int)/\∃t,e.2=.int (n:Int) t
 | _,_,_,.cons q t,h=>by
  rcases db.mp h with z|z
  .subst z;exact#[_,cJ,q]
  .obtain⟨n,c,d⟩:=Ents.mem t z;exact#[n,dS _ c,d]
theorem Ents.has:∀{a} {b} {n},Ents a b->n∈a->∃e∈b,∃t,e.2=.int (n:Int) t
 | _,_,_,.cons q t,h=>by
  rcases db.mp h with z|z
  .subst z;exact#[_,cJ,q.2]
  .obtain⟨e,c,d⟩:=Ents.has t z;exact#[e,dS _ c,d]
theorem Ents.elems{P:Pg}{m:Fin 32}(h:Ents (bV m) b):ElemsOf (intKind P w) b:=λe d=>by
 obtain⟨n,f,g,t,c⟩:=h.mem d;exact#[#[(n:Int),by rw[c];exact Ah _ _ _ _,by rw[g];exact(Fm #[n,(fm.mp (cL.mp f).1)]).symm],by rw[c];rfl]
theorem QO(a:List b)(p)(x):(SetTable.insertAt a.toArray p x)=(a.take p++x::a.drop p).toArray:=by
 unfold SetTable.insertAt;apply Array.ext';simp;exact yh<|by simp
section
variable{P:Pg}{A:Ar}{E:VP}{s:Sh}{a:Ad}{m k:Nat}
theorem LD{h:Heap}(e:h.get? a=some (oj c b t)):(h.update a (Obj.putSet fs.toArray u)).get? a=some (oj fs (b+1) u):=yi _ e rfl
theorem AF{b:Type}{fs:List b}(h:fs.length=n+1):∃a r,fs=a::r/\r.length=n:=by
 cases fs with
 |nil=>cases h
 |cons a r=>exact#[a,r,zZ,Nat.succ.inj h]
theorem zy{a:Type}{fs:List a}(h:fs.length=5):(#v[0,1,2,3,4]:Array Nat).filterMap (fs.toArray[·]?)=fs.toArray:=by
 obtain⟨_,_,rfl,b⟩:=AF h;obtain⟨_,_,rfl,c⟩:=AF b;obtain⟨_,_,rfl,d⟩:=AF c;obtain⟨_,_,rfl,e⟩:=AF d;obtain⟨_,_,rfl,f⟩:=AF e;cases sk.mp f;rfl
theorem Oo{Q:Sh->Prop}(l:k<5)(hS:IsSet5 s.heap a b m)(q:∀G,IsSet5 G a b (m |||2 ^ k)->Heap.SameBut a s.heap G->Q {s with heap:=G}):
  wpAny (model P w) A (setAddHashed a (.int (k:Int) t) (k:Int)) (λ_ s'=>Q s') E s:=by
 obtain⟨f,c,H,e,r⟩:=hS;have I:=r.len;have el:ElemsOf (intKind P w) c.toArray.toList:=Ents.elems (m:=#[m,f]) r;have m5:=Bd #[m,f];have p:(gv b<|bV m).fits c.toArray.size=true:=by rw[dU,I];exact (BI b #[m,f])
 have sc:byScan (.int (k:Int) t) c.toArray=true:=by
  unfold byScan;have e3:c.toArray.all (·.2.scannable)=true:=by
   rw[Array.all_eq_true_iff_forall_mem];exact λx L=>(el x<|by simpa using L).2
  rw[e3];have e4:decide (c.toArray.size<scanBound)=true:=cK (by rw[dU,I];unfold scanBound;lia);rw[e4];rfl
 have hh:(intKind P w).hash (k:Int)=(k:Int):=Fm #[k,l];unfold setAddHashed setAddHashedIn;refine jg<|bz<|uf e zZ p ?_;dsimp only;rw[sc,wB zZ];unfold setAddByScan;refine bz<|bz<|qj<|bz ?_;have scan:∀{R:ScanMet->Sh->Prop},R (match c.toArray.toList.findIdx? (λe=>(intKind P w).is (k:Int) e.2)with|some j=> .found (0+j)|none=> .absent) s->wpAny (model P w) A (setScan a (.int (k:Int) t) (k:Int) true c.toArray) R E s:=λz=>by
  have y:=wpAny_setScan_of (prog:=P) (w:=w) (A:=A) (E:=E) (knd:=intKind P w) (k:=(k:Int)) (x:= .int (k:Int) t) (adding:=true) (Ah _ _ _ _) e zZ p el z;rw[hh]at y;exact y
 refine scan ?_;rw[Cv];by_cases o:k∈bV m
 .obtain⟨x,L,tx,ex⟩:=r.has o;cases M:c.findIdx? λe=>(intKind P w).is (k:Int) e.2 with
  |none=>
   have z:=List.findIdx?_eq_none_iff.mp M x L;rw[ex,Ah]at z;cases z
  |some j=>
   refine bJ<|bJ ?_;have z:=q s.heap (by rw[NT #[m,f] #[k,l] o];exact#[f,c,H,e,r])<|Heap.SameBut.refl a s.heap;cases s;exact z
 .have B:=OJ #[m,f] #[k,l] o;cases M:c.findIdx? λe=>(intKind P w).is (k:Int) e.2 with
  |some j=>
   obtain⟨hj,C,_⟩:=List.findIdx?_eq_some_iff_getElem.mp M;obtain⟨n,hn,_,tn,N⟩:=r.mem<|ga hj;rw[N]at C;have z:(k:Int)=(n:Int):=(intKind P w).inj _ _ _ C (Ah _ _ _ tn);have z':k=n:=by lia
   exact wC (z'▸hn) o
  | none=>
   obtain⟨pu,pf⟩:=P0 b #[m,f] #[k,l] B;have sa:=RF #[m,f] #[k,l] B;have d:=Kb #[m,f] #[k,l];dsimp only at pu pf sa d;have g:Ents (bV (m |||2 ^ k)) (c.take (nZ (bV m) k)++((k:Int),Value.int (k:Int) t)::c.drop (nZ (bV m) k)):=by
    rw[sa];exact(r.take _).app (.cons #[zZ,t,zZ] (r.drop _))
   have qd:layNew (gv b (bV m)) c.toArray (k:Int) (.int (k:Int) t)=((c.take (nZ (bV m) k)++((k:Int),Value.int (k:Int) t)::c.drop (nZ (bV m) k)).toArray,mS b m k,false,false):=by
    unfold layNew;rw[OF b #[m,f] #[k,l] B];dsimp only;rw[pu];dsimp only;rw[QO];have sz:(c.take (nZ (bV m) k)++((k:Int),Value.int (k:Int) t)::c.drop (nZ (bV m) k)).toArray.size=(bV m).length+1:=by
     rw[dU,cC,i3,fe,rb,I];lia
    rw[sz];unfold SetTable.orStandIn;rw[pf];rfl
   generalize c.take (nZ (bV m) k)++((k:Int),Value.int (k:Int) t)::c.drop (nZ (bV m) k)=fs at g qd;have lf:=g.len;have f5:fs.length<=5:=by rw[lf];exact Bd #[_,d]
   dsimp only;rw[qd];dsimp only;refine bz (show wpAny _ _ (pure Unit.unit) _ _ _ from bJ ?_);refine bz (show wpAny _ _ (pure true) _ _ _ from bJ ?_);refine bz (wpAny_storeSet_of e zZ ?_ (by rw[dU,cq];lia));have O:=LD (h:=s.heap) (fs:=fs) (u:=mS b m k) e;have i:Heap.SameBut a s.heap (s.heap.update a (Obj.putSet fs.toArray (mS b m k))):=Heap.SameBut.update ..;by_cases h4:(bV m).length=4
   .obtain⟨D,rl,T,ff⟩:=PN b #[m,f] #[k,l] B h4;dsimp only at D rl T ff;have U:fs.length=5:=by rw[lf,T];rfl
    have ks:fs.toArray.map (·.1)= #v[0,1,2,3,4]:=by
     rw[List.map_toArray,g.keys,T];rfl
    have pick:(#v[0,1,2,3,4]:Array Nat).filterMap (fs.toArray[·]?)=fs.toArray:=zy U;have Y:relayAll (mS b m k) fs.toArray (SetTable.grown fs.toArray.size)=(fs.toArray,gv b (bV (m |||2 ^ k)),false):=by
     unfold relayAll;rw[ks,dU,U,rl];dsimp only;rw[pick,dU,U,ff,Bool.and_true,wB (by decide+kernel)]
    show wpAny _ _ (if(!false&&(mS b m k).tooFull)=true then _ else _) _ _ _;rw[D,wB (by decide)];simp only[if_true];rw[Y];dsimp only;refine bz (show wpAny _ _ (pure Unit.unit) _ _ _ from bJ ?_);refine bz (wpAny_storeSet_of O zZ ?_ (by rw[dU,cq];lia));have v:=Heap.SameBut.trans i (Heap.SameBut.update (s.heap.update a (Obj.putSet fs.toArray (mS b m k))) a (Obj.putSet fs.toArray (gv b (bV (m |||2 ^ k)))));exact bJ (bJ (q _ #[d,fs,H+1+1,(LD (fs:=fs) (u:=gv b (bV (m |||2 ^ k))) O),g] v))
   .obtain⟨te,D⟩:=RV b #[m,f] #[k,l] B h4;dsimp only at te D;show wpAny _ _ (if(!false&&(mS b m k).tooFull)=true then _ else _) _ _ _
    rw[D,wA (by decide)];refine bJ (bJ (q _ #[d,fs,H+1,?_,g] i));rw[<-te];exact O
end
noncomputable def nW(m:Nat)(a:bw):Nat:=a.foldl (λm n=>m |||2 ^ n) m
section
variable{P:Pg}{w:World}{A:Ar}{E:VP}{S d l:Ad}{a:bw}{vs:Vs}
theorem MI{R:Result->Sh->Prop}(M:A.handled=none)(j:S≠d)(N:S≠l)(O:d≠l)(v:Vals (a.map nv) vs)(Q:∀n∈a,n<5):
  ∀(rest:bw) i m (s:Sh),a.drop i=rest->s.heap.IsListIter d l i->s.heap.IsList l vs.toArray->IsSet5 s.heap S led m->
   (∀c y,IsSet5 c S led (nW m rest)->(∀b o,b≠S->b≠d->s.heap.get? b=some o->c.get? b=some o)->R (.ok (.ret .none)) {s with heap:=c,toks:=y})->
   codeAny (model P w) A (.builtin "set.update.loop" #[[.ref S,.ref d],[]]) R s
 | [],i,m,s,p,z,r,B,q=>by
  have T:vs.length<=i:=by
   have U:vs.length=a.length:=by simpa using v.length.symm
   have C:=List.drop_eq_nil_iff.mp p;lia
  refine o0 CK ?_;rw[rf yX _];refine bz<|wpAny_pyNext_list_end M z r (by simp;lia) λc keep=>bJ<|q c s.toks ?_ λb o _ C e=>keep b o C e;obtain⟨D,E,G,e,H⟩:=B;exact#[D,E,G,keep _ _ j e,H]
 | n::rest,i,m,s,p,z,r,B,q=>by
  have h:a[i]?=some n:=by rw[<-List.head?_drop,p];rfl
  have next:a.drop (i+1)=rest:=by rw[<-List.tail_drop,p];rfl
  have Y:=Q n<|bX h;obtain⟨u,hu,t,rfl⟩:=v.get (by rw[bT,h];rfl);refine o0 CK ?_;rw[rf yX _];refine bz<|wpAny_pyNext_list_item z r (by simpa using hu) λU oN f=>?_;refine bz<|jg ?_;refine jg<|bz<|(intKind P w).pyHash (Ah _ _ _ _) ?_;rw[show(intKind P w).hash (n:Int)=(n:Int)from Fm #[n,Y]];have I:IsSet5 U S led m:=by
   obtain⟨D,E,G,e,H⟩:=B;exact#[D,E,G,f.extBut _ _ j e,H]
  refine Oo Y I λC J g=>bJ #[vb yX _,MI M j N O v Q rest (i+1) (m |||2 ^ n) _ next (oN.extBut g.extBut j.symm) ((r.extBut f.extBut O.symm).extBut g.extBut N.symm) J λc y L keep=>?_];exact q c y L λb o b1 b2 e=>keep b o b1 b2<|g.extBut _ _ b1<|f.extBut _ _ b2 e
theorem Vu{s:Sh}{x:Vl}{Q:VP}(q:Q (.ref s.heap.objs.size) {s with heap:=s.heap.push (oj [] 0 (gv (!w.params.followText "set-order") []))}):
  codeAny (model P w) A (.call (.builtin "set.__new__") #[[.type "set",x],[]]) (wants Q E) s:=by
 refine EV ?_;refine bz<|CJ (F.newCall_set_1 x)<|bJ #[vb F.plain_set_new _,o0 F.entry_set_new ?_];rw[rf F.plain_set_new _];have sub:=sub_set_self
 wp_walk
 refine Bf<|bJ ?_;refine bz<|wpAny_alloc<|bJ<|bJ ?_;exact q
abbrev zM(led:Bool):Obj:={cls:= .type "set",dict:=none,data:= .set #v[] 0 (.fresh 0 0 led)}
set_option maxHeartbeats 4000000 in
theorem NJ{h:Heap}{os:OsState}{R:Fin->Sh->Prop}(v:A.handled=none)(m:h.IsList l vs.toArray)(x:Vals (a.map nv) vs)(y:∀n∈a,n<5)(q:∀c f,IsSet5 c h.objs.size led (nW 0 a)->(∀b o,h.get? b=some o->c.get? b=some o)->R (.done (.ret .none)) #[c,i,j,f,os]):
  wpAny (model P w) A (Builtin.«set.__init__» #[[.ref h.objs.size,.ref l],[]]) R E #[h.push (zM led),i,j,k,os]:=by
 obtain⟨⟨H,dl,z,sl⟩,p,r,B,s⟩:=id m;simp only at r s;subst r s;have I:(h.push (zM led)).get? l=some #[.type "list",dl,.seq vs.toArray B,sl]:=cI _ p;have C:(h.push (zM led)).get? h.objs.size=some {cls:= .type "set",dict:=none,data:= .set #v[] 0 (.fresh 0 0 led)}:=dE _ rfl;have J:=F.sub_list_set;have L:=F.sub_list_frozenset;have M:(Value.type "list"==Value.type "dict")=false:=by decide
 unfold Builtin.«set.__init__» noKeywords Builtin.Frozenset.updateFrom;generalize g:pyIter=t
 wp_walk
 subst g;have d:(h.push (zM led)).IsList l vs.toArray:=m.push _;refine BR d (bz (wpAny_runValue ?_));have lt:l<h.objs.size:=cy p;have sz:(h.push (zM led)).objs.size=h.objs.size+1:=ya ..;refine MI (vs:=vs) (led:=led) (by simpa using v) (by rw[sz];exact Nat.ne_of_lt (Nat.lt_succ_self _)) (Nat.ne_of_gt lt) (by rw[sz];exact Nat.ne_of_gt (Nat.lt_succ_of_lt lt)) x y a 0 0 _ zZ #[_,Heap.get?_push_size _ zZ,zZ,zZ] (d.push _) #[by decide,[],0,Heap.get?_push_of_some _ C,.nil] λc f D G=>?_;refine bJ (bJ (q c f D λb o e=>?_));have u:=cy e;exact G b o (dr u) (by rw[sz];exact dr (CI u)) (cI _ (cI _ e))
theorem OY{s:Sh}{Q:VP}(B:A.handled=none)(u:s.heap.IsList l vs.toArray)(C:Vals (a.map nv) vs)(D:∀n∈a,n<5)(q:∀d g,IsSet5 d s.heap.objs.size (!w.params.followText "set-order") (nW 0 a)->(∀b o,s.heap.get? b=some o->d.get? b=some o)->Q (.ref s.heap.objs.size) {s with heap:=d,toks:=g}):
  wpAny (model P w) A (call (.type "set") [.ref l]) Q E s:=by
 have lt:=let⟨_,e,_⟩:=u;cy e
 obtain⟨c,tl,G⟩:=ka.mro;have made:=ka.made;have sub:=ka.sub;have h:=ka.notType;have H:=ka.canCreate;have args:=F.typeCall_set_1<|.ref l;have look:=ka.init.lookup;have I:=ka.init.bind<|.ref s.heap.objs.size;generalize i:oj [] 0 (gv (!w.params.followText "set-order") [])=j;have J:(s.heap.push j).get? s.heap.objs.size=some j:=dE _ (by rw[<-i];rfl);have ty:Shared.TypeIs {s with heap:=s.heap.push j} (.ref s.heap.objs.size) "set":=#[_,J,by rw[<-i];rfl];refine y7<|EV<|show wpAny _ _ (callAny (.type "set") _) _ _ _ from bJ #[Code.quiet_builtin _<|by decide+kernel,o0 F.entry_type_call ?_];rw[Around.under_plain (weight_type_call_type "set" [.ref l] []) zZ]
 repeat (any_goals (first|assumption|wp_step))
 refine nX (Vu (w:=w) (E:=E) (Q:=λv x=>v=.ref s.heap.objs.size/\x={s with heap:=s.heap.push j}) (by rw[i];exact#[zZ,zZ])) λr x z=>?_;cases r with
 |error _=>exact z
 | ok f=>
  cases f<;>first|exact z.elim|skip
  obtain⟨k,m⟩:=z;subst k m
  repeat (any_goals (first|assumption|wp_step))
  refine nX (codeAny_call_builtin (R:=wants (λv y=>v=.none/\∃d g,y={s with heap:=d,toks:=g}/\IsSet5 d s.heap.objs.size (!w.params.followText "set-order") (nW 0 a)/\∀b o,s.heap.get? b=some o->d.get? b=some o) E)
   ka.init.plain F.entry_set_init<|check_set_init_1 ty ?_) λr y z=>?_
  .subst i;exact NJ (A:=A.in1.in1) (by simpa using B) u C D λd g p t=>#[zZ,d,g,zZ,p,t]
  .cases r with
   |error _=>exact z
   |ok f=>
    cases f<;>first|exact z.elim|skip
    obtain⟨k,d,g,m,p,t⟩:=z;subst k m
    repeat (any_goals (first|assumption|wp_step))
    exact q d g p t
end
theorem eJ:Slot "set_iterator" "__next__" "set_iterator.__next__":=Slot.of (by rw[By,AU];kernel_rfl) zZ zZ zZ (by first|exact .inl zZ|exact .inr zZ) (by rw[isSubtype_type];kernel_rfl)
theorem Kc:Slot "set_iterator" "__iter__" "set_iterator.__iter__":=Slot.of (by rw[By,AU];kernel_rfl) zZ zZ zZ (by first|exact .inl zZ|exact .inr zZ) (by rw[isSubtype_type];kernel_rfl)
theorem Jf:entryFor table "set_iterator.__next__"=some Builtin.«set_iterator.__next__»:=entryFor_of_tree<|by kernel_rfl
theorem RL:entryFor table "set_iterator.__iter__"=some Builtin.«dict_keyiterator.__iter__»:=entryFor_alias (by kernel_rfl) (by first|rfl|decide+kernel|(unfold String.splitOn;simp+decide [String.splitOnAux])) zZ<|by kernel_rfl
theorem Vr:entryFor table "set.__iter__"=some Builtin.«frozenset.__iter__»:=entryFor_alias (by kernel_rfl) (by first|rfl|decide+kernel|(unfold String.splitOn;simp+decide [String.splitOnAux])) zZ<|by kernel_rfl
theorem JW(a:Vl):argsOk "set_iterator.__next__" #[[a],[]]:=by kernel_rfl
theorem RP(a:Vl):argsOk "set_iterator.__iter__" #[[a],[]]:=by kernel_rfl
theorem MY(f:Nat->Nat):∀fuel k left (b:Array c),left.length=fuel->(pickOrder.go f fuel k left b).toList.Perm (b.toList++left)
 |0,k,left,b,h=>by
  rw[List.eq_nil_of_length_eq_zero h];simp[pickOrder.go]
 | fuel+1,k,left,b,h=>by
  have lt:f k%left.length<left.length:=Nat.mod_lt _ ();unfold pickOrder.go;rw[bC lt];refine(MY f fuel (k+1) (left.eraseIdx<|f k%left.length) (b.push left[f k%left.length])<|by grind).trans ?_;rw[yd,dR];refine A7 _ ?_;rw[List.eraseIdx_eq_take_drop_succ];have e:left=left.take (f k%left.length)++left[f k%left.length]::left.drop (f k%left.length+1):=by simp_all
  have z:=(List.perm_middle (a:=left[f k%left.length]) (l₁:=left.take<|f k%left.length) (l₂:=left.drop<|f k%left.length+1)).symm;rw[<-e]at z;exact z
noncomputable def mX(w:World)(a:Ad)(c:Nat)(b:List (Int×Vl)):List (Int×Vl):=if w.params.followText "set-order" then(pickOrder (w.params.setOrder a c) b.toArray).toList else b
theorem Gm(w)(a)(c)(b:List (Int×Vl)):(mX w a c b).Perm b:=by
 unfold mX;cases w.params.followText "set-order" with
 |true=>
  simpa[pickOrder]using (MY (w.params.setOrder a c) b.toArray.size 0 b.toArray.toList #v[]<|by simp)
 |false=>exact List.Perm.refl _
noncomputable def nj(a:Bool)(b:bw):Nat->Nat
 |0=>0
 |i+1=>if a then 0 else b.getD i 0+1
theorem Ql:∀(m:Fin 32) (i:Fin 6),(i:Nat)<=(bV m).length->SetTable.below (bV m).toArray (nj false (bV m) i)=i:=by decide+kernel
noncomputable def t7(b i n c:Nat)(a:Ad):Obj:={cls:= .type "set_iterator",data:= .fields #v[rawInt b,rawInt i,.ref a,rawInt n,rawInt c]}
section
variable{P:Pg}{A:Ar}{E:VP}{a d:Ad}
theorem L9{Q:Option (Vl×Nat)->Sh->Prop}(g:m<32)(h:s.heap.get? a=some (oj b c (gv (!w.params.followText "set-order") (bV m))))(k:Ents (bV m) b)(l:i<=(bV m).length)(q:Q (((mX w a c b)[i]?).map λe=>(e.2,nj (w.params.followText "set-order") (bV m) (i+1))) s):wpAny (model P w) A (setNext a (nj (w.params.followText "set-order") (bV m) i) i c) Q E s:=by
 have n:=k.len;have d:(gv (!w.params.followText "set-order")<|bV m).fits b.toArray.size=true:=by rw[dU,n];exact BI _ #[m,g]
 have r:=Bd #[m,g];refine bz<|uf h zZ d<|bz<|bz<|Bf<|bJ ?_;show wpAny _ _ (if w.params.followText "set-order"=true then _ else _) _ _ _;unfold mX at q;generalize o:w.params.followText "set-order"=p at q h d|-;cases p with
 |true=>
  rw[wB zZ];rw[wB zZ]at q;rw[wA<|by simp];refine bz<|bz<|uf h zZ d<|bz<|bz<|Bf<|bJ ?_;show wpAny _ _ (if w.params.followText "set-order"=true then _ else _) _ _ _;rw[o,wB zZ];refine bz<|Bf<|bJ<|bJ ?_;rw[lI]at q;cases i<;>exact q
 | false=>
  rw[wA<|by decide];rw[wA<|by decide]at q;rw[wA (by show ¬((!true&&_)=true);simp)];refine bz ?_;show wpAny _ _ (if(!true&& !b.toArray.isEmpty)=true then _ else _) _ _ _;rw[wA<|by simp];refine bJ<|bJ ?_;show Q (match b.toArray[SetTable.below (bV m).toArray<|nj false (bV m) i]?,(bV m).toArray[SetTable.below (bV m).toArray<|nj false (bV m) i]? with|some (_,x),some j=>some (x,j+1)|_,_=>none) s;rw[Ql #[m,g] #[i,()] l]
  rcases yt i (bV m).length with z|z
  .have f:i<b.length:=by lia
   rw[bC f]at q;simp only[List.getElem?_toArray,List.getElem?_eq_getElem f,List.getElem?_eq_getElem z];have e:nj false (bV m) (i+1)=(bV m)[i]+1:=by
    show(if false=true then 0 else(bV m).getD i 0+1)=_;rw[wA<|by decide,cW,bC z];rfl
   rw[e]at q;exact q
  .have f:b.length<=i:=by lia
   rw[iJ f]at q;simp only[List.getElem?_toArray,List.getElem?_eq_none f];exact q
end
section
variable{P:Pg}{A:Ar}{E:VP}{a d:Ad}
theorem TR{s:Sh}{Q:Option Vl->Sh->Prop}(r:a≠d)(l:m<32)(n:Ents (bV m) c)(b:s.heap.get? d=some (t7 (nj (w.params.followText "set-order") (bV m) i) i (bV m).length f a))(o:s.heap.get? a=some (oj c f (gv (!w.params.followText "set-order") (bV m))))(t:i<(bV m).length) (u:(mX w a f c)[i]?=some e)(q:∀g,g.get? d=some (t7 (nj (w.params.followText "set-order") (bV m) (i+1)) (i+1) (bV m).length f a)->Heap.SameBut d s.heap g->Q (some e.2) {s with heap:=g}):wpAny (model P w) A (pyNext (.ref d)) Q E s:=by
 have ty:s.TypeIs (.ref d) "set_iterator":=#[_,b,zZ];have p:=n.len;have h:(gv (!w.params.followText "set-order") (bV m)).fits c.toArray.size=true:=by rw[dU,p];exact BI _ #[m,l]
 unfold pyNext;refine bz (se (vc (name:=Str.ofString "__next__") ty eJ (mC eJ ty Jf ?_ (JW _))));unfold t7 at b;unfold Builtin.«set_iterator.__next__»;refine bz (m:=slotArgs _ _ _) (bJ ?_);refine bz (y3 b zZ ?_);unfold setEntries;refine bz (bz (uf o zZ h (bJ ?_)));have v:((((c.toArray.size:Nat):Int) != (((bV m).length:Nat):Int)))=false:=by rw[dU,p];simp
 rw[v,wA (by decide)];simp;refine bz (L9 l o n (eZ t) ?_);rw[u];refine bz (oH b (by simp) λB x j=>?_);refine bz (oH x (by simp) λy z k=>?_);exact bJ #[_,zZ,bJ (q y z (j.trans k))]
theorem T0{s:Sh}{Q:Option Vl->Sh->Prop}(r:A.handled=none)(t:a≠d)(j:m<32)(k:Ents (bV m) c)(g:s.heap.get? d=some (t7 (nj (w.params.followText "set-order") (bV m) (bV m).length) (bV m).length (bV m).length f a))(l:s.heap.get? a=some (oj c f (gv (!w.params.followText "set-order") (bV m))))(q:∀n,Heap.ExtBut d s.heap n->Q none {s with heap:=n}):wpAny (model P w) A (pyNext (.ref d)) Q E s:=by
 have ty:s.TypeIs (.ref d) "set_iterator":=#[_,g,zZ];have p:=k.len;have h:(gv (!w.params.followText "set-order")<|bV m).fits c.toArray.size=true:=by rw[dU,p];exact BI _ #[m,j]
 have u:(mX w a f c)[(bV m).length]?=none:=iJ (by rw[(Gm w a f c).length_eq];lia);unfold pyNext;refine bz<|se<|vc (name:=Str.ofString "__next__") ty eJ<|mC eJ ty Jf ?_<|JW _;unfold t7 at g;unfold Builtin.«set_iterator.__next__»;refine bz (m:=slotArgs _ _ _)<|bJ ?_;refine bz<|y3 g zZ ?_;show wpAny _ _ (setEntries a >>= _) _ _ _;unfold setEntries;refine bz<|bz<|uf l zZ h<|bJ ?_;have v:((((c.toArray.size:Nat):Int) != (((bV m).length:Nat):Int)))=false:=by rw[dU,p];simp
 show wpAny _ _ (if((((c.toArray.size:Nat):Int) != (((bV m).length:Nat):Int)))=true then _ else _) _ _ _;rw[v,wA<|by decide];show wpAny _ _ (setNext a ((nj (w.params.followText "set-order") (bV m) (bV m).length:Nat):Int).toNat (((bV m).length:Nat):Int).toNat ((f:Nat):Int).toNat >>= _) _ _ _;simp only[Int.toNat_natCast];refine bz (L9 j l k (bR _) ?_);rw[u];show wpAny _ _ (setField (.ref d) 2 .none >>= _) _ _ _;refine bz (oH g (by simp) λy z i=>?_);refine bz (m:=newExc _ _) ?_;simp only[newExc,newTuple];refine bz (qe ?_ (by size_fits));refine bz (m:=firstArgMember _ _) (CJ (a:=Value.none) (by first|rfl|(unfold firstArgMember;rfl)) (wpAny_newObj_type ?_ (by size_fits)));refine FQ (by simpa using r) (wpAny_bind (wpAny_isInstance (T:="StopIteration") (b:=true) #[_,Heap.get?_push_size _ zZ,zZ] isSubtype_stop (wpAny_pure ?_)));exact q _ λb o x e=>cI _ (cI _ (i.extBut b o x e))
theorem Qb(u:A.handled=none)(g:a≠d)(p:m<32)(l:Ents (bV m) c):Walks P w A d [d,a] [d] (bV m).length (λi v=>∃e,(mX w a f c)[i]?=some e/\v=e.2) (λi h=>h.get? d=some (t7 (nj (w.params.followText "set-order") (bV m) i) i (bV m).length f a)/\h.get? a=some (oj c f (gv (!w.params.followText "set-order") (bV m)))) where
 sub:=λb y=>db.mpr<|.inl<|cf.mp y
 frame:=λi h j st k=>#[k d (cJ ..) _ st.1,k a (dS _<|cf.mpr zZ) _ st.2]
 item:=λi s Q E B st q=>by
  have D:(mX w a f c).length=(bV m).length:=by rw[(Gm w a f c).length_eq,l.len]
  obtain⟨e,r⟩:∃e,(mX w a f c)[i]?=some e:=#[_,bC ()];refine TR g p l st.1 st.2 B r λj C t=>q e.2 j s.toks #[e,r,zZ] #[C,t.extBut _ _ g st.2] λb o n e=>t.extBut _ _ (λz=>n<|cf.mpr z) e
 done:=λs Q E st q=>T0 u g p l st.1 st.2 λj x=>q j s.toks λb o n e=>x b o (λz=>n<|cf.mpr z) e
 self:=λi s Q E st q=>by
  have ty:s.TypeIs (.ref d) "set_iterator":=#[_,st.1,zZ];refine zb ty Kc<|mC Kc ty RL ?_<|RP _;exact bJ #[_,zZ,"set_iterator",_,ty,eJ.lookup,q]
theorem AS{s:Sh}{Q:VP}(g:m<32)(h:Ents (bV m) c)(d:s.heap.get? a=some (oj c f (gv (!w.params.followText "set-order") (bV m))))(q:Q (.ref s.heap.objs.size) {s with heap:=s.heap.push (t7 0 0 (bV m).length f a)}):wpAny (model P w) A (pyIter (.ref a)) Q E s:=by
 have ty:s.TypeIs (.ref a) "set":=#[_,d,zZ];have e:=h.len;have b:(gv (!w.params.followText "set-order")<|bV m).fits c.toArray.size=true:=by rw[dU,e];exact BI _ #[m,g]
 refine zb ty F.slot_set_iter<|mC F.slot_set_iter ty Vr ?_<|F.args_set_iter_1 _;refine bz<|bJ ?_;refine bz<|bz<|bz<|uf d zZ b<|bJ<|bJ ?_;refine bz<|bz<|uf d zZ b<|bz<|bz<|Bf<|bJ<|bJ ?_;have nd:(!w.params.followText "set-order"&&(!true&&decide (c.toArray.size>1)))=false:=by simp
 show wpAny _ _ (if(!w.params.followText "set-order"&&(!true&&decide (c.toArray.size>1)))=true then _ else _) _ _ _;rw[nd,wA<|by decide];refine bz<|bJ<|bz<|wpAny_setEpoch_of d zZ b ?_;refine bz ?_;refine qe ?_ (by size_fits);rw[<-e]at q;exact bJ #[_,zZ,"set_iterator",_,#[_,dE _ zZ,zZ],eJ.lookup,q]
theorem Br{Q:Bool->Sh->Prop}(ty:s.TypeIs (.ref a) "set")(q:Q false s):wpAny (model P w) A (Builtin.List.listLengthHint (.ref a)) Q E s:=by
 refine bz<|wpAny_specialOf ty F.slot_set_len.lookup ?_;generalize g:("set.__len__":String)=name
 wp_delta
 rw[show splitId name=some ("set","__len__") by subst g;decide+kernel];subst g;refine bz<|wpAny_isInstance (b:=true) ty (by rw[isSubtype_type];kernel_rfl)<|FK (λz=>wC z<|by decide) λ_=>?_;exact FK (λ_=>bz<|wpAny_typeOf ty<|bJ q) λz=>wC zZ z
theorem FT(b:m<32)(d:Ents (bV m) c):W.KdlSrc P w "set" a a (bV m).length (λi v=>∃e,(mX w a f c)[i]?=some e/\v=e.2) (λh=>h.get? a=some (oj c f (gv (!w.params.followText "set-order") (bV m)))) where
 type:=λ_ e=>#[_,e,zZ]
 there:=λ_ e=>#[cy e,cy e]
 keep:=λ_ _ e k=>k a (.inl zZ) _ e
 notList:=zZ
 notTuple:=zZ
 hint:=λ_ _ _ _ e q=>Br #[_,e,zZ] q
 iter:=λ_ _ g e=>#[_,_,λ_ _ q=>AS b d e q,Qb g (dr<|cy e) b d,dE _ zZ,cI _ e]
end
noncomputable def eX(a:bw):bw:=(List.range 5).filter λi=>a.contains i
theorem JA(i):∀ns m,(nW m ns).testBit i=(m.testBit i || ns.contains i)
 | [],m=>by simp[nW]
 |n::ns,m=>by
  show(nW (m |||2 ^ n) ns).testBit i=_;rw[JA i ns,Nat.testBit_or,Nat.testBit_two_pow,List.contains_cons,Bool.or_assoc]
  congr 2
  by_cases h:n=i
  .simp[h]
  .simp[h,Ne.symm h]
theorem KE(a):bV (nW 0 a)=eX a:=by
 unfold bV eX
 congr 1
 funext i
 rw[JA];simp
theorem Tq(m):(bV m).Pairwise (· <= ·):=by
 exact List.Pairwise.filter _<|by decide
theorem JY:∀{a:Vs} {is:Zs},IntsAre a is->Vals (is.map V.int) a
 |_,_,.nil=> .nil
 |_,_,.cons n t h=> .cons #[t,zZ]<|JY h
theorem Ke:∀{a:List (Int×Vl)},(∀e∈a,∃t,e.2=.int e.1 t)->IntsAre (a.map (·.2)) (a.map (·.1))
 | [],_=> .nil
 |e::a,h=>by
  obtain⟨t,b⟩:=h e<|cJ ..;rw[hI,hI,b];exact .cons _ _<|Ke λx c=>h x<|dS _ c
section
variable{P:Pg}{A:Ar}{E:VP}
theorem U3{s:Sh}{Q:VP}(M:A.handled=none)(N:IsSet5 s.heap a (!w.params.followText "set-order") m)(q:∀(j r:Heap) u d n,Vals ((bV m).map nv) d->(∀b o,s.heap.get? b=some o->j.get? b=some o)->(∀b o,j.get? b=some o->r.get? b=some o)->r.get? j.objs.size=some {cls:= .type "list",data:= .seq d.toArray n}->Q (.ref j.objs.size) {s with heap:=r,toks:=u}):
  wpAny (model P w) A (call (.builtin "sorted") [.ref a]) Q E s:=by
 obtain⟨I,v,B,O,p⟩:=N;have m5:=Bd #[m,I];have J:=p.len;have c:=Gm w a B v;refine IS kind_sorted plain_sorted entry_sorted (args_sorted1 _) ?_;refine bz (bJ ?_);refine bz (W.kdu_collect (FT I p) M O (by rw[sizeLine_eq];lia) λj u f keep l=>?_);have g:f.toList=(mX w a B v).map (·.2):=by
  refine Ac (by rw[dy,l.1,bA,c.length_eq];exact J.symm) λi x y T L=>?_;obtain⟨e,C,D⟩:=l.2 i x (by rw[<-lI];exact T);rw[bT,C]at L;cases L;exact D
 have G:IntsAre f.toList ((mX w a B v).map (·.1)):=by
  rw[g];refine Ke λe U=>?_;obtain⟨n,_,C,t,D⟩:=p.mem (c.mem_iff.mp U);exact#[t,by rw[C,D]]
 have Y:f.toList.length=(bV m).length:=by rw[g,bA,c.length_eq,J]
 refine bz (zY ?_ (by rw[Y,cq];lia));have H:(j.push (seqObj "list" f.toList.toArray 0)).get? j.objs.size=some (seqObj "list" f.toList.toArray 0):=dE _ rfl;refine bz (jg (mC slot_list_sort #[_,H,zZ] Gp (list_sort_tree H G () λd js o1 o2 o3=>#[_,zZ,?_]) (args_list_sort _)));have k:js=(bV m).map λ(n:Nat)=>(n:Int):=by
  refine List.Perm.eq_of_pairwise (λx y _ _=>Int.le_antisymm) o3 ?_ (o2.trans ?_)
  .exact yI.mpr ((Tq m).imp λh=>by lia)
  .rw[<-p.keys];exact c.map _
 obtain⟨n,eN⟩:=sortedHeap_at H;refine bJ #[_,zZ,q j _ u d.toList n ?_ keep (λb o e=>?_) eN]
 .have z:=JY o1;rw[k,eM]at z;exact z
 .have lt:=cy e;rw[sortedHeap_old (dr lt) (gn lt (by rw[ya];exact rh _))];exact cI _ e
end
noncomputable def wg(w:World)(a:Ad)(m:Nat):HO:= .ext λh=>IsSet5 h a (!w.params.followText "set-order") m
theorem IsSet5.ok(x:IsSet5 h a (!w.params.followText "set-order") m):ObjOk P d H h a (wg w a m):=by
 obtain⟨j,l,n,e,o⟩:=id x;exact#[x,#[_,e],λp q ⟨f,b,c,g,i⟩ k=>#[f,b,c,k _ g,i]]
theorem Inv.track{f:St}(I:Inv X d f H s)(g:H D=none)(ok:ObjOk X.prog X.w (bx H D o) s.heap D o)(h:X.s₀.heap.objs.size<=D) (i:D≠X.env.locals) (j:∀x c,X.env.cells.lookup x=some c->c≠D) (k:∀p∈X.pn++d,p.1≠D):Inv X d f (bx H D o) s:=by
 have nd:∀b u,H b=some u->b≠D:=λb u q z=>by rw[z,g]at q;cases q
 have q:=I.step (H':=bx H D o) (t':=s.toks) (d':=s.drawn) (ch:=[D]) (λb a=>by
   have z:b=D:=by simpa using a
   subst z;exact#[.inr h,i,j,k])
  (λb o _ _ _ e _=>e) (λb o _ _ _ e _=>#[o.slots,e]) (λb o a _ n=>by rw[bI (λz=>a (by simp[z]))];exact n) (λb o _ e=>#[o,e])
  (λb l q=>by rw[bI (nd b _ q)];exact q) (λb o u q=>by rw[bI (nd b _ q)];exact q) (λb t q=>#[#v[],by rw[bI (nd b _ q),q];simp]) (λm r=>r) (λb u q=>?_) I.bare
 .exact q
 .by_cases a:b=D
  .subst a;rw[bE]at q;cases q;exact ok
  .rw[bI a]at q;exact(I.hok b u q).stay (λ_ _ _ z=>z) (λc z=>by rw[bI (nd c _ z)];exact z) λc l z=>by rw[bI (nd c _ z)];exact z
theorem Inv.trackNew{c:St}(I:Inv X a c H s)(d:Inv X a c H s1)(ok:ObjOk X.prog X.w (bx H s.heap.objs.size o) s1.heap s.heap.objs.size o):Inv X a c (bx H s.heap.objs.size o) s1:=by
 obtain⟨e,f,i,j,g,h⟩:=I.fpOk (bR _)<|I.hok.fresh<|bR _;exact d.track e ok I.sz f g h
inductive tu(K:V3)(w:World)(c:List V)(H:Hp)(Q:VK):Prop|mk:∀p b,c=[.ref p]->SqL K H p (b.map nv)->(∀n∈b,n<5)->(∀a,H a=none->Q (.ref a) (bx H a (wg w a (nW 0 b))))->tu K w c H Q
theorem Nz(a:X.calm=true):iu X (.type "set") (tu X.K X.w):=by
 intro b s c H n o Q I r h;obtain⟨p,t,rfl,d,e,q⟩:=h;obtain⟨u,rfl,f⟩:=hV r;cases f;obtain⟨g,i,j,_⟩:=I.list d;refine OY (I.ok.hd a) j.isList i e λk l z keep=>?_;have m:Inv X b c H {s with heap:=k,toks:=l}:=I.kept keep;exact#[.ref s.heap.objs.size,_,Inv.trackNew I m z.ok,zZ,q _ I.fresh]
inductive n6(w:World)(b:List V)(H:Hp)(Q:VK):Prop|mk:∀a m,b=[.ref a]->H a=some (wg w a m)->(∀l,H l=none->Q (.ref l) (bx H l (.lst ((bV m).map nv))))->n6 w b H Q
theorem OX(k:X.calm=true):iu X (.builtin "sorted") (n6 X.w):=by
 intro f s g H x y Q I r h;obtain⟨a,m,rfl,l,q⟩:=h;obtain⟨u,rfl,o⟩:=hV r;cases o;obtain⟨z,_⟩:=I.hok a _ l;refine U3 (I.ok.hd k) z λb i j c n p t v e=>?_;have d:Inv X f g H {s with heap:=b,toks:=j}:=I.kept t;have w:Inv X f g H {s with heap:=i,toks:=j}:=d.kept v;have A:=Bd #[m,z.1];have ok:ObjOk X.prog X.w (bx H b.objs.size<|.lst<|(bV m).map nv) i b.objs.size (.lst<|(bV m).map nv):=#[by rw[bA,cq];lia,c,n,p,e];exact#[.ref b.objs.size,_,Inv.trackNew d w ok,zZ,q _ d.fresh]
inductive zh(K:V3)(a:List V)(H:Hp)(Q:VK):Prop|mk:∀p (bs:List Bool),a=[.ref p]->SqL K H p (bs.map V.bl)->Q (.bl (bs.any id)) H->zh K a H Q
theorem MS(n:X.calm=true):iu X (.builtin "any") (zh X.K):=by
 intro G s J H L M Q I r h;obtain⟨p,bs,rfl,t,q⟩:=h;obtain⟨u,rfl,w⟩:=hV r;cases w;obtain⟨a,g,j,_⟩:=I.list t;have k:=j.isList;have c:a.length=bs.length:=by rw[<-g.length,bA]
 refine call_any_walk (BR k #[_,_,_,_,_,_,λi=>bs.getD i false,zZ,Walks.list (A:=X.A.in1) (I.ok.hd n) _ p (dr j.lt) a.toArray,#[#[_,dE _ zZ,zZ,zZ],k.push _],?_,λN O y=>?_])
 .intro i v T U Y B C;have d:a[i]?=some v:=by simpa using B
  have l:i<bs.length:=by rw[<-c];exact(bN.mp d).1
  obtain⟨u2,m,D⟩:=g.get (x:= .bl (bs.getD i false)) (by rw[bT,bC l,cW,bC l];rfl);rw[d]at m;cases m;cases(D);exact on C
 .have e:(List.range a.toArray.size).any (λi=>bs.getD i false)=bs.any id:=by
   rw[dU,c];have:bs=(List.range bs.length).map λi=>bs.getD i false:=by
    refine D9 (by simp) λi E h2=>?_;simp[List.getD_eq_getElem?_getD,E]
   conv=>rhs;rw[this,AL]
   rfl
  rw[e];exact#[.bl (bs.any id),H,I.kept λb o z=>y b o (by simp;exact Nat.ne_of_lt (Heap.lt_size z)) (Heap.get?_push_of_some _ z),zZ,q]
noncomputable def drop(H:Hp)(c:Ad):Hp:=λb=>if b=c then none else H b
theorem oG:drop H c c=none:=by unfold drop;rw[wB zZ]
theorem dm(h:b≠c):drop H c b=H b:=by unfold drop;rw[wA h]
theorem ym(h:H b=none):drop H c b=none:=by
 by_cases e:b=c
 .rw[e];exact oG
 .rw[dm e];exact h
noncomputable def eY(c m:Ad)(o:Obj):HO:= .ext λh=>h.get? c=some o/\o.data=.cell (some (.ref m))
noncomputable def j4(c:Ad)(q:Str):HO:= .ext λh=>h.CodeRec (.ref c) q
noncomputable def hX(f:Ad)(a:Fd):HO:= .ext λh=>h.get? f=some {cls:= .type "function",data:= .func a}
theorem HOk.drop(x:HOk P w H h)(a:H c=some (.ext g)):HOk P w (drop H c) h:=λb o e=>by
 by_cases f:b=c
 .rw[f,oG]at e;cases e
 .rw[dm f]at e;refine(x b o e).stay (λ_ _ _ z=>z) (λd z=>?_) λd i z=>?_
  .rw[dm (λq=>by rw[q,a]at z;cases z)];exact z
  .rw[dm (λq=>by rw[q,a]at z;cases z)];exact z
theorem HOk.back(x:HOk P w H h)(a:H c=none)(ok:ObjOk P w (bx H c o) h c o):HOk P w (bx H c o) h:=λb u e=>by
 by_cases f:b=c
 .subst f;rw[bE]at e;cases e;exact ok
 .rw[bI f]at e;exact(x b u e).stay (λ_ _ _ z=>z) (λd z=>by rw[bI<|cQ z a];exact z) λd g z=>by rw[bI<|cQ z a];exact z
theorem JR(x:h.get? c=some o)(d:o.data=.cell (some (.ref m))):ObjOk P w H h c (eY c m o):=#[#[x,d],#[o,x],λa b e k=>#[k _ e.1,e.2]]
theorem Nb(x:h.get? f=some {cls:= .type "function",data:= .func a}):ObjOk P w H h f (hX f a):=#[x,#[_,x],λb c e k=>k _ e]
theorem Qr(x:h.CodeRec (.ref c) q):ObjOk P w H h c (j4 c q):=by
 obtain⟨b,o,m,t,d,e,n⟩:=id x;cases d;refine#[x,#[o,e],λp r ⟨b,f,a,g,i,j,l⟩ k=>?_];cases i;exact#[c,f,a,g,zZ,k _ j,l]
structure LamScope(ps:Ss)(y:Str)(sc:Scope):Prop where
 kind:sc.kind=.function
 co:sc.isCoroutine=false
 gen:sc.isGenerator=false
 nd:(ps++[y]).Nodup
 par:∀x∈ps,sc.names.lookup x=some .local
 fre:sc.names.lookup y=some .free
 only:∀z∈sc.names,z.2≠ .cell/\(z.2=.free->z.1=y)
abbrev fJ(d:Str)(a:Arguments)(e:Expr)(b:Scope)(y:Str)(c:Ad)(pm f g:Vl):Fd:=W.kla_fn "<lambda>" d a e b [(y,c)] pm f g
noncomputable def pV(P:Pg)(w:World)(K:V3)(mg:SV)(base:Heap)(N:Ss)(b:Str)(a:Scope)(f:Ad)(c:Vl)(d:List (Str×Ad))(A:Ar)(outer:List Env)(s:Sh)(H:Hp):Cx where
 prog:=P
 w:=w
 K:=K
 mg:=mg
 base:=base
 A:=A.deeper (W.envX b a s.heap.objs.size f c d)
 N:=N
 s₀:=s
 H₀:=H
 env:=W.envX b a s.heap.objs.size f c d
 outer:=outer
 stack:=W.envX b a s.heap.objs.size f c d::outer
 ex:=[]
 calm:=true
 fn:=λ_=>false
 pn:=[]
 xe:=λ_ _=>False
theorem K5:∀{l:List (Str×Vl)},(l.map (·.1)).Nodup->(x,u)∈l->l.lookup x=some u
 | (a,b)::l,nd,h=>by
  rw[hI,lQ]at nd;rw[py]
  rcases db.mp h with e|e
  .cases e;rw[wD]
  .rw[(qm.mpr λq=>nd.1<|bY.mpr #[(x,u),e,q])];exact K5 nd.2 e
theorem Qh{c:Ss}{d:Vs}{i:Nat}{u:Vl}(nd:c.Nodup)(e:c[i]?=some x)(f:d[i]?=some u):(c.zip d).reverse.lookup x=some u:=by
 refine K5 ?_<|m7.mpr<|fM.mpr #[i,List.getElem?_zip_eq_some.mpr #[e,f]];have sub:∀(c:Ss) (d:Vs),((c.zip d).map (·.1)).Sublist c:=λc=>by
  induction c with
  |nil=>intro d;simp
  |cons a c g=>
   intro d;cases d with
   |nil=>simp
   |cons b d=>rw[List.zip_cons_cons,hI];exact(g d).cons₂ a
 rw[List.map_reverse];show List.Pairwise (· ≠ ·) _;rw[List.pairwise_reverse];exact(nd.sublist<|sub c d).imp dX
theorem RU{K:V3}{f c m:Ad}{Q:Vs}(S:LamScope n y g) (Y:A.handled=none) (t:Env0 P w K mg l A k s H) (T:I.length=n.length) (r:Vals I Q) (hc:H c=none) (ic:s.heap.IsCell c (some (.ref m)))(L:E.Ns s.heap.objs.size (λx=>(n.zip Q).reverse.lookup x)) (sb:Heap.SameBut s.heap.objs.size (s.heap.push {cls:= .type "frame",data:= .dict #v[]}) E):
  Inv (pV P w K mg l (n++[y]) B g f O [(y,c)] A k s H) [] (I.map some++[some (.ref m)]) H {s with heap:=E,toks:=U}:=by
 have M:∀b o,s.heap.get? b=some o->E.get? b=some o:=λb o e=>sb.extBut _ _ (dr<|cy e)<|cI _ e;have J:E.IsCell c (some<|.ref m):=let⟨o,e,d⟩:=ic;#[o,M _ _ e,d]
 have one:∀{x} {d},([(y,c)]:List<|Str×Ad).lookup x=some d->x=y/\d=c:=λ{x d} h=>by
  rw[py]at h;cases q:x==y with
  |true=>rw[q]at h;cases h;exact#[eq_of_beq q,zZ]
  |false=>rw[q]at h;cases h
 have C:([(y,c)]:List<|Str×Ad).lookup y=some c:=by rw[py,wD]
 have G:∀b,b∉(pV P w K mg l (n++[y]) B g f O [(y,c)] A k s H).ex:=λb z=>wC (show b∈([]:As)from z) (by simp);refine#[#[t.mod,S.kind,zZ,zZ,bR _,λa b d E h2=>(one E).1.trans (one h2).1.symm,λa ha=>?_,λa d h _=>wC (h) fT,λ_=>Y,Around.frames_deeper t.frames,.inr #[zZ,zZ],λb z=>wC z<|G b,t.bs,t.bsz,λb _ _=>G b,λb z=>wC z<|G b,t.funs,t.frf],
  rfl,t.bare,Un.kept M,#[_,L,λi x v q1 D q3=>?_],λa d h=>?_,t.hok.fresh<|bR _,λa d h=>?_,λp hp=>wC (show p∈([]:AO)from hp)<|by simp,t.hok.kept M,?_]
 .have N:=ha
  rcases N with z|z
  .exact wC zZ (S.only _<|pB z).1
  .have e:=(S.only _<|pB z).2 rfl;exact#[c,by rw[show a=y from e];exact C]
 .have j:(n++[y])[i]?=some x:=q1
  rcases yt i n.length with z|z
  .rw[dO z]at j;rw[dO (by rw[bA];lia),bT]at D;cases e:I[i]? with
   |none=>rw[e]at D;cases D
   |some a=>
    rw[e]at D;cases D;obtain⟨u,hu,rv⟩:=r.get e;refine#[u,rv,.inl #[(S.par x<|bX j),(Qh (S.nd.sublist<|List.sublist_append_left _ _) j hu)]]
  .rw[dQ z]at j;rw[dQ (by rw[bA];lia),bA]at D;have e:i-n.length=0:=by grind
   rw[e]at j;rw[T,e]at D;cases j;cases D;exact#[.ref m,zZ,.inr #[.inr S.fre,c,C,J]]
 .obtain⟨rfl,rfl⟩:=one<|h;exact#[_,J]
 .obtain⟨rfl,rfl⟩:=one<|h;exact hc
 .show(I.map some++[some<|V.ref m]).length=(n++[y]).length;simp[T]
theorem EI{K:V3}{f c m G:Ad}(S:LamScope D y a) (len:∀B H Q E,Y B H Q E->B.length=D.length) (here:∀B H Q E,Y B H Q E->H f=some (hX f (fJ g l p a y c pm (.ref G) ct))/\H c=some (eY c m oc)/\H G=some (j4 G g))(L:∀A d s H B Q E,Room k (A.deeper (W.envX g a s.heap.objs.size f (.ref G) [(y,c)]))->Y B H Q E->
   ∃t,PE (pV P w K mg j (D++[y]) g a f (.ref G) [(y,c)] A d s (drop H c)) p t/\t (B.map some++[some (.ref m)]) (drop H c) λv U=>U c=none->Q v (bx U c (eY c m oc))):
  FnOk P w K mg j bZ (k+1) f (fJ g l p a y c pm (.ref G) ct) D Y:=by
 refine#[len,λA d s H args us B Q E hr h M r N=>?_];obtain⟨hf,O,aa⟩:=here _ _ _ _ N;have hl:=len _ _ _ _ N;obtain⟨ef,_,_⟩:=h.hok f _ hf;obtain⟨i,_,_⟩:=h.hok c _ O;obtain⟨T,_,_⟩:=h.hok G _ aa;have e1:Env0 P w K mg j A d s (drop H c):=#[h.frames,h.mod,λb o e=>#[(h.bs b o e).1,ym (h.bs b o e).2],h.bsz,h.funs,λb M=>ym<|h.frf b M,h.hok.drop O,h.bare];have ab:=h.mod.nolimit.keeps λb o e=>(h.bs b o e).1;refine PySem.W.kla_callFunE hr.depth ef zZ S.co S.gen zZ T<|M _ _ _ _ ?_;refine wpAny_newFunctionEnv (λx hx=>(S.only x hx).1) (λx hx=>S.par _ (BY hx).1) (λh1 ae sb=>?_) S.kind;have hk:∀b o,s.heap.get? b=some o->h1.get? b=some o:=λb o e=>sb.extBut _ _ (dr<|cy e)<|cI _ e;refine#[ab.keeps hk,PySem.W.kla_codeExpr ?_];obtain⟨t,ht,hq⟩:=L A d s H B Q E (hr.deeper _) N;have I:Inv (pV P w K mg j (D++[y]) g a f (.ref G) [(y,c)] A d s<|drop H c) [] (B.map some++[some<|.ref m]) (drop H c) {s with heap:=h1,toks:=s.toks+(D.zip us).length}:=RU S hr.hd e1 hl r oG #[oc,i] ae sb;refine iB (ht [] _ _ _ _ I hq) (λv s' ⟨x,U,J,rx,q⟩=>?_) λe s' z=>wE z;have Hc:=J.freeC y c (by show([(y,c)]:List<|Str×Ad).lookup y=some c;rw[py,wD]);have af:s'.heap.get? c=some oc:=J.base.keep c oc i.1 oG (λz=>?_)<|by simp[pV]
 .refine#[x,bx U c<|eY c m oc,J.os,J.bare,#[λb o e n M _=>?_,λb o e n M _=>?_,λb o e n _=>?_,λb o e _=>J.base.there b o e<|by simp[pV],λb xs e=>?_,λb o u e=>?_,λb D e=>?_],J.hok.back Hc<|JR af i.2,rx,q Hc]
  .exact J.base.keep b o e (ym n) M<|by simp[pV]
  .exact J.base.slot b o e (ym n) M<|by simp[pV]
  .have C:b≠c:=λz=>by rw[z,O]at n;cases n
   rw[bI C];exact J.base.free b o e (ym n)<|by simp[pV]
  .have C:b≠c:=λz=>by rw[z,O]at e;cases e
   rw[bI C];exact J.base.tups b xs (by show drop H c b=_;rw[dm C];exact e)
  .have C:b≠c:=λz=>by rw[z,O]at e;cases e
   rw[bI C];exact J.base.frzs b o u (by show drop H c b=_;rw[dm C];exact e)
  .have C:b≠c:=λz=>by rw[z,O]at e;cases e
   rw[bI C];exact J.base.tbls b D (by show drop H c b=_;rw[dm C];exact e)
 .have:=h.frf c z;rw[O]at this;cases this
def JE(X:Cx)(i:Nat)(t:TA):TE:=λb H Q=>cS i b H λv c=>∃st a,v=.ref st/\c st=some (hX st a)/\t b c λg d=>d st=some (hX st a)/\∃k e f,FnOk X.prog X.w X.K X.mg X.base bZ k st a e f/\Room k X.A/\Binds X.K a e []/\f g d Q E0
theorem Kn{b:St}{st:Ad}(I:Inv X a b H s)(h:H st=some (hX st c)):W.FnAt st s.heap:=by
 obtain⟨e,_⟩:=I.hok st _ h;exact#[_,_,_,_,e]
theorem Th(i){p a:Pos}(l:PE X (.Name x p) (cS i))(m:PA X (e::b) t)(n:starEach (e::b) X.env=(false,eval e X.env)::starEach b X.env:=by rfl)(c:(backTo a (starEach b X.env)).any (·.1)=false:=by rfl):
  PE X (.Call (.Name x p) (e::b) [] a) (JE X i t):=by
 intro d s f H Q I h;refine ve (bS (l d s f H _ I h) λu o ⟨v,w,g,y,st,L,A,B,q⟩=>?_);subst A;cases y;refine W.callWith_F (Kn g B) (bS (m a d o f w _ g q) λM N C=>?_) n c;obtain⟨O,T,j,r,D,k,U,Y,F,E,G,J⟩:=C;refine#[Kn j D,?_];exact (Ez F E G .nil An j r (by rw[iw];exact J))
def Mw(g:Sp)(a:List V)(j:Nat)(c:Ad)(t:TA):TE:=λb H Q=>t b H λh d=>∃m,b[j]?=some (some (.ref m))/\∀e,d c=none->g (h++a) (bx d c (eY c m e)) (λr f=>f c=some (eY c m e)/\Q r (drop f c)) E0
theorem Inv.afterC{t:St}(I:Inv X p t H s)(k:H c=none)(y:s.heap.get? c=some i)(h:CE X.stack X.prog X.w (bx H c (eY c m i)) s (λr j=>j c=some (eY c m i)/\Q r (drop j c)) u x):EP X p t Q u x:=by
 obtain⟨v,j,os,a,un,d,B,A,q⟩:=h;obtain⟨⟨f,_⟩,_,_⟩:=d c _ A;refine I.after #[v,drop j c,os,a,#[λb o e n l g=>?_,λb o e n l g=>?_,λb o e n g=>?_,un.there,λb C e=>?_,λb o w e=>?_,λb D e=>?_],d.drop A,B,q]
 .by_cases z:b=c
  .subst z;rw[y]at e;cases e;exact f
  .exact un.keep b o e (by rw[bI z];exact n) l g
 .by_cases z:b=c
  .subst z;rw[y]at e;cases e;exact#[i.slots,f]
  .exact un.slot b o e (by rw[bI z];exact n) l g
 .by_cases z:b=c
  .rw[z];exact oG
  .exact ym<|un.free b o e (by rw[bI z];exact n) g
 .have z:b≠c:=λz=>by rw[z,k]at e;cases e
  rw[dm z];exact un.tups b C (by rw[bI z];exact e)
 .have z:b≠c:=λz=>by rw[z,k]at e;cases e
  rw[dm z];exact un.frzs b o w (by rw[bI z];exact e)
 .have z:b≠c:=λz=>by rw[z,k]at e;cases e
  rw[dm z];exact un.tbls b D (by rw[bI z];exact e)
theorem N4{f c:Ad}{p pos:Pos}(F:FnOk X.prog X.w X.K X.mg X.base bZ k f U L T)(hr:Room k X.A)(hg:Gl X x)(hm:X.mg x=some (.ref f))(hk:W.keepIn X.K (.ref f)=true) (n:Binds X.K U L v) (hd:Vals g v) (hN:X.N[j]?=some y) (G:X.env.cells.lookup y=some c) (B:X.env.scope.names.lookup y=some .cell) (M:X.fn y=true) (ha:PA X (e::A) t)(N:(x==("__debug__":Str))=false:=by decide) (he:starEach (e::A) X.env=(false,eval e X.env)::starEach A X.env:=by rfl) (O:(backTo pos (starEach A X.env)).any (·.1)=false:=by rfl):
  PE X (.Call (.Name x p) (e::A) [] pos) (Mw T g j c t):=by
 intro za s σ H Q I h;refine ve<|z8 I hg hm ?_ N;refine D3 I.ok.mod.kin hk (bS (ha pos za s σ H _ I h) λC J ⟨Y,H1,a,r,m,hj,q⟩=>#[a.kIn,?_]) he O;have l:=a.freeC y c G;obtain⟨mm,hn,look⟩:=a.loc;obtain⟨u,ru,lk⟩:=look j y (.ref m) hN hj<|.inr<|.inl B;cases ru;obtain⟨oc,ec,dc⟩:J.heap.IsCell c (some<|.ref m):=by
  rcases lk with⟨z,_⟩|⟨_,c',D,ic⟩
  .have z':X.env.scope.names.lookup y=some .local:=z;rw[B]at z';cases z'
  .rw[G]at D;cases D;exact ic
 have q1:=q oc l;have r2:=r.append hd;have hl:(C++v).length=L.length:=by rw[<-r2.length];exact F.len _ _ _ _ q1
 have e1:Env0 X.prog X.w X.K X.mg X.base X.A X.stack J (bx H1 c<|eY c m oc):=by
  have i:=a.env0;have d:=a.ok.cab y c M G;have nb:∀b o,X.base.get? b=some o->b≠c:=λb o e z=>by
   subst z;exact wC (gn (cy e)<|cz a.ok.bsz d)<|ni _
  have nf:∀b∈mB X.stack,b≠c:=λb n z=>by
   subst z
   rcases db.mp (a.stkSub b n)with w|w
   .exact a.cne y b G w
   .obtain⟨_,o,ho,_⟩:=a.ok.funs.mem w;exact wC (gn (cy ho) d)<|ni _
  exact#[i.frames,i.mod,λb o e=>#[(i.bs b o e).1,by rw[bI<|nb b o e];exact(i.bs b o e).2],i.bsz,i.funs,λb n=>by rw[bI<|nf b n];exact i.frf b n,i.hok.back l<|JR ec dc,i.bare]
 refine y7<|nX (F.run X.A X.stack J _ #[C,[]] (C++v) (Y++g) _ E0 hr e1 (n J C a.kIn hl) r2 q1) λr s' E=>?_;cases r with
 |error e=>exact E.elim
 |ok fl=>
  cases fl with
  |ret u=>exact a.afterC l ec E
  |next=>exact wE E
  |brk=>exact wE E
  |cont=>exact wE E
def pi(mg:SV)(h:Heap):Prop:=∃a o,mg "__builtins__"=some (.ref a)/\a≠builtinsNs/\h.get? a=some o/\o.cls=.type "module"/\o.dict=some builtinsNs/\o.data=.plain
abbrev kg(a:Pos)(b:Ad):AV:= #v[rawInt a.line,rawInt a.col,.ref b]
def zi(P:Ad)(a:Str)(b:Arguments)(g:Expr)(d:Scope)(y:Str)(c:Ad)(pm:Vl)(h:Pos):TE:=λ_ H Q=>
 (H P=some (.tbl #v[])/\∀f e i,H f=none->H e=none->f≠e->Q (.ref f) (bx (bx (bx H P (.tbl (kg h e))) e (j4 e a)) f (hX f (fJ a b g d y c pm (.ref e) i))))\/
 ∃e,H P=some (.tbl (kg h e))/\H e=some (j4 e a)/\∀f i,H f=none->Q (.ref f) (bx H f (hX f (fJ a b g d y c pm (.ref e) i)))
theorem E2{P cd c:Ad}(G:X.env.code=.ref cd)(C:W.CodeHd X.base cd P)(bm:pi X.mg X.base)(J:∀D E H s,Inv X D E H s->closureFor f X.env=pure [(y,c)])(aa:defaultsOf a X.env=([],[])) (hq:X.env.qual++"<lambda>"=qual):PE X (.Lambda a g f i) (zi P qual a g f y c ((X.mg "__name__").getD .none) i):=by
 intro D s E H Q I h;rw[arm_eval_Lambda,aa,hq];have C':=C.keeps I.bk;have hg:=I.mod.glob.keeps I.bk;refine bz<|bJ<|bz<|jg<|bJ ?_;have track:∀L,H P=some (.tbl L)->s.heap.get? P=some (W.tabObj L)/\mainGlobals≠P/\s.heap.BuiltinsAt X.mg P:=λL e=>by
  have M:=I.hok P _ e;have ng:mainGlobals≠P:=λz=>by
   obtain⟨o,es,ep,e1,_⟩:=I.mod.glob;have:=(I.bs _ _ e1).2
   rw[z,e]at this;cases this
  obtain⟨b,o,b1,b2,b3,b4,b5,b6⟩:=bm;refine#[M,ng,b,o,b1,b2,λz=>?_,λz=>?_,I.bk _ _ b3,b4,b5,b6]
  .obtain⟨o',es,ep,e1,d1,_⟩:=I.mod.glob;rw[z,e1]at b3;cases b3;rw[d1]at b6;cases b6
  .have:=(I.bs _ _ b3).2;rw[z,e]at this;cases this
 rcases h with⟨e,q⟩|⟨j,e,ag,q⟩
 .obtain⟨M,ng,hb⟩:=track _ e;refine W.kla_makeFunction (J D E H s I) I.ok.glob hg G C' M (by trivial) zZ ng hb λj p k tk hx r t N ab=>?_;have x:=I.hok.fresh r;have A:=I.hok.fresh<|cz r<|eZ t;have ae:=cQ e x;have af:=cQ e A;have O:=pd t;generalize eo:W.kla_obj "<lambda>" qual a g f [(y,c)] ((X.mg "__name__").getD .none) j p=ob;have old:∀b u,H b=some u->b≠j/\b≠k.objs.size:=λb u z=>#[cQ z x,cQ z A];have T:∀b o,s.heap.get? b=some o->b≠j/\b≠k.objs.size:=λb o z=>#[dr<|gn (cy z) r,dr<|gn (cy z)<|cz r<|eZ t];have U:∀b o,b≠P->s.heap.get? b=some o->(k.push ob).get? b=some o:=λb o n z=>cI _<|hx b o n z;have l:∀b,b≠P->b≠j->b≠k.objs.size->bx (bx (bx H P<|.tbl<|kg i j) j<|j4 j qual) k.objs.size (hX k.objs.size<|fJ qual a g f y c ((X.mg "__name__").getD .none) (.ref j) p) b=H b:=λb n1 n2 n3=>by rw[bI n3,bI n2,bI n1]
  have Y:bx (bx (bx H P<|.tbl<|kg i j) j<|j4 j qual) k.objs.size (hX k.objs.size<|fJ qual a g f y c ((X.mg "__name__").getD .none) (.ref j) p) P=some (.tbl<|kg i j):=by rw[bI af,bI ae,bE]
  have tP:(k.push ob).get? P=some (W.tabObj<|kg i j):=by
   refine cI _ ?_;rw[ab];rfl
  refine#[.ref k.objs.size,_,?_,zZ,q k.objs.size j p A x O];refine I.step (ch:=[]) (λ_ z=>nomatch z) (λb o _ _ _ z n=>U b o (λw=>by rw[w,e]at n;cases n) z) (λb o _ _ _ z n=>#[o.slots,U b o (λw=>by rw[w,e]at n;cases n) z])
   (λb o _ z n=>?_) (λb o _ z=>?_) (λb xs z=>?_) (λb o u z=>?_) (λb L z=>?_) (λm hm=>?_) (λb u z=>?_) I.bare
  .rw[l b (λw=>by rw[w,e]at n;cases n) (T b o z).1 (T b o z).2];exact n
  .by_cases w:b=P
   .rw[w];exact#[_,tP]
   .exact#[o,U b o w z]
  .rw[l b (λw=>by rw[w,e]at z;cases z) (old b _ z).1 (old b _ z).2];exact z
  .rw[l b (λw=>by rw[w,e]at z;cases z) (old b _ z).1 (old b _ z).2];exact z
  .by_cases w:b=P
   .subst w;rw[e]at z;cases z;exact#[kg i j,by rw[Y];rfl]
   .exact#[#v[],by rw[l b w (old b _ z).1 (old b _ z).2,z];simp]
  .exact hm.at' λo z=>U _ o (λw=>by have:=I.free;rw[w,e]at this;cases this) z
  .by_cases w3:b=k.objs.size
   .rw[w3,bE]at z;cases z;rw[w3];exact Nb (by rw[<-eo];exact dE _ zZ)
   .by_cases w2:b=j
    .rw[w2,bI O.symm,bE]at z;cases z;rw[w2];exact Qr<|N.push _
    .by_cases w1:b=P
     .rw[w1,Y]at z;cases z;rw[w1];exact tP
     .rw[l b w1 w2 w3]at z;refine(I.hok b u z).stay (λd o hd y=>U d o (λw=>?_) y) (λd y=>?_) λd xs y=>?_
      .rcases hd with v|v
       .exact w1<|v.symm.trans w
       .rw[w,e]at v;cases v
      .rw[l d (λw=>by rw[w,e]at y;cases y) (old d _ y).1 (old d _ y).2];exact y
      .rw[l d (λw=>by rw[w,e]at y;cases y) (old d _ y).1 (old d _ y).2];exact y
 .obtain⟨M,ng,hb⟩:=track _ e;have B:codeAmong i (kg i j).toList=some (.ref j):=by
   show(if((i.line:Int)==(i.line:Int)&&(i.col:Int)==(i.col:Int))=true then _ else _)=_;rw[wB<|by simp]
  refine W.kla_makeFunctionHit (J D E H s I) I.ok.glob hg G C' M (by trivial) B hb λp k tk keep sz=>?_;have I1:Inv X D E H {s with heap:=k,toks:=tk}:=I.kept keep;have I2:Inv X D E H {s with heap:=k.push {cls:= .type "function",data:= .func (fJ qual a g f y c ((X.mg "__name__").getD .none) (.ref j) p)},toks:=tk}:=I1.kept λb o z=>cI _ z;have ok:ObjOk X.prog X.w (bx H k.objs.size<|hX k.objs.size<|fJ qual a g f y c ((X.mg "__name__").getD .none) (.ref j) p) (k.push {cls:= .type "function",data:= .func (fJ qual a g f y c ((X.mg "__name__").getD .none) (.ref j) p)}) k.objs.size (hX k.objs.size<|fJ qual a g f y c ((X.mg "__name__").getD .none) (.ref j) p):=Nb<|dE _ zZ;exact#[.ref k.objs.size,_,Inv.trackNew I1 I2 ok,zZ,q _ p I1.fresh]
noncomputable def OO(K:V3)(c:As)(a:Ad)(o:Obj)(d:Zs):Hp:=λb=>if b∈c then some (.tbl #v[])else if b=a/\K.lookup a=none then some (.frz o (.lst (d.map V.int)))else none
theorem UR{K:V3}{mg mb:SV}{fa a:Ad}{f:Sh}{A:Vs}{D:Zs}{tabs:As}(KX:K.In f.heap) (I:f.heap.Ns mainGlobals mg) (g:f.heap.Ns builtinsNs mb) (aa:∀x:Str,x≠"__name__"->mb x=bootBuiltins x) (J:f.heap.NoLimit) (hg:f.gens= #v[]) (ab:pi mg f.heap)(E:f.heap.get? a=some {cls:= .type "list",data:= .seq A.toArray}) (hi:IntsAre A D) (hl:D.length<=sizeLine) (hr:Room k callerA) (hT:∀q∈tabs,K.lookup q=none/\∃c,f.heap.TableAt c q #v[])
  (F:∀l,K.In l->l.Ns mainGlobals mg->pi mg l->FnOk P w K mg l bZ k fa fd [x] sp) (G:∀(s:Sh) (u:Vl),BindsTo s fd #[[u],[]] [(x,u)])
  (ae:∀H,(∀q∈tabs,H q=some (.tbl #v[]))->SqL K H a (D.map V.int)->sp [.ref a] H (λv _=>v=.bl true) λ_ _ _=>False):
  codeAny (model P w) callerA (.call (.ref fa) #[[.ref a],[]]) (λr L=>r=.ok (.ret (.bool true))/\OldK f.heap L.heap/\L.os=f.os/\AllBare L.gens) f:=by
 have rv:=Ng hi;have M:=hi.length;have i:=λq N=>let⟨_,c,t⟩:=hT q N;t.2
 have na:a∉tabs:=λN=>by
  have:=i a N;rw[E]at this;cases this
 generalize eH:OO K tabs a {cls:= .type "list",data:= .seq A.toArray} D=H;have O:∀q∈tabs,H q=some (.tbl #v[]):=λq N=>by rw[<-eH];exact wB N
 have B:∀b,b∉tabs->H b=if b=a/\K.lookup a=none then some (.frz {cls:= .type "list",data:= .seq A.toArray} (.lst<|D.map V.int))else none:=λb g=>by rw[<-eH];exact wA g
 have j:∀b u,H b=some u->(b∈tabs/\u=.tbl #v[])\/(b=a/\K.lookup a=none/\u=.frz {cls:= .type "list",data:= .seq A.toArray} (.lst<|D.map V.int)):=λb u e=>by
  by_cases g:b∈tabs
  .rw[O b g]at e;cases e;exact .inl #[g,zZ]
  .rw[B b g]at e;by_cases h:b=a/\K.lookup a=none
   .rw[wB h]at e;cases e;exact .inr #[h.1,h.2,zZ]
   .rw[wA h]at e;cases e
 have af:HOk P w H f.heap:=λb u e=>by
  rcases j b u e with⟨g,rfl⟩|⟨rfl,_,rfl⟩
  .exact i b g
  .exact#[E,by rw[bA];exact hl,A,_,rv,E]
 have hS:SqL K H a (D.map V.int):=by
  cases Q:K.lookup a with
  |some o=>
   have e:=KX a o Q;rw[E]at e;cases e;exact .inr #[_,A.toArray,_,Q,zZ,zZ,zZ,by rw[dU,M];exact hl,by simpa using rv]
  |none=>exact .inl<|.inr #[{cls:= .type "list",data:= .seq A.toArray},by rw[B a na,wB #[zZ,Q]]]
 have free:∀{b} {o},f.heap.get? b=some o->o.cls≠ .none->(∀T n,o.data≠ .seq T n)->H b=none:=λ{b o} e hc hd=>by
  cases q:H b with
  |none=>rfl
  | some u=>
   rcases j b u q with⟨g,_⟩|⟨rfl,_,_⟩
   .rw[i b g]at e;cases e;exact wC zZ hc
   .rw[E]at e;cases e;exact wC zZ<|hd _ _
 have p:∀{b} {m},f.heap.Ns b m->(qo f.heap H).Ns b m:=λ{b m} ⟨o,es,ep,e,d,r⟩=>by
  refine#[o,es,ep,Hk e ?_,d,r];cases q:H b with
  |none=>rfl
  | some u=>
   rcases j b u q with⟨g,_⟩|⟨rfl,_,_⟩
   .rw[i b g]at e;cases e;cases d
   .rw[E]at e;cases e;cases d
 have U:K.In (qo f.heap H):=λb o e=>Hk (KX b o e)<|by grind
 have ag:pi mg (qo f.heap H):=by
  obtain⟨bm,o,b1,b2,b3,b4,b5,b6⟩:=ab;exact#[bm,o,b1,b2,Hk b3<|free b3 (by rw[b4];nofun) (λT n z=>by rw[b6]at z;cases z),b4,b5,b6]
 have hM:Mod K mg (qo f.heap H):=#[U,p I,#[mb,p g,aa],let⟨mc,h1,h2⟩:=J;#[mc,p h1,h2]];have e0:Env0 P w K mg (qo f.heap H) callerA [] f H:=#[zZ,hM,λb o e=>S2 e,rg<|Qn _ _,trivial,λb g=>wC (show b∈([]:As)from g)<|by simp,af,.of_eq hg];refine nX ((F _ U (p I) ag).run callerA [] f H #[[.ref a],[]] [.ref a] [.ref a] _ _ hr e0 (G f<|.ref a) (.cons zZ .nil)<|ae H O hS) λr L h=>?_;cases r with
 |error e=>exact h.elim
 | ok fl=>
  cases fl with
  |next=>exact wE h
  |brk=>exact wE h
  |cont=>exact wE h
  | ret u=>
   obtain⟨v,H',os,Y,un,C,r',q⟩:=h;subst q
   obtain rfl:u=Value.bool true:=r';refine#[zZ,#[λb o e=>?_,λb o e=>un.there b o e<|by simp],os,Y];cases z:H b with
   |none=>exact .inl<|un.keep b o e z (by intro y;exact wC (show b∈([]:As)from y)<|by simp)<|by simp
   | some u=>
    rcases j b u z with⟨g,rfl⟩|⟨rfl,_,rfl⟩
    .obtain⟨more,z2⟩:=un.tbls b _ z;have e2:=C b _ z2;rw[i b g]at e;cases e;obtain⟨_,c,t⟩:=hT b g;exact .inr<|.inl #[t.isCodeTable,zZ,#v[],more,zZ,e2]
    .obtain⟨e2,_⟩:=C b _<|un.frzs b _ _ z;rw[E]at e;cases e;exact .inl e2
theorem d7h{l:W.OpenLaw}{q:Pg}{i:Ss}{L:SV->Heap->Prop}{K:Params->V3}{sp:World->Sp}{tabs:List (Str×Ad)}(M:l.most=some n) (y:n<=sizeLine) (z:d.params.defaults=[]) (N:Room k callerA) (O:∀w h,D w h->(K w.params).In h)(hT:∀w:World,∀t∈tabs,(K w.params).lookup t.2=none/\(∃c,W.tabIn (K w.params) t.1=some (c,t.2))/\∃e,(recsOf q).find? (λr=>r.name==t.1)=some e)(F:∀w (mg:SV) (fa:Ad) h,(K w.params).In h->h.Ns mainGlobals mg->mg d.name=some (.ref fa)->
   ∃A:Fd,(∀(s:Sh) (u:Vl),BindsTo s A #[[u],[]] [(x,u)])/\∀b,(K w.params).In b->b.Ns mainGlobals mg->pi mg b->FnOk l.prog w (K w.params) mg b bZ k fa A [x] (sp w))(B:∀w H a (p:Zs),p.length<=n->(∀t∈tabs,H t.2=some (.tbl #v[]))->SqL (K w.params) H a (p.map V.int)->sp w [.ref a] H (λv _=>v=.bl true) λ_ _ _=>False):
  W.WalkO q i L D l.row.toRowW d [] (λf E=>call f E):=by
 refine Att.attach_call M z λw I J mg mb fa o pm cd Q a E p G Y ho hd T hmg m j g U=>?_;have KX:=O w _ Y;obtain⟨A,hb,hF⟩:=F w mg fa _ KX G.T.g hmg;refine UR KX G.T.g G.T.b G.T.builtins G.T.nolimit U G.T.bmain m j (cz g y) N (λq hq=>?_) hF hb<|λH hH hS=>B w H a p g (λt ht=>hH _<|List.mem_map_of_mem ht) hS;obtain⟨t,ht,rfl⟩:=bY.mp hq;obtain⟨h1,⟨c,h2⟩,e,h3⟩:=hT w t ht;obtain⟨C,eP⟩:=W.tab_of G.T KX h3 h2;exact#[h1,c,C.tab eP]
def sl(u v:bw):Prop:=u.length<v.length\/(u.length=v.length/\dF u v=true)
theorem kv{c d:bw}(h:a≠b):dF (a::c) (b::d)=decide (a<b):=by
 unfold dF;rw[gq,wA h];rfl
theorem qt{c d:bw}:dF (a::c) (a::d)=dF c d:=by
 unfold dF;rw[gq,wB zZ];cases gq c d with
 |none=>simp
 |some b=>rfl
theorem LZ:∀{i e j},i.length=e.length->e.length=j.length->dF i e=true->dF e j=true->dF i j=true
 | [],[],_,_,_,h,_=>by rw[pz]at h;cases h
 | [],_::_,_,h,_,_,_=>by simp at h
 |_::_,[],_,h,_,_,_=>by simp at h
 |_::_,_::_,[],_,h,_,_=>by simp at h
 | a::i,b::e,c::j,l,m,f,d=>by
  by_cases k:a=b
  .subst k;rw[qt]at f;by_cases g:a=c
   .subst g;rw[qt]at d|-;exact LZ (by simpa using l) (by simpa using m) f d
   .rw[kv g]at d|-;exact d
  .rw[kv k]at f;have n:=ik f;by_cases g:b=c
   .subst g;rw[kv k];exact f
   .rw[kv g]at d;have o:=ik d;rw[kv ()];exact cK ()
theorem Nd:∀{c d g i},c.length=d.length->dF c d=true->dF (c++g) (d++i)=true
 | [],[],_,_,_,h=>by rw[pz]at h;cases h
 | [],_::_,_,_,h,_=>by simp at h
 |_::_,[],_,_,h,_=>by simp at h
 | a::c,b::d,g,i,j,e=>by
  by_cases f:a=b
  .subst f;rw[yw,yw,qt];rw[qt]at e;exact Nd (by simpa using j) e
  .rw[yw,yw,kv f];rw[kv f]at e;exact e
theorem Q2(c:bw)(h:a<b):dF (c++[a]) (c++[b])=true:=by
 induction c with
 |nil=>exact(kv ()).trans<|cK h
 |cons x c d=>rw[yw,yw,qt];exact d
theorem zD(a:sl u v)(b:sl v x):sl u x:=by
 rcases a with a|⟨c,d⟩<;>rcases b with b|⟨e,f⟩
 .exact .inl ()
 .exact .inl ()
 .exact .inl ()
 .exact .inr #[(),LZ c e d f]
theorem Ep(h:sl u u):False:=by
 rcases h with h|⟨_,h⟩
 .lia
 .rw[pz]at h;cases h
theorem Kq(h:sl u v):sl (u++[a]) (v++[b]):=by
 rcases h with h|⟨e,l⟩
 .exact .inl (by simp;lia)
 .exact .inr #[by simp[e],Nd e l]
theorem EH(u:bw)(h:a<b):sl (u++[a]) (u++[b]):= .inr #[by simp,Q2 u h]
def pR(u v:bw):Prop:=u=v\/sl u v
theorem Vq(h1:pR u v)(h2:pR v x):pR u x:=by
 rcases h1 with rfl|h1
 .exact h2
 .rcases h2 with rfl|h2
  .exact .inr h1
  .exact .inr<|zD h1 h2
theorem Uq(h:pR u v):pR (u++[a]) (v++[a]):=by
 rcases h with rfl|h
 .exact .inl rfl
 .exact .inr<|Kq h
section
variable(f:bw->Nat->List Nat)(L:Nat)(x0:bw)
abbrev TW:=List (bw×bw)
noncomputable def cu(word:bw):bw:=word.foldl f x0
def Goes(a:TW)(p:bw×bw)(l:Nat):Prop:=∃u,(f p.1 l,u)∈a/\pR u (p.2++[l])
structure Told(ws:TW):Prop where
 head:ws[0]?=some (x0,[])
 keys:(ws.map (·.1)).Nodup
 run:∀p∈ws,(∀l∈p.2,l<L)/\cu f x0 p.2=p.1
 up:ws.Pairwise λp q=>sl p.2 q.2
 all:∀p∈ws,∀l,l<L->Goes f ws p l
 short:∀p∈ws,p.2.length<ws.length
structure Bfs(d:Nat)(ws wv fo:TW)(i j:Nat):Prop where
 head:ws[0]?=some (x0,[])
 keys:(ws.map (·.1)).Nodup
 run:∀p∈ws,(∀l∈p.2,l<L)/\cu f x0 p.2=p.1
 up:ws.Pairwise λp q=>sl p.2 q.2
 len:∀p∈ws,p.2.length<=d+1
 wave:∀p∈wv,p∈ws/\p.2.length=d
 wup:wv.Pairwise λp q=>sl p.2 q.2
 foll:∀p∈fo,p∈ws/\p.2.length=d+1
 fup:fo.Pairwise λp q=>sl p.2 q.2
 front:∀p∈ws,∀t,wv[i]?=some t->sl p.2 (t.2++[j])
 done:∀p∈ws,p∈fo\/(∃a,i<=a/\wv[a]?=some p)\/∀l,l<L->Goes f ws p l
 part:∀t,wv[i]?=some t->∀l,l<j->Goes f ws t l
 short:∀p∈ws,p.2.length<ws.length
variable{f L x0}
theorem Goes.more(h:Goes f ws p l):Goes f (ws++[q]) p l:=by
 obtain⟨u,a,b⟩:=h;exact#[u,pG _ a,b]
theorem Bfs.start:Bfs f L x0 0 [(x0,[])] [(x0,[])] [] 0 0 where
 head:=rfl
 keys:=by simp
 run:=λp a=>by
  rw[cf.mp a];exact#[λ_ h=>(nomatch h),zZ]
 up:=u6 _ _
 len:=λp a=>by rw[cf.mp a];simp
 wave:=λp a=>#[a,by rw[cf.mp a];rfl]
 wup:=u6 _ _
 foll:=λ_ h=>nomatch h
 fup:= .nil
 front:=λp a t _=>by
  rw[cf.mp a];exact .inl<|by simp
 done:=λp a=> .inr<|.inl #[0,bR _,by rw[cf.mp a];rfl]
 part:=λ_ _ _ h=>wC h<|sj _
 short:=λp a=>by rw[cf.mp a];simp
theorem Bfs.old(b:Bfs f L x0 d ws wv fo i j)(ht:wv[i]?=some t)(h:f t.1 j∈ws.map (·.1)):Bfs f L x0 d ws wv fo i (j+1):=by
 obtain⟨p,g,e⟩:=bY.mp h;refine {b with front:=λq k t' a=>?_,part:=λt' a l c=>?_}
 .exact zD (b.front q k t' a)<|EH _<|ti _
 .rcases Nat.lt_succ_iff_lt_or_eq.mp c with c|rfl
  .exact b.part t' a l c
  .rw[ht]at a;cases a;exact#[p.2,by rw[<-e];exact g,.inr<|b.front p g t ht]
theorem Bfs.new(b:Bfs f L x0 d ws wv fo i j)(ht:wv[i]?=some t)(o:j<L)(r:f t.1 j∉ws.map (·.1)):
  Bfs f L x0 d (ws++[(f t.1 j,t.2++[j])]) wv (fo++[(f t.1 j,t.2++[j])]) i (j+1):=by
 obtain⟨c,tl⟩:=b.wave t<|bX ht;obtain⟨s,k⟩:=b.run t c;have m:(t.2++[j]).length=d+1:=by simp[tl]
 refine#[?_,?_,λp hp=>?_,?_,λp hp=>?_,λp hp=>#[pG _ (b.wave p hp).1,(b.wave p hp).2],b.wup,λp hp=>?_,?_,λp hp u a=>?_,λp hp=>?_,λu a l hl=>?_,λp hp=>?_]
 .rw[dO<|C1 c];exact b.head
 .rw[c7,A5];refine#[b.keys,by simp,λx v y n z=>?_];simp at n;subst n;exact r<|z▸v
 .rcases cF.mp hp with hp|hp
  .exact b.run p hp
  .rw[cf.mp hp];refine#[λl hl=>?_,?_]
   .rcases cF.mp hl with hl|hl
    .exact s l hl
    .rw[cf.mp hl];exact o
   .unfold cu at k|-;rw[oJ,k];rfl
 .rw[jp];refine#[b.up,u6 _ _,λp hp q g=>?_];rw[cf.mp g];exact b.front p hp t ht
 .rcases cF.mp hp with hp|hp
  .exact b.len p hp
  .rw[cf.mp hp];exact rg m
 .rcases cF.mp hp with hp|hp
  .exact#[pG _ (b.foll p hp).1,(b.foll p hp).2]
  .exact#[gc _ hp,by rw[cf.mp hp];exact m]
 .rw[jp];refine#[b.fup,u6 _ _,λp hp q g=>?_];rw[cf.mp g];exact b.front p (b.foll p hp).1 t ht
 .rw[ht]at a;cases a
  rcases cF.mp hp with hp|hp
  .exact zD (b.front p hp t ht)<|EH _<|ti _
  .rw[cf.mp hp];exact EH _<|ti _
 .rcases cF.mp hp with hp|hp
  .rcases b.done p hp with h|h|h
   .exact .inl<|pG _ h
   .exact .inr<|.inl h
   .exact .inr<|.inr λl hl=>(h l hl).more
  .exact .inl<|gc _ hp
 .rw[ht]at a;cases a
  rcases Nat.lt_succ_iff_lt_or_eq.mp hl with hl|rfl
  .exact(b.part t ht l hl).more
  .exact#[t.2++[l],gc _<|cf.mpr zZ,.inl zZ]
 .rw[cC,qb]
  rcases cF.mp hp with hp|hp
  .exact CI<|b.short p hp
  .rw[cf.mp hp];have z:=b.short t c
   rw[cC,qb];lia
theorem Bfs.next(b:Bfs f L x0 d ws wv fo i L)(ht:wv[i]?=some t):Bfs f L x0 d ws wv fo (i+1) 0:=by
 refine {b with front:=λp g n j=>?_,done:=λp g=>?_,part:=λ_ _ l k=>wC k (sj _)}
 .have m:=b.front p g t ht;have c:sl t.2 n.2:=by
   obtain⟨o,q⟩:=bN.mp ht;obtain⟨r,s⟩:=bN.mp j;rw[<-q,<-s];exact oV.mp b.wup i (i+1) o r<|ti _
  exact zD m<|Kq c
 .rcases b.done p g with h|⟨a,m,c⟩|h
  .exact .inl h
  .rcases Nat.eq_or_lt_of_le m with e|e
   .subst e;rw[ht]at c;cases c;exact .inr<|.inr λl k=>b.part t ht l k
   .exact .inr<|.inl #[a,e,c]
  .exact .inr<|.inr h
theorem Bfs.wave'(b:Bfs f L x0 d ws wv fo wv.length 0):Bfs f L x0 (d+1) ws fo [] 0 0:=by
 refine#[b.head,b.keys,b.run,b.up,λp c=>Nat.le_succ_of_le<|b.len p c,b.foll,b.fup,λ_ h=>(nomatch h),.nil,λp c t ht=>?_,λp c=>?_,λ_ _ l j=>wC j<|sj _,b.short]
 .have i:=b.len p c;have g:=(b.foll t<|bX ht).2;exact .inl (by simp;lia)
 .rcases b.done p c with h|⟨a,i,g⟩|h
  .obtain⟨a,e⟩:=fM.mp h;exact .inr<|.inl #[a,iK _,e]
  .rw[iJ i]at g;cases g
  .exact .inr<|.inr h
theorem Bfs.told(b:Bfs f L x0 d ws [] [] 0 0):Told f L x0 ws:=#[b.head,b.keys,b.run,b.up,λp c=>by
 rcases b.done p c with h|⟨a,_,h⟩|h
 .nomatch h
 .simp at h
 .exact h,b.short]
theorem Told.least(T:Told f L x0 ws):∀n v,v.length=n->(∀l∈v,l<L)->∃u,(cu f x0 v,u)∈ws/\pR u v
 |0,v,a,_=>by
  have e:=sk.mp a;subst e;exact#[[],bX T.head,.inl zZ]
 | n+1,v,a,c=>by
  obtain⟨b,l,rfl⟩:∃b l,v=b++[l]:=#[v.dropLast,v.getLast (by intro z;rw[z]at a;cases a),(ID _).symm];obtain⟨u,d,g⟩:=T.least n b (by simp at a;lia) λx h=>c x (List.mem_append_left _ h);obtain⟨i,j,k⟩:=T.all _ d l (c l (gc _ (cf.mpr zZ)));refine#[i,?_,Vq k (Uq g)];have e:cu f x0 (b++[l])=f (cu f x0 b) l:=by
   unfold cu;rw[oJ];rfl
  rw[e];exact j
theorem wr{U:LN}(b:x0∈U)(c:∀x∈U,∀l,l<L->f x l∈U):∀word,(∀l∈word,l<L)->cu f x0 word∈U:=by
 have go:∀(word:bw) x,x∈U->(∀l∈word,l<L)->word.foldl f x∈U:=by
  intro word
  induction word with
  |nil=>intro x a _;exact a
  |cons l word d=>intro x a h;exact d _ (c x a l<|h l<|cJ ..) λy e=>h y<|dS _ e
 exact λword h=>go word x0 b h
theorem m9{U:LN}{l:LN}(nd:l.Nodup)(h:∀x∈l,x∈U):l.length<=U.length:=xo nd h
end
theorem Lf(a:sl u v)(b:sl v u):False:=Ep<|zD a b
theorem UI(h1:pR u v)(h2:pR v u):u=v:=by
 rcases h1 with h1|h1
 .exact h1
 .rcases h2 with h2|h2
  .exact h2.symm
  .exact(Lf h1 h2).elim
theorem JC:∀{a b:TW},(a.Pairwise λp q=>sl p.2 q.2)->(b.Pairwise λp q=>sl p.2 q.2)->(∀p,p∈a↔p∈b)->a=b
 | [],[],_,_,_=>rfl
 | [],q::b,_,_,h=>wC ((h q).mpr<|cJ ..)<|by simp
 |p::a,[],_,_,h=>wC ((h p).mp<|cJ ..)<|by simp
 | p::a,q::b,g,i,h=>by
  obtain⟨d,j⟩:=yo.mp g;obtain⟨f,k⟩:=yo.mp i;have l:p=q:=by
   rcases db.mp ((h p).mp<|cJ ..)with e|e
   .exact e
   .rcases db.mp ((h q).mpr<|cJ ..)with e'|e'
    .exact e'.symm
    .exact(Lf (f p e)<|d q e').elim
  subst l;have rest:=JC j k λr=>by
   constructor
   .intro c
    rcases db.mp ((h r).mp<|dS _ c)with e|e
    .subst e;exact(Ep<|d r c).elim
    .exact e
   .intro c
    rcases db.mp ((h r).mpr<|dS _ c)with e|e
    .subst e;exact(Ep<|f r c).elim
    .exact e
  rw[rest]
theorem Told.sub(T:Told f L b g)(k:Told f L b h)(l:p∈g):p∈h:=by
 obtain⟨o,q⟩:=T.run p l;obtain⟨u,a,r⟩:=k.least _ p.2 zZ o;rw[q]at a;obtain⟨s,t⟩:=k.run _ a;obtain⟨v,m,n⟩:=T.least _ u zZ s;rw[t]at m;have same:v=p.2:=by
  obtain⟨i,c⟩:=fM.mp m;obtain⟨j,d⟩:=fM.mp l;have w:i=j:=(iA (by rw[bA];exact(bN.mp c).1) T.keys).mp (by rw[bT,bT,c,d];rfl);subst w;rw[c]at d;rw[<-(ge d)]
 rw[same]at n;rw[(UI r n)]at a;exact a
theorem Told.uniq(T:Told f L b c)(a:Told f L b d):c=d:=JC T.up a.up λp=>#[λh=>T.sub a h,λh=>a.sub T h]
section
variable{P:Pg}{A:Ar}{E:VP}{s:Sh}{f d:Ad}
abbrev lP(k v:Vl):Obj:={cls:= .type "tuple",data:= .seq #v[k,v]}
abbrev qw(a:Vl)(b:Bool)(d:Ad)(i n j:Nat)(k v:Vl):Obj:={cls:= .type "dict_itemiterator",data:= .fields #v[a,.bool b,.ref d,.int i 0,.int n 0,.int j 0,k,v]}
def Lies(h:Heap)(d:Ad)(p:Array DictEntry)(j:Nat):Prop:=∃o,h.get? d=some o/\o.ExactDict/\o.data=.dict p j
def Goer(h:Heap)(f d:Ad)(i n j:Nat):Prop:=∃b c k v,h.get? f=some (qw b c d i n j k v)/\(b=.none\/∃a:Nat,b=rawInt a/\a≠f/\∃o,h.get? a=some o)
theorem Goer.keep(g:Goer h f d i n j)(k:∀o,h.get? f=some o->m.get? f=some o)(l:∀b o,h.get? b=some o->∃r,m.get? b=some r):Goer m f d i n j:=by
 obtain⟨p,q,x,v,e,c⟩:=g;refine#[p,q,x,v,k _ e,c.imp id ?_];rintro⟨a,s,t,o,u⟩;exact#[a,s,t,l a o u]
theorem So{Q:VP}(e:s.heap.get? f=some (qw l g d i n j C D))(c:l=.none\/∃a:Nat,l=rawInt a/\a≠f/\∃o,s.heap.get? a=some o)(q:∀y,Goer y f d i n j->y.get? s.heap.objs.size=some (lP k v)->(∀b o,b≠f->s.heap.get? b=some o->y.get? b=some o)->Q (.ref s.heap.objs.size) {s with heap:=y}):
  wpAny (model P w) A (Builtin.Dict_items.pairFromOwner (.ref f) 6 k v) Q E s:=by
 refine bz<|wpAny_newTuple ?_;have h:=cI (lP k v) e;have p:(s.heap.push<|lP k v).get? s.heap.objs.size=some (lP k v):=dE _ rfl;have B:∀b o,s.heap.get? b=some o->(s.heap.push<|lP k v).get? b=some o:=λb o z=>cI _ z;have G:=pd<|cy e
 rcases c with rfl|⟨a,rfl,H,o,T⟩
 .have free:∀{R} {I},I.heap.get? f=some (qw .none g d i n j C D)->R true I->wpAny (model P w) A (Builtin.Dict_items.ownedTupleIsFree<|.ref f) R E I:=λe r=>by
   exact bz<|xt e zZ zZ<|bJ r
  refine bz<|free h ?_;rw[wB zZ];refine bz<|xt h zZ zZ<|bz<|xt h zZ zZ<|bz<|oH h (by simp) λN J t=>wpAny_bind<|wpAny_setField_rec J (by simp) λh3 U Y=>?_;refine bz<|oH U (by simp) λh4 e4 s4=>wpAny_bind<|wpAny_setField_rec e4 (by simp) λh5 e5 s5=>wpAny_bind<|wpAny_letGo<|wpAny_pure ?_;have O:=((t.trans Y).trans s4).trans s5;have u:=O.extBut _ _ G p;exact q h5 #[_,_,_,_,e5,.inr #[_,zZ,G,_,u]] u λb o L z=>O.extBut _ _ L<|B b o z
 .have M:=B a o T;refine bz ?_;refine bz<|xt h zZ zZ ?_;have alive:∀{R},R (some o) {s with heap:=s.heap.push (lP k v)}->wpAny (model P w) A (loadIfAlive<|(a:Int).toNat) R E {s with heap:=s.heap.push (lP k v)}:=λ{R} r=>by
   rw[hY];exact λ_ _ _=>show R ((s.heap.push<|lP k v).get? a) _ by rw[M];exact r
  refine bz<|alive ?_
  refine bz<|xt h zZ zZ ?_;cases g with
  |true=>exact bJ<|bJ<|q _ #[_,_,_,_,h,.inr #[a,zZ,H,o,M]] p λb o _ z=>B b o z
  |false=>
   refine bz<|oH h (by simp) λN J t=>wpAny_pure<|wpAny_pure<|q N #[_,_,_,_,J,.inr #[a,zZ,H,o,t.extBut _ _ H M]] (t.extBut _ _ G p) λb o L z=>t.extBut _ _ L<|B b o z
end
section
variable{P:Pg}{A:Ar}{E:VP}{s:Sh}
theorem UA{Q:Option Vl->Sh->Prop}(G:Goer s.heap f d i g.size h)(L:Lies s.heap d g h)(y:g[i]?=some j)(q:∀p,Goer p f d (i+1) g.size h->p.get? s.heap.objs.size=some (lP j.key j.val)->(∀b o,b≠f->s.heap.get? b=some o->p.get? b=some o)->Q (some (.ref s.heap.objs.size)) {s with heap:=p}):
  wpAny (model P w) A (pyNext (.ref f)) Q E s:=by
 obtain⟨r,t,J,M,e,c⟩:=G;obtain⟨o,B,_,C⟩:=L;have ty:s.TypeIs (.ref f) "dict_itemiterator":=#[_,e,zZ];have lt:=(Ba.mp y).1;unfold pyNext;refine bz (se (vc (name:=Str.ofString "__next__") ty zA (mC zA ty JU ?_ (KQ _))));refine bz (bJ (bz (bz ?_)));refine bz (De ty (bJ (bz (y3 e zZ ?_))));have l:Builtin.Dict_items.ownsTuple "dict_itemiterator"=true:=by decide
 simp only[l,if_true];refine show wpAny _ _ (if(Value.ref d==Value.none)=true then _ else _) _ _ s from(wA (show ¬((Value.ref d==Value.none)=true)from fT))▸bz (bJ (bz (vx B C ?_)))
 rw[wA (by simp)];refine bz (bJ (bz (xc B C ?_)));rw[wA (by simp)];refine bJ ?_;have u:(if((i:Nat):Int)<0 then none else g[((i:Nat):Int).toNat]?)=some j:=by
  rw[wA (),hY];exact y
 show wpAny _ _ (match (if((i:Nat):Int)<0 then none else g[((i:Nat):Int).toNat]?)with|some e=>_|none=>_) _ _ s;rw[u];refine bz (bz (De ty (bJ (bz (EL ty ?_)))));refine show wpAny _ _ (setField (.ref f) 3 (rawInt ((i:Int)+1)) >>= _) _ _ s from bz (oH e (by simp) λk N v=>wpAny_bind (wpAny_holding ?_))
 have m:k.get? f=some (qw r t d (i+1) g.size h J M):=by
  have z:((i+1:Nat):Int)=(i:Int)+1:=by lia
  unfold qw;rw[z];simpa[rawInt]using N
 have n:Shared.TypeIs {s with heap:=k} (.ref f) "dict_itemiterator":=#[_,m,rfl];refine bz (EL n (bz (EL n ?_)));have sz:=v.1;refine show wpAny _ _ (Builtin.Dict_items.pairFromOwner (.ref f) 6 j.key j.val) _ _ {s with heap:=k}from So (s:={s with heap:=k}) m (c.imp id ?_) λD O T U=>?_
 .rintro⟨a,Y,H,oa,z⟩;exact#[a,Y,H,oa,v.extBut _ _ H z]
 .have x:D.get? s.heap.objs.size=some (lP j.key j.val):=by rw[<-sz];exact T
  show wpAny _ _ (ret (.ref k.objs.size)) _ _ _;rw[sz];exact bJ #[_,zZ,bJ (q D O x λb o I z=>U b o I (v.extBut _ _ I z))]
theorem QH{Q:Option Vl->Sh->Prop}(r:A.handled=none)(G:Goer s.heap f d i g.size h)(L:Lies s.heap d g h)(t:g[i]?=none)(q:∀l,Heap.ExtBut f s.heap l->Q none {s with heap:=l}):wpAny (model P w) A (pyNext (.ref f)) Q E s:=by
 obtain⟨u,v,B,C,e,c⟩:=G;obtain⟨o,n,_,p⟩:=L;have ty:s.TypeIs (.ref f) "dict_itemiterator":=#[_,e,zZ];unfold pyNext;refine bz (se (vc (name:=Str.ofString "__next__") ty zA (mC zA ty JU ?_ (KQ _))));refine bz (bJ (bz (bz ?_)));refine bz (De ty (bJ (bz (y3 e zZ ?_))));have j:Builtin.Dict_items.ownsTuple "dict_itemiterator"=true:=by decide
 simp only[j,if_true];refine show wpAny _ _ (if(Value.ref d==Value.none)=true then _ else _) _ _ s from(wA (fT))▸bz (bJ (bz (vx n p ?_)))
 rw[wA (by simp)];refine bz (bJ (bz (xc n p ?_)));rw[wA (by simp)];refine bJ ?_;have k:(if((i:Nat):Int)<0 then none else g[((i:Nat):Int).toNat]?)=none:=by
  rw[wA (),hY];exact t
 show wpAny _ _ (match (if((i:Nat):Int)<0 then none else g[((i:Nat):Int).toNat]?)with|some e=>_|none=>_) _ _ s;rw[k];refine bz (bz (De ty (bJ ?_)));refine show wpAny _ _ (setField (.ref f) 2 .none >>= _) _ _ s from bz (oH e (by simp) λD H x=>?_)
 refine bz (m:=newExc _ _) ?_;simp only[newExc,newTuple];refine bz (qe ?_ (by size_fits));refine bz (m:=firstArgMember _ _) (CJ (a:=Value.none) (by first|rfl|(unfold firstArgMember;rfl)) (wpAny_newObj_type ?_ (by size_fits)));refine FQ (by simpa using r) (wpAny_bind (wpAny_isInstance (T:="StopIteration") (b:=true) #[_,Heap.get?_push_size _ zZ,zZ] isSubtype_stop (wpAny_pure ?_)));exact q _ λb o y z=>cI _ (cI _ (x.extBut b o y z))
end
structure PMade(es:Array DictEntry)(lo:Ad)(h:Heap)(as:As):Prop where
 far:∀a∈as,lo<a
 up:as.Pairwise (· < ·)
 is:∀(j:Nat) (a:Ad),as[j]?=some a->∃en,es[j]?=some en/\h.get? a=some (lP en.key en.val)
theorem PMade.nil{lo:Ad}:PMade a lo h []:=#[λ_ z=>(nomatch z),.nil,λ_ _ z=>by simp at z]
theorem PMade.here{lo:Ad}(m:PMade c lo h b):∀a∈b,a<h.objs.size:=λa d=>by
 obtain⟨j,e⟩:=fM.mp d;obtain⟨_,_,g⟩:=m.is j a e;exact cy g
theorem PMade.keep{lo:Ad}(m:PMade c lo h f)(k:∀b o,lo<b->h.get? b=some o->d.get? b=some o):PMade c lo d f:=
 #[m.far,m.up,λj a e=>by
  obtain⟨i,x,g⟩:=m.is j a e;exact#[i,x,k a _ (m.far a<|bX e) g]]
theorem PMade.more{lo a:Ad}(m:PMade i lo h d)(o:lo<a)(new:∀b∈d,b<a)(x:i[d.length]?=some f)(g:h.get? a=some (lP f.key f.val)):PMade i lo h (d++[a]):=
  #[λb k=>by
    rcases cF.mp k with z|z
    · exact m.far b z
    · rw[cf.mp z];exact o,
   jp.mpr #[m.up,u6 _ _,λb k c p=>by rw[cf.mp p];exact new b k],
   λj b e=>by
    by_cases l:j<d.length
    · rw[dO l]at e
      exact m.is j b e
    · rw[dQ (DD l)]at e
      obtain⟨z,n⟩:=bN.mp e;have r:j-d.length=0:=by simp at z;lia
      have q:j=d.length:=by lia
      subst q;simp at n;subst n;exact#[f,x,g]]
section
variable{P:Pg}{w:World}{A:Ar}{R:Result->Sh->Prop}{S I d:Ad}{g:Nat}{f:Vl}
abbrev zG(h:Heap)(S:Ad)(a:AV)(c:Nat):Prop:=h.get? S=some {cls:= .type "list",data:= .seq a c}
theorem Im(U:A.handled=none)(H:S<I)(Y:d≠S)(dI:d≠I)(aa:a.size<=sizeLine):∀r i (s:Sh) h c,i+r=a.size->h.length=i->Goer s.heap I d i a.size g->Lies s.heap d a g->
      zG s.heap S (h.map Value.ref).toArray c->PMade a I s.heap h->
      (∀j bs v,bs.length=a.size->PMade a I j bs->zG j S (bs.map Value.ref).toArray v->(∀b o,b≠S->b≠I->s.heap.get? b=some o->j.get? b=some o)->R (.ok (.ret f)) {s with heap:=j})->
      codeAny (model P w) A (.builtin "list.extend.loop" #[[.ref S,.ref I,f],[]]) R s:=by
  have k:=dr H;intro r
  induction r with
  | zero=>
    intro i s h c hi y G L t M q;refine o0 F.entry_extend_loop ?_;rw[rf zH _];refine bz<|QH U G L (Array.getElem?_eq_none ()) λj x=>wpAny_pure ?_
    exact q j h c () (M.keep λb o l e=>x b o (pd l) e) (x S _ k t) λb o _ z e=>x b o z e
  | succ r ih=>
    intro i s h c hi y G L t M q;obtain⟨J,N⟩:∃J,a[i]?=some J:=#[a[i]'(),kS ()];have B:I<s.heap.objs.size:=by
      obtain⟨_,_,_,_,e,_⟩:=G;exact cy e
    refine o0 F.entry_extend_loop ?_;rw[rf zH _];refine bz<|UA G L N λm G1 p1 u=>?_
    have n:=u S _ k t;refine show wpAny _ A.in1 (updateSeq S (·.push<|Value.ref s.heap.objs.size) >>= _) _ _ {s with heap:=m}from bz<|CB n rfl (bJ #[vb zH _,?_]) ?_ ?_
    · have off:∀b o,b≠S->m.get? b=some o->(m.update S<|Obj.mapSeq (·.push<|Value.ref s.heap.objs.size)).get? b=some o:=λb o z e=>(mD _ _<|dX z).trans e
      have p:=yi (Obj.mapSeq (·.push (Value.ref s.heap.objs.size))) n rfl;obtain⟨D,h0,x0,y0⟩:=L;have M1:=M.keep λb o l e=>u b o (pd l) e
      refine ih (i+1) {s with heap:=m.update S (Obj.mapSeq (·.push (Value.ref s.heap.objs.size)))} (h++[s.heap.objs.size]) _ () (by simp[y]) (G1.keep (λo e=>off I o (Ne.symm k) e) λb o e=>?_)
        #[D,off d D Y (u d D dI h0),x0,y0] (by simpa[Obj.mapSeq,List.map_append]using p) ?_ λj bs v l' M' E k'=>q j bs v l' M' E λb o O Q e=>k' b o O Q (off b o O (u b o Q e))
      · by_cases T:b=S
        · subst T
          exact#[_,p]
        · exact#[o,off b o T e]
      · exact(M1.keep λb o l e=>off b o (pd (Cy H l)) e).more B M.here (y▸N) (off _ _ (pd (cy t)) p1)
    · simp;lia
    · simp;lia
end
section
variable{P:Pg}{A:Ar}{E:VP}{s:Sh}{v d:Ad}
abbrev ut(d:Ad):Obj:={cls:= .type "dict_items",data:= .fields #v[.ref d]}
theorem Lies.typeIs(L:Lies s.heap d f g):s.TypeIs (.ref d) "dict":=let⟨o,h,x,_⟩:=L;#[o,h,x.1]
theorem PF{Q:VP}(nd:(d==sysModules)=false)(L:Lies s.heap d f g)(q:Q (.ref s.heap.objs.size) {s with heap:=s.heap.push (ut d)}):wpAny (model P w) A (call (.builtin "dict.items") [.ref d]) Q E s:=by
 refine call_meetsIn (S:=λ_ R s=>Lies s.heap d f g/\R (.ok<|.ret<|.ref s.heap.objs.size) {s with heap:=s.heap.push (ut d)}) F.slot_dict_items L.typeIs F.entry_dict_items (F.args_dict_items_1 _) (.of_wp λA R s ⟨L,r⟩=>?_) #[L,q];refine bz<|bz<|wpAny_notOrdered_dict L.typeIs ?_;refine bJ<|?_
 have all:Builtin.Dict.showsAll d=pure Unit.unit:=by
  unfold Builtin.Dict.showsAll;rw[nd];rfl
 rw[all];exact bz<|bJ<|bz<|qe<|bJ #[_,zZ,r]
theorem Si{Q:VP}(a:s.heap.get? v=some (ut d))(L:Lies s.heap d f g)(q:Q (.ref s.heap.objs.size) {s with heap:=s.heap.push (qw .none false d 0 f.size g .none .none)}):wpAny (model P w) A (pyIter (.ref v)) Q E s:=by
 have ty:s.TypeIs (.ref v) "dict_items":=#[_,a,zZ];obtain⟨o,b,_,c⟩:=L;refine zb ty F.slot_dict_items_iter<|mC F.slot_dict_items_iter ty F.entry_dict_items_iter ?_<|F.args_dict_items_iter_1 _;refine bz<|bJ<|bz<|bz<|xt a zZ zZ<|bJ<|bz<|bz<|vx b c<|bz<|xc b c ?_;refine show wpAny _ _ (newFields "dict_itemiterator" [.none,.bool false,.ref d,rawInt 0,rawInt (f.size:Nat),rawInt (g:Nat),.none,.none]) _ _ s from qe (bJ #[_,zZ,"dict_itemiterator",_,#[_,dE _ zZ,zZ],zA.lookup,q])<|by size_fits
theorem RN{Q:Bool->Sh->Prop}(ty:s.TypeIs (.ref v) "dict_items")(q:Q false s):wpAny (model P w) A (Builtin.List.listLengthHint (.ref v)) Q E s:=W.kdx_hint ty q
theorem OS{Q:VP}(hh:A.handled=none)(Y:s.heap.get? v=some (ut d))(L:Lies s.heap d f g)(H:f.size<=sizeLine)(q:∀j n c k,n.length=f.size->PMade f s.heap.objs.size j n->zG j s.heap.objs.size (n.map Value.ref).toArray c->(∀b o,s.heap.get? b=some o->j.get? b=some o)->Q (.ref s.heap.objs.size) {s with heap:=j,toks:=k}):
  wpAny (model P w) A (call (.type "list") [.ref v]) Q E s:=by
 let S:=s.heap.objs.size
 obtain⟨o,I,x,hd⟩:=id L;have ld:=cy I;have lv:v<S:=cy Y;refine callType_codes (Q₁:=λp t=>p=.ref S/\t={s with heap:=s.heap.push {cls:= .type "list",data:= .seq #v[]}}) F.called_list (F.typeCall_list_1 _) F.entry_list_init (code_list_new _ #[rfl,rfl]) λp s1 z=>?_;obtain⟨rfl,rfl⟩:=z;have G:zG (s.heap.push {cls:= .type "list",data:= .seq #v[]}) S #v[] 0:=dE _ rfl;refine#[#[_,G,zZ],F.args_list_init_2 _ _,?_];unfold Builtin.«list.__init__» Builtin.List.listItems;refine bz<|bz<|wpAny_seqItems G zZ<|bJ ?_;refine bz (m:=updateSeq S _)<|CB G zZ<|bz<|wpAny_letGo ?_;have J:=yi (Obj.mapSeq<|λ_=>(#v[]:AV)) G rfl
 let u:=(s.heap.push {cls:= .type "list",data:= .seq #v[]}).update S<|Obj.mapSeq<|λ_=>(#v[]:AV)
 have M:∀b o,s.heap.get? b=some o->u.get? b=some o:=λb o e=>(mD _ _<|pd<|cy e).trans<|cI _ e;have N:u.objs.size=S+1:=by
  show(Heap.update _ _ _).objs.size=_;simp[Heap.update,Heap.push,S]
 have go:∀(l:Heap) (c k:Nat),zG l S #v[] c->(∀b o,b≠S->(u.push<|qw .none false d 0 f.size g .none .none).get? b=some o->l.get? b=some o)->
   codeAny (model P w) A.in1 (.builtin "list.extend.loop" #[[.ref S,.ref u.objs.size,.none],[]]) (wants (λr y=>r=Value.none/\Q (Value.ref S) y) E) {s with heap:=l,toks:=k}:=λl c k l2 k2=>by
  have B:S<u.objs.size:=by rw[N];exact ti _
  have C:∀b o,s.heap.get? b=some o->l.get? b=some o:=λb o e=>k2 b o (dr<|cy e)<|cI _<|M b o e;refine Im (by simpa using hh) B (Nat.ne_of_lt ld) (Nat.ne_of_lt<|Nat.lt_trans ld B) H f.size 0 {s with heap:=l,toks:=k} [] c () rfl #[_,_,_,_,k2 _ _ (Nat.ne_of_gt B)<|Heap.get?_push_size _ rfl,.inl rfl] #[o,C d o I,x,hd] l2 .nil λj n c' l' O U k'=>?_;refine#[zZ,q j n c' k l' #[λa ha=>Cy B (O.far a ha),O.up,O.is] U λb o e=>?_];have lb:b<S:=cy e;exact k' b o (dr lb) (dr (Cy lb B)) (C b o e)
 refine show wpAny _ _ (Builtin.List.listExtendWith (.ref S) (.ref v) .none) _ _ _ from ?_
 unfold Builtin.List.listExtendWith;have h:=M v _ Y;refine bz (wpAny_typeOf (T:="dict_items") #[_,h,zZ] ?_);have no:(Builtin.List.listSameRef (.ref S) (.ref v) || Value.type "dict_items"==Value.type "list" || Value.type "dict_items"==Value.type "tuple")=false:=by
  have z:Builtin.List.listSameRef (.ref S) (.ref v)=false:=by simp[Builtin.List.listSameRef,Nat.ne_of_gt lv]
  rw[z];decide
 rw[no,wA (by decide)];refine bz (Si h #[o,M d o I,x,hd] (bz (jg (RN #[_,cI _ h,zZ] ?_))));have i:=cI (qw .none false d 0 f.size g .none .none) J;refine FK (λ_=>?_) λ_=>bJ #[vb zH _,go _ _ _ i λ_ _ _ e=>e];unfold Builtin.List.listTouch Builtin.List.listUpdate;refine bz (qj (bz (bz (m:=updateSeq S _) (CB i zZ ?_))));have D:=yi (Obj.mapSeq (·.push Value.none)) i rfl;refine show wpAny _ _ (updateSeq S (·.pop)) _ _ _ from CB (hz:=by seq_fits) D zZ (bJ #[vb zH _,go _ _ _ (yi (Obj.mapSeq (·.pop)) D zZ) λb o nb e=>?_])
 rw[mD _ _ (dX nb),mD _ _ (dX nb)];exact e
end
noncomputable def qd(H:Hp):List (Ad×HO)->Hp
 | []=>H
 |p::l=>qd (bx H p.1 p.2) l
theorem Iv:∀{l} {H} {b},(∀p∈l,b≠p.1)->qd H l b=H b
 | [],_,_,_=>rfl
 |p::l,H,b,n=>by
  show qd (bx H p.1 p.2) l b=_;rw[Iv λq a=>n q<|dS _ a,bI<|n p<|cJ ..]
theorem Il:∀{l} {H} {p},(l.map (·.1)).Nodup->p∈l->qd H l p.1=some p.2
 | q::l,H,p,nd,hp=>by
  obtain⟨a,b⟩:=lQ.mp nd
  rcases db.mp hp with rfl|hp
  .show qd (bx H p.1 p.2) l p.1=_;rw[Iv λr c z=>a<|bY.mpr #[r,c,z.symm],bE]
  .exact Il (l:=l) b hp
theorem DZ{m:List d}{j:Nat}{a:c}(r:Paired F l m)(e:l[j]?=some a):∃b,m[j]?=some b/\F a b:=by
 induction r generalizing j with
 |nil=>simp at e
 | cons h _ f=>
  cases j with
  |zero=>
   have z:=ge e;subst z;exact#[_,zZ,h]
  |succ j=>exact f e
theorem Inv.tracks{c:St}{s s1:Sh}(I:Inv X a c h s):∀l H,Inv X a c H s1->(∀p∈l,s.heap.objs.size<=p.1/\H p.1=none/\∀i,ObjOk X.prog X.w i s1.heap p.1 p.2)->(l.map (·.1)).Nodup->
  Inv X a c (qd H l) s1
 | [],_,d,_,_=>d
 |p::l,H,d,ok,nd=>by
  obtain⟨j,k⟩:=lQ.mp nd;obtain⟨f,n,o⟩:=ok p<|cJ ..;obtain⟨u,m,v,w,r,t⟩:=I.fpOk f n;refine Inv.tracks I l _ (d.track n (o _) (cz I.sz f) m r t) (λq g=>?_) k;obtain⟨x,y,z⟩:=ok q<|dS _ g;exact#[x,by rw[bI λe=>j<|bY.mpr #[q,g,e]];exact y,z]
structure Listed(H H':Hp)(kvs:List (List cE×V))(l:Ad)(as:As):Prop where
 new:H l=none
 news:∀a∈as,H a=none
 out:l∉as
 nd:as.Nodup
 len:as.length=kvs.length
 lst:H' l=some (.lst (as.map .ref))
 is:∀(j:Nat) (a:Ad),as[j]?=some a->∃k v b,kvs[j]?=some (k,v)/\H b=some (.tup (k.map kV))/\H' a=some (.tup [.ref b,v])
 rest:∀b,b≠l->b∉as->H' b=H b
noncomputable def AX(v d:Ad):HO:= .ext λh=>h.get? v=some (ut d)
def QC:V->List V->Hp->VK->Prop:=λx c H Q=>c=[]/\∃a b,x=.ref a/\H a=some (.dT b)/\∀v,H v=none->Q (.ref v) (bx H v (AX v a))
theorem RH:mZ X "dict.items" QC:=by
 intro n s p H x r u t Q I b c h;obtain⟨rfl,a,d,rfl,f,q⟩:=h;cases b;cases c;obtain⟨z,g,v,i,o,w,A,j,l,m,_⟩:=I.hok a _ f;refine PF g #[o,j,l,m] #[.ref s.heap.objs.size,_,I.laid (λ_ _ q=>cI _ q) (bR _) ?_,zZ,q _ I.fresh];have e:(s.heap.push<|ut a).get? s.heap.objs.size=some (ut a):=dE _ rfl;exact#[e,#[_,e],λB C y k=>k _ y]
inductive hA(c:List V)(H:Hp)(Q:VK):Prop|mk:∀v a b,c=[.ref v]->H v=some (AX v a)->H a=some (.dT b)->(∀l e d,Listed H d b l e->Q (.ref l) d)->hA c H Q
theorem Rk(hc:X.calm=true):iu X (.type "list") hA:=by
 intro za s σ H xs us Q I r h;obtain⟨v,a,t,rfl,hv,ha,q⟩:=h;obtain⟨u,rfl,ru⟩:=hV r;cases ru;obtain⟨ev,_,_⟩:=I.hok v _ hv;obtain⟨z,na,ys,E,o,es,ep,e1,e2,e3,e4,_⟩:=I.hok a _ ha;have el:es.size=t.length:=by rw[DY e4,<-qg E]
 refine OS (I.ok.hd hc) ev #[o,e1,e2,e3] () λD f c tk ln M lS k=>?_;have I1:Inv X za σ H {s with heap:=D,toks:=tk}:=I.kept k;have big:∀b,s.heap.objs.size<=b->H b=none:=λb n=>I.hok.fresh n;have nd:=M.up.imp λz=>dr z;have A:=λm=>ni _ (M.far _ m);have G:∀(j:Nat) b,f[j]?=some b->∃k x y,t[j]?=some (k,x)/\H y=some (.tup (k.map kV))/\∃u,RelV x u/\D.get? b=some (lP (.ref y) u):=λj b d=>by
  obtain⟨en,ee,g⟩:=M.is j b d;obtain⟨jl,_⟩:=bN.mp d;obtain⟨⟨k,x⟩,ek⟩:∃p,t[j]?=some p:=#[_,bC ()];obtain⟨⟨k',y,u⟩,ey,p1,p2,p3⟩:=DZ E ek;rw[entry_at e4,ey]at ee;cases ee;exact#[k,x,y,ek,p2,u,p3,g]
 have w:∀b,∃o:HO,∀j:Nat,f[j]?=some b->∃k x y,t[j]?=some (k,x)/\H y=some (.tup (k.map kV))/\o=.tup [.ref y,x]/\∃u,RelV x u/\D.get? b=some (lP (.ref y) u):=λb=>by
  by_cases n:b∈f
  .obtain⟨j,d⟩:=fM.mp n;obtain⟨k,x,y,L,N,u,O,T⟩:=G j b d;refine#[.tup [.ref y,x],λi ei=>?_];have ij:=iA (bN.mp d).1 nd |>.mp (d.trans ei.symm)
   subst ij;exact#[k,x,y,L,N,zZ,u,O,T]
  .exact#[.tup [],λj d=>wC (bX d) n]
 let J:Ad->HO:=λb=>Classical.choose (w b)
 have B:∀(j:Nat) (b:Ad),f[j]?=some b->∃k x y,t[j]?=some (k,x)/\H y=some (.tup (k.map kV))/\J b=.tup [.ref y,x]/\∃u,RelV x u/\D.get? b=some (lP (.ref y) u):=λj b d=>ub (w b) j d;have C:(f.map λb=>(b,J b)).map (·.1)=f:=by simp[List.map_map,Function.comp_def]
 have U:∀b∈f,∀Y,ObjOk X.prog X.w Y D b (J b):=λb n Y=>by
  obtain⟨j,d⟩:=fM.mp n;obtain⟨k,x,y,L,N,O,u,T,h5⟩:=B j b d;rw[O];exact#[by show 2<=sizeLine;decide,[.ref y,u],.cons zZ (.cons T .nil),_,h5,zZ,0,zZ,zZ]
 have vs:∀l:As,Vals (l.map V.ref) (l.map Value.ref):=λl=>by
  induction l with
  |nil=>exact .nil
  |cons x l ih=>exact .cons zZ ih
 have I2:=Inv.tracks I ((s.heap.objs.size,.lst (f.map .ref))::f.map λb=>(b,J b)) H I1 (λp hp=>by
   rcases db.mp hp with rfl|hp
   .exact#[bR _,big _ (bR _),λY=>#[by rw[bA];lia,_,c,vs f,lS]]
   .obtain⟨b,n,rfl⟩:=bY.mp hp;exact#[eZ (M.far b n),big _ (eZ (M.far b n)),U b n]) (by
   rw[hI,C];exact lQ.mpr #[A,nd])
 refine#[.ref s.heap.objs.size,_,I2,zZ,q _ f _ #[big _ (bR _),λb n=>big _ (eZ (M.far b n)),A,nd,(),?_,λj b d=>?_,λb L N=>?_]]
 .exact Il (by rw[hI,C];exact lQ.mpr #[A,nd]) (cJ ..)
 .obtain⟨k,x,y,g1,g2,g3,_⟩:=B j b d;refine#[k,x,y,g1,g2,?_];rw[<-g3];exact Il (by rw[hI,C];exact lQ.mpr #[A,nd]) (dS _ (bY.mpr #[b,bX d,zZ]))
 .refine Iv λp hp=>?_
  rcases db.mp hp with rfl|hp
  .exact L
  .obtain⟨y,hy,rfl⟩:=bY.mp hp;exact λe=>N (e▸hy)
noncomputable def a4v(b:TW)(c:As):List (List cE×V):=List.zipWith (λp a=>(nk p.1,V.ref a)) b c
theorem FS{a:Ad}(h:as.length=ws.length):a4v (ws++[p]) (as++[a])=a4v ws as++[(nk p.1,.ref a)]:=by
 unfold a4v;rw[List.zipWith_append h.symm];rfl
theorem Ky(h:b.length=a.length):(a4v a b).length=a.length:=by
 unfold a4v;rw[CY];lia
theorem RB{c:As}{j:Nat}{a:Ad}(d:b[j]?=some p)(e:c[j]?=some a):(a4v b c)[j]?=some (nk p.1,.ref a):=by
 unfold a4v;rw[F5,d,e]
theorem we:∀{b} {c} {x},x∉b.map (·.1)->iq (a4v b c) (nk x)=none
 | [],_,_,_=>rfl
 |_::_,[],_,_=>rfl
 |p::b,a::c,x,h=>by
  exact(A'<|λz=>h<|bY.mpr #[p,cJ ..,DU z]).trans<|we λz=>h<|dS _ z
theorem DO:∀{c} {d:As} {j:Nat} {p} {a:Ad},(c.map (·.1)).Nodup->c[j]?=some p->d[j]?=some a->iq (a4v c d) (nk p.1)=some (.ref a)
 |q::c,b::d,0,p,a,_,e,f=>by
  cases e;cases f;exact Cn rfl
 |q::c,b::d,j+1,p,a,nd,e,f=>by
  obtain⟨h,i⟩:=lQ.mp nd;have g:c[j]?=some p:=by simpa using e
  exact(A' (λz=>h (bY.mpr #[p,bX g,(DU z).symm]))).trans (DO i g f)
 | [],_,_,_,_,_,e,_=>by simp at e
 |_::_,[],_,_,_,_,_,f=>by simp at f
structure WordsAt(H:Hp)(D:Ad)(ws:TW)(as:As):Prop where
 len:as.length=ws.length
 dict:H D=some (.dT (a4v ws as))
 list:∀(j:Nat) (a:Ad) p,as[j]?=some a->ws[j]?=some p->H a=some (.lst (p.2.map nv))
theorem WordsAt.same(W:WordsAt H D c d)(g:Same H b):WordsAt b D c d:=#[W.len,g _ _ W.dict,λj a p e f=>g _ _<|W.list j a p e f]
theorem WordsAt.word(W:WordsAt H D b c)(nd:(b.map (·.1)).Nodup)(f:p∈b):∃a,iq (a4v b c) (nk p.1)=some (.ref a)/\H a=some (.lst (p.2.map nv)):=by
 obtain⟨j,e⟩:=fM.mp f;obtain⟨g,_⟩:=bN.mp e;obtain⟨a,d⟩:∃a,c[j]?=some a:=#[_,bC (by rw[W.len];exact g)];exact#[a,DO nd e d,W.list j a p d e]
theorem WordsAt.put(W:WordsAt H D c e)(f:H l=some (.lst (p.2.map nv))):WordsAt (bx H D (.dT (a4v c e++[(nk p.1,.ref l)]))) D (c++[p]) (e++[l]):=by
 have g:∀{a} {k},H a=some (.lst k)->a≠D:=λh=>nE h W.dict;refine#[by simp[W.len],by rw[bE,FS W.len],λj a q d b=>?_];by_cases i:j<c.length
 .rw[dO (by rw[W.len];exact i)]at d;rw[dO i]at b;have z:=W.list j a q d b;rw[bI<|g z];exact z
 .rw[dQ (by rw[W.len];lia)]at d;rw[dQ ()]at b;have z:j-c.length=0:=by
   have:=(bN.mp b).1;simp at this;lia
  rw[W.len,z]at d;rw[z]at b;cases d;cases b;rw[bI<|g f];exact f
noncomputable def noT(H:Hp):Hp:=λa=>match H a with
 |some (.tbl _)=>none
 |o=>o
theorem ss(h:H a=some o)(n:∀b,o≠ .tbl b):noT H a=some o:=by
 unfold noT;rw[h];cases o<;>first|rfl|exact wC zZ<|n _
noncomputable def QL:HO->Bool
 |.tbl _=>true
 |_=>false
theorem nU(h:H a=some o)(d:QL o=false:=by rfl):noT H a=some o:=ss h λb e=>by subst e;cases d
theorem xp(h:noT H a=some o):H a=some o/\∀b,o≠ .tbl b:=by
 unfold noT at h;split at h
 .cases h
 .rename_i n
  exact#[h,λb z=>n b<|by rw[h,z]]
theorem Jy(h:H a=none):noT H a=none:=by
 unfold noT;rw[h]
def Keeps(H a:Hp):Prop:=Same (noT H) a
theorem Same.keeps(g:Same H b):Keeps H b:=λa o h=>g a o (xp h).1
theorem Keeps.refl(H):Keeps H H:=(Same.refl H).keeps
theorem Keeps.trans(a:Keeps H d)(b:Keeps d e):Keeps H e:=λc o h=>b c o<|ss (a c o h) (xp h).2
def TabOk(a:Str)(b:Pos)(H:Hp)(T:Ad):Prop:=H T=some (.tbl #v[])\/∃c,H T=some (.tbl (kg b c))/\H c=some (j4 c a)
theorem TabOk.same(t:TabOk a b H T)(g:Same H c):TabOk a b c T:=by
 rcases t with t|⟨d,e,f⟩
 .exact .inl<|g _ _ t
 .exact .inr #[d,g _ _ e,g _ _ f]
def DefAt(K:V3)(x:Str)(st:Stmt)(f:Ad)(b:Fd)(g e:Vl):Prop:=
 W.codeIn K e x=true/\(∃kV a pm h i,b=W.fnOf x x (jv st) (gK st) (bQ st) g kV a pm h e i)/\∃c d sl,K.lookup f=some #[c,d,.func b,sl]
section
variable{K:V3}{st:Stmt}
def NU(P:Pg)(w:World)(K:V3)(mg:SV)(a:Heap)(x:Str)(st:Stmt)(f:Ad)(m:Vl)(N:Ss)(k:Nat)(g:Sp):Prop:=
 ∀A b s H c Q E,g c H Q E->Room k (A.deeper (envOfC x (bQ st) s.heap.objs.size f m))->∃t,t #[λ_ d=>Q .non d,Q,λ_ _=>False,λ_ _=>False] (start N c) H/\PSs (t8 bZ P w K mg a N x (bQ st) f m A b s H E).nox (gK st) t
theorem DefAt.fnOk(d:DefAt K x st f l n m)(p:FnScope N i (bQ st))(len:∀j H Q E,g j H Q E->j.length=i.length)(b:NU P w K mg a x st f m N k g):FnOk P w K mg a bZ (k+1) f l i g:=by
 obtain⟨c,⟨kV,r,pm,v,y,rfl⟩,_,_,_,lk⟩:=d;refine Lq lk c p len λA e s H j Q E u o=>?_;obtain⟨t,q,h⟩:=b A e s H j Q E o u;exact#[t,h.nox,q]
def Bh(P:Pg)(w:World)(K:V3)(mg:SV)(a:Heap)(x:Str)(k:Nat)(i:Ss)(g:Sp)(b:List V):Prop:=
 ∃f l c,FnOk P w K mg a bZ k f l i g/\mg x=some (.ref f)/\W.keepIn K (.ref f)=true/\Binds K l i c/\Vals b c
theorem Fy{c:Ad}{p d:Pos}(q:Bh X.prog X.w X.K X.mg X.base x k i g a)(r:Room k X.A)(s:Gl X x)(u:X.N[j]?=some y)(v:X.env.cells.lookup y=some c)(h:X.env.scope.names.lookup y=some .cell) (m:X.fn y=true) (w:PA X (e::b) t) (n:(x==("__debug__":Str))=false:=by decide) (z:starEach (e::b) X.env=(false,eval e X.env)::starEach b X.env:=by rfl)
  (o:(backTo d (starEach b X.env)).any (·.1)=false:=by rfl):PE X (.Call (.Name x p) (e::b) [] d) (Mw g a j c t):=by
 obtain⟨f,l,E,F,A,B,C,D⟩:=q;exact N4 F r s A B C D u v h m w n z o
end
def J8(d e:TE):TE:=λc H Q=>∀p,H p=none->d c (bx H p (.dT [])) λx f=>e c f λy a=>a p=some (.dT [])/\∃b k,x=.ref b/\a b=some (.tup (k.map kV))/\Q (.ref p) (bx a p (.dT [(k,y)]))
theorem S4(hu:X.A.units+1<cLine)(D:PE X k A)(E:PE X v B):PE X (.Dict [some k] [v] pos) (J8 A B):=by
 intro J s L H Q I q;have M:=I.hok.fresh<|bR s.heap.objs.size;have N:=I.laid (a:=s.heap.objs.size) (o:= .dT []) (h':=s.heap.push {cls:= .type "dict",data:= .dict #v[]}) (t':=s.toks) (λ_ _ q=>cI _ q) (bR _)<|LO s.heap I.big;have pairs:=Uz (X:=X) (pos:=pos) D E Qs;have O:=q s.heap.objs.size M;rw[arm_eval_Dict];refine bz<|Cb ?_;have d:(evalEachOpt [some k] X.env).zip ((evalEach [v] X.env).map λv=>do let x <-v;standAt pos;pure x)=(pairTrees [some k] [v] X.env pos).map λp=>(some p.1,p.2):=rfl;rw[d,dictDisplay_pairs _ (by intro z;cases z) (by show 1<17;decide)];refine bz ?_;unfold subDict;refine bz<|wpAny_alloc<|bz<|jg ?_;rw[wB (by show 1<=15;decide)]
 let G:List (V×V)->Hp->Prop:=λf i=>match f with| [(x,y)]=>i s.heap.objs.size=some (.dT [])/\∃b k,x=.ref b/\i b=some (.tup<|k.map kV)/\Q (.ref s.heap.objs.size) (bx i s.heap.objs.size<|.dT [(k,y)])|_=>False
 refine bz<|bS (pairs J _ L _ G N O) λT s2 ⟨f,i,l,m,g⟩=>?_;obtain⟨x,y,rfl⟩:∃x y,f=[(x,y)]:=by
  cases f with
  |nil=>exact wE g
  |cons p f=>
   cases f with
   |nil=>exact#[p.1,p.2,zZ]
   |cons _ _=>exact wE g
 obtain⟨e,b,c,rfl,n,U⟩:=g;obtain⟨u,r,rfl,Y,rr⟩:∃u r,T=[(u,r)]/\RelV (.ref b) u/\RelV y r:=by
  cases m with
  | @cons _ q _ qs h t=>
   cases t;exact#[q.1,q.2,zZ,h.1,h.2]
 cases Y;obtain⟨z,hd,xs,kt,dd⟩:=FO l.hok e;cases kt;refine jg ?_;simp only[List.forIn_cons,List.forIn_nil];refine bz<|bz<|bz<|wpAny_dictSet_heap (show X.A.units<cLine by lia) (yT l.hok n) dd (λh' w hs=>?_) (by show 0<=_;exact iK _);refine bJ<|bJ<|bJ<|bJ ?_;obtain⟨o,es,ep,C,h2,h3,h4,_,h5⟩:=w;have j:bx i s.heap.objs.size (.dT [(c,y)]) b=some (.tup<|c.map kV):=by
  rw[bI<|nE n e];exact n
 have ok:ObjOk X.prog X.w (bx i s.heap.objs.size<|.dT [(c,y)]) h' s.heap.objs.size (.dT [(c,y)]):=#[by show 1<=sizeLine;decide,hd,_,.cons #[zZ,j,rr] .nil,o,es,ep,C,h2,h3,h4,h5];exact bJ #[.ref s.heap.objs.size,_,Hf l (by rw[e];exact True.intro) hs #[o,C] ok,rfl,U]
inductive d7(b:List V)(H:Hp)(Q:VK)(a:XK):Prop|mk:∀d,b=[.ref d,.non]->Q .non H->d7 b H Q a
inductive de(G:Hp->Prop)(U:LN)(L:Nat)(g:bw->Nat->List Nat)(b:List V)(H:Hp)(Q:VK)(a:XK):Prop|mk:∀t (x:bw) l,b=[.ref t,nv l]->G H->H t=some (.tup (x.map nv))->x∈U->l<L->yj H ((g x l).map nv) Q->de G U L g b H Q a
def ThAt(H:Hp)(l:Ad)(b:TW):Prop:=∃a:As,H l=some (.lst (a.map .ref))/\a.length=b.length/\∀(j:Nat) (t:Ad) p,a[j]?=some t->b[j]?=some p->H t=some (.tup (p.1.map nv))
theorem ThAt.same(h:ThAt H l b)(g:Same H a):ThAt a l b:=by
 obtain⟨c,d,e,f⟩:=h;exact#[c,g _ _ d,e,λj t p i k=>g _ _<|f j t p i k]
theorem ThAt.more{d:As}{p:bw×bw}(i:H l=some (.lst (d.map .ref)))(f:d.length=c.length)(k:∀(j:Nat) (t:Ad) p,d[j]?=some t->c[j]?=some p->H t=some (.tup (p.1.map nv)))(ht:H t=some (.tup (p.1.map nv))):
  ThAt (bx H l (.lst (d.map .ref++[.ref t]))) l (c++[p]):=by
 have g:∀{a} {m},H a=some (.tup m)->a≠l:=λh=>nE h i;refine#[d++[t],by rw[bE,c7];rfl,by simp[f],λj a q e b=>?_];by_cases n:j<c.length
 .rw[dO ()]at e;rw[dO n]at b;have z:=k j a q e b;rw[bI (g z)];exact z
 .rw[dQ ()]at e;rw[dQ ()]at b;have z:j-c.length=0:=by
   have:=(bN.mp b).1;simp at this;lia
  rw[f,z]at e;rw[z]at b;cases e;cases b;rw[bI (g ht)];exact ht
structure Srch(H0 H:Hp)(D wa fa:Ad)(ts:As)(ws wv fo:TW)(as:As):Prop where
 g:Same H0 H
 nD:H0 D=none
 nF:H0 fa=none
 W:WordsAt H D ws as
 wl:H wa=some (.lst (ts.map .ref))
 wt:∀(j:Nat) (t:Ad) p,ts[j]?=some t->wv[j]?=some p->H t=some (.tup (p.1.map nv))
 foll:ThAt H fa fo
 wf:wa≠fa
 fas:fa∉as
 new:∀b∈as,H0 b=none
theorem Srch.same{e f g:TW}(S:Srch a H D c fa d e f g h)(k:Same H b):Srch a b D c fa d e f g h:=
 #[S.g.trans k,S.nD,S.nF,S.W.same k,k _ _ S.wl,λj t p i l=>k _ _<|S.wt j t p i l,S.foll.same k,S.wf,S.fas,S.new]
theorem Srch.more{f w g:TW}{i d:As}(S:Srch k H D n fa v f w g i)(A:H l=some (.lst (p.2.map nv)))(x:l≠fa)(B:k l=none)(ht:H t=some (.tup (p.1.map nv)))(o:H fa=some (.lst (d.map .ref))) (C:d.length=g.length) (E:∀(j:Nat) (t:Ad) p,d[j]?=some t->g[j]?=some p->H t=some (.tup (p.1.map nv))):
  Srch k (bx (bx H D (.dT (a4v f i++[(nk p.1,.ref l)]))) fa (.lst (d.map .ref++[.ref t]))) D n fa v (f++[p]) w (g++[p]) (i++[l]):=by
 have y:=nE o S.W.dict;have r:∀{a} {s},H a=some (.tup s)->a≠D:=λh=>nE h S.W.dict;have I:∀{a} {s},H a=some (.tup s)->a≠fa:=λh=>nE h o;have u:=S.W.put A;have J:(bx H D<|.dT<|a4v f i++[(nk p.1,.ref l)]) fa=some (.lst<|d.map .ref):=by rw[bI y];exact o
 refine#[gh (gh S.g S.nD) S.nF,S.nD,S.nF,#[u.len,?_,λj a q c e=>?_],?_,λj a q c e=>?_,?_,S.wf,?_,λb L=>(cF.mp L).elim (S.new b) λm=>by rw[cf.mp m];exact B]
 .rw[bI<|dX y];exact u.dict
 .have M:a≠fa:=λz=>by
   subst z
   rcases cF.mp (bX c)with m|m
   .exact S.fas m
   .exact x (cf.mp m).symm
  rw[bI M];exact u.list j a q c e
 .rw[bI S.wf,bI<|nE S.wl S.W.dict];exact S.wl
 .have z:=S.wt j a q c e;rw[bI<|I z,bI<|r z];exact z
 .refine ThAt.more J C (λj a q c e=>?_) ?_
  .have z:=E j a q c e;rw[bI<|r z];exact z
  .rw[bI<|r ht];exact ht
 .intro m
  rcases cF.mp m with m|m
  .exact S.fas m
  .exact x (cf.mp m).symm
section
variable{a st D r fa:Ad}{o:bw}{U:LN}
abbrev Mn(X:Cx):TS:=oi (oO (JE X 2 (lO (cS 7) (lO (cS 8) lG))) (gi 9)) (zQ (tB (KU (cS 9) (cS 4)))
 (oi (Mf (cS 4) (cS 9) (yJ (oo X.K) (Lr (cS 4) (cS 7)) (AT (lO (cS 8) lG)))) (oi (zn (Cs d7 [] E0 (lO (cS 4) (lO (cS 3) lG)))) (zn (zm X.K "list" i5 (cS 6) (lO (cS 9) lG))))) LA)
theorem S'(hr:Room 5 X.A)(N:n st=some (hX st s))(h0:o∈U)(hU:∀x∈U,∀l,l<L->g x l∈U)(few:U.length<=4000)(hF:FnOk X.prog X.w X.K X.mg X.base bZ 5 st s u (de (Same n) U L g)) (hB:Binds X.K s u []) (B:Bfs g L o d k M I i j) (ht:M[i]?=some t) (hj:j<L) (hd:d+1<=k.length) (S:Srch n H D r fa ts k M I as) (O:H y=some (.tup (t.1.map nv)))(next:∀C E ab H' v,Bfs g L o d C M E i (j+1)->Srch n H' D r fa ts C M E ab->C.length+I.length=k.length+E.length->H' y=some (.tup (t.1.map nv))->En.nx [some (.ref a),some (nv L),some (.ref st),some .non,some (.ref D),some (.ref r),some (.ref fa),some (.ref y),some (nv j),some v] H'):
  Mn X En [some (.ref a),some (nv L),some (.ref st),some .non,some (.ref D),some (.ref r),some (.ref fa),some (.ref y),some (nv j),o9] H:=by
 have tw:=(B.wave t<|bX ht).1;have tU:t.1∈U:=by
  obtain⟨r1,r2⟩:=B.run t tw;rw[<-r2];exact wr h0 hU t.2 r1
 have ag:k.length<=4000:=by
  have z:(k.map (·.1)).length<=U.length:=m9 B.keys λx hx=>by
   obtain⟨p,w,rfl⟩:=bY.mp hx;obtain⟨r1,r2⟩:=B.run p w;rw[<-r2];exact wr h0 hU p.2 r1
  rw[bA]at z;lia
 refine#[_,zZ,st,s,zZ,S.g _ _ N,_,zZ,_,zZ,S.g _ _ N,5,u,_,hF,hr,hB,y,t.1,j,zZ,S.g,O,tU,hj,λfn H1 g1 J=>?_];have A:=S.same g1;have m:=g1 _ _ O;refine#[_,zZ,_,zZ,D,_,zZ,DGet.t A.W.dict (by rw[jI];exact J),_,zZ,?_];by_cases Q:g t.1 j∈k.map (·.1)
 .obtain⟨p,w,e⟩:=bY.mp Q;obtain⟨c,v1,_⟩:=A.W.word B.keys w;rw[<-e,v1];rw[wA (by simp)];exact next k I as H1 _ (B.old ht Q) A zZ m
 .rw[we Q];refine dP ?_;obtain⟨tw,tl⟩:=B.wave t (bX ht);obtain⟨c,v1,v2⟩:=A.W.word B.keys tw;have dg:DGet H1 D (.ref y) (some (.ref c)):=v1▸DGet.t A.W.dict (by rw[jI];exact m);refine#[_,zZ,_,zZ,D,_,zZ,dg,_,zZ,by show 1<=sizeLine;decide,λp w=>?_];have k2:=bP w (.lst [nv j]);refine#[c,p,_,_,zZ,zZ,V1 (k2 _ _ v2),V1 bE,by rw[bA,tl,cq];show d+1<=_;lia,λl hl=>?_];have k3:=k2.trans (bP hl (.lst (t.2.map nv++[nv j])));have G:=A.same k3;have e3:=k3 _ _ J;have T:bx (bx H1 p (.lst [nv j])) l (.lst (t.2.map nv++[nv j])) l=some (.lst ((t.2++[j]).map nv)):=by rw[bE,c7];rfl
  have b:=k3 _ _ m;obtain⟨tf,Y,f2,f3⟩:=G.foll;have lf:l≠fa:=λz=>by
   obtain⟨_,q1,_⟩:=A.foll;have q2:=k2 _ _ q1;rw[<-z,hl]at q2;cases q2
  generalize bx (bx H1 p (.lst [nv j])) l (.lst (t.2.map nv++[nv j]))=H3 at G e3 T b Y f3|-;refine#[_,zZ,_,zZ,D,_,zZ,DPut.t G.W.dict (by rw[jI];exact e3) (by rw[Ky G.W.len,cq];lia),?_];rw[HH _ (we Q)];have fD:fa≠D:=nE Y G.W.dict;have ae:y≠D:=nE b G.W.dict;have af:y≠fa:=nE b Y;have aa:(bx H3 D (.dT (a4v k as++[(nk (g t.1 j),.ref l)]))) fa=some (.lst (tf.map .ref)):=by rw[bI fD];exact Y
  have fl:tf.length<=4000:=by
   have z:(I.map (·.1)).length<=k.length:=by
    rw[<-bA (f:=(·.1)) (as:=k)];refine m9 ?_ λx hx=>?_
    .refine(yI.mpr (B.fup.imp_of_mem λ{p q} w hq h z=>?_));have r1:=(B.run p (B.foll p w).1).2;have r2:=(B.run q (B.foll q hq).1).2;obtain⟨i1,J⟩:=fM.mp (B.foll p w).1;obtain⟨i2,e2⟩:=fM.mp (B.foll q hq).1;have ii:i1=i2:=(iA (by rw[bA];exact(bN.mp J).1) B.keys).mp (by rw[bT,bT,J,e2];exact cH some z);subst ii;rw[J]at e2;cases e2;exact Ep h
    .obtain⟨p,w,rfl⟩:=bY.mp hx;exact bY.mpr #[p,(B.foll p w).1,zZ]
   rw[bA]at z;lia
  refine#[_,zZ,_,zZ,D,zZ,_,zZ,.inl #[zZ,_,V1 aa],_,zZ,fa,_,_,zZ,zZ,aa,by rw[bA,cq];lia,?_];exact next (k++[(g t.1 j,t.2++[j])]) (I++[(g t.1 j,t.2++[j])]) (as++[l]) _ _ (B.new ht hj Q) (G.more (p:=(g t.1 j,t.2++[j])) T lf ((A.g.trans k2).free hl) e3 Y f2 f3) (by simp;lia) (by rw[bI af,bI ae];exact b)
abbrev Nc(X:Cx):TS:=uc (Je X.K (cS 5)) (gi 7) (uc (IY (lO (cS 1) lG)) (gi 8) (Mn X))
theorem Ts(hr:Room 5 X.A)(Q:n st=some (hX st s))(h0:o∈U)(hU:∀x∈U,∀l,l<L->g x l∈U)(few:U.length<=4000)(aa:L<=4000)(hF:FnOk X.prog X.w X.K X.mg X.base bZ 5 st s u (de (Same n) U L g)) (hB:Binds X.K s u []) (B:Bfs g L o d b f [] 0 0) (hd:d+1<=b.length) (S:Srch n H D r fa y b f [] C) (lt:y.length=f.length)(next:∀c e h q A k m,Bfs g L o d c f e f.length 0->Srch n q D r fa y c f e h->c.length=b.length+e.length->En.nx [some (.ref a),some (nv L),some (.ref st),some .non,some (.ref D),some (.ref r),some (.ref fa),A,k,m] q):
  Nc X En [some (.ref a),some (nv L),some (.ref st),some .non,some (.ref D),some (.ref r),some (.ref fa),A,k,m] H:=by
 let Pv:Nat->St->Hp->Prop:=λi w q=>∃c e h A k m,Bfs g L o d c f e i 0/\Srch n q D r fa y c f e h/\c.length=b.length+e.length/\
  w=[some<|.ref a,some<|nv L,some<|.ref st,some .non,some<|.ref D,some<|.ref r,some<|.ref fa,A,k,m]
 refine#[_,zZ,r,zZ,#[_,V1 S.wl],oX (xs:=y.map .ref) Pv #[b,[],C,A,k,m,B,S,by simp,zZ] (λi w q _ p=>?_) (λi x w q hx p=>?_)<|λw q p=>?_]
 .obtain⟨_,_,_,_,_,_,_,E,_⟩:=p;exact V1 E.wl
 .obtain⟨c,e,h,p7,T,Y,N,E,l1,rfl⟩:=p;rw[bT]at hx;obtain⟨th,G,rfl⟩:=c9.mp hx;obtain⟨_⟩:=bN.mp G;obtain⟨t,ht⟩:∃t,f[i]?=some t:=#[_,bC ()]
  let Pj:Nat->St->Hp->Prop:=λj w H2=>∃c e h k m,Bfs g L o d c f e i j/\Srch n H2 D r fa y c f e h/\c.length=b.length+e.length/\
   w=[some<|.ref a,some<|nv L,some<|.ref st,some .non,some<|.ref D,some<|.ref r,some<|.ref fa,some<|.ref th,k,m]
  refine#[_,zZ,(L:Int),zZ,(),(),nS Pj #[c,e,h,T,Y,N,E,l1,zZ] (λj w H2 hj p=>?_)<|λw H2 p=>?_]
  .obtain⟨I,J,M,q8,q9,B2,O,l2,rfl⟩:=p;have z:(0:Int)+((j:Nat):Int)=((j:Nat):Int):=by lia
   rw[z];refine S' hr Q h0 hU few hF hB B2 ht hj () O (O.wt i th t G ht) λw3 f3 a3 H3 v B3 S3 l3 _=>#[w3,f3,a3,_,_,B3,S3,(),zZ]
  .obtain⟨I,J,M,q8,q9,B2,O,l2,rfl⟩:=p;exact#[I,J,M,_,_,_,Bfs.next B2 ht,O,l2,zZ]
 .obtain⟨c,e,h,p7,T,Y,N,E,l1,rfl⟩:=p;rw[bA,lt]at N;exact next c e h q p7 T Y N E l1
abbrev UJ(X:Cx):TS:=oi (oO (J8 (cS 0) (AT lG)) (gi 4)) (oi (zn (Cs d7 [] E0 (lO (cS 4) (lO (cS 3) lG)))) (oi (oO (AT (lO (cS 0) lG)) (gi 5))
 (oi (Jq (λc a Q=>cS 5 c a λx b=>∃k,v6 X.K x b k/\Q k b) (oi (oO (AT lG) (gi 6)) (oi (Nc X) (oO (cS 6) (gi 5))))) (v5 (cS 4)))))
theorem QU{a b c:TW}(e:o∈U)(h:∀x∈U,∀l,l<L->g x l∈U)(B:Bfs g L o d a b c i j):a.length<=U.length:=by
 rw[<-bA];exact m9 B.keys λx k=>by
  obtain⟨p,m,rfl⟩:=bY.mp k;obtain⟨n,q⟩:=B.run p m;rw[<-q];exact wr e h p.2 n
theorem UF(hr:Room 5 X.A)(ha:n a=some (.tup (o.map nv)))(T:n st=some (hX st s))(h0:o∈U)(hU:∀x∈U,∀l,l<L->g x l∈U)(few:U.length<=4000)(E:L<=4000)(hF:FnOk X.prog X.w X.K X.mg X.base bZ 5 st s u (de (Same n) U L g)) (hB:Binds X.K s u []) (q:∀D f k C,Same n C->WordsAt C D f k->(∀b∈D::k,n b=none)->Told g L o f->En.rt (.ref D) C):
  UJ X En [some (.ref a),some (nv L),some (.ref st),some .non,none,none,none,none,none,none] n:=by
 intro D M;have Y:=bP M (.dT []);refine#[_,zZ,by decide,λl N=>?_];have kl:=bP N (.lst []);refine#[kl _ _ bE,a,nk o,zZ,by rw[jI];exact(Y.trans kl) _ _ ha,?_];have lD:l≠D:=λz=>by
  subst z;rw[bE]at N;cases N
 have W0:WordsAt (bx (bx (bx n D (.dT [])) l (.lst [])) D (.dT [(nk o,.ref l)])) D [(o,[])] [l]:=#[zZ,bE,λj b p v G=>by
  cases j with
  |zero=>
   cases v;cases G;rw[bI lD,bE];rfl
  |succ j=>simp at v]
 have g0:Same n (bx (bx (bx n D (.dT [])) l (.lst [])) D (.dT [(nk o,.ref l)])):=gh (Y.trans kl) M;refine#[_,zZ,_,zZ,D,zZ,_,zZ,by show 1<=sizeLine;decide,λr hw=>?_];have kw:=bP hw (.lst [.ref a])
 let Wv:Nat->St->Hp->Prop:=λm σ H=>∃(d:Nat) (f y:TW) (k:As) (r:Ad) (i:As) (o6 o7 o8 o9:Option V),Bfs g L o d f y [] 0 0/\WordsAt H D f k/\H r=some (.lst (i.map .ref))/\(∀(j:Nat) t p,i[j]?=some t->y[j]?=some p->H t=some (.tup (p.1.map nv)))/\i.length=y.length/\Same n H/\(∀b∈k,n b=none)/\
   (y≠[]->d+1<=f.length)/\m=2 * (U.length-f.length)+(if y=[]then 0 else 1)/\σ=[some (.ref a),some (nv L),some (.ref st),some .non,some (.ref D),some (.ref r),o6,o7,o8,o9]
 refine#[Wv,#[_,0,[(o,[])],[(o,[])],[l],r,[a],none,none,none,none,Bfs.start,W0.same kw,bE,?_,zZ,g0.trans kw,λb hb=>(by rw[cf.mp hb];exact Y.free N),λ_=>bR _,zZ,zZ],λm σ H P=>?_]
 .intro j t p v G;cases j with
  |zero=>
   cases v;cases G;exact(g0.trans kw) _ _ ha
  |succ j=>simp at v
 .obtain⟨d,f,y,k,r,i,o6,o7,o8,o9,B,W,wl,wt,lt,gg,nw,A,hm,rfl⟩:=P;refine#[_,zZ,!(i.map V.ref).isEmpty,.inl #[_,V1 wl,zZ],?_];by_cases c:y=[]
  .subst c;have e:=sk.mp lt;subst e;rw[wA (by simp)];exact#[_,zZ,q D f k H gg W (λb hb=>(db.mp hb).elim (λe=>e▸M) (nw b)) B.told]
  .have ne:i≠[]:=λz=>c (sk.mp (by rw[<-lt,z];rfl));have c1:(!(i.map V.ref).isEmpty)=true:=by
    cases i with
    |nil=>exact wC zZ ne
    |cons=>rfl
   rw[c1];refine dP ?_;refine#[λI C=>∃m',m'<m/\Wv m' I C,λI C h=>h,by decide,λfa w=>?_];have O:=bP w (.lst []);have aa:fa∉k:=λm=>by
    obtain⟨j,e⟩:=fM.mp m;obtain⟨hj,_⟩:=bN.mp e;have z:=W.list j fa _ e (bC (by rw[<-W.len];exact hj));rw[w]at z;cases z
   have S:Srch n (bx H fa (.lst [])) D r fa i f y [] k:=#[gg.trans O,M,gg.free w,W.same O,O _ _ wl,λj t p v G=>O _ _ (wt j t p v G),#[[],bE,zZ,λj t p v _=>by simp at v],cQ wl w,aa,nw];refine Ts hr T h0 hU few E hF hB B (A c) S lt λJ fo ab C p7 p8 p9 B' Q l'=>?_;obtain⟨tf,f1,f2,f3⟩:=Q.foll;have z1:=QU h0 hU B';have z2:=A c;refine#[_,zZ,2 * (U.length-J.length)+(if fo=[]then 0 else 1),?_,d+1,J,fo,ab,fa,tf,_,_,_,_,B'.wave',Q.W,f1,f3,f2,Q.g,Q.new,λnf=>?_,zZ,zZ]
   .rw[hm,wA c];by_cases hf:fo=[]
    .subst hf;rw[wB zZ];simp at l';lia
    .have:=List.length_pos_iff.mpr hf;rw[wA hf];lia
   .have:=List.length_pos_iff.mpr nf;lia
end
theorem Um(h:iq (a4v g d) k=some (.ref a)):a∈d:=by
 obtain⟨m,j,l⟩:=c9.mp h;obtain⟨i,c⟩:=fM.mp<|List.mem_of_find?_eq_some j;unfold a4v at c;rw[F5]at c;cases e:g[i]? with
 |none=>rw[e]at c;cases c
 | some p=>
  cases f:d[i]? with
  |none=>rw[e,f]at c;cases c
  |some b=>
   rw[e,f]at c;cases c;cases l;exact bX f
inductive Aj(K:V3)(a:Bool)(x y:V)(H:Hp)(Q:VK):Prop|mk:∀l n d (c:List Dt) e,y=.ref l->SqL K H l e->e.length=c.length->Rep K H n d x->((∀(i:Nat) f v,c[i]?=some f->e[i]?=some v->Rep K H n f v))->n<=30->(∀b,(b=true↔d∈c)->Q (.bl (if a then !b else b)) H)->Aj K a x y H Q
theorem JM{K:V3}(g:Rep K H n d y)(j:Rep K H n f z)(k:RelV y u)(l:RelV z u):y=z:=by
 have c:∀{y} {d},Rep K H n d y->RelV y u->(y=.non/\u=.none)\/(∃i t,y=.int i/\u=.int i t)\/(∃x t,y=.str x/\u=.str x t)\/∃a,y=.ref a/\u=.ref a:=λh r=>by
  cases h with
  |non=>exact .inl #[zZ,r]
  |int _ i=>
   obtain⟨t,e⟩:=r;exact .inr<|.inl #[i,t,zZ,e]
  |str _ x=>
   obtain⟨t,e⟩:=r;exact .inr<|.inr<|.inl #[x,t,zZ,e]
  |lst=>exact .inr<|.inr<|.inr #[_,zZ,r]
  |tup=>exact .inr<|.inr<|.inr #[_,zZ,r]
 rcases c g k with⟨rfl,e⟩|⟨i,t,rfl,e⟩|⟨x,t,rfl,e⟩|⟨a,rfl,e⟩<;>rcases c j l with⟨rfl,b⟩|⟨o,m,rfl,b⟩|⟨p,m,rfl,b⟩|⟨q,rfl,b⟩<;>rw[e]at b<;>cases b<;>rfl
theorem QJ{N:St}{k:List Dt}{c:Vs}(hu:X.A.units+64<cLine)(I:Inv X M N H s)(O:RelV x v)(r:Vals l c)(hl:l.length=k.length)(Q:Rep X.K H n d x)(q:∀(i:Nat) a v,k[i]?=some a->l[i]?=some v->Rep X.K H n a v) (hn:n<=30):∃e:Vl->Bool,(∀u∈c,SeqAt.EqAt X.A.in1 s u v (e u))/\(c.any e=true↔d∈k):=by
 have one:∀i u,c[i]?=some u->∃b a,k[i]?=some a/\SeqAt.EqAt X.A.in1 s u v b/\(b=true↔a=d):=λi u g=>by
  obtain⟨C,_⟩:=bN.mp g;have t:=r.length;obtain⟨y,m⟩:∃y,l[i]?=some y:=#[_,bC ()];obtain⟨a,o⟩:∃a,k[i]?=some a:=#[_,bC ()];obtain⟨u',p,T⟩:=Vals.get r m;rw[g]at p;cases p;obtain⟨b,w,G⟩:=Bg I n (A:=X.A.in1) (by lia) (q i a y o m) Q T O;exact#[b,a,o,w,G]
 have f:∀u,∃b,(∃i,c[i]?=some u)->SeqAt.EqAt X.A.in1 s u v b/\∃(i:Nat) (a:Dt),c[i]?=some u/\k[i]?=some a/\(b=true↔a=d):=λu=>by
  by_cases h:∃i:Nat,c[i]?=some u
  .obtain⟨i,B⟩:=h;obtain⟨b,a,C,t,w⟩:=one i u B;exact#[b,λ_=>#[t,i,a,B,C,w]]
  .exact#[true,λz=>wC z h]
 refine#[λu=>Classical.choose<|f u,λu g=>(ub (f u)<|fM.mp g).1,?_];rw[Ab];constructor
 .rintro⟨u,g,U⟩;obtain⟨_,i,a,C,t,w⟩:=ub (f u)<|fM.mp g;rw[<-w.mp U];exact bX t
 .intro Y;obtain⟨i,o⟩:=fM.mp Y;obtain⟨_⟩:=bN.mp o;have t:=r.length;obtain⟨u,p⟩:∃u,c[i]?=some u:=#[_,bC ()];refine#[u,bX p,?_];obtain⟨_,j,a,g1,D,g3⟩:=ub (f u) #[i,p];refine g3.mpr ?_;obtain⟨y,m⟩:∃y,l[i]?=some y:=#[_,bC ()];obtain⟨_⟩:=bN.mp D;obtain⟨z,E⟩:∃z,l[j]?=some z:=#[_,bC ()];obtain⟨u1,J,r1⟩:=Vals.get r m;obtain⟨u2,L,r2⟩:=Vals.get r E;rw[p]at J;rw[g1]at L;cases J;cases L;have yz:=JM (q i d y o m) (q j a z D E) r1 r2;subst yz;exact HM I n (q j a y D E)<|q i d y o m
theorem Tz(b:X.A.units+64<cLine):OpR X (compareOp .NotIn) (Aj X.K true):=by
 intro z s A H x y v u Q I c f h;obtain⟨l,n,d,B,C,rfl,g,i,j,k,m,q⟩:=h;cases f;obtain⟨a,r,o,D⟩:=I.list g;obtain⟨e,p,t⟩:=QJ b I c r i j k m;refine SeqAt.notIn_listAt e o.isList (λw hw=>p w<|by grind) #[.bl _,H,I,zZ,?_];rw[show a.toArray.any e=a.any e by simp];exact q _ t
theorem Gr(S:CompScope X [x,y] a)(f:X.calm=true)(b:a.names.lookup x=some .local)(c:a.names.lookup y=some .local):
  ∀C s H d,PG (gf X [x,y] a C s H d) (.Tuple [.Name x p,.Name y q] k e) (pM X.K 2 (gQ (gi 0) (gQ (gi 1) vp))):=λC s H d=>
 wm f<|lA (dG S.nd zZ (.inl<|nC b)<|.inr<|nC b)<|lA (dG S.nd zZ (.inl<|nC c)<|.inr<|nC c) ua
inductive iW(K:V3)(x:V)(c:List V)(H:Hp)(Q:VK):Prop|mk:∀l y n d (a:List Dt) b j,x=.ref l->c=[y]->SqL K H l b->b.length=a.length->Rep K H n d y->((∀(i:Nat) e v,a[i]?=some e->b[i]?=some v->Rep K H n e v))->n<=30->a[j]?=some d->((∀i,i<j->a[i]? ≠some d))->Q (.int (j:Nat)) H->iW K x c H Q
theorem Sy{N:St}{k:List Dt}{c:Vs}(hu:X.A.units+64<cLine)(I:Inv X M N H s)(O:RelV x v)(r:Vals l c)(hl:l.length=k.length)(Q:Rep X.K H n d x)(p:∀(i:Nat) a v,k[i]?=some a->l[i]?=some v->Rep X.K H n a v) (hn:n<=30):∃e:Vl->Bool,(∀u∈c,SeqAt.EqAt X.A.in1 s u v (e u))/\∀(i:Nat) u a,c[i]?=some u->k[i]?=some a->(e u=true↔a=d):=by
 have E:=r.length;have one:∀i u,c[i]?=some u->∃b a,k[i]?=some a/\SeqAt.EqAt X.A.in1 s u v b/\(b=true↔a=d):=λi u g=>by
  obtain⟨w,_⟩:=bN.mp g;obtain⟨y,m⟩:∃y,l[i]?=some y:=#[_,bC ()];obtain⟨a,o⟩:∃a,k[i]?=some a:=#[_,bC ()];obtain⟨u',q,T⟩:=Vals.get r m;rw[g]at q;cases q;obtain⟨b,B,G⟩:=Bg I n (A:=X.A.in1) (by lia) (p i a y o m) Q T O;exact#[b,a,o,B,G]
 have f:∀u,∃b,(∃i,c[i]?=some u)->SeqAt.EqAt X.A.in1 s u v b/\∃(i:Nat) (a:Dt),c[i]?=some u/\k[i]?=some a/\(b=true↔a=d):=λu=>by
  by_cases h:∃i:Nat,c[i]?=some u
  .obtain⟨i,t⟩:=h;obtain⟨b,a,w,E,B⟩:=one i u t;exact#[b,λ_=>#[E,i,a,t,w,B]]
  .exact#[true,λz=>wC z h]
 refine#[λu=>Classical.choose<|f u,λu g=>(ub (f u)<|fM.mp g).1,λi u d0 q o=>?_];obtain⟨_,j,a,U,C,Y⟩:=ub (f u) #[i,q];rw[Y];obtain⟨_⟩:=bN.mp o;obtain⟨y,m⟩:∃y,l[i]?=some y:=#[_,bC ()];obtain⟨_⟩:=bN.mp C;obtain⟨z,D⟩:∃z,l[j]?=some z:=#[_,bC ()];obtain⟨u1,J,r1⟩:=Vals.get r m;obtain⟨u2,L,r2⟩:=Vals.get r D;rw[q]at J;rw[U]at L;cases J;cases L;have yz:=JM (p i d0 y o m) (p j a z C D) r1 r2;subst yz;rw[(HM I n (p j a y C D)<|p i d0 y o m)]
theorem Do(w:X.A.units+64<cLine):mZ X "list.index" (iW X.K):=by
 intro za s σ H x vs v us Q I A B h;obtain⟨l,y,m,d,C,xs,j,rfl,rfl,D,E,G,J,L,f,no,q⟩:=h;cases A;obtain⟨u,rfl,M⟩:=B.one;obtain⟨a,r,⟨⟨c1,d1,k1,N⟩,n,e,g,i,o⟩,O⟩:=I.list D;subst g i o;obtain⟨b,T,p⟩:=Sy w I M r E G J L;have lr:=r.length;have lj:=(bN.mp f).1;rw[cq]at O;refine ud F.slot_list_index #[_,e,zZ] F.entry_list_index (F.args_list_index_2 _ _) (SeqAt.list_indexAt l a.toArray n none N u b j (by simp;lia) () ?_ ?_)
  #[e,λy U=>T y (by simpa using U),#[.int (j:Nat),H,I.tok _,#[_,zZ],q]]
 .exact(p j _ d (bC ()) f).mpr rfl
 .intro k Y c;show b a[k]=false;have t:k<C.length:=by lia
  cases z:b a[k]with
  |false=>rfl
  |true=>
   exact wC (by rw[bC t,((p k _ _ (bC ()) (bC t)).mp z)]) (no k c)
theorem U'{K:V3}(r:V3->V->List V->Hp->VK->Prop)(a:X.K=K)(h:PE X e (zm X.K T (r X.K) to t)):PE X e (zm K T (r K) to t):=a▸h
section
variable{P:Pg}{A:Ar}{E:VP}{s:Sh}{f d:Ad}
abbrev sn(d:Ad)(i n g:Nat):Obj:={cls:= .type "dict_keyiterator",data:= .fields #v[.ref d,.int i 0,.int n 0,.int g 0]}
theorem Jo{Q:Option Vl->Sh->Prop}(G:s.heap.get? f=some (sn d i c.size g))(L:Lies s.heap d c g)(r:c[i]?=some h)(q:∀k,k.get? f=some (sn d (i+1) c.size g)->Heap.SameBut f s.heap k->Q (some h.key) {s with heap:=k}):wpAny (model P w) A (pyNext (.ref f)) Q E s:=by
 obtain⟨o,n,_,p⟩:=L;have ty:s.TypeIs (.ref f) "dict_keyiterator":=#[_,G,zZ];unfold pyNext;refine bz (se (vc (name:=Str.ofString "__next__") ty u7 (mC u7 ty MG ?_ (MU _))));refine bz (bJ (bz (bz ?_)));refine bz (Ca ty (bJ (bz (y3 G zZ ?_))));have a:Builtin.Dict_items.ownsTuple "dict_keyiterator"=false:=by decide
 simp only[a,Bool.false_eq_true,if_false];refine show wpAny _ _ (if(Value.ref d==Value.none)=true then _ else _) _ _ s from(wA (fT))▸bz (bJ (bz (vx n p ?_)))
 rw[wA (by simp)];refine bz (bJ (bz (xc n p ?_)));rw[wA (by simp)];refine bJ ?_;have l:(if((i:Nat):Int)<0 then none else c[((i:Nat):Int).toNat]?)=some h:=by
  rw[wA (),hY];exact r
 show wpAny _ _ (match (if((i:Nat):Int)<0 then none else c[((i:Nat):Int).toNat]?)with|some e=>_|none=>_) _ _ s;rw[l];refine bz (bz (Ca ty (bJ (bz (wpAny_isOneOf_keyiter ty ?_)))));refine show wpAny _ _ (setField (.ref f) 1 (rawInt ((i:Int)+1)) >>= _) _ _ s from bz (oH G (by simp) λj t u=>wpAny_bind (wpAny_holding ?_))
 have b:j.get? f=some (sn d (i+1) c.size g):=by
  have z:((i+1:Nat):Int)=(i:Int)+1:=by lia
  unfold sn;rw[z];simpa[rawInt]using t
 have m:Shared.TypeIs {s with heap:=j} (.ref f) "dict_keyiterator":=#[_,b,rfl];refine bz (wpAny_isOneOf_keyiter m ?_);exact show wpAny _ _ (pure h.key) _ _ {s with heap:=j}from bJ (bJ #[_,rfl,bJ (q j b u)])
theorem M3{Q:Option Vl->Sh->Prop}(p:A.handled=none)(G:s.heap.get? f=some (sn d i c.size g))(L:Lies s.heap d c g)(r:c[i]?=none)(q:∀k,Heap.ExtBut f s.heap k->Q none {s with heap:=k}):wpAny (model P w) A (pyNext (.ref f)) Q E s:=by
 obtain⟨o,l,_,n⟩:=L;have ty:s.TypeIs (.ref f) "dict_keyiterator":=#[_,G,zZ];unfold pyNext;refine bz (se (vc (name:=Str.ofString "__next__") ty u7 (mC u7 ty MG ?_ (MU _))));refine bz (bJ (bz (bz ?_)));refine bz (Ca ty (bJ (bz (y3 G zZ ?_))));have h:Builtin.Dict_items.ownsTuple "dict_keyiterator"=false:=by decide
 simp only[h,Bool.false_eq_true,if_false];refine show wpAny _ _ (if(Value.ref d==Value.none)=true then _ else _) _ _ s from(wA (fT))▸bz (bJ (bz (vx l n ?_)))
 rw[wA (by simp)];refine bz (bJ (bz (xc l n ?_)));rw[wA (by simp)];refine bJ ?_;have j:(if((i:Nat):Int)<0 then none else c[((i:Nat):Int).toNat]?)=none:=by
  rw[wA (),hY];exact r
 show wpAny _ _ (match (if((i:Nat):Int)<0 then none else c[((i:Nat):Int).toNat]?)with|some e=>_|none=>_) _ _ s;rw[j];refine bz (bz (Ca ty (bJ ?_)));refine show wpAny _ _ (setField (.ref f) 0 .none >>= _) _ _ s from bz (oH G (by simp) λv x t=>?_)
 refine bz (m:=newExc _ _) ?_;simp only[newExc,newTuple];refine bz (qe ?_ (by size_fits));refine bz (m:=firstArgMember _ _) (CJ (a:=Value.none) (by first|rfl|(unfold firstArgMember;rfl)) (wpAny_newObj_type ?_ (by size_fits)));refine FQ (by simpa using p) (wpAny_bind (wpAny_isInstance (T:="StopIteration") (b:=true) #[_,Heap.get?_push_size _ zZ,zZ] isSubtype_stop (wpAny_pure ?_)));exact q _ λb o u z=>cI _ (cI _ (t.extBut b o u z))
theorem KO{Q:VP}(nd:(d==sysModules)=false)(L:Lies s.heap d c g)(q:Q (.ref s.heap.objs.size) {s with heap:=s.heap.push (sn d 0 c.size g)}):wpAny (model P w) A (pyIter (.ref d)) Q E s:=by
 obtain⟨o,a,x,b⟩:=L;have ty:s.TypeIs (.ref d) "dict":=#[o,a,x.1];refine zb ty F.slot_dict_iter<|mC F.slot_dict_iter ty F.entry_dict_iter ?_<|F.args_dict_iter_1 _;refine bz<|bz<|wpAny_notOrdered_dict ty ?_;refine bJ<|show wpAny _ _ (Builtin.Dict.showsAll d >>= _) _ _ s from ?_
 have all:Builtin.Dict.showsAll d=pure Unit.unit:=by
  unfold Builtin.Dict.showsAll;rw[nd];rfl
 rw[all];refine bz<|bJ<|bz<|vx a b<|bz<|xc a b ?_;exact bz<|qe<|bJ #[_,zZ,"dict_keyiterator",_,#[_,dE _ zZ,zZ],u7.lookup,q]
theorem N8(r:A.handled=none)(l:d≠f):Walks P w A f [f,d] [f] c.size (λi v=>∃a,c[i]?=some a/\v=a.key) (λi h=>h.get? f=some (sn d i c.size g)/\Lies h d c g) where
 sub:=λb t=>db.mpr<|.inl<|cf.mp t
 frame:=λi h j st k=>#[k f (cJ ..) _ st.1,let⟨o,e,x⟩:=st.2;#[o,k d (dS _<|cf.mpr zZ) _ e,x]]
 item:=λi s Q E u st q=>by
  obtain⟨a,n⟩:∃a,c[i]?=some a:=#[_,kS u];refine Jo st.1 st.2 n λj y p=>q a.key j s.toks #[a,n,zZ] #[y,let⟨o,e,x⟩:=st.2;#[o,p.extBut _ _ l e,x]] λb o m e=>p.extBut _ _ (λz=>m<|cf.mpr z) e
 done:=λs Q E st q=>M3 r st.1 st.2 (Hi<|bR _) λj x=>q j s.toks λb o m e=>x b o (λz=>m<|cf.mpr z) e
 self:=λi s Q E st q=>by
  have ty:s.TypeIs (.ref f) "dict_keyiterator":=#[_,st.1,zZ];refine zb ty Cq<|mC Cq ty Ka ?_<|MJ _;exact bJ #[_,zZ,"dict_keyiterator",_,ty,u7.lookup,q]
theorem BC(nd:(d==sysModules)=false):W.KdlSrc P w "dict" d d c.size (λi v=>∃a,c[i]?=some a/\v=a.key) (λh=>Lies h d c g) where
 type:=λ_ e=>e.typeIs
 there:=λ_ ⟨_,e,_⟩=>#[cy e,cy e]
 keep:=λ_ _ ⟨o,e,x⟩ k=>#[o,k d (.inl zZ) _ e,x]
 notList:=zZ
 notTuple:=zZ
 hint:=λ_ _ _ _ e q=>W.kdl_hint_dict e.typeIs q
 iter:=λ_ _ b e=>#[_,_,λ_ _ q=>KO nd e q,N8 b<|dr (let⟨_,z,_⟩:=e;cy z),dE _ zZ,let⟨o,z,x⟩:=e;#[o,cI _ z,x]]
end
open PySem PySem.W PyProof.Rows
section
variable(n:Nat)(k:Nat->Int)
def KOk:KasT b->(b->Prop)->Prop
 |.ret a,R=>R a
 |.ask i j f,R=>i<n/\j<n/\KOk (f (decide (k i<k j))) R
def Arr(p:Array Nat):Prop:=p.Perm (List.range n).toArray
def tA(p:Array Nat)(m:Nat):Prop:=∀a b,a<b->b<m->k (p.getD a 0)<k (p.getD b 0)
def Vy(p:Array Nat)(m:Nat):Prop:=∀a b,a<b->b<m->k (p.getD b 0)<k (p.getD a 0)
variable{n k}
theorem KOk.bind{R:b->Prop}{d:c->Prop}(h:∀a,R a->KOk n k (f a) d):∀t,KOk n k t R->KOk n k (t.bind f) d
 |.ret a,q=>h a q
 |.ask i j g,q=>#[q.1,q.2.1,KOk.bind h (g _) q.2.2]
theorem Arr.size(h:Arr n p):p.size=n:=by
 simpa using ((oB.mp h).length_eq)
theorem Arr.at(h:Arr n p)(b:i<n):p.getD i 0<n/\p[i]?=some (p.getD i 0):=by
 have c:=h.size;have e:p[i]?=some (p.getD i 0):=by simp_all
 refine#[?_,e];have a:=(Ic h).mp<|EB e;simpa using a
theorem Arr.inj(h:Arr n p)(b:i<n)(d:j<n)(e:p.getD i 0=p.getD j 0):i=j:=by
 have c:=(h.at b).2;have a:=(h.at d).2;rw[<-e]at a;rw[<-lI]at c a;exact(iA (by rw[dy,h.size];exact b) ((oB.mp h).nodup_iff.mpr List.nodup_range)).mp (c.trans a.symm)
variable(inj:∀i j,i<n->j<n->k i=k j->i=j)
include inj
end
end L2
namespace L2
open PySem PySem.Spec PySem.W PyProof.Rows
section
variable{c d:Vs}
def GG(P:Pg)(w:World)(A:Ar)(d:Vs)(lt:Nat->Nat->Bool)(s:Sh):Prop:=
 wpAny (model P w) A (keyKind' d.toArray) (λa b=>b=s/\∀i j (C:Bool->Sh->Prop),i<d.length->j<d.length->C (lt i j) s->kas_ask P w A a d i j C s) (λ_ _=>False) s
abbrev h9(c:Vs)(p:Array Nat):Vs:=p.toList.map λi=>c.getD i Value.none
theorem JN(c):h9 c (List.range c.length).toArray=c:=by
 unfold h9;refine nq λi=>?_;rw[Cv,bT];by_cases h:i<c.length
 .rw[n9 h,bC h];show some (c.getD i Value.none)=_;rw[cW,bC h];rfl
 .rw[iJ (by simp;lia),List.getElem?_eq_none ()];rfl
theorem MZ(a:d.length=c.length):(d.toArray.zip c.toArray).map (·.2)=c.toArray:=by
 apply GF.mp;rw[Dz,ksk_zip];exact List.map_snd_zip (by simp[a])
theorem CN{a:Heap}{b:Ad}(e:a.get? b=some x)(c d):((a.push c).push d).get? b=some x:=cI _<|cI _ e
end
theorem E'{a:Type}{p q:a->Bool}:∀{xs:List a},(∀z∈xs,p z=true->q z=true)->(∃z∈xs,p z=false/\q z=true)->xs.countP p<xs.countP q
 | [],_,h=>by obtain⟨z,hz,_⟩:=h;cases hz
 | x::xs,mono,h=>by
  have g:=List.countP_mono_left λz hz=>mono z<|dS _ hz;rw[Dk,Dk];obtain⟨z,hz,b,c⟩:=h
  rcases db.mp hz with e|hz
  .subst e;rw[b,c];simp;lia
  .have i:=E' (λy d=>mono y<|dS _ d) #[z,hz,b,c];cases f:p x with
   |false=>cases q x<;>simp<;>lia
   |true=>rw[(mono x<|cJ ..) f];simp;lia
structure Total{α:Type}(lt:α->α->Bool)(xs:List α):Prop where
 irr:∀x,lt x x=false
 trans:∀x y z,lt x y=true->lt y z=true->lt x z=true
 tot:∀x∈xs,∀y∈xs,x≠y->lt x y=true\/lt y x=true
noncomputable def lM{a:Type}(lt:a->a->Bool)(xs:List a)(x:a):Int:=((xs.countP λy=>lt y x):Nat)
section
variable{lt:a->a->Bool}{xs:List a}(T:Total lt xs)
include T
theorem Total.up(b:x∈xs)(h:lt x y=true):lM lt xs x<lM lt xs y:=by
 unfold lM;have z:=E' (q:=λz=>lt z y) (λz _ c=>T.trans _ _ _ c h) #[x,b,T.irr x,h];lia
theorem Total.asks(b:x∈xs)(c:y∈xs):decide (lM lt xs x<lM lt xs y)=lt x y:=by
 by_cases e:x=y
 .subst e;rw[T.irr];exact eU<|Int.lt_irrefl _
 .rcases T.tot x b y c e with h|h
  .rw[h];exact cK<|T.up b h
  .have:=T.up c h;rw[eU ()];cases z:lt x y with
   |false=>rfl
   |true=>
    have:=T.up b z;lia
theorem Total.same(b:x∈xs)(c:y∈xs)(h:lM lt xs x=lM lt xs y):x=y:=by
 refine AZ λe=>?_
 rcases T.tot x b y c e with z|z
 .have:=T.up b z;lia
 .have:=T.up c z;lia
end
theorem FZ:∀a b,a≠b->dF a b=true\/dF b a=true
 | [],[],h=>wC zZ h
 | [],y::b,_=> .inl (by unfold dF;rw[show gq [] (y::b)=none from rfl];simp)
 |x::a,[],_=> .inr (by unfold dF;rw[show gq [] (x::a)=none from rfl];simp)
 | x::a,y::b,h=>by
  by_cases e:x=y
  .subst e
   rcases FZ a b (λz=>h<|by rw[z])with q|q
   .exact .inl (by rw[qt];exact q)
   .exact .inr (by rw[qt];exact q)
  .rw[kv e,kv<|dX e]
   rcases Nat.lt_or_gt_of_ne e with q|q
   .exact .inl<|cK q
   .exact .inr<|cK q
theorem CV:∀xs a d,dF xs a=true->dF a d=true->dF xs d=true
 | xs,a,[],_,b=>by
  have:dF a []=false:=by
   unfold dF;rw[show gq a []=none by cases a<;>rfl];simp
  rw[this]at b;cases b
 | [],a,z::d,_,_=>by unfold dF;rw[show gq [] (z::d)=none from rfl];simp
 | x::xs,[],z::d,c,_=>by
  have:dF (x::xs) []=false:=by
   unfold dF;rw[show gq (x::xs) []=none from rfl];simp
  rw[this]at c;cases c
 | x::xs,y::a,z::d,c,b=>by
  by_cases f:x=y
  .subst f;by_cases e:x=z
   .subst e;rw[qt]at c b|-;exact CV xs a d c b
   .rw[kv e]at b|-;exact b
  .rw[kv f]at c;have g:=ik c;by_cases e:y=z
   .subst e;rw[kv f];exact c
   .rw[kv e]at b;have h:=ik b;rw[kv ()];exact cK ()
theorem SG(a:LN):Total dF a:=#[pz,CV,λx _ y _ e=>FZ x y e]
section
variable{P:Pg}{A:Ar}{E:VP}
theorem LY(f){Q:Bool->Sh->Prop}(h:Q (decide (i<j)) s):wpAny (model P w) A (oneLt' f (.int i t) (.int j u)) Q E s:=by
 cases f with
 |true=>exact oneLt_int h
 |false=>exact kat_one _ _<|lt_int h
theorem Kh{Q:Bool->Sh->Prop}:∀{b a:bw} {c d:Vs} i,Vals (b.map nv) c->Vals (a.map nv) d->Q ((gq b a).getD fin) s->KatLex P w A true fin Q (c.zip d) i s
 | [],a,_,_,i,.nil,_,q=>by
  rw[show gq [] a=none by cases a<;>rfl]at q;rw[List.zip_nil_left];exact kat_nil q
 |n::b,[],_,_,i,.cons _ _,.nil,q=>by
  rw[List.zip_nil_right];exact kat_nil q
 | n::b,m::a,_,_,i,.cons ⟨t,f⟩ g,.cons ⟨u,h⟩ k,q=>by
  subst f h;refine kat_cons ?_;have z:=fu (A:=A) (s:=s) (i:=(n:Int)) (j:=(m:Int)) (t:=t) (u:=u);by_cases e:n=m
  .rw[cK ()]at z;rw[gq,wB e]at q;exact z P w _ _<|kat_yes<|Kh (i+1) g k q
  .rw[eU ()]at z;rw[gq,wA e]at q;refine z P w _ _<|kat_no<|LY _ ?_;have l:decide ((n:Int)<(m:Int))=decide (n<m):=by simp
   rw[l];exact q
def pX(h:Heap)(v:Vl)(d:bw):Prop:=∃a o b c,v=.ref a/\h.get? a=some o/\o.cls=.type "tuple"/\o.data=.seq b c/\Vals (d.map nv) b.toList
theorem Kk:∀{vs:Vs} {ts:LN},vs.length=ts.length->(∀(i:Nat) v t,vs[i]?=some v->ts[i]?=some t->pX h v t/\t≠[])->∃fs:Vs,KatTups h vs fs/\fs.length=vs.length/\∀f∈fs,∃i t,f=.int i t
 | [],[],_,_=>#[[],.nil,zZ,λ_ z=>nomatch z]
 | [],_::_,l,_=>by simp at l
 |_::_,[],l,_=>by simp at l
 | v::vs,t::ts,l,g=>by
  obtain⟨fs,k,m,p⟩:=Kk (by simpa using l) λi v t q s=>g (i+1) v t q s;obtain⟨⟨a,o,d,c,rfl,u,w,x,y⟩,A⟩:=g 0 v t zZ rfl;obtain⟨n,b,rfl⟩:∃n b,t=n::b:=by
   cases t with
   |nil=>exact wC zZ A
   |cons n b=>exact#[n,b,zZ]
  obtain⟨j⟩:=d;cases y with
  | cons r _=>
   obtain⟨B,rfl⟩:=r;exact#[_::fs,.cons u w x zZ k,by simp[m],λf hf=>by
    rcases db.mp hf with e|hf
    .exact#[_,_,e]
    .exact p f hf]
theorem Q3{a:Vs}{b:LN}(l:a.length=b.length)(M:1<=a.length)(e:∀(i:Nat) v t,a[i]?=some v->b[i]?=some t->pX s.heap v t/\t≠[]):GG P w A a (λi j=>dF (b.getD i []) (b.getD j [])) s:=by
 obtain⟨fs,k,N,m⟩:=Kk l e;refine kat_kind (T:= .type "int") k () (λf n=>?_) zZ #[zZ,λi j C d o p=>?_]
 .obtain⟨i,t,rfl⟩:=m f n;exact .now
 .have c:=λ{i} d=>by
   have q:a[i]?=some (a.getD i Value.none):=by rw[cW,bC d];rfl
   have r:b[i]?=some (b.getD i []):=by rw[cW,bC ()];rfl
   exact(e i _ _ q r).1
  obtain⟨x,O,u,Q,z,B,U,D,g⟩:=c d;obtain⟨y,Y,E,ny,G,H,y2,I,h⟩:=c o;show wpAny (model P w) A (keyLt' _ (a.getD i Value.none) (a.getD j Value.none)) C _ s;rw[z,G];refine kat_lt B D H I (Kh 0 g h ?_);have J:(b.getD i []).length=u.size:=by have:=g.length;simpa using this
  have L:(b.getD j []).length=E.size:=by have:=h.length;simpa using this
  rw[<-J,<-L];exact p
end
theorem LP{b:Type}{a:List b}{d:b}(c:Arr a.length p):(p.toList.map λi=>a.getD i d).Perm a:=by
 refine ((oB.mp c).map λi=>a.getD i d).trans<|.of_eq<|nq λi=>?_;rw[Cv,bT];by_cases h:i<a.length
 .rw[n9 h,bC h];show some (a.getD i d)=_;rw[cW,bC h];rfl
 .rw[iJ (by simp;lia),List.getElem?_eq_none ()];rfl
theorem MT(a:Arr n p)(b:i<n):p.toList[i]?=some (p.getD i 0):=by
 rw[lI];exact(a.at b).2
theorem J1{d:c}(T:Total lt a)(b:Arr a.length p)(up:tA (λi=>lM lt a (a.getD i d)) p a.length):(p.toList.map λi=>a.getD i d).Pairwise λx y=>lt x y=true:=by
 rw[oV];intro i j e f o;have k:i<a.length:=by rw[bA,dy,b.size]at e;exact e
 have g:j<a.length:=by rw[bA,dy,b.size]at f;exact f
 have l:(p.toList.map λi=>a.getD i d)[i]?=some (a.getD (p.getD i 0) d):=by rw[bT,MT b k];rfl
 have n:(p.toList.map λi=>a.getD i d)[j]?=some (a.getD (p.getD j 0) d):=by rw[bT,MT b g];rfl
 rw[bC e]at l;rw[bC f]at n;rw[ge l,ge n];have m:∀{i},i<a.length->a.getD (p.getD i 0) d∈a:=λ{i} h=>by
  have:=(b.at h).1;rw[cW,bC this];exact ga _
 rw[<-T.asks (m k)<|m g];exact cK<|up i j o g
structure TupsAt(H:Hp)(bs:As)(us:LN):Prop where
 len:bs.length=us.length
 is:∀(i:Nat) (b:Ad) (u:bw),bs[i]?=some b->us[i]?=some u->H b=some (.tup (u.map nv))
theorem TupsAt.same(h:TupsAt H bs c)(g:Same H a):TupsAt a bs c:=#[h.len,λi b u d e=>g _ _<|h.is i b u d e]
theorem TupsAt.pick(h:TupsAt H bs a)(f:Arr a.length p):TupsAt H (p.toList.map λi=>bs.getD i 0) (p.toList.map λi=>a.getD i []):=by
 refine#[by simp,λi b u d c=>?_];rw[bT]at d c;obtain⟨j,e,rfl⟩:=c9.mp d;rw[e]at c;cases c;have g:j<a.length:=by
  simpa using ((oB.mp f).mem_iff.mp<|bX e)
 have k:=h.len;refine h.is j _ _ ?_ ?_
 .rw[cW,bC ()];rfl
 .show a[j]?=some (a.getD j []);rw[cW,bC g];rfl
theorem A6(ok:HOk P w H h)(e:H a=some (.tup (t.map nv))):pX h (.ref a) t:=by
 obtain⟨_,b,r,o,d,f,c,g,_⟩:=(ok a _ e);exact#[a,o,b.toArray,c,zZ,d,f,g,by simpa using r]
theorem pC{b:Type}{a:List b}{d:b}(h:i<a.length):a[i]?=some (a.getD i d)/\a.getD i d∈a:=by grind
theorem LC{d:b}(T:Total lt a)(nd:a.Nodup):∀i j,i<a.length->j<a.length->lM lt a (a.getD i d)=lM lt a (a.getD j d)->i=j:=λi j c f e=>by
 refine(iA c nd).mp ?_;rw[(pC c).1,(pC f).1,(T.same (pC c).2 (pC f).2 e)]
abbrev d0:Keyed:=(Value.none,Value.none)
structure Asks(M:Model)(A:Ar)(s:Sh)(κ:SortKind)(r:Keyed->Int)(a₀:Array Keyed):Prop where
 lt:∀x y (C:Bool->Sh->Prop),x∈a₀->y∈a₀->C (decide (r x<r y)) s->wpAny M A (keyLt' κ x.1 y.1) C (λ_ _=>False) s
 ne:∀i j,i<a₀.size->j<a₀.size->i≠j->r (a₀.getD i d0)≠r (a₀.getD j d0)
structure StOk(κ:SortKind)(a₀:Array Keyed)(st:SortSt):Prop where
 kind:kindOf st=κ
 perm:(arrOf st).Perm a₀
 ok:failedOf st=none
section
variable{A:Ar}{E:VP}{s:Sh}{f xs g:Array Keyed}
abbrev kx(r:Keyed->Int)(xs:Array Keyed)(i:Nat):Int:=r (xs.getD i d0)
theorem q0(h:i<xs.size):xs[i]?=some (xs.getD i d0):=by
 rw[qu,kS h];rfl
theorem cB(h:xs[i]?=some x):xs.getD i d0=x:=by
 rw[qu,h];rfl
theorem pI(h:xs[i]?=g[j]?):xs.getD i d0=g.getD j d0:=by
 rw[qu,qu,h]
theorem tj(p:xs.Perm f):xs.size=f.size:=by
 simpa using ((oB.mp p).length_eq)
theorem Ci(p:xs.Perm f)(h:i<f.size):xs.getD i d0∈f:=(Ic p).mp<|EB<|q0 (by rw[tj p];exact h)
theorem Asks.pairs(K:Asks M A s o r f):(f.toList.map r).Nodup:=by
 refine oV.mpr λi j a b c=>?_;rw[y6,y6];rw[bA,dy]at a b;have z:=K.ne i j a b ();rw[qu,qu,kS a,kS b]at z;exact z
theorem Asks.apart(K:Asks M A s o r f)(p:xs.Perm f)(a:i<f.size)(b:j<f.size)(c:i≠j):kx r xs i≠kx r xs j:=by
 have sz:=tj p;intro z;have e:∀k,k<f.size->(xs.toList.map r)[k]?=some (kx r xs k):=λk d=>by
  rw[bT,lI,q0 ()];rfl
 exact c ((iA (by rw[bA,dy];lia) (((oB.mp p).map r).nodup_iff.mpr K.pairs)).mp (by rw[e i a,e j b,z]))
theorem AR{st:SortSt}(K:Asks M A s o r f)(c:kindOf st=o)(d:x∈f)(e:y∈f)(h:Q (some (decide (r x<r y))) st):wpS M A E s (lt' x y) Q st:=by
 rw[lt'_eq];refine b9<|nA ?_;rw[c];refine b9<|vg<|se<|iB (K.lt x y (λb a=>a=s/\b=decide (r x<r y)) d e #[zZ,zZ]) (λb a g=>?_) λ_ _ z=>z.elim;obtain⟨rfl,rfl⟩:=g;exact#[zZ,ci h]
theorem hR(b:i<xs.size)(h:Q (xs.getD i d0) a):wpS M A E s (elem' xs i) Q a:=by
 rw[elem'_eq,q0 b];exact ci h
theorem Bz{st:SortSt}(K:Asks M A s o r f)(B:StOk o f st)(a:i<f.size)(b:j<f.size)(h:Q (some (decide (kx r (arrOf st) i<kx r (arrOf st) j))) st):wpS M A E s (ltAt' i j) Q st:=by
 have sz:=tj B.perm;rw[ltAt'_eq];refine b9<|nA<|b9<|hR ()<|b9<|hR ()<|AR K B.kind (Ci B.perm a) (Ci B.perm b) h
def Ris(r:Keyed->Int)(xs:Array Keyed)(lo c:Nat):Prop:=∀a b,lo<=a->a<b->b<c->kx r xs a<kx r xs b
def Fal(r:Keyed->Int)(xs:Array Keyed)(lo c:Nat):Prop:=∀a b,lo<=a->a<b->b<c->kx r xs b<kx r xs a
def Out(xs g:Array Keyed)(lo a:Nat):Prop:=∀k,k<lo\/a<=k->g[k]?=xs[k]?
theorem Out.refl(xs)(lo a):Out xs xs lo a:=λ_ _=>rfl
theorem Out.trans{lo a:Nat}(h:Out xs g lo a)(c:Out g b lo a):Out xs b lo a:=λk z=>(c k z).trans<|h k z
theorem Out.wide{lo c a b:Nat}(h:Out xs g lo c)(d:a<=lo)(e:c<=b):Out xs g a b:=λk z=>h k ()
theorem Out.ris{lo c a b:Nat}(h:Out xs g lo c)(e:Ris r xs a b)(d:b<=lo\/c<=a):Ris r g a b:=λi j f k l=>by
 show r (g.getD i d0)<r (g.getD j d0);rw[pI<|h i (),pI<|h j ()];exact e i j f k l
theorem Ris.one{lo:Nat}:Ris r xs lo (lo+1):=λa b c d e=>by lia
theorem Ris.snoc{lo c:Nat}(h:Ris r xs lo c)(i:lo<c)(l:kx r xs (c-1)<kx r xs c):Ris r xs lo (c+1):=λa b d f j=>by
 by_cases e:b=c
 .subst e;by_cases g:a=b-1
  .subst g;exact l
  .have:=h a (b-1) d () ();lia
 .exact h a b d f ()
theorem Fal.snoc{lo c:Nat}(h:Fal r xs lo c)(i:lo<c)(l:kx r xs c<kx r xs (c-1)):Fal r xs lo (c+1):=λa b d f j=>by
 by_cases e:b=c
 .subst e;by_cases g:a=b-1
  .subst g;exact l
  .have:=h a (b-1) d () ();lia
 .exact h a b d f ()
theorem StOk.set{st:SortSt}(B:StOk o f st)(p:g.Perm (arrOf st)):StOk o f (setArr st g):=#[B.kind,p.trans B.perm,B.ok]
theorem Jk(b:j<=xs.size)(k):kx r (mirror xs i j ((j-i) /2)) k=if i<=k/\k<j then kx r xs (i+j-1-k)else kx r xs k:=by
 have e:=getElem?_mirror_all (i:=i) b k;by_cases a:i<=k/\k<j
 .rw[wB a]at e|-;exact cH r<|pI e
 .rw[wA a]at e|-;exact cH r<|pI e
theorem Pn{st:SortSt}{lo g:Nat}(K:Asks M A s o r f)(B:StOk o f st)(hn:lo+g<=f.size)(G:1<=g)(h:∀n l,StOk o f l->pendingOf l=pendingOf st->gallopOf l=gallopOf st->Out (arrOf st) (arrOf l) lo (lo+g)->1<=n->n<=g->Ris r (arrOf l) lo (lo+n)->Q (some n) l):wpS M A E s (countRun' lo g) Q st:=by
 rw[countRun'_eq];have x:∀(m:Nat) (l:SortSt) (H:Option (Option Nat)×Nat->SortSt->Prop),StOk o f l->1<=m->m<=g->Ris r (arrOf l) lo (lo+m)->(∀n,m<=n->n<=g->Ris r (arrOf l) lo (lo+n)->(n<g->kx r (arrOf l) (lo+n)<kx r (arrOf l) (lo+n-1))->H (none,n) l)->
   wpS M A E s (forIn [m:g] ((none,m):Option (Option Nat)×Nat) λ_ p=>do
    let J <-ltAt' (lo+p.snd) (lo+p.snd-1)
    match J with
    |some t=>if t=true then pure (ForInStep.done (none,p.snd))else pure (ForInStep.yield (none,p.snd+1))
    |_=>pure (ForInStep.done (some none,p.snd))) H l:=λm l H U m1 L up q=>by
  refine jw (I:=λi c d=>d=l/\c=(none,i)/\Ris r (arrOf l) lo (lo+i)) (λi c d oN AJ v=>?_) (λc d v=>?_) #[zZ,zZ,up]
  .obtain⟨rfl,rfl,u⟩:=v;refine b9 (Bz K U (by grind) (by grind) ?_);by_cases c:kx r (arrOf d) (lo+i)<kx r (arrOf d) (lo+i-1)
   .rw[cK c];exact ci (q i oN () u λ_=>c)
   .rw[eU c];have ne:=K.apart U.perm (i:=lo+i) (j:=lo+i-1) () () ();exact ci #[zZ,zZ,u.snoc () ()]
  .obtain⟨rfl,rfl,u⟩:=v;rw[show max m g=g by lia]at u|-;exact q g L (bR _) u λz=>wC z (ni _)
 refine b9 (x 1 st _ B (bR _) G Ris.one λn N D up stop=>?_);dsimp only;by_cases e:n=g
 .rw[wB (by grind)];exact ci (h n st B zZ zZ (Out.refl _ _ _) N D up)
 rw[wA (by grind)];by_cases Y:n>1
 .rw[wB Y];refine b9 (Bz K B () () ?_);rw[cK (up lo (lo+n-1) (bR _) () ())];exact ci (h n st B zZ zZ (Out.refl _ _ _) N D up)
 rw[wA Y];have en:n=1:=by lia
 subst en;refine b9 (vg (qj #[zZ,?_]));have y:Fal r (arrOf st) lo (lo+2):=λa b G h2 h3=>by
  have ea:a=lo:=by lia
  have eb:b=lo+1:=by lia
  subst ea eb;exact (stop ())
 refine b9 (j9 (jw (I:=λi c d=>d=st/\c=(none,i,0)/\Fal r (arrOf st) lo (lo+i)) (Q:=λc d=>d=st/\∃m,c=(none,m,0)/\2<=m/\m<=g/\Fal r (arrOf st) lo (lo+m)) (λi c d oN AJ v=>?_) (λc d v=>?_) #[zZ,zZ,y]) ?_)
 .obtain⟨rfl,rfl,fa⟩:=v;refine b9 (Bz K B (by grind) (by grind) ?_);by_cases c:kx r (arrOf d) (lo+i)<kx r (arrOf d) (lo+i-1)
  .rw[cK c];exact ci #[zZ,zZ,fa.snoc () c]
  .rw[eU c];have ne:=K.apart B.perm (i:=lo+i) (j:=lo+i-1) () () ();refine b9 (Bz K B (by grind) (by grind) ?_);rw[cK (by grind)];exact ci #[zZ,i,zZ,(),(),fa]
 .obtain⟨rfl,rfl,fa⟩:=v;refine#[zZ,_,zZ,(),(),fa]
 .rintro c d ⟨rfl,m,rfl,m2,L,fa⟩;dsimp only;obtain⟨m,rfl⟩:∃k,m=k+1:=si λz=>by rw[z]at m2;exact wC m2 (by decide)
  rw[wA (ni 0)];rw[reverseSlice'_eq];have sz:=tj B.perm;have w:lo+(m+1)<=(arrOf d).size:=by lia
  have B2:StOk o f (setArr d (mirror (arrOf d) lo (lo+(m+1)) ((lo+(m+1)-lo) /2))):=B.set (mirror_perm _ _ _ _);have T:Ris r (mirror (arrOf d) lo (lo+(m+1)) ((lo+(m+1)-lo) /2)) lo (lo+(m+1)):=λa b G h2 h3=>by
   rw[Jk w,Jk w,wB (),wB ()];exact fa _ _ (show lo<=lo+(lo+m)-b from IG ()) (show lo+(lo+m)-b<lo+(lo+m)-a from Nat.sub_lt_sub_left () h2) (show lo+(lo+m)-a<lo+(m+1)from Bi () ())
  have C:Out (arrOf d) (mirror (arrOf d) lo (lo+(m+1)) ((lo+(m+1)-lo) /2)) lo (lo+g):=λk hk=>by
   rw[getElem?_mirror_all w,wA ()]
  refine b9 (ph (b9 (x (m+1) _ _ B2 () L T λn N D up stop=>?_)));exact ci (h n _ B2 zZ zZ C () D up)
end
section
variable{E:VP}
theorem JS(g:a<f.size)(h:d<=a)(k):kx r (bubble f a d) k=if k=a-d then kx r f a else if a-d<k/\k<=a then kx r f (k-1)else kx r f k:=by
 have e:=getElem?_bubble g d h k;by_cases b:k=a-d
 .rw[wB b]at e|-;exact cH r<|pI e
 .rw[wA b]at e|-;by_cases c:a-d<k/\k<=a
  .rw[wB c]at e|-;exact cH r<|pI e
  .rw[wA c]at e|-;exact cH r<|pI e
theorem Pb{st:SortSt}{lo n ok:Nat}(K:Asks M A s b r a)(B:StOk b a st)(hn:lo+n<=a.size)(aa:ok<=n)(hs:Ris r (arrOf st) lo (lo+ok))(h:∀e,StOk b a e->pendingOf e=pendingOf st->gallopOf e=gallopOf st->Out (arrOf st) (arrOf e) lo (lo+n)->Ris r (arrOf e) lo (lo+n)->Q true e):wpS M A E s (binarySort' lo n ok) Q st:=by
 rw[binarySort'_eq];refine b9 (j9 (jw (I:=λk c e=>c=(none,Unit.unit)/\StOk b a e/\pendingOf e=pendingOf st/\gallopOf e=gallopOf st/\Out (arrOf st) (arrOf e) lo (lo+n)/\Ris r (arrOf e) lo (lo+min k n))
  (Q:=λc e=>c=(none,Unit.unit)/\StOk b a e/\pendingOf e=pendingOf st/\gallopOf e=gallopOf st/\Out (arrOf st) (arrOf e) lo (lo+n)/\Ris r (arrOf e) lo (lo+n)) ?step ?fin ?init) ?post)
 case post=>
  rintro c e ⟨rfl,y,H,J,o,u⟩;exact ci (h e y H J o u)
 case init=>
  refine#[zZ,B,zZ,zZ,Out.refl _ _ _,λi j v C h3=>?_];exact hs i j v C ()
 case fin=>
  rintro c e ⟨hc,y,H,J,o,u⟩;refine#[hc,y,H,J,o,?_];rwa[show min (max (max ok 1) n) n=n by lia]at u
 case step=>
  rintro k c e ab ae ⟨rfl,y,H,J,o,w⟩;rw[show min k n=k by lia]at w;have sz:=tj y.perm;refine b9 (j9 (jw (I:=λx c f=>f=e/\∃l q,c=(none,l,q)/\l<=q/\q<=k/\q+x<=k+l/\
    (∀i,i<l->kx r (arrOf e) (lo+i)<kx r (arrOf e) (lo+k))/\(∀i,q<=i->i<k->kx r (arrOf e) (lo+k)<kx r (arrOf e) (lo+i)))
   (Q:=λc f=>f=e/\∃l q,c=(none,l,q)/\l<=k/\
    (∀i,i<l->kx r (arrOf e) (lo+i)<kx r (arrOf e) (lo+k))/\(∀i,l<=i->i<k->kx r (arrOf e) (lo+k)<kx r (arrOf e) (lo+i))) ?istep ?ifin ?iinit) ?ipost)
  case iinit=>exact#[zZ,0,k,zZ,(),(),(),λi hi=>by lia,λi v C=>by lia]
  case ifin=>
   rintro c f ⟨rfl,l,q,rfl,N,t,hm,m,p⟩;have:l=q:=by lia
   subst this;exact#[zZ,l,l,zZ,t,m,p]
  case istep=>
   rintro x c f _ af ⟨rfl,l,q,rfl,N,t,hm,m,p⟩;dsimp only;by_cases D:l>=q
   .rw[wB D];have:l=q:=by lia
    subst this;exact ci #[zZ,l,l,zZ,t,m,p]
   .rw[wA D];have Y:l<=(l+q) /2:=by lia
    have O:(l+q) /2<q:=by lia
    clear D;generalize(l+q) /2=d at Y O|-;have dk:=gn O t;refine b9 (Bz K y () () ?_);by_cases g:kx r (arrOf f) (lo+k)<kx r (arrOf f) (lo+d)
    .simp only[g,decide_true,if_true];refine ci #[zZ,l,d,zZ,Y,eZ dk,(),m,λi v C=>?_];by_cases z:i=d
     .subst z;exact g
     .exact Ax g (w (lo+d) (lo+i) (nQ ..) (DN (Ae v (dX z)) _) (DN C _))
    .simp only[g,decide_false,Bool.false_eq_true,if_false];have ne:=K.apart y.perm (i:=lo+k) (j:=lo+d) () () ();refine ci #[zZ,d+1,q,zZ,O,t,(),λi v=>?_,p];by_cases z:i=d
     .subst z;exact Int.lt_iff_le_and_ne.mpr #[Int.not_lt.mp g,ne.symm]
     .exact Int.lt_of_lt_of_le (w (lo+i) (lo+d) (nQ ..) (DN (Ae (B7 v) z) _) (DN dk _)) (Int.not_lt.mp g)
  case ipost=>
   rintro c f ⟨rfl,l,q,rfl,L,m,p⟩;show wpS _ _ _ _ (do moveDown' (lo+k) (lo+l);pure (ForInStep.yield (none,Unit.unit))) _ _
   rw[moveDown'_eq];have G:lo+k<(arrOf f).size:=by lia
   refine b9 (ph (ci #[zZ,y.set (bubble_perm _ _ _),H,J,o.trans λj hj=>?_,?_]))
   .show(bubble (arrOf f) (lo+k) (lo+k-(lo+l)))[j]?=_;rw[getElem?_bubble G _ (),Nat.sub_sub_self (zU L lo),wA (),wA ()]
   .rw[show min (k+1) n=k+1 by lia];intro i j v C h3;show kx r (bubble (arrOf f) (lo+k) (lo+k-(lo+l))) i<kx r (bubble (arrOf f) (lo+k) (lo+k-(lo+l))) j
    rw[JS G (),JS G (),Nat.sub_sub_self (zU L lo)];have T:∀i,lo<=i->i<lo+l->kx r (arrOf f) i<kx r (arrOf f) (lo+k):=λi v C=>by
     have:=m (i-lo) ();rwa[show lo+(i-lo)=i by lia]at this
    have U:∀i,lo+l<=i->i<lo+k->kx r (arrOf f) (lo+k)<kx r (arrOf f) i:=λi v C=>by
     have:=p (i-lo) () ();rwa[show lo+(i-lo)=i by lia]at this
    repeat' split
    all_goals first
     |(exfalso;lia)
     |exact T _ () ()
     |exact U _ () ()
     |exact w _ _ () () ()
noncomputable def rc:Bool->Keyed->Array Keyed->Nat->Nat->Nat->StateT SortSt Sem (Option Nat):=sortPriv%PySem.Builtin.gallop
theorem R7(left)(e)(g)(d n a):rc left e g d n a=(do
 let c (i:Nat):StateT SortSt Sem (Option Bool):=do
  let x <-elem' g (d+i)
  if left then lt' x e else return (<-lt' e x).map (!·)
 let mut lastofs:=0
 let mut ofs:=1
 let mut lo:=0
 let mut hi:=0
 let some right <-c a|return none
 if right then
  let b:=n-a
  for _ in[0:n] do
   if ofs>=b then break
   let some more <-c (a+ofs)|return none
   if !more then break
   lastofs:=ofs
   ofs:=2 * ofs+1
  lo:=a+lastofs+1
  hi:=a+min ofs b
 else
  let b:=a+1
  for _ in[0:n] do
   if ofs>=b then break
   let some f <-c (a-ofs)|return none
   if f then break
   lastofs:=ofs
   ofs:=2 * ofs+1
  lo:=a+1-min ofs b
  hi:=a-lastofs
 for _ in[0:n] do
  if lo>=hi then break
  let m:=lo+(hi-lo) /2
  let some more <-c m|return none
  if more then lo:=m+1 else hi:=m
 return some hi):=rfl
end
section
variable{E:VP}
theorem yr{st:SortSt}(K:Asks M A s b r a)(hk:kindOf st=b)(hz:d+n<=p.size)(mem:∀i,i<n->p.getD (d+i) d0∈a)(mk:t∈a)(ne:∀i,i<n->kx r p (d+i)≠r t)(up:Ris r p d (d+n)) (Y:m<n) (q:∀k,k<=n->(∀i,i<k->kx r p (d+i)<r t)->(∀i,k<=i->i<n->r t<kx r p (d+i))->Q (some k) st):wpS M A E s (rc left t p d n m) Q st:=by
 rw[R7];have H:∀(i:Nat) (Q:Option Bool->SortSt->Prop),i<n->Q (some<|decide<|kx r p (d+i)<r t) st->wpS M A E s (do
   let x <-elem' p (d+i)
   if left then lt' x t else return (<-lt' t x).map (!·)) Q st:=λi Q w hQ=>by
  refine b9 (hR () ?_);cases left with
  |true=>exact AR K hk (mem i w) mk hQ
  | false=>
   refine b9 (AR K hk mk (mem i w) (ci ?_));have e:(!decide (r t<r (p.getD (d+i) d0)))=decide (kx r p (d+i)<r t):=by grind
   show Q (some (!decide (r t<r (p.getD (d+i) d0)))) st;rw[e];exact hQ
 have dn:∀i j,i<=j->j<n->kx r p (d+j)<r t->kx r p (d+i)<r t:=λi j ij jn l=>by
  by_cases z:i=j
  .subst z;exact l
  .have:=up (d+i) (d+j) () () ();lia
 have O:∀i j,i<=j->j<n-> ¬kx r p (d+i)<r t->r t<kx r p (d+j):=λi j ij jn l=>by
  have n1:=ne i ();by_cases z:i=j
  .subst z;lia
  .have:=up (d+i) (d+j) () () ();lia
 have fin:∀(lo w:Nat) (u:SortSt) (f:Nat->Option (Option Nat)×Nat×Nat->StateT SortSt Sem (ForInStep (Option (Option Nat)×Nat×Nat))) (g:Option (Option Nat)×Nat×Nat->StateT SortSt Sem (Option Nat)),u=st->lo<=w->w<=n->(∀i,i<lo->kx r p (d+i)<r t)->(∀i,w<=i->i<n->r t<kx r p (d+i))->
   (∀x l h (R:ForInStep (Option (Option Nat)×Nat×Nat)->SortSt->Prop),l>=h->R (.done (none,l,h)) st->wpS M A E s (f x (none,l,h)) R st)->
   (∀x l h (R:ForInStep (Option (Option Nat)×Nat×Nat)->SortSt->Prop),l<h->h<=n->R (.yield (if kx r p (d+(l+(h-l) /2))<r t then(none,l+(h-l) /2+1,h)else(none,l,l+(h-l) /2))) st->wpS M A E s (f x (none,l,h)) R st)->
   (∀h,Q (some h) st->wpS M A E s (g (none,h,h)) Q st)->wpS M A E s (forIn [0:n] (none,lo,w) f >>= g) Q u:=λlo w u f g e lh hn dl du f1 f2 f3=>by
  subst e;refine b9 (j9 (jw (I:=λx c v=>v=u/\∃l h,c=(none,l,h)/\l<=h/\h<=n/\h+x<=n+l/\(∀i,i<l->kx r p (d+i)<r t)/\∀i,h<=i->i<n->r t<kx r p (d+i))
   (Q:=λc v=>v=u/\∃h,c=(none,h,h)/\h<=n/\(∀i,i<h->kx r p (d+i)<r t)/\∀i,h<=i->i<n->r t<kx r p (d+i)) ?step ?stop #[zZ,lo,w,zZ,lh,hn,(),dl,du]) ?post)
  case step=>
   rintro x c v _ hx ⟨rfl,l,h,rfl,C,J,B,T,U⟩;by_cases z:l>=h
   .have:l=h:=by lia
    subst this;exact f1 x l l _ z #[zZ,l,zZ,J,T,U]
   .refine f2 x l h _ () J ?_;by_cases c:kx r p (d+(l+(h-l) /2))<r t
    .rw[wB c];exact#[zZ,_,_,zZ,(),(),(),λi w=>dn i _ () () c,U]
    .rw[wA c];exact#[zZ,_,_,zZ,(),(),(),T,λi L N=>O _ i L N c]
  case stop=>
   rintro c v ⟨rfl,l,h,rfl,C,J,B,T,U⟩;have:l=h:=by lia
   subst this;exact#[zZ,l,zZ,J,T,U]
  case post=>
   rintro c v ⟨rfl,h,rfl,N,T,U⟩;exact f3 h (q h N T U)
 refine b9 (H m _ Y ?_);by_cases c0:kx r p (d+m)<r t
 .rw[cK c0];dsimp only;rw[wB zZ];refine b9 (j9 (jw (I:=λx c u=>u=st/\∃l o,c=(none,l,o)/\l<o/\x+1<=o/\l<n-m/\kx r p (d+(m+l))<r t)
   (Q:=λc u=>u=st/\∃l o,c=(none,l,o)/\l<o/\l<n-m/\kx r p (d+(m+l))<r t/\(o<n-m-> ¬kx r p (d+(m+o))<r t)) ?step ?stop #[zZ,0,1,zZ,(),(),(),c0]) ?post)
  case step=>
   rintro x c u _ hx ⟨rfl,l,o,rfl,C,J,B,D⟩;dsimp only;by_cases z:o>=n-m
   .rw[wB z];exact ci #[zZ,l,o,zZ,C,B,D,λy=>by lia]
   .rw[wA z];refine b9 (H _ _ () ?_);by_cases c:kx r p (d+(m+o))<r t
    .rw[cK c];exact ci #[zZ,o,_,zZ,(),(),(),c]
    .rw[eU c];exact ci #[zZ,l,o,zZ,C,B,D,λ_=>c]
  case stop=>
   rintro c u ⟨rfl,l,o,rfl,C,J,B,D⟩;exact#[zZ,l,o,zZ,C,B,D,λy=>by lia]
  case post=>
   rintro c u ⟨rfl,l,o,rfl,C,B,D,l5⟩;dsimp only;refine fin (m+l+1) (m+min o (n-m)) _ _ _ zZ (zU (Nat.le_min.mpr #[C,B]) m) (cz (zU (Nat.min_le_right ..) m) (rg (qa (eZ Y)))) (λi w=>dn i (m+l) (B7 w) (Nat.add_lt_of_lt_sub' B) D) (λi L N=>by
    by_cases z:o<n-m
    .exact O (m+o) i (by grind) N (l5 z)
    .rw[Nat.min_eq_right (DD z),qa (eZ Y)]at L;exact wC N (Nat.not_lt.mpr L)) (λx l h R z G=>?_) (λx l h R z hn G=>?_) (λh hq=>ci hq)
   .dsimp only;rw[wB z];exact ci G
   .dsimp only;rw[wA ()];refine b9 (H _ _ () ?_);by_cases c:kx r p (d+(l+(h-l) /2))<r t
    .rw[wB c]at G;rw[cK c];exact ci G
    .rw[wA c]at G;rw[eU c];exact ci G
 .rw[eU c0];dsimp only;rw[wA (by decide)];refine b9 (j9 (jw (I:=λx c u=>u=st/\∃l o,c=(none,l,o)/\l<o/\x+1<=o/\l<m+1/\ ¬kx r p (d+(m-l))<r t)
   (Q:=λc u=>u=st/\∃l o,c=(none,l,o)/\l<o/\l<m+1/\ ¬kx r p (d+(m-l))<r t/\(o<m+1->kx r p (d+(m-o))<r t)) ?step ?stop #[zZ,0,1,zZ,(),(),(),c0]) ?post)
  case step=>
   rintro x c u _ hx ⟨rfl,l,o,rfl,C,J,B,D⟩;dsimp only;by_cases z:o>=m+1
   .rw[wB z];exact ci #[zZ,l,o,zZ,C,B,D,λy=>by lia]
   .rw[wA z];refine b9 (H _ _ () ?_);by_cases c:kx r p (d+(m-o))<r t
    .rw[cK c];exact ci #[zZ,l,o,zZ,C,B,D,λ_=>c]
    .rw[eU c];exact ci #[zZ,o,_,zZ,(),(),(),c]
  case stop=>
   rintro c u ⟨rfl,l,o,rfl,C,J,B,D⟩;exact#[zZ,l,o,zZ,C,B,D,λy=>by lia]
  case post=>
   rintro c u ⟨rfl,l,o,rfl,C,B,D,l5⟩;dsimp only;refine fin (m+1-min o (m+1)) (m-l) _ _ _ zZ (cz (Nat.sub_le_sub_left (Nat.le_min.mpr #[C,B]) _) (rg (Nat.add_sub_add_right ..))) (cz (Nat.sub_le ..) (eZ Y)) (λi w=>by
    by_cases z:o<m+1
    .rw[uu (eZ z),Nat.succ_sub (B7 z)]at w;exact dn i (m-o) (B7 w) (BF (Nat.sub_le ..) Y) (l5 z)
    .rw[Nat.min_eq_right (DD z),mT]at w;exact wC w (sj _)) (λi L N=>O (m-l) i L N D) (λx l h R z G=>?_) (λx l h R z hn G=>?_) (λh hq=>ci hq)
   .dsimp only;rw[wB z];exact ci G
   .dsimp only;rw[wA ()];refine b9 (H _ _ () ?_);by_cases c:kx r p (d+(l+(h-l) /2))<r t
    .rw[wB c]at G;rw[cK c];exact ci G
    .rw[wA c]at G;rw[eU c];exact ci G
end
abbrev T5:Type:=Option (Array Keyed)×Array Keyed×Nat×Nat×Nat
abbrev T6:Type:=Option (Array Keyed)×Array Keyed×Nat×Nat×Nat×Nat
abbrev T7:Type:=Option (Array Keyed)×Array Keyed×Nat×Nat×Nat×Nat×Nat
noncomputable def Gu:Array Keyed->Array Keyed->StateT SortSt Sem (Array Keyed):=sortPriv%PySem.Builtin.mergeLo
noncomputable def HV:Array Keyed->Array Keyed->StateT SortSt Sem (Array Keyed):=sortPriv%PySem.Builtin.mergeHi
noncomputable def yl:Nat->StateT SortSt Sem Unit:=sortPriv%PySem.Builtin.setMinGallop
theorem OB(g):yl g=modify λst=>SortSt.mk' (kindOf st) (arrOf st) (pendingOf st) g (failedOf st):=rfl
section
variable(a b:Array Keyed)
abbrev mo(c:Array Keyed)(d e:Nat):Array Keyed:=c++a.extract d a.size++b.extract e b.size
abbrev qk(c:Array Keyed)(d e:Nat):Array Keyed:=c++b.extract e b.size++a.extract d a.size
noncomputable def Gg(mg:Nat)(c:T6):StateT SortSt Sem (ForInStep T6):=do
 let some d <-lt' (<-elem' b c.2.2.2.1) (<-elem' a c.2.2.1)|pure (.done (some (mo a b c.2.1 c.2.2.1 c.2.2.2.1),c.2.1,c.2.2.1,c.2.2.2.1,c.2.2.2.2.1,c.2.2.2.2.2))
 if d then
  let x <-elem' b c.2.2.2.1
  if c.2.2.2.1+1==b.size then pure (.done (some (mo a b (c.2.1.push x) c.2.2.1 (c.2.2.2.1+1)),c.2.1.push x,c.2.2.1,c.2.2.2.1+1,0,c.2.2.2.2.2+1))
  else if c.2.2.2.2.2+1>=mg then pure (.done (none,c.2.1.push x,c.2.2.1,c.2.2.2.1+1,0,c.2.2.2.2.2+1))
  else pure (.yield (none,c.2.1.push x,c.2.2.1,c.2.2.2.1+1,0,c.2.2.2.2.2+1))
 else
  let x <-elem' a c.2.2.1
  if c.2.2.1+1+1==a.size then pure (.done (some (qk a b (c.2.1.push x) (c.2.2.1+1) c.2.2.2.1),c.2.1.push x,c.2.2.1+1,c.2.2.2.1,c.2.2.2.2.1+1,0))
  else if c.2.2.2.2.1+1>=mg then pure (.done (none,c.2.1.push x,c.2.2.1+1,c.2.2.2.1,c.2.2.2.2.1+1,0))
  else pure (.yield (none,c.2.1.push x,c.2.2.1+1,c.2.2.2.1,c.2.2.2.2.1+1,0))
noncomputable def pE(c:Array Keyed)(d e mg k f:Nat):StateT SortSt Sem (ForInStep T7):=do
 let x <-elem' a d
 if d+1+1==a.size then pure (.done (some (qk a b (c.push x) (d+1) e),c.push x,d+1,e,mg,k,f))
 else if k<7&&f<7 then pure (.done (none,c.push x,d+1,e,mg,k,f))
 else pure (.yield (none,c.push x,d+1,e,mg,k,f))
noncomputable def pP(d:Array Keyed)(f c mg k g:Nat):StateT SortSt Sem (ForInStep T7):=do
 let y <-elem' b c
 if c+1==b.size then pure (.done (some (mo a b (d.push y) f (c+1)),d.push y,f,c+1,mg,k,g))
 else do
  let some e <-rc true (<-elem' a f) b (c+1) (b.size-(c+1)) 0|pure (.done (some (mo a b (d.push y) f (c+1)),d.push y,f,c+1,mg,k,g))
  if e>0 then
   if c+1+e==b.size then pure (.done (some (mo a b (d.push y++b.extract (c+1) (c+1+e)) f (c+1+e)),d.push y++b.extract (c+1) (c+1+e),f,c+1+e,mg,k,e))
   else pE a b (d.push y++b.extract (c+1) (c+1+e)) f (c+1+e) mg k e
  else pE a b (d.push y) f (c+1) mg k e
noncomputable def qf(c:T7)(mg:Nat):StateT SortSt Sem (ForInStep T7):=do
 yl mg
 let some k <-rc false (<-elem' b c.2.2.2.1) a c.2.2.1 (a.size-c.2.2.1) 0|pure (.done (some (mo a b c.2.1 c.2.2.1 c.2.2.2.1),c.2.1,c.2.2.1,c.2.2.2.1,mg,c.2.2.2.2.2.1,c.2.2.2.2.2.2))
 if k>0 then
  if c.2.2.1+k+1==a.size then pure (.done (some (qk a b (c.2.1++a.extract c.2.2.1 (c.2.2.1+k)) (c.2.2.1+k) c.2.2.2.1),c.2.1++a.extract c.2.2.1 (c.2.2.1+k),c.2.2.1+k,c.2.2.2.1,mg,k,c.2.2.2.2.2.2))
  else if c.2.2.1+k==a.size then pure (.done (some (mo a b (c.2.1++a.extract c.2.2.1 (c.2.2.1+k)) (c.2.2.1+k) c.2.2.2.1),c.2.1++a.extract c.2.2.1 (c.2.2.1+k),c.2.2.1+k,c.2.2.2.1,mg,k,c.2.2.2.2.2.2))
  else pP a b (c.2.1++a.extract c.2.2.1 (c.2.2.1+k)) (c.2.2.1+k) c.2.2.2.1 mg k c.2.2.2.2.2.2
 else pP a b c.2.1 c.2.2.1 c.2.2.2.1 mg k c.2.2.2.2.2.2
noncomputable def IU(c:T7):StateT SortSt Sem (ForInStep T7):=if c.2.2.2.2.1>1 then qf a b c (c.2.2.2.2.1-1)else qf a b c c.2.2.2.2.1
noncomputable def FM(c:T5):StateT SortSt Sem (ForInStep T5):=do
 let e <-forIn [0:a.size+b.size] ((none,c.2.1,c.2.2.1,c.2.2.2.1,0,0):T6) λ_ e=>Gg a b c.2.2.2.2 e
 match e.1 with
 |some r=>pure (.done (some r,e.2.1,e.2.2.1,e.2.2.2.1,c.2.2.2.2))
 | none=>do
  rule "list.sort.gallop"
  let d <-forIn [0:a.size+b.size] ((none,e.2.1,e.2.2.1,e.2.2.2.1,c.2.2.2.2+1,e.2.2.2.2.1,e.2.2.2.2.2):T7) λ_ d=>IU a b d
  match d.1 with
  |some r=>pure (.done (some r,d.2.1,d.2.2.1,d.2.2.2.1,d.2.2.2.2.1))
  |none=>do
   yl (d.2.2.2.2.1+1)
   pure (.yield (none,d.2.1,d.2.2.1,d.2.2.2.1,d.2.2.2.2.1+1))
noncomputable def No:StateT SortSt Sem (Array Keyed):=do
 rule "list.sort.merge-lo"
 let x <-elem' b 0
 if 1==b.size then pure (mo a b #v[x] 0 1)
 else if 0+1==a.size then pure (qk a b #v[x] 0 1)
 else do
  let st <-get
  let c <-forIn [0:a.size+b.size] ((none,#v[x],0,1,gallopOf st):T5) λ_ c=>FM a b c
  match c.1 with
  |some r=>pure r
  |none=>unsupported "internal:list.sort.merge-bound"
theorem Us:Gu a b=No a b:=by
 refine cH (bind _)<|funext λ_=>cH (bind<|elem' b 0)<|funext λx=>?_;refine xu zZ (λ_=>rfl)<|λ_=>xu zZ (λ_=>rfl)<|λ_=>?_;refine cH (bind get)<|funext λst=>congr (cH bind<|cH (forIn [0:a.size+b.size] _)<|funext λu=>funext λc=>?_)<|funext λc=>?_
 .refine congr (cH bind<|cH (forIn [0:a.size+b.size] _)<|funext λu=>funext λd=>rfl)<|funext λd=>?_;obtain⟨e,_⟩:=d;cases e with
  |some e=>rfl
  | none=>
   refine cH (bind _)<|funext λ_=>congr (cH bind<|cH (forIn [0:a.size+b.size] _)<|funext λu=>funext λg=>?_)<|funext λg=>?_
   .refine xu zZ (λ_=>?_)<|λ_=>?_
    .rfl
    .rfl
   .obtain⟨l,_⟩:=g;cases l<;>rfl
 .obtain⟨r,_⟩:=c;cases r<;>rfl
end
abbrev Up(r:Keyed->Int)(l:List Keyed):Prop:=l.Pairwise λx y=>r x<r y
structure Mg(r:Keyed->Int)(la lb out:List Keyed)(ia ib:Nat):Prop where
 perm:(out++la.drop ia++lb.drop ib).Perm (la++lb)
 so:Up r out
 oa:∀x∈out,∀y∈la.drop ia,r x<r y
 ob:∀x∈out,∀y∈lb.drop ib,r x<r y
theorem BX(h:Up r l)(i):Up r (l.drop i):=pD (List.drop_sublist i l) h
theorem KP(h:Up r l)(i k):Up r ((l.drop i).take k)/\∀x∈(l.drop i).take k,∀y∈l.drop (i+k),r x<r y:=by
 have z:=BX h i;rw[<-og k<|l.drop i]at z;obtain⟨b,_,a⟩:=jp.mp z;rw[List.drop_drop]at a;exact#[b,a]
theorem Mg.len(m:Mg r a b out c d)(e:c<=a.length)(f:d<=b.length):out.length+(a.length-c)+(b.length-d)=a.length+b.length:=by
 have z:=m.perm.length_eq;rw[cC,cC,cC,rb,rb]at z;exact z
theorem Mg.moveA(m:Mg r a b out c d)(i:Up r a)(k)(h:∀x∈(a.drop c).take k,∀y∈b.drop d,r x<r y):Mg r a b (out++(a.drop c).take k) (c+k) d:=by
 obtain⟨j,l⟩:=KP i c k;have e:(a.drop c).take k++a.drop (c+k)=a.drop c:=by rw[<-List.drop_drop];exact og k _
 have sub:∀y∈a.drop<|c+k,y∈a.drop c:=λy f=>by rw[<-e];exact cF.mpr<|.inr f
 refine#[?_,jp.mpr #[m.so,j,λx g y f=>m.oa x g y<|qr f],λx g y f=>?_,λx g y f=>?_]
 .have z:=m.perm;rw[<-e,<-dR]at z;exact z
 .rcases cF.mp g with z|z
  .exact m.oa x z y<|sub y f
  .exact l x z y f
 .rcases cF.mp g with z|z
  .exact m.ob x z y f
  .exact h x z y f
theorem Mg.moveB(m:Mg r a b out c d)(i:Up r b)(k)(h:∀x∈(b.drop d).take k,∀y∈a.drop c,r x<r y):Mg r a b (out++(b.drop d).take k) c (d+k):=by
 obtain⟨j,l⟩:=KP i d k;have e:(b.drop d).take k++b.drop (d+k)=b.drop d:=by rw[<-List.drop_drop];exact og k _
 have sub:∀y∈b.drop<|d+k,y∈b.drop d:=λy f=>by rw[<-e];exact cF.mpr<|.inr f
 refine#[?_,jp.mpr #[m.so,j,λx g y f=>m.ob x g y<|qr f],λx g y f=>?_,λx g y f=>?_]
 .have z:=m.perm;rw[<-e]at z;refine List.Perm.trans ?_ z;rw[dR,dR,dR];refine A7 _ ?_;rw[<-dR,<-dR];exact D1 _ BZ
 .rcases cF.mp g with z|z
  .exact m.oa x z y f
  .exact h x z y f
 .rcases cF.mp g with z|z
  .exact m.ob x z y<|sub y f
  .exact l x z y f
def gm(r:Keyed->Int)(a b out:List Keyed):Prop:=out.Perm (a++b)/\Up r out
theorem Mg.endB(m:Mg r a b out c d)(e:Up r a)(h:b.length<=d):gm r a b (out++a.drop c++b.drop d):=by
 refine#[m.perm,?_];rw[List.drop_of_length_le h,iw];exact jp.mpr #[m.so,BX e c,m.oa]
theorem Mg.endA(m:Mg r a b out c d)(e:Up r b)(h:a.length<=c):gm r a b (out++a.drop c++b.drop d):=by
 refine#[m.perm,?_];rw[List.drop_of_length_le h,iw];exact jp.mpr #[m.so,BX e d,m.ob]
theorem Mg.last(m:Mg r a b out c d)(f:Up r b)(h:c+1=a.length)(top:∀y∈b,∀x∈a.drop c,r y<r x):gm r a b (out++b.drop d++a.drop c):=by
 refine#[List.Perm.trans ?_ m.perm,?_]
 .rw[dR,dR];exact A7 _ BZ
 .obtain⟨x,g⟩:∃x,a.drop c=[x]:=List.length_eq_one_iff.mp (by rw[rb];lia);refine jp.mpr #[jp.mpr #[m.so,BX f d,m.ob],by rw[g];exact u6 _ _,λy i x e=>?_]
  rcases cF.mp i with z|z
  .exact m.oa y z x e
  .exact top y (G' z) x e
structure Eqv(st st':SortSt):Prop where
 kind:kindOf st'=kindOf st
 arr:arrOf st'=arrOf st
 pend:pendingOf st'=pendingOf st
 ok:failedOf st'=failedOf st
theorem Eqv.refl(st):Eqv st st:=#[zZ,zZ,zZ,zZ]
theorem Eqv.trans(h:Eqv a b)(d:Eqv b c):Eqv a c:=#[d.kind.trans h.kind,d.arr.trans h.arr,d.pend.trans h.pend,d.ok.trans h.ok]
section
variable{A:Ar}{E:VP}{s:Sh}{r:Keyed->Int}{a₀ a b out:Array Keyed}
theorem Dd{st:SortSt}(h:∀a,Eqv st a->Q ⟨⟩ a):wpS M A E s (yl g) Q st:=by
 rw[OB];exact ph<|h _ #[zZ,zZ,zZ,zZ]
theorem DK(a:Array Keyed)(i):(a.extract i a.size).toList=a.toList.drop i:=by
 rw[Df,D0,yh (by rw[rb,dy];exact bR _)]
theorem Nv(a:Array Keyed)(i k):(a.extract i (i+k)).toList=(a.toList.drop i).take k:=by
 rw[Df,D0,yO]
theorem zu:(mo a b out ia ib).toList=out.toList++a.toList.drop ia++b.toList.drop ib:=by
 rw[nJ,nJ,DK,DK]
theorem BS:(qk a b out ia ib).toList=out.toList++b.toList.drop ib++a.toList.drop ia:=by
 rw[nJ,nJ,DK,DK]
theorem Gv(h:i<a.size):a.toList.drop i=a.getD i d0::a.toList.drop (i+1):=by
 have z:=q0 h;rw[<-lI]at z;obtain⟨b,c⟩:=bN.mp z;rw[CM b,c]
theorem Ei(h:x∈a.toList.drop i):∃j,i<=j/\j<a.size/\a.getD j d0=x:=by
 obtain⟨j,b⟩:=uj h;rw[xw,lI]at b;exact#[i+j,(),(Ba.mp b).1,cB b]
theorem IL(h:x∈(a.toList.drop i).take k):∃j,j<k/\i+j<a.size/\a.getD (i+j) d0=x:=by
 obtain⟨j,b⟩:=uj h;rw[EW]at b;split at b
 .next l=>
  rw[xw,lI]at b;exact#[j,l,(Ba.mp b).1,cB b]
 .cases b
theorem wu{lo b:Nat}(h:Up r a.toList)(n:b<=a.size):Ris r a lo b:=λi j _ c o=>by
 have e:∀k,k<a.size->a.toList[k]?=some (a.getD k d0):=λk d=>by rw[lI];exact q0 d
 obtain⟨f,g⟩:=bN.mp<|e i ();obtain⟨l,m⟩:=bN.mp<|e j ();have z:=oV.mp h i j f l c;rw[g,m]at z;exact z
theorem iF(h:i<a.size):a.getD i d0∈a.toList:=by
 rw[EY];exact EB<|q0 h
structure Two(κ:SortKind)(r:Keyed->Int)(a₀ a b:Array Keyed):Prop where
 ma:∀x∈a.toList,x∈a₀
 mb:∀x∈b.toList,x∈a₀
 sa:Up r a.toList
 sb:Up r b.toList
 ap:∀x∈a.toList,∀y∈b.toList,r x≠r y
 a1:0<a.size
 b1:0<b.size
 lo:∀x∈a.toList,r (b.getD 0 d0)<r x
 top:∀y∈b.toList,r y<r (a.getD (a.size-1) d0)
abbrev Gd(r:Keyed->Int)(a b m:Array Keyed):Prop:=gm r a.toList b.toList m.toList
theorem Two.tops(t:Two κ r a₀ a b)(h:i+1=a.size):∀y∈b.toList,∀x∈a.toList.drop i,r y<r x:=λy c x d=>by
 obtain⟨j,f,g,rfl⟩:=Ei d;have e:j=a.size-1:=by lia
 subst e;exact t.top y c
theorem BU:(out.push x).toList=out.toList++[x]:=yd
theorem LR(t:Two κ r a₀ a b)(m:Mg r a.toList b.toList out.toList ia ib)(c:ia<a.size)(h:∀y∈b.toList.drop ib,r (a.getD ia d0)<r y):Mg r a.toList b.toList (out.push (a.getD ia d0)).toList (ia+1) ib:=by
 have e:(a.toList.drop ia).take 1=[a.getD ia d0]:=by rw[Gv c];rfl
 have z:=m.moveA t.sa 1 (by rw[e];intro x d;rw[cf.mp d];exact h);rw[e]at z;rw[BU];exact z
theorem Hs(t:Two κ r a₀ a b)(m:Mg r a.toList b.toList out.toList ia ib)(c:ib<b.size)(h:∀y∈a.toList.drop ia,r (b.getD ib d0)<r y):Mg r a.toList b.toList (out.push (b.getD ib d0)).toList ia (ib+1):=by
 have e:(b.toList.drop ib).take 1=[b.getD ib d0]:=by rw[Gv c];rfl
 have z:=m.moveB t.sb 1 (by rw[e];intro x d;rw[cf.mp d];exact h);rw[e]at z;rw[BU];exact z
theorem below(b:Up r a.toList)(f:i<a.size)(h:x<r (a.getD i d0)):∀y∈a.toList.drop i,x<r y:=λy c=>by
 obtain⟨j,g,d,rfl⟩:=Ei c;by_cases e:j=i
 .subst e;exact h
 .have:=wu b (bR _) i j (iK _) () d;have:=h;lia
theorem O9{c:T6}{st:SortSt}(K:Asks M A s κ r a₀)(T:Two κ r a₀ a b)(n:Eqv e st)(o:kindOf e=κ)(p:c=(none,out,ia,ib,c.2.2.2.2.1,c.2.2.2.2.2))(m:Mg r a.toList b.toList out.toList ia ib)(q:ia+1<a.size)(d:ib<b.size)(B:old+t<=out.size)(k:∀w rest,Gd r a b w->Q (.done (some w,rest)) st) (l:∀out ia ib x y,Mg r a.toList b.toList out.toList ia ib->ia+1<a.size->ib<b.size->old+t+1<=out.size->Q (.done (none,out,ia,ib,x,y)) st/\Q (.yield (none,out,ia,ib,x,y)) st):wpS M A E s (Gg a b mg c) Q st:=by
 rw[p];have u:=T.ma _ (iF (show ia<a.size by lia));have v:=T.mb _ (iF d);refine b9 (hR d (b9 (hR () (b9 (AR K (n.kind.trans o) v u ?_)))));by_cases w:r (b.getD ib d0)<r (a.getD ia d0)
 .rw[cK w];refine b9 (hR d ?_);have f:=Hs T m d (below T.sa () w);by_cases z:ib+1=b.size
  .rw[wB (by simpa using z)];refine ci (k _ _ ?_);show gm r _ _ (mo a b _ _ _).toList
   rw[zu];exact f.endB T.sa (by rw[dy];lia)
  .rw[wA (by simpa using z)];obtain⟨i,j⟩:=l _ _ _ 0 (c.2.2.2.2.2+1) f q () (by rw[pZ];lia);by_cases g:c.2.2.2.2.2+1>=mg
   .rw[wB g];exact ci i
   .rw[wA g];exact ci j
 .rw[eU w];refine b9 (hR () ?_);have C:=T.ap _ (iF (show ia<a.size by lia)) _ (iF d);have f:=LR T m () (below T.sb d ());by_cases z:ia+1+1=a.size
  .rw[wB (by simpa using z)];refine ci (k _ _ ?_);show gm r _ _ (qk a b _ _ _).toList
   rw[BS];exact f.last T.sb (by rw[dy];lia) (T.tops ())
  .rw[wA (by simpa using z)];obtain⟨i,j⟩:=l _ _ _ (c.2.2.2.2.1+1) 0 f () d (by rw[pZ];lia);by_cases g:c.2.2.2.2.1+1>=mg
   .rw[wB g];exact ci i
   .rw[wA g];exact ci j
end
section
variable{A:Ar}{E:VP}{s:Sh}
structure Rnd(r:Keyed->Int)(a b:Array Keyed)(st0:SortSt)(old:Nat)(Q:ForInStep T7->SortSt->Prop):Prop where
 q1:∀st w rest,Eqv st0 st->Gd r a b w->Q (.done (some w,rest)) st
 q2:∀st out ia ib x y z,Eqv st0 st->Mg r a.toList b.toList out.toList ia ib->ia+1<a.size->ib<b.size->old<=out.size->Q (.done (none,out,ia,ib,x,y,z)) st/\Q (.yield (none,out,ia,ib,x,y,z)) st
theorem K0{c st:SortSt}(T:Two κ r a₀ a b)(e:Eqv c st)(m:Mg r a.toList b.toList out.toList ia ib)(l:ia+1<a.size)(h:ib<b.size)(n:old<=out.size)(lt:∀y∈b.toList.drop ib,r (a.getD ia d0)<r y)(q:Rnd r a b c old Q):wpS M A E s (pE a b out ia ib mg k d) Q st:=by
 refine b9 (hR () ?_);have f:=LR T m () lt;by_cases z:ia+1+1=a.size
 .rw[wB (by simpa using z)];refine ci (q.q1 _ _ _ e ?_);show gm r _ _ (qk a b _ _ _).toList;rw[BS];exact f.last T.sb (by rw[dy];lia) (T.tops ())
 .rw[wA (by simpa using z)];obtain⟨i,j⟩:=q.q2 st _ _ _ mg k d e f () h (by rw[pZ];lia);by_cases g:(decide (k<7)&&decide (d<7))=true
  .rw[wB g];exact ci i
  .rw[wA g];exact ci j
theorem Kj{c st:SortSt}(K:Asks M A s κ r a₀)(J:kindOf c=κ)(T:Two κ r a₀ a b)(f:Eqv c st)(m:Mg r a.toList b.toList out.toList ia ib)(w:ia+1<a.size)(B:ib<b.size)(Y:old<=out.size)(lt:∀y∈a.toList.drop ia,r (b.getD ib d0)<r y)(q:Rnd r a b c old Q):wpS M A E s (pP a b out ia ib mg k I) Q st:=by
 refine b9 (hR B ?_);have o:=Hs T m B lt;have h:old<=(out.push (b.getD ib d0)).size:=by rw[pZ];lia
 generalize out.push (b.getD ib d0)=l at o h;by_cases z:ib+1=b.size
 .rw[wB (by simpa using z)];refine ci (q.q1 _ _ _ f ?_);show gm r _ _ (mo a b _ _ _).toList;rw[zu];exact o.endB T.sa (by rw[dy];lia)
 rw[wA (by simpa using z)];have C:=iF (show ia<a.size by lia);refine b9 (hR () (b9 (yr K (f.kind.trans J) () (λi L=>T.mb _ (iF ())) (T.ma _ C) (λi L=>(T.ap _ C _ (iF (show ib+1+i<b.size by lia))).symm) (wu T.sb ()) () λd kn N O=>?_)));dsimp only;have D:∀y∈b.toList.drop (ib+1+d),r (a.getD ia d0)<r y:=λy t=>by
  obtain⟨j,n,G,rfl⟩:=Ei t;have:=O (j-(ib+1)) (IG (Nat.add_comm .. ▸n)) (Nat.sub_lt_sub_right (cz (nQ ..) n) G);rw[qa (cz (nQ ..) n)]at this;exact this
 by_cases g:d>0
 .rw[wB g];have u:=o.moveB T.sb d (λx U y t=>by
   obtain⟨j,n,G,rfl⟩:=IL U;exact below T.sa () (N j n) y t)
  rw[<-Nv,<-nJ]at u;have v:old<=(l++b.extract (ib+1) (ib+1+d)).size:=by rw[Ef];lia
  by_cases H:ib+1+d=b.size
  .rw[wB (by simpa using H)];refine ci (q.q1 _ _ _ f ?_);show gm r _ _ (mo a b _ _ _).toList
   rw[zu];exact u.endB T.sa (by rw[dy];lia)
  .rw[wA (by simpa using H)];exact K0 T f u w () v D q
 .rw[wA g];have e:=Nat.eq_zero_of_not_pos g;subst e;exact K0 T f o w () h D q
theorem J6{d st:SortSt}(K:Asks M A s κ r a₀)(o:kindOf d=κ)(T:Two κ r a₀ a b)(D:Eqv d st)(G:c.2.1=out/\c.2.2.1=ia/\c.2.2.2.1=ib)(m:Mg r a.toList b.toList out.toList ia ib)(H:ia+1<a.size)(f:ib<b.size)(I:old<=out.size)(q:Rnd r a b d old Q):wpS M A E s (qf a b c mg) Q st:=by
 obtain⟨J,L,N⟩:=G;unfold qf;rw[J,L,N];refine b9 (Dd λO U=>?_);have h:=D.trans U;have v:=iF f;refine b9 (hR f (b9 (yr K (h.kind.trans o) () (λi Y=>T.ma _ (iF ())) (T.mb _ v) (λi Y=>T.ap _ (iF (show ia+i<a.size by lia)) _ v) (wu T.sa ()) () λk kn k2 k3=>?_)));dsimp only;have w:∀y∈a.toList.drop (ia+k),r (b.getD ib d0)<r y:=λy t=>by
  obtain⟨j,l,z,rfl⟩:=Ei t;have:=k3 (j-ia) (IG (Nat.add_comm .. ▸l)) (Nat.sub_lt_sub_right (cz (nQ ..) l) z);rw[qa (cz (nQ ..) l)]at this;exact this
 by_cases g:k>0
 .rw[wB g];have n:=m.moveA T.sa k (λx hx y t=>by
   obtain⟨j,l,z,rfl⟩:=IL hx;exact below T.sb f (k2 j l) y t)
  rw[<-Nv,<-nJ]at n;have u:old<=(out++a.extract ia (ia+k)).size:=by rw[Ef];lia
  by_cases B:ia+k+1=a.size
  .rw[wB (by simpa using B)];refine ci (q.q1 _ _ _ h ?_);show gm r _ _ (qk a b _ _ _).toList
   rw[BS];exact n.last T.sb (by rw[dy];lia) (T.tops ())
  rw[wA (by simpa using B)];by_cases C:ia+k=a.size
  .rw[wB (by simpa using C)];refine ci (q.q1 _ _ _ h ?_);show gm r _ _ (mo a b _ _ _).toList
   rw[zu];exact n.endA T.sb (by rw[dy];lia)
  rw[wA (by simpa using C)];exact Kj K o T h n () f u w q
 .rw[wA g];have e:=Nat.eq_zero_of_not_pos g;subst e;exact Kj K o T h m H f I w q
theorem Ur{d st:SortSt}(K:Asks M A s κ r a₀)(e:kindOf d=κ)(T:Two κ r a₀ a b)(f:Eqv d st)(g:c.2.1=out/\c.2.2.1=ia/\c.2.2.2.1=ib)(m:Mg r a.toList b.toList out.toList ia ib)(h:ia+1<a.size)(i:ib<b.size)(j:old<=out.size)(q:Rnd r a b d old Q):wpS M A E s (IU a b c) Q st:=by
 unfold IU;split
 .exact J6 K e T f g m h i j q
 .exact J6 K e T f g m h i j q
theorem Qk{f st:SortSt}{c:T5}(K:Asks M A s κ r a₀)(hk:kindOf f=κ)(T:Two κ r a₀ a b)(e0:Eqv f st)(ec:c=(none,out,ia,ib,mg))(m:Mg r a.toList b.toList out.toList ia ib)(ha:ia+1<a.size)(hb:ib<b.size)(q1:∀st w rest,Eqv f st->Gd r a b w->Q (.done (some w,rest)) st) (q2:∀st k ia ib g,Eqv f st->Mg r a.toList b.toList k.toList ia ib->ia+1<a.size->ib<b.size->out.size+1<=k.size->Q (.yield (none,k,ia,ib,g)) st):wpS M A E s (FM a b c) Q st:=by
 subst ec;unfold FM;have aa:0<a.size+b.size:=by lia
 refine b9 (j9 (jw (I:=λx q d=>Eqv f d/\∃(o:Array Keyed) (i j u v:Nat),q=(none,o,i,j,u,v)/\Mg r a.toList b.toList o.toList i j/\i+1<a.size/\j<b.size/\out.size+x<=o.size)
  (Q:=λq d=>Eqv f d/\((∃w rest,q=(some w,rest)/\Gd r a b w)\/∃(o:Array Keyed) (i j u v:Nat),q=(none,o,i,j,u,v)/\Mg r a.toList b.toList o.toList i j/\i+1<a.size/\j<b.size/\out.size+1<=o.size)) ?step ?stop #[e0,out,ia,ib,0,0,zZ,m,ha,hb,bR _]) ?post)
 case step=>
  rintro x q d _ hx ⟨p,o,i,j,u,v,rfl,C,D,G,h3⟩;refine O9 K T p hk zZ C D G h3 (λw rest g=>#[p,.inl #[w,rest,zZ,g]]) λH J L u' v' N l n y=>#[#[p,.inr #[H,J,L,u',v',zZ,N,l,n,()]],#[p,H,J,L,u',v',zZ,N,l,n,()]]
 case stop=>
  rintro q d ⟨p,o,i,j,u,v,rfl,C,D,G,h3⟩;exact#[p,.inr #[o,i,j,u,v,zZ,C,D,G,()]]
 case post=>
  rintro q d ⟨p,h⟩
  rcases h with⟨w,rest,rfl,g⟩|⟨o,i,j,u,v,rfl,C,D,G,h3⟩
  .exact ci<|q1 _ _ _ p g
  refine b9<|vg<|qj #[zZ,?_];refine b9 (j9 (jw (I:=λx z d=>Eqv f d/\∃o i j u v w,z=(none,o,i,j,u,v,w)/\Mg r a.toList b.toList o.toList i j/\i+1<a.size/\j<b.size/\out.size+1<=o.size)
   (Q:=λz d=>Eqv f d/\((∃w rest,z=(some w,rest)/\Gd r a b w)\/∃o i j u v w,z=(none,o,i,j,u,v,w)/\Mg r a.toList b.toList o.toList i j/\i+1<a.size/\j<b.size/\out.size+1<=o.size)) ?step2 ?stop2 #[p,o,i,j,mg+1,u,v,zZ,C,D,G,h3]) ?post2)
  case step2=>
   rintro x z O _ hx ⟨B,o,i,j,u,v,w,rfl,U,Y,g2,g3⟩;exact Ur K hk T B #[zZ,zZ,zZ] U Y g2 g3 #[λst w rest e g=>#[e,.inl #[w,rest,zZ,g]],λst H J L x' y' z' e N l n y=>#[#[e,.inr #[H,J,L,x',y',z',zZ,N,l,n,y]],#[e,H,J,L,x',y',z',zZ,N,l,n,y]]]
  case stop2=>
   rintro z O ⟨B,o,i,j,u,v,w,rfl,U,Y,g2,g3⟩;exact#[B,.inr #[o,i,j,u,v,w,zZ,U,Y,g2,g3]]
  case post2=>
   rintro z O ⟨B,h⟩
   rcases h with⟨w,rest,rfl,g⟩|⟨o,i,j,u,v,w,rfl,U,Y,g2,g3⟩
   .exact ci<|q1 _ _ _ B g
   .exact b9<|Dd λab x3=>ci<|q2 _ _ _ _ _ (B.trans x3) U Y g2 g3
theorem Ov{st:SortSt}(K:Asks M A s κ r a₀)(C:kindOf st=κ)(T:Two κ r a₀ a b)(q:∀m d,Eqv st d->Gd r a b m->Q m d):wpS M A E s (Gu a b) Q st:=by
 rw[Us];refine b9 (vg (qj #[zZ,b9 (hR T.b1 ?_)]));have D:Mg r a.toList b.toList (#v[]:Array Keyed).toList 0 0:=#[by simp,List.Pairwise.nil,λx f=>(nomatch f),λx f=>(nomatch f)];have k:=Hs T D T.b1 (λy G=>T.lo y G);have a1:=T.a1;have b1:=T.b1;by_cases t:1=b.size
 .rw[wB (by simpa using t)];refine ci (q _ _ (Eqv.refl _) ?_);show gm r _ _ (mo a b _ _ _).toList;rw[zu];exact k.endB T.sa (by rw[dy];lia)
 rw[wA (by simpa using t)];by_cases u:0+1=a.size
 .rw[wB (by simpa using u)];refine ci (q _ _ (Eqv.refl _) ?_);show gm r _ _ (qk a b _ _ _).toList;rw[BS];exact k.last T.sb (by rw[dy];lia) (T.tops ())
 rw[wA (by simpa using u)];refine b9 (nA (b9 (j9 (jw (I:=λx c d=>Eqv st d/\∃o i j g,c=(none,o,i,j,g)/\Mg r a.toList b.toList o.toList i j/\i+1<a.size/\j<b.size/\x+1<=o.size)
  (Q:=λc d=>Eqv st d/\∃w rest,c=(some w,rest)/\Gd r a b w) ?step ?stop #[Eqv.refl _,_,0,1,_,zZ,k,(),(),bR _]) ?post)))
 case step=>
  rintro x c d _ f ⟨h,o,i,j,g,rfl,l,v,B,H⟩;exact Qk K C T h zZ l v B (λst w rest e g=>#[e,w,rest,zZ,g]) λd J L N O e U n p Y=>#[e,J,L,N,O,zZ,U,n,p,()]
 case stop=>
  rintro c d ⟨h,o,i,j,g,rfl,l,v,B,H⟩;have z:=l.len (by rw[dy];lia) (by rw[dy];lia);rw[dy,dy,dy]at z
  exfalso
  lia
 case post=>
  rintro c d ⟨h,w,rest,rfl,g⟩;exact ci (q _ _ h g)
end
abbrev U5:Type:=Option (Array Keyed)×Nat×Nat×Array Keyed×Nat
abbrev U6:Type:=Option (Array Keyed)×Nat×Nat×Array Keyed×Nat×Nat
abbrev U7:Type:=Option (Array Keyed)×Nat×Nat×Array Keyed×Nat×Nat×Nat
section
variable(a b:Array Keyed)
abbrev lY(c:Array Keyed)(d e:Nat):Array Keyed:=a.extract 0 d++b.extract 0 e++c.reverse
abbrev pL(c:Array Keyed)(d e:Nat):Array Keyed:=b.extract 0 e++a.extract 0 d++c.reverse
noncomputable def oN(mg:Nat)(c:U6):StateT SortSt Sem (ForInStep U6):=do
 let some d <-lt' (<-elem' b (c.2.2.1-1)) (<-elem' a (c.2.1-1))|pure (.done (some (lY a b c.2.2.2.1 c.2.1 c.2.2.1),c.2.1,c.2.2.1,c.2.2.2.1,c.2.2.2.2.1,c.2.2.2.2.2))
 if d then
  let x <-elem' a (c.2.1-1)
  if c.2.1-1==0 then pure (.done (some (lY a b (c.2.2.2.1.push x) (c.2.1-1) c.2.2.1),c.2.1-1,c.2.2.1,c.2.2.2.1.push x,c.2.2.2.2.1+1,0))
  else if c.2.2.2.2.1+1>=mg then pure (.done (none,c.2.1-1,c.2.2.1,c.2.2.2.1.push x,c.2.2.2.2.1+1,0))
  else pure (.yield (none,c.2.1-1,c.2.2.1,c.2.2.2.1.push x,c.2.2.2.2.1+1,0))
 else
  let x <-elem' b (c.2.2.1-1)
  if c.2.2.1-1==1 then pure (.done (some (pL a b (c.2.2.2.1.push x) c.2.1 (c.2.2.1-1)),c.2.1,c.2.2.1-1,c.2.2.2.1.push x,0,c.2.2.2.2.2+1))
  else if c.2.2.2.2.2+1>=mg then pure (.done (none,c.2.1,c.2.2.1-1,c.2.2.2.1.push x,0,c.2.2.2.2.2+1))
  else pure (.yield (none,c.2.1,c.2.2.1-1,c.2.2.2.1.push x,0,c.2.2.2.2.2+1))
noncomputable def pT(d e:Nat)(c:Array Keyed)(mg k f:Nat):StateT SortSt Sem (ForInStep U7):=do
 let x <-elem' a (d-1)
 if d-1==0 then pure (.done (some (lY a b (c.push x) (d-1) e),d-1,e,c.push x,mg,k,f))
 else if k<7&&f<7 then pure (.done (none,d-1,e,c.push x,mg,k,f))
 else pure (.yield (none,d-1,e,c.push x,mg,k,f))
noncomputable def pQ(e d:Nat)(c:Array Keyed)(mg k f:Nat):StateT SortSt Sem (ForInStep U7):=do
 let y <-elem' b (d-1)
 if d-1==1 then pure (.done (some (pL a b (c.push y) e (d-1)),e,d-1,c.push y,mg,k,f))
 else do
  let some t <-rc true (<-elem' a (e-1)) b 0 (d-1) (d-1-1)|pure (.done (some (lY a b (c.push y) e (d-1)),e,d-1,c.push y,mg,k,f))
  if d-1-t>0 then
   if t==1 then pure (.done (some (pL a b (c.push y++(b.extract t (d-1)).reverse) e t),e,t,c.push y++(b.extract t (d-1)).reverse,mg,k,d-1-t))
   else if t==0 then pure (.done (some (lY a b (c.push y++(b.extract t (d-1)).reverse) e t),e,t,c.push y++(b.extract t (d-1)).reverse,mg,k,d-1-t))
   else pT a b e t (c.push y++(b.extract t (d-1)).reverse) mg k (d-1-t)
  else pT a b e (d-1) (c.push y) mg k (d-1-t)
noncomputable def pN(c:U7)(mg:Nat):StateT SortSt Sem (ForInStep U7):=do
 yl mg
 let some t <-rc false (<-elem' b (c.2.2.1-1)) a 0 c.2.1 (c.2.1-1)|pure (.done (some (lY a b c.2.2.2.1 c.2.1 c.2.2.1),c.2.1,c.2.2.1,c.2.2.2.1,mg,c.2.2.2.2.2.1,c.2.2.2.2.2.2))
 if c.2.1-t>0 then
  if t==0 then pure (.done (some (lY a b (c.2.2.2.1++(a.extract t c.2.1).reverse) t c.2.2.1),t,c.2.2.1,c.2.2.2.1++(a.extract t c.2.1).reverse,mg,c.2.1-t,c.2.2.2.2.2.2))
  else pQ a b t c.2.2.1 (c.2.2.2.1++(a.extract t c.2.1).reverse) mg (c.2.1-t) c.2.2.2.2.2.2
 else pQ a b c.2.1 c.2.2.1 c.2.2.2.1 mg (c.2.1-t) c.2.2.2.2.2.2
noncomputable def AJ(c:U7):StateT SortSt Sem (ForInStep U7):=if c.2.2.2.2.1>1 then pN a b c (c.2.2.2.2.1-1)else pN a b c c.2.2.2.2.1
noncomputable def Fk(c:U5):StateT SortSt Sem (ForInStep U5):=do
 let e <-forIn [0:a.size+b.size] ((none,c.2.1,c.2.2.1,c.2.2.2.1,0,0):U6) λ_ e=>oN a b c.2.2.2.2 e
 match e.1 with
 |some r=>pure (.done (some r,e.2.1,e.2.2.1,e.2.2.2.1,c.2.2.2.2))
 | none=>do
  rule "list.sort.gallop"
  let d <-forIn [0:a.size+b.size] ((none,e.2.1,e.2.2.1,e.2.2.2.1,c.2.2.2.2+1,e.2.2.2.2.1,e.2.2.2.2.2):U7) λ_ d=>AJ a b d
  match d.1 with
  |some r=>pure (.done (some r,d.2.1,d.2.2.1,d.2.2.2.1,d.2.2.2.2.1))
  |none=>do
   yl (d.2.2.2.2.1+1)
   pure (.yield (none,d.2.1,d.2.2.1,d.2.2.2.1,d.2.2.2.2.1+1))
noncomputable def JP:StateT SortSt Sem (Array Keyed):=do
 rule "list.sort.merge-hi"
 let x <-elem' a (a.size-1)
 if a.size-1==0 then pure (lY a b #v[x] (a.size-1) b.size)
 else if b.size==1 then pure (pL a b #v[x] (a.size-1) b.size)
 else do
  let st <-get
  let c <-forIn [0:a.size+b.size] ((none,a.size-1,b.size,#v[x],gallopOf st):U5) λ_ c=>Fk a b c
  match c.1 with
  |some r=>pure r
  |none=>unsupported "internal:list.sort.merge-bound"
theorem UB:HV a b=JP a b:=by
 refine cH (bind _)<|funext λ_=>cH (bind<|elem' a<|a.size-1)<|funext λx=>?_;refine xu zZ (λ_=>rfl)<|λ_=>xu zZ (λ_=>rfl)<|λ_=>?_;refine cH (bind get)<|funext λst=>congr (cH bind<|cH (forIn [0:a.size+b.size] _)<|funext λu=>funext λc=>?_)<|funext λc=>?_
 .refine congr (cH bind<|cH (forIn [0:a.size+b.size] _)<|funext λu=>funext λd=>rfl)<|funext λd=>?_;obtain⟨e,_⟩:=d;cases e with
  |some e=>rfl
  | none=>
   refine cH (bind _)<|funext λ_=>congr (cH bind<|cH (forIn [0:a.size+b.size] _)<|funext λu=>funext λg=>?_)<|funext λg=>?_
   .refine xu zZ (λ_=>?_)<|λ_=>?_
    .rfl
    .rfl
   .obtain⟨l,_⟩:=g;cases l<;>rfl
 .obtain⟨r,_⟩:=c;cases r<;>rfl
end
structure Mh(r:Keyed->Int)(la lb out:List Keyed)(na nb:Nat):Prop where
 perm:(la.take na++lb.take nb++out.reverse).Perm (la++lb)
 so:Up r out.reverse
 ao:∀x∈la.take na,∀y∈out,r x<r y
 bo:∀x∈lb.take nb,∀y∈out,r x<r y
theorem Ju(h:Up r l)(ht:t<=n):l.take t++(l.take n).drop t=l.take n/\Up r ((l.take n).drop t)/\∀x∈l.take t,∀y∈(l.take n).drop t,r x<r y:=by
 have e:l.take t++(l.take n).drop t=l.take n:=by
  have z:=og t<|l.take n;rwa[List.take_take,uu ht]at z
 have z:=pD (wy n l) h;rw[<-e]at z;obtain⟨_,a,b⟩:=jp.mp z;exact#[e,a,b]
theorem Mh.len(m:Mh r a b out f d)(c:f<=a.length)(e:d<=b.length):f+d+out.length=a.length+b.length:=by
 have z:=m.perm.length_eq;rw[cC,cC,cC,fe,fe,B8]at z;lia
theorem Mh.moveA(m:Mh r a b out f d)(l:Up r a)(ht:t<=f)(h:∀x∈b.take d,∀y∈(a.take f).drop t,r x<r y):Mh r a b (out++((a.take f).drop t).reverse) t d:=by
 obtain⟨e,u,c⟩:=Ju l ht;have sub:∀x∈a.take t,x∈a.take f:=λx g=>by rw[<-e];exact cF.mpr<|.inl g
 have i:∀x∈(a.take f).drop t,x∈a.take f:=λx g=>G' g;have k:(out++((a.take f).drop t).reverse).reverse=(a.take f).drop t++out.reverse:=by grind
 refine#[?_,?_,λx g y j=>?_,λx g y j=>?_]
 .rw[k];refine List.Perm.trans ?_ m.perm
  conv=>rhs;rw[<-e]
  rw[dR,dR,dR];refine A7 _ ?_;rw[<-dR,<-dR];exact D1 _ BZ
 .rw[k];exact jp.mpr #[u,m.so,λx g y j=>m.ao x (i x g) y<|m7.mp j]
 .rcases cF.mp j with z|z
  .exact m.ao x (sub x g) y z
  .exact c x g y<|m7.mp z
 .rcases cF.mp j with z|z
  .exact m.bo x g y z
  .exact h x g y<|m7.mp z
theorem Mh.moveB(m:Mh r a b out f d)(l:Up r b)(ht:t<=d)(h:∀x∈a.take f,∀y∈(b.take d).drop t,r x<r y):Mh r a b (out++((b.take d).drop t).reverse) f t:=by
 obtain⟨e,u,c⟩:=Ju l ht;have sub:∀x∈b.take t,x∈b.take d:=λx g=>by rw[<-e];exact cF.mpr<|.inl g
 have i:∀x∈(b.take d).drop t,x∈b.take d:=λx g=>G' g;have k:(out++((b.take d).drop t).reverse).reverse=(b.take d).drop t++out.reverse:=by grind
 refine#[?_,?_,λx g y j=>?_,λx g y j=>?_]
 .rw[k];refine List.Perm.trans ?_ m.perm
  conv=>rhs;rw[<-e]
  rw[dR,dR,dR]
 .rw[k];exact jp.mpr #[u,m.so,λx g y j=>m.bo x (i x g) y<|m7.mp j]
 .rcases cF.mp j with z|z
  .exact m.ao x g y z
  .exact h x g y<|m7.mp z
 .rcases cF.mp j with z|z
  .exact m.bo x (sub x g) y z
  .exact c x g y<|m7.mp z
theorem Mh.endA(m:Mh r a b out f d)(c:Up r b)(h:f=0):gm r a b (a.take f++b.take d++out.reverse):=by
 refine#[m.perm,?_];subst h;rw[Eo,List.nil_append];exact jp.mpr #[pD (wy d b) c,m.so,λx e y g=>m.bo x e y<|m7.mp g]
theorem Mh.endB(m:Mh r a b out f d)(c:Up r a)(h:d=0):gm r a b (a.take f++b.take d++out.reverse):=by
 refine#[m.perm,?_];subst h;rw[Eo,iw];exact jp.mpr #[pD (wy f a) c,m.so,λx e y g=>m.ao x e y<|m7.mp g]
theorem Mh.first(m:Mh r a b out f d)(g:Up r a)(h:Up r b)(bot:∀y∈b.take d,∀x∈a,r y<r x):gm r a b (b.take d++a.take f++out.reverse):=by
 refine#[List.Perm.trans (D1 _ BZ) m.perm,(jp.mpr #[jp.mpr #[pD (wy d b) h,pD (wy f a) g,λy c x e=>bot y c x<|qr e],m.so,λx e y c=>?_])]
 rcases cF.mp e with z|z
 .exact m.bo x z y<|m7.mp c
 .exact m.ao x z y<|m7.mp c
section
variable{A:Ar}{E:VP}{s:Sh}{r:Keyed->Int}{a₀ a b out:Array Keyed}
theorem Dl(a:Array Keyed)(i):(a.extract 0 i).toList=a.toList.take i:=by simp_all
theorem GB(a:Array Keyed)(t n):(a.extract t n).toList=(a.toList.take n).drop t:=by
 rw[Df,D0,List.drop_take]
theorem z6:(lY a b out na nb).toList=a.toList.take na++b.toList.take nb++out.toList.reverse:=by
 rw[nJ,nJ,Dl,Dl,CW]
theorem DC:(pL a b out na nb).toList=b.toList.take nb++a.toList.take na++out.toList.reverse:=by
 rw[nJ,nJ,Dl,Dl,CW]
theorem BW(h:x∈a.toList.take n):∃j,j<n/\j<a.size/\a.getD j d0=x:=by
 obtain⟨j,d,b,c⟩:=IL (by rw[Ai];exact h);rw[xk]at b c;exact#[j,d,b,c]
theorem Ea(h:x∈(a.toList.take n).drop t):∃j,t<=j/\j<n/\j<a.size/\a.getD j d0=x:=by
 obtain⟨j,b⟩:=uj h;rw[xw,EW]at b;split at b
 .next l=>
  rw[lI]at b;exact#[t+j,(),l,(Ba.mp b).1,cB b]
 .cases b
theorem DI(h:n<a.size):(a.toList.take (n+1)).drop n=[a.getD n d0]:=by
 rw[List.drop_take,Gv h,yO];rfl
theorem Eb(b:Up r a.toList)(c:n<a.size)(h:r (a.getD n d0)<x):∀y∈a.toList.take (n+1),r y<x:=λy d=>by
 obtain⟨j,f,g,rfl⟩:=BW d;by_cases e:j=n
 .subst e;exact h
 .have:=wu b (bR _) j n (iK _) () c;have:=h;lia
theorem EK(t:Two κ r a₀ a b)(m:Mh r a.toList b.toList out.toList (na+1) nb)(c:na<a.size)(h:∀y∈b.toList.take nb,r y<r (a.getD na d0)):Mh r a.toList b.toList (out.push (a.getD na d0)).toList na nb:=by
 have z:=m.moveA t.sa (rh _) (by rw[DI c];intro x d y e;rw[cf.mp e];exact h x d);rw[DI c]at z;rw[BU];exact z
theorem MV(t:Two κ r a₀ a b)(m:Mh r a.toList b.toList out.toList na (nb+1))(c:nb<b.size)(h:∀y∈a.toList.take na,r y<r (b.getD nb d0)):Mh r a.toList b.toList (out.push (b.getD nb d0)).toList na nb:=by
 have z:=m.moveB t.sb (rh _) (by rw[DI c];intro x d y e;rw[cf.mp e];exact h x d);rw[DI c]at z;rw[BU];exact z
theorem Two.bot(t:Two κ r a₀ a b):∀y∈b.toList.take 1,∀x∈a.toList,r y<r x:=λy c x d=>by
 obtain⟨j,f,g,rfl⟩:=BW c;have e:j=0:=by lia
 subst e;exact t.lo x d
theorem Om{c:U6}{st:SortSt}(K:Asks M A s κ r a₀)(T:Two κ r a₀ a b)(p:Eqv h st)(q:kindOf h=κ)(u:c=(none,na+1,nb+2,out,c.2.2.2.2.1,c.2.2.2.2.2))(m:Mh r a.toList b.toList out.toList (na+1) (nb+2))(d:na<a.size)(e:nb+1<b.size)(C:old+t<=out.size)(n:∀w rest,Gd r a b w->Q (.done (some w,rest)) st) (o:∀na nb out x y,Mh r a.toList b.toList out.toList (na+1) (nb+2)->na<a.size->nb+1<b.size->old+t+1<=out.size->Q (.done (none,na+1,nb+2,out,x,y)) st/\Q (.yield (none,na+1,nb+2,out,x,y)) st):wpS M A E s (oN a b mg c) Q st:=by
 unfold oN;rw[u];have v:=T.ma _ (iF d);have B:=T.mb _ (iF e);rw[show nb+2-1=nb+1 by lia,show na+1-1=na by lia];refine b9 (hR e (b9 (hR d (b9 (AR K (p.kind.trans q) B v ?_)))));by_cases w:r (b.getD (nb+1) d0)<r (a.getD na d0)
 .rw[cK w];refine b9 (hR d ?_);have i:=EK T m d (Eb T.sb e w);by_cases z:na=0
  .rw[wB (by simpa using z)];refine ci (n _ _ ?_);show gm r _ _ (lY a b _ _ _).toList
   rw[z6];exact i.endA T.sb z
  .rw[wA (by simpa using z)];obtain⟨f,rfl⟩:∃f,na=f+1:=si (by first|assumption|lia);obtain⟨k,l⟩:=o f nb _ (c.2.2.2.2.1+1) 0 i () e (by rw[pZ];lia);by_cases g:c.2.2.2.2.1+1>=mg
   .rw[wB g];exact ci k
   .rw[wA g];exact ci l
 .rw[eU w];refine b9 (hR e ?_);have D:=T.ap _ (iF d) _ (iF e);have i:=MV T m e (Eb T.sa d ());by_cases z:nb+1=1
  .rw[wB (by simpa using z)];refine ci (n _ _ ?_);show gm r _ _ (pL a b _ _ _).toList
   rw[DC];exact i.first T.sa T.sb (by rw[z];exact T.bot)
  .rw[wA (by simpa using z)];obtain⟨f,rfl⟩:∃f,nb=f+1:=si (by first|assumption|lia);obtain⟨k,l⟩:=o na f _ 0 (c.2.2.2.2.2+1) i d () (by rw[pZ];lia);by_cases g:c.2.2.2.2.2+1>=mg
   .rw[wB g];exact ci k
   .rw[wA g];exact ci l
structure RndH(r:Keyed->Int)(a b:Array Keyed)(st0:SortSt)(old:Nat)(Q:ForInStep U7->SortSt->Prop):Prop where
 q1:∀st w rest,Eqv st0 st->Gd r a b w->Q (.done (some w,rest)) st
 q2:∀st na nb out x y z,Eqv st0 st->Mh r a.toList b.toList out.toList (na+1) (nb+2)->na<a.size->nb+1<b.size->old<=out.size->Q (.done (none,na+1,nb+2,out,x,y,z)) st/\Q (.yield (none,na+1,nb+2,out,x,y,z)) st
theorem Kp{c st:SortSt}(T:Two κ r a₀ a b)(f:Eqv c st)(m:Mh r a.toList b.toList out.toList (na+1) (nb+2))(h:na<a.size)(j:nb+1<b.size)(o:old<=out.size)(lt:∀y∈b.toList.take (nb+2),r y<r (a.getD na d0))(q:RndH r a b c old Q):wpS M A E s (pT a b (na+1) (nb+2) out mg k d) Q st:=by
 unfold pT;rw[show na+1-1=na by lia];refine b9 (hR h ?_);have i:=EK T m h lt;by_cases z:na=0
 .rw[wB (by simpa using z)];refine ci (q.q1 _ _ _ f ?_);show gm r _ _ (lY a b _ _ _).toList;rw[z6];exact i.endA T.sb z
 .rw[wA (by simpa using z)];obtain⟨e,rfl⟩:∃e,na=e+1:=si (by first|assumption|lia);obtain⟨l,n⟩:=q.q2 st e nb _ mg k d f i () j (by rw[pZ];lia);by_cases g:(decide (k<7)&&decide (d<7))=true
  .rw[wB g];exact ci l
  .rw[wA g];exact ci n
theorem Nk{c st:SortSt}(K:Asks M A s κ r a₀)(L:kindOf c=κ)(T:Two κ r a₀ a b)(d:Eqv c st)(m:Mh r a.toList b.toList out.toList (na+1) (nb+2))(f:na<a.size)(G:nb+1<b.size)(hz:old<=out.size)(lt:∀y∈a.toList.take (na+1),r y<r (b.getD (nb+1) d0))(q:RndH r a b c old Q):wpS M A E s (pQ a b (na+1) (nb+2) out mg k J) Q st:=by
 unfold pQ;rw[show nb+2-1=nb+1 by lia,show na+1-1=na by lia];refine b9<|hR G ?_;have o:=MV T m G lt;have h:old<=(out.push<|b.getD (nb+1) d0).size:=by rw[pZ];lia
 generalize out.push (b.getD (nb+1) d0)=l at o h;by_cases z:nb+1=1
 .rw[wB<|by simpa using z];refine ci<|q.q1 _ _ _ d ?_;show gm r _ _ (pL a b _ _ _).toList;rw[DC];exact o.first T.sa T.sb (by rw[z];exact T.bot)
 rw[wA<|by simpa using z];have H:=iF f;refine b9<|hR f<|b9<|yr K (d.kind.trans L) () (λi N=>T.mb _<|iF ()) (T.ma _ H) (λi N=>(T.ap _ H _<|iF<|show 0+i<b.size by lia).symm) (wu T.sb ()) () λt kn O U=>?_;dsimp only;have I:∀y∈b.toList.take t,r y<r (a.getD na d0):=λy v=>by
  obtain⟨j,w,Y,rfl⟩:=BW v;have:=O j w;rw[xk]at this;exact this
 by_cases g:nb+1-t>0
 .rw[wB g];have p:=o.moveB T.sb (t:=t) () (λx hx y v=>by
   obtain⟨j,w,Y,h3,rfl⟩:=Ea v;have:=U j w ()
   rw[xk]at this;exact Eb T.sa f this x hx)
  rw[<-GB,<-CW,<-nJ]at p;have B:old<=(l++(b.extract t<|nb+1).reverse).size:=by rw[Ef];lia
  by_cases C:t=1
  .rw[wB<|by simpa using C];refine ci<|q.q1 _ _ _ d ?_;show gm r _ _ (pL a b _ _ _).toList
   rw[DC];exact p.first T.sa T.sb (by rw[C];exact T.bot)
  rw[wA<|by simpa using C];by_cases D:t=0
  .rw[wB<|by simpa using D];refine ci<|q.q1 _ _ _ d ?_;show gm r _ _ (lY a b _ _ _).toList
   rw[z6];exact p.endB T.sa D
  rw[wA<|by simpa using D];obtain⟨n,rfl⟩:∃n,t=n+2:=#[t-2,()];exact Kp T d p f () B I q
 .rw[wA g];have e:t=nb+1:=by lia
  obtain⟨n,rfl⟩:∃n,nb=n+1:=si (by first|assumption|lia);subst e;exact Kp T d o f () h I q
theorem KG{d st:SortSt}(K:Asks M A s κ r a₀)(k:kindOf d=κ)(T:Two κ r a₀ a b)(C:Eqv d st)(D:c.2.1=na+1/\c.2.2.1=nb+2/\c.2.2.2.1=out)(m:Mh r a.toList b.toList out.toList (na+1) (nb+2))(G:na<a.size)(f:nb+1<b.size)(H:old<=out.size)(q:RndH r a b d old Q):wpS M A E s (pN a b c mg) Q st:=by
 obtain⟨I,J,L⟩:=D;unfold pN;rw[I,J,L];rw[show nb+2-1=nb+1 by lia,show na+1-1=na by lia];refine b9 (Dd λN O=>?_);have h:=C.trans O;have w:=iF f;refine b9 (hR f (b9 (yr K (h.kind.trans k) () (λi U=>T.ma _ (iF ())) (T.mb _ w) (λi U=>T.ap _ (iF (show 0+i<a.size by lia)) _ w) (wu T.sa ()) () λt kn Y k3=>?_)));dsimp only;have z:∀y∈a.toList.take t,r y<r (b.getD (nb+1) d0):=λy n=>by
  obtain⟨j,o,h2,rfl⟩:=BW n;have:=Y j o;rw[xk]at this;exact this
 by_cases g:na+1-t>0
 .rw[wB g];have p:=m.moveA T.sa (t:=t) () (λx hx y n=>by
   obtain⟨j,o,h2,h3,rfl⟩:=Ea n;have:=k3 j o ()
   rw[xk]at this;exact Eb T.sb f this x hx)
  rw[<-GB,<-CW,<-nJ]at p;have u:old<=(out++(a.extract t (na+1)).reverse).size:=by rw[Ef];lia
  by_cases v:t=0
  .rw[wB (by simpa using v)];refine ci (q.q1 _ _ _ h ?_);show gm r _ _ (lY a b _ _ _).toList
   rw[z6];exact p.endA T.sb v
  rw[wA (by simpa using v)];obtain⟨B,rfl⟩:∃B,t=B+1:=si (by first|assumption|lia);exact Nk K k T h p () f u z q
 .rw[wA g];have e:t=na+1:=by lia
  subst e;exact Nk K k T h m G f H z q
theorem Tu{d st:SortSt}(K:Asks M A s κ r a₀)(e:kindOf d=κ)(T:Two κ r a₀ a b)(f:Eqv d st)(g:c.2.1=na+1/\c.2.2.1=nb+2/\c.2.2.2.1=out)(m:Mh r a.toList b.toList out.toList (na+1) (nb+2))(h:na<a.size)(i:nb+1<b.size)(j:old<=out.size)(q:RndH r a b d old Q):wpS M A E s (AJ a b c) Q st:=by
 unfold AJ;split
 .exact KG K e T f g m h i j q
 .exact KG K e T f g m h i j q
theorem QT{f st:SortSt}{c:U5}(K:Asks M A s κ r a₀)(hk:kindOf f=κ)(T:Two κ r a₀ a b)(e0:Eqv f st)(ec:c=(none,na+1,nb+2,out,mg))(m:Mh r a.toList b.toList out.toList (na+1) (nb+2))(ha:na<a.size)(hb:nb+1<b.size)(q1:∀st w rest,Eqv f st->Gd r a b w->Q (.done (some w,rest)) st) (q2:∀st na nb k g,Eqv f st->Mh r a.toList b.toList k.toList (na+1) (nb+2)->na<a.size->nb+1<b.size->out.size+1<=k.size->Q (.yield (none,na+1,nb+2,k,g)) st):wpS M A E s (Fk a b c) Q st:=by
 subst ec;unfold Fk;have aa:0<a.size+b.size:=by lia
 refine b9 (j9 (jw (I:=λx q d=>Eqv f d/\∃i j o u v,q=(none,i+1,j+2,o,u,v)/\Mh r a.toList b.toList o.toList (i+1) (j+2)/\i<a.size/\j+1<b.size/\out.size+x<=o.size)
  (Q:=λq d=>Eqv f d/\((∃w rest,q=(some w,rest)/\Gd r a b w)\/∃i j o u v,q=(none,i+1,j+2,o,u,v)/\Mh r a.toList b.toList o.toList (i+1) (j+2)/\i<a.size/\j+1<b.size/\out.size+1<=o.size)) ?step ?stop #[e0,na,nb,out,0,0,zZ,m,ha,hb,bR _]) ?post)
 case step=>
  rintro x q d _ hx ⟨p,i,j,o,u,v,rfl,C,D,G,h3⟩;refine Om K T p hk zZ C D G h3 (λw rest g=>#[p,.inl #[w,rest,zZ,g]]) λH J L u' v' N l n y=>#[#[p,.inr #[H,J,L,u',v',zZ,N,l,n,()]],#[p,H,J,L,u',v',zZ,N,l,n,()]]
 case stop=>
  rintro q d ⟨p,i,j,o,u,v,rfl,C,D,G,h3⟩;exact#[p,.inr #[i,j,o,u,v,zZ,C,D,G,()]]
 case post=>
  rintro q d ⟨p,h⟩
  rcases h with⟨w,rest,rfl,g⟩|⟨i,j,o,u,v,rfl,C,D,G,h3⟩
  .exact ci<|q1 _ _ _ p g
  refine b9<|vg<|qj #[zZ,?_];refine b9 (j9 (jw (I:=λx z d=>Eqv f d/\∃i j o u v w,z=(none,i+1,j+2,o,u,v,w)/\Mh r a.toList b.toList o.toList (i+1) (j+2)/\i<a.size/\j+1<b.size/\out.size+1<=o.size)
   (Q:=λz d=>Eqv f d/\((∃w rest,z=(some w,rest)/\Gd r a b w)\/∃i j o u v w,z=(none,i+1,j+2,o,u,v,w)/\Mh r a.toList b.toList o.toList (i+1) (j+2)/\i<a.size/\j+1<b.size/\out.size+1<=o.size)) ?step2 ?stop2 #[p,i,j,o,mg+1,u,v,zZ,C,D,G,h3]) ?post2)
  case step2=>
   rintro x z O _ hx ⟨B,i,j,o,u,v,w,rfl,U,Y,g2,g3⟩;exact Tu K hk T B #[zZ,zZ,zZ] U Y g2 g3 #[λst w rest e g=>#[e,.inl #[w,rest,zZ,g]],λst H J L x' y' z' e N l n y=>#[#[e,.inr #[H,J,L,x',y',z',zZ,N,l,n,y]],#[e,H,J,L,x',y',z',zZ,N,l,n,y]]]
  case stop2=>
   rintro z O ⟨B,i,j,o,u,v,w,rfl,U,Y,g2,g3⟩;exact#[B,.inr #[i,j,o,u,v,w,zZ,U,Y,g2,g3]]
  case post2=>
   rintro z O ⟨B,h⟩
   rcases h with⟨w,rest,rfl,g⟩|⟨i,j,o,u,v,w,rfl,U,Y,g2,g3⟩
   .exact ci<|q1 _ _ _ B g
   .exact b9<|Dd λab x3=>ci<|q2 _ _ _ _ _ (B.trans x3) U Y g2 g3
theorem Pw{st:SortSt}(K:Asks M A s κ r a₀)(L:kindOf st=κ)(T:Two κ r a₀ a b)(q:∀m d,Eqv st d->Gd r a b m->Q m d):wpS M A E s (HV a b) Q st:=by
 rw[UB];unfold JP;have a1:=T.a1;have b1:=T.b1;obtain⟨n,hn⟩:∃n,a.size=n+1:=si (by first|assumption|lia);have G:a.size-1=n:=by lia
 rw[G];refine b9 (vg (qj #[zZ,b9 (hR () ?_)]));have N:Mh r a.toList b.toList (#v[]:Array Keyed).toList (n+1) b.size:=#[by rw[yh (by rw[dy];lia),yh (by rw[dy];exact bR _)];simp,List.Pairwise.nil,λx _ y f=>(nomatch f),λx _ y f=>(nomatch f)];have k:Mh r a.toList b.toList (#v[a.getD n d0]:Array Keyed).toList n b.size:=EK T N () (λy f=>by have:=T.top y (qr f);rw[G]at this;exact this);by_cases p:n=0
 .rw[wB (by simpa using p)];refine ci (q _ _ (Eqv.refl _) ?_);show gm r _ _ (lY a b _ _ _).toList;rw[z6];exact k.endA T.sb p
 rw[wA (by simpa using p)];by_cases t:b.size=1
 .rw[wB (by simpa using t)];refine ci (q _ _ (Eqv.refl _) ?_);show gm r _ _ (pL a b _ _ _).toList;rw[DC];exact k.first T.sa T.sb (by rw[t];exact T.bot)
 rw[wA (by simpa using t)];obtain⟨u,rfl⟩:∃u,n=u+1:=si (by first|assumption|lia);obtain⟨v,h⟩:∃v,b.size=v+2:=#[b.size-2,()];rw[h]at k;refine b9 (nA (b9 (j9 (jw (I:=λx c d=>Eqv st d/\∃i j o g,c=(none,i+1,j+2,o,g)/\Mh r a.toList b.toList o.toList (i+1) (j+2)/\i<a.size/\j+1<b.size/\x+1<=o.size)
  (Q:=λc d=>Eqv st d/\∃w rest,c=(some w,rest)/\Gd r a b w) ?step ?stop #[Eqv.refl _,u,v,_,_,by rw[h],k,(),(),bR _]) ?post)))
 case step=>
  rintro x c d _ hx ⟨l,i,j,o,g,rfl,B,H,J,O⟩;exact QT K L T l zZ B H J (λst w rest e g=>#[e,w,rest,zZ,g]) λd U Y o' g' e m' C D aa=>#[e,U,Y,o',g',zZ,m',C,D,()]
 case stop=>
  rintro c d ⟨l,i,j,o,g,rfl,B,H,J,O⟩;have z:=B.len (by rw[dy];lia) (by rw[dy];lia);rw[dy,dy,dy]at z
  exfalso
  lia
 case post=>
  rintro c d ⟨l,w,rest,rfl,g⟩;exact ci (q _ _ l g)
end
theorem Ve(i):mergeAt' i=(do
 let s <-get
 let(some (b,c,d),some (f,e,_)):=((pendingOf s)[i]?,(pendingOf s)[i+1]?)|unsupported "internal:list.sort.pending"
 set (setPending s (((pendingOf s).setIfInBounds i (b,c+e,d)).eraseIdxIfInBounds (i+1)))
 let some k <-rc false (<-elem' (arrOf s) f) (arrOf s) b c 0|return false
 let(b,c):=(b+k,c-k)
 if c==0 then return true
 let some e <-rc true (<-elem' (arrOf s) (b+c-1)) (arrOf s) f e (e-1)|return false
 if e==0 then return true
 let x:=(arrOf s).extract b f
 let y:=(arrOf s).extract f (f+e)
 let merged <-if c<=e then Gu x y else HV x y
 modify λs=>setArr s (merged.toList.zipIdx.foldl (λa (p,j)=>a.setIfInBounds (b+j) p) (arrOf s))
 return (failedOf (<-get)).isNone):=rfl
section
variable{A:Ar}{E:VP}{s:Sh}{d xs f:Array Keyed}
theorem UZ{st a:SortSt}(h:Q ⟨⟩ a):wpS M A E s (set a:StateT SortSt Sem PUnit) Q st:=by
 unfold wpS;rw[StateT.run_set];exact bJ #[zZ,h]
theorem laid:∀c j b (xs:Array Keyed),b+j+c.length<=xs.size->((c.zipIdx j).foldl (λa (p,j)=>a.setIfInBounds (b+j) p) xs).toList=xs.toList.take (b+j)++c++xs.toList.drop (b+j+c.length)
 | [],j,b,xs,_=>by
  rw[iw,List.length_nil,BO];exact(og _ _).symm
 | m::c,j,b,xs,h=>by
  rw[i3]at h;rw[List.zipIdx_cons,Ck,laid c (j+1) b _ (by rw[Array.size_setIfInBounds];lia),Nh,i3];have d:b+j<xs.toList.length:=by rw[dy];lia
  have e:(xs.toList.set (b+j) m).take (b+(j+1))=xs.toList.take (b+j)++[m]:=by
   rw[show b+(j+1)=b+j+1 by lia,List.take_succ_eq_append_getElem (by rw[v0];exact d),List.getElem_set_self,List.take_set_of_le (bR _)]
  have f:(xs.toList.set (b+j) m).drop (b+(j+1)+c.length)=xs.toList.drop (b+j+(c.length+1)):=by
   rw[List.drop_set_of_lt ()]
   congr 1
   lia
  rw[e,f,dR,dR,dR];rfl
theorem Cf(xs:Array Keyed)(t n):(xs.extract t n).toList=(xs.toList.take n).drop t:=GB xs t n
theorem C3(h:n<=xs.size):(xs.extract t n).size=n-t:=by grind
theorem E6(h:n<=xs.size)(a:t+i<n):(xs.extract t n).getD i d0=xs.getD (t+i) d0:=by
 refine pI ?_;rw[Array.getElem?_extract,wB ()]
theorem KC(h:f.toList=l)(i:Nat):f[i]?=l[i]? :=by rw[<-h,lI]
theorem TZ{st:SortSt}(K:Asks M A s g r d)(B:StOk g d st)(h1:(pendingOf st)[i]?=some (b,o,pw))(h2:(pendingOf st)[i+1]?=some (sb,N,ag))(es:sb=b+o)(aq:1<=o)(ar:1<=N)(hz:sb+N<=d.size)(O:Ris r (arrOf st) b (b+o)) (U:Ris r (arrOf st) sb (sb+N))(q:∀u,StOk g d u->pendingOf u=((pendingOf st).setIfInBounds i (b,o+N,pw)).eraseIdxIfInBounds (i+1)->Out (arrOf st) (arrOf u) b (sb+N)->Ris r (arrOf u) b (sb+N)->Q true u):wpS M A E s (mergeAt' i) Q st:=by
 have sz:=tj B.perm;subst es;rw[Ve];refine b9 (nA ?_);rw[h1,h2];dsimp only;refine b9 (UZ ?_);generalize hP:((pendingOf st).setIfInBounds i (b,o+N,pw)).eraseIdxIfInBounds (i+1)=P at q|-;have B1:StOk g d (setPending st P):=#[B.kind,B.perm,B.ok];generalize G:arrOf st=xs at O U q sz|-;have pm:=G▸B.perm;have mem:∀j,j<d.size->xs.getD j d0∈d:=λj I=>Ci pm I;have ap:∀i j,i<d.size->j<d.size->i≠j->kx r xs i≠kx r xs j:=λi j hi I ij=>K.apart pm hi I ij;refine b9 (hR () (b9 (yr K B1.kind () (λj I=>mem _ ()) (mem _ ()) (λj I=>ap _ _ () () ()) O () λk kn k2 k3=>?_)));dsimp only;by_cases z0:o-k=0
 .rw[wB (by simpa using z0)];refine ci (q _ B1 zZ (by show Out xs (arrOf st) _ _;rw[G];exact Out.refl _ _ _) ?_);show Ris r (arrOf st) _ _;rw[G];intro i j w C H;by_cases c1:j<b+o
  .exact O i j w C c1
  by_cases c2:b+o<=i
  .exact U i j c2 C H
  have D:=k2 (i-b) ();rw[qa w]at D;have D:kx r xs i<kx r xs (b+o):=D;by_cases c3:j=b+o
  .rw[c3];exact D
  .exact Ax D (U (b+o) j (bR _) (Ae (Nat.not_lt.mp c1) (dX c3)) H)
 rw[wA (by simpa using z0)];have kl:k<o:=by lia
 clear z0;have dk:∀_:Unit,b+k+(o-k)=b+o:=λ_=>by lia
 rw[dk Unit.unit];refine b9 (hR () (b9 (yr K B1.kind () (λj I=>mem _ ()) (mem _ ()) (λj I=>ap _ _ () () ()) U () λv nn ah ae=>?_)));dsimp only;have bk:kx r xs (b+o)<kx r xs (b+k):=by
  have:=k3 k (bR _) ();exact this
 have aa:kx r xs (b+k)<=kx r xs (b+o-1):=by
  by_cases c:b+k=b+o-1
  .rw[c];exact Int.le_refl _
  .exact Int.le_of_lt (O (b+k) (b+o-1) () () ())
 have ai:v≠0:=λz=>by
  subst z;have:=ae 0 (bR _) ();rw[BO]at this;exact wC this (Int.not_lt.mpr (Int.le_trans (Int.le_of_lt bk) aa))
 rw[wA (by simpa using ai)];have sx:(xs.extract (b+k) (b+o)).size=o-k:=by rw[C3 ()];exact Nat.add_sub_add_left ..
 have sy:(xs.extract (b+o) (b+o+v)).size=v:=by rw[C3 ()];exact yO ..
 have mx:∀x∈(xs.extract (b+k) (b+o)).toList,∃j,b+k<=j/\j<b+o/\xs.getD j d0=x:=λx G=>by
  rw[Cf]at G;obtain⟨j,w,C,_,H⟩:=Ea G;exact#[j,w,C,H]
 have my:∀x∈(xs.extract (b+o) (b+o+v)).toList,∃j,b+o<=j/\j<b+o+v/\xs.getD j d0=x:=λx G=>by
  rw[Cf]at G;obtain⟨j,w,C,_,H⟩:=Ea G;exact#[j,w,C,H]
 have af:∀(t n:Nat),n<=xs.size->Ris r xs t n->Up r (xs.extract t n).toList:=λt n hn ur=>by
  refine oV.mpr λi j hi I ij=>?_;rw[dy,C3 hn]at hi I;have e:∀c (hc:c<(xs.extract t n).toList.length),(xs.extract t n).toList[c]=xs.getD (t+c) d0:=λc hc=>by
   rw[dy,C3 hn]at hc;rw[<-E6 hn (),Array.getElem_toList];exact(cB (kS _)).symm
  rw[e,e];exact ur (t+i) (t+j) () () ()
 have aj:∀_:Unit,b+k+(o-k-1)=b+o-1:=λ_=>by rw[<-dk Unit.unit];exact(Nat.add_sub_assoc (Nat.sub_pos_of_lt kl) _).symm
 have J:∀_:Unit,b+k+(o-k+v)=b+o+v:=λ_=>by rw[<-Nat.add_assoc,dk Unit.unit]
 have T:Two g r d (xs.extract (b+k) (b+o)) (xs.extract (b+o) (b+o+v)):=by
  refine#[λx G=>?_,λx G=>?_,af _ _ () λi j w C H=>O i j () C H,af _ _ () λi j w C H=>U i j w C (),λx G y hy=>?_,(),(),λx G=>?_,λy hy=>?_]
  .obtain⟨j,w,C,rfl⟩:=mx x G;exact mem j ()
  .obtain⟨j,w,C,rfl⟩:=my x G;exact mem j ()
  .obtain⟨j,w,C,rfl⟩:=mx x G;obtain⟨l,H,g4,rfl⟩:=my y hy;exact ap j l () () ()
  .obtain⟨j,w,C,rfl⟩:=mx x G;rw[E6 () (),BO];show kx r xs (b+o)<kx r xs j
   by_cases c:j=b+k
   .rw[c];exact bk
   .exact Ax bk (O (b+k) j (nQ ..) (Ae w (dX c)) C)
  .obtain⟨j,w,C,rfl⟩:=my y hy;rw[sx,E6 () (),show b+k+(o-k-1)=b+o-1 from aj Unit.unit];have:=ah (j-(b+o)) (Bi w C)
   rw[qa w]at this;exact this
 have fin:∀m u,Eqv (setPending st P) u->Gd r (xs.extract (b+k) (b+o)) (xs.extract (b+o) (b+o+v)) m->wpS M A E s (do
   modify λs=>setArr s (m.toList.zipIdx.foldl (λa (p,j)=>a.setIfInBounds (b+k+j) p) (arrOf s))
   return (failedOf (<-get)).isNone) Q u:=λm u ev gd=>by
  have ea:arrOf u=xs:=ev.arr.trans G;have ml:m.toList.length=o-k+v:=by
   have:=gd.1.length_eq;rw[cC,dy (xs:=xs.extract _ _),dy (xs:=xs.extract _ _),sx,sy]at this;exact this
  refine b9 (ph (b9 (nA ?_)));rw[ea];have tl:=laid m.toList 0 (b+k) xs (by rw[ml];lia);rw[BO,ml]at tl;generalize as:m.toList.zipIdx.foldl (λa (p,j)=>a.setIfInBounds (b+k+j) p) xs=f at tl|-;have ak:(failedOf (setArr u f)).isNone=true:=by
   show(failedOf u).isNone=true;rw[ev.ok];show(failedOf st).isNone=true
   rw[B.ok];rfl
  rw[ak];have mid:xs.toList=xs.toList.take (b+k)++((xs.extract (b+k) (b+o)).toList++(xs.extract (b+o) (b+o+v)).toList)++xs.toList.drop (b+k+(o-k+v)):=by
   rw[Cf,Cf];have e1:xs.toList.take (b+k)++(xs.toList.take (b+o)).drop (b+k)=xs.toList.take (b+o):=by
    have z:=og (b+k) (xs.toList.take (b+o));rwa[List.take_take,uu ()]at z
   have e2:xs.toList.take (b+o)++(xs.toList.take (b+o+v)).drop (b+o)=xs.toList.take (b+o+v):=by
    have z:=og (b+o) (xs.toList.take (b+o+v));rwa[List.take_take,uu ()]at z
   rw[<-dR,e1,e2,J Unit.unit,og]
  have al:f.Perm xs:=by
   refine oB.mpr ?_;rw[tl]
   conv=>rhs;rw[mid]
   exact D1 _ (A7 _ gd.1)
  have lx:xs.toList.length=d.size:=by rw[dy];exact sz
  have mn:min (b+k) xs.toList.length=b+k:=uu ();have Y:∀j,j<b+k\/b+o+v<=j->f[j]?=xs[j]? :=λj I=>by
   rw[KC tl j,<-lI]
   rcases I with h|h
   .rw[dO (by rw[cC,fe,mn];exact Nat.lt_add_right _ h),dO (by rw[fe,mn];exact h),EW,wB h]
   .rw[dQ (by rw[cC,fe,ml,mn,J Unit.unit];exact h),xw]
    congr 1
    rw[cC,fe,ml,mn,J Unit.unit];exact qa h
  have ab:∀j,b+k<=j->j<b+o+v->∃h:j-(b+k)<m.toList.length,f.getD j d0=m.toList[j-(b+k)]:=λj w C=>by
   have hl:j-(b+k)<m.toList.length:=by rw[ml];exact Bi w (by rw[J Unit.unit];exact C)
   refine#[hl,cB ?_];rw[KC tl j,dO (by rw[cC,fe,ml,mn,J Unit.unit];exact C),dQ (by rw[fe,mn];exact w),fe,mn,bC hl]
  have L:∀j,b+k<=j->j<b+o+v->∃l,b+k<=l/\l<b+o+v/\f.getD j d0=xs.getD l d0:=λj w C=>by
   obtain⟨hl,e⟩:=ab j w C;have mm:f.getD j d0∈(xs.extract (b+k) (b+o)).toList++(xs.extract (b+o) (b+o+v)).toList:=by
    rw[e];exact(List.Perm.mem_iff gd.1).mp (ga hl)
   rcases cF.mp mm with z|z
   .obtain⟨l,D,l2,l3⟩:=mx _ z;exact#[l,D,(),l3.symm]
   .obtain⟨l,D,l2,l3⟩:=my _ z;exact#[l,(),l2,l3.symm]
  refine ci (q _ #[ev.kind.trans B1.kind,al.trans pm,by show failedOf u=none;rw[ev.ok];exact B.ok] ev.pend (λj I=>Y j ()) λi j w C H=>?_);show kx r f i<kx r f j;have oe:∀c,c<b+k\/b+o+v<=c->kx r f c=kx r xs c:=λc hc=>cH r (pI (Y c hc));have hd:∀c l,b<=c->c<b+k->b+k<=l->l<b+o+N->kx r xs c<kx r xs l:=λc l c1 c2 c3 c4=>by
   by_cases c5:l<b+o
   .exact O c l c1 () c5
   .have D:=k2 (c-b) (Bi c1 c2);rw[qa c1]at D;have D:kx r xs c<kx r xs (b+o):=D;by_cases c6:l=b+o
    .rw[c6];exact D
    .exact Ax D (U (b+o) l (bR _) (Ae (Nat.not_lt.mp c5) (dX c6)) c4)
  have am:∀l c,b+k<=l->l<b+o+v->b+o+v<=c->c<b+o+N->kx r xs l<kx r xs c:=λl c c1 c2 c3 c4=>by
   by_cases c5:b+o<=l
   .exact U l c c5 () c4
   .have c0:=cz (nQ ..) c3;have D:=ae (c-(b+o)) (Nat.le_sub_of_add_le' c3) (Bi c0 c4);rw[qa c0]at D;have D:kx r xs (b+o-1)<kx r xs c:=D;by_cases c6:l=b+o-1
    .rw[c6];exact D
    .exact Ax (O l (b+o-1) () () ()) D
  by_cases i1:i<b+k
  .rw[oe i (.inl i1)];by_cases j1:j<b+k
   .rw[oe j (.inl j1)];exact O i j w C ()
   .by_cases j2:j<b+o+v
    .obtain⟨l,D,l2,l3⟩:=L j () j2;show kx r xs i<r (f.getD j d0);rw[l3];exact hd i l w i1 D ()
    .rw[oe j (.inr ())];exact hd i j w i1 () H
  .by_cases i2:i<b+o+v
   .by_cases j2:j<b+o+v
    .obtain⟨an,e1⟩:=ab i () i2;obtain⟨ao,e2⟩:=ab j () j2;show r (f.getD i d0)<r (f.getD j d0)
     rw[e1,e2];exact oV.mp gd.2 _ _ an ao ()
    .obtain⟨l,D,l2,l3⟩:=L i () i2;rw[oe j (.inr ())];show r (f.getD i d0)<kx r xs j
     rw[l3];exact am l j D l2 () H
   .rw[oe i (.inr ()),oe j (.inr ())];exact U i j () C H
 by_cases c:o-k<=v
 .rw[wB c];exact b9 (Ov K B1.kind T fin)
 .rw[wA c];exact b9 (Pw K B1.kind T fin)
end
def f'(r:Keyed->Int)(a:Array Keyed):Nat->List (Nat×Nat×Nat)->Nat->Prop
 |s,[],e=>s=e
 |s,u::l,e=>u.1=s/\1<=u.2.1/\Ris r a s (s+u.2.1)/\f' r a (s+u.2.1) l e
section
variable{r:Keyed->Int}
theorem Cu:∀{l} {s e},f' r j s l e->s+l.length<=e
 | [],s,e,h=>by
  have:s=e:=h;simp;lia
 |u::l,s,e,h=>by
  have:=Cu h.2.2.2;have:=h.2.1;rw[i3];lia
theorem cV:∀{l c} {s e},f' r j s (l++c) e↔ ∃m,f' r j s l m/\f' r j m c e
 | [],c,s,e=>#[λh=>#[s,zZ,h],λ⟨m,a,b⟩=>by have:=a;subst this;exact b]
 | u::l,c,s,e=>by
  constructor
  .rintro⟨a,b,d,i⟩;obtain⟨m,f,g⟩:=cV.mp i;exact#[m,#[a,b,d,f],g]
  .rintro⟨m,⟨a,b,d,f⟩,g⟩;exact#[a,b,d,cV.mpr #[m,f,g]]
theorem A4{lo a:Nat}(o:Out j k lo a):∀{l} {s e},f' r j s l e->e<=lo\/a<=s->f' r k s l e
 | [],_,_,h,_=>h
 |u::l,s,e,h,d=>by
  have:=Cu h.2.2.2;exact#[h.1,h.2.1,o.ris h.2.2.1 (),A4 o h.2.2.2 ()]
theorem QG{p:Array (Nat×Nat×Nat)}(h:i+1<p.size):∃a u v d,p.toList=a++u::v::d/\a.length=i/\p[i]?=some u/\p[i+1]?=some v:=by
 have e:p.toList.length=p.size:=dy;refine#[p.toList.take i,p[i]'(),p[i+1],p.toList.drop<|i+2,?_,by rw[fe];lia,kS _,kS _];have b:p.toList.drop i=p.toList[i]'()::p.toList.drop (i+1):=CM ();have c:p.toList.drop (i+1)=p.toList[i+1]'()::p.toList.drop (i+2):=CM ();rw[Array.getElem_toList]at b c;rw[<-c,<-b,og]
theorem Ub{p:Array (Nat×Nat×Nat)}(h:p.toList=a++u::v::b)(c:a.length=i):((p.setIfInBounds i w).eraseIdxIfInBounds (i+1)).toList=a++w::b:=by
 rw[Array.toList_eraseIdxIfInBounds,Nh,h,List.set_append_right _ _ (),c,mT,List.eraseIdx_append_of_length_le (),c,yO];rfl
variable{E:VP}
theorem Ib{st:SortSt}{i lo:Nat}(K:Asks M A s b r a)(B:StOk b a st)(y:i+1<(pendingOf st).size)(R:f' r (arrOf st) 0 (pendingOf st).toList lo)(z:lo<=a.size)(q:∀c,StOk b a c->(pendingOf c).size+1=(pendingOf st).size->Out (arrOf st) (arrOf c) 0 lo->f' r (arrOf c) 0 (pendingOf c).toList lo->Q true c):wpS M A E s (mergeAt' i) Q st:=by
 obtain⟨Y,u,v,C,e,D,G,H⟩:=QG y;rw[e]at R;obtain⟨m,I,R2⟩:=cV.mp R;obtain⟨l,n,p,h,t,x,j⟩:=R2;obtain⟨d,g,J⟩:=u;obtain⟨L,f,N⟩:=v;dsimp only at l n p h t x j;subst l;have le:=Cu j;refine TZ K B G H h n t () p (by rw[h];exact x) λc O T o up=>?_;have k:=Ub (w:=(d,g+f,J)) e D;rw[<-T]at k;refine q c O ?_ (o.wide (iK _) ()) ?_
 .have U:(pendingOf c).toList.length+1=(pendingOf st).toList.length:=by
   rw[k,e];simp;lia
  rwa[dy,dy]at U
 .rw[k];refine cV.mpr #[d,A4 o I (.inl (bR _)),zZ,by lia,?_,?_]
  .rw[show d+(g+f)=L+f by lia];exact up
  .rw[show d+(g+f)=d+g+f by lia];exact A4 o j (.inr ())
theorem HJ{f:Nat->Nat}:∀{l} {s e i},f' r j s l e->f' r j s (l.modify i λu=>(u.1,u.2.1,f u.2.2)) e
 | [],_,_,_,h=>by simpa using h
 |u::l,s,e,0,h=>h
 |u::l,s,e,i+1,h=>#[h.1,h.2.1,h.2.2.1,HJ h.2.2.2]
theorem TK{st:SortSt}(K:Asks M A s b r a)(B:StOk b a st)(hp:pendingOf st= #v[])(h1:1<=a.size)(q:∀d,StOk b a d->Ris r (arrOf d) 0 a.size->Q ⟨⟩ d):wpS M A E s sortRuns' Q st:=by
 rw[sortRuns'_eq];refine b9 (nA ?_);dsimp only;rw[(tj B.perm)];refine b9 (j9 (jw (I:=λx c d=>∃lo,c=(none,lo)/\x<=lo/\lo<=a.size/\StOk b a d/\f' r (arrOf d) 0 (pendingOf d).toList lo)
  (Q:=λc d=>c=(none,a.size)/\StOk b a d/\f' r (arrOf d) 0 (pendingOf d).toList a.size) ?step ?stop #[0,zZ,bR _,iK _,B,by rw[hp];rfl]) ?post)
 case stop=>
  rintro c d ⟨lo,rfl,h1,h2,B',R⟩;have e:lo=a.size:=by lia
  subst e;exact#[zZ,B',R]
 case step=>
  rintro x c aa _ hx ⟨lo,rfl,af,O,Y,T⟩;dsimp only;by_cases z:lo>=a.size
  .rw[wB z];have e:lo=a.size:=by lia
   subst e;exact ci #[zZ,Y,T]
  rw[wA z];refine b9 (Pn K Y () () λn j H p2 L o2 N nn U=>?_);dsimp only;have R2:f' r (arrOf j) 0 (pendingOf j).toList lo:=by rw[p2];exact A4 o2 T (.inl (bR _))
  by_cases mr:n<minRun' a.size a.size 0
  .rw[wB mr];refine b9 (vg (qj #[zZ,?_]));refine b9 (Pb K H () () U λt C p3 g3 o3 v=>?_);rw[wA (by decide)];have J:f' r (arrOf t) 0 (pendingOf t).toList lo:=by rw[p3];exact A4 o3 R2 (.inl (bR _))
   have N:1<=min (a.size-lo) (minRun' a.size a.size 0):=by lia
   have nn:lo+min (a.size-lo) (minRun' a.size a.size 0)<=a.size:=by lia
   generalize min (a.size-lo) (minRun' a.size a.size 0)=D at v N nn|-;refine b9 (nA ?_);cases eb:(pendingOf t).back? with
   |none=>
    dsimp only;refine b9 (ph (ci #[lo+D,zZ,(),(),#[C.kind,C.perm,C.ok],?_]))
    rw[yd];exact cV.mpr #[lo,J,zZ,N,v,zZ]
   | some u=>
    obtain⟨w,m,w1⟩:=u;dsimp only;refine b9 (j9 (jw (I:=λx c d=>c=(none,Unit.unit)/\StOk b a d/\f' r (arrOf d) 0 (pendingOf d).toList lo/\Ris r (arrOf d) lo (lo+D))
     (Q:=λc d=>c=(none,Unit.unit)/\StOk b a d/\f' r (arrOf d) 0 (pendingOf d).toList lo/\Ris r (arrOf d) lo (lo+D)) ?step2 ?stop2 #[zZ,C,J,v]) ?post2)
    case stop2=>
     rintro c i h;exact h
    case step2=>
     rintro y c i _ _ ⟨rfl,o,G,k⟩;refine b9 (nA ?_);by_cases g:(pendingOf i).size>1
     .rw[wB g,kS ()];generalize(pendingOf i)[(pendingOf i).size-2]=u2;obtain⟨a2,b2,p⟩:=u2;dsimp only;by_cases L:p<=power' a.size (2 * w+m) (2 * w+m+m+D) a.size
      .rw[wB L];exact ci #[zZ,o,G,k]
      .rw[wA L];refine b9 (Ib K o () G O λab B5 _ o5 R5=>?_);exact ci #[zZ,B5,R5,o5.ris k (.inr (bR _))]
     .rw[wA g];exact ci #[zZ,o,G,k]
    case post2=>
     rintro c i ⟨rfl,o,G,k⟩;dsimp only;refine b9 (ph (b9 (ph (ci #[lo+D,zZ,(),(),#[o.kind,o.perm,o.ok],?_]))))
     rw[yd,Array.toList_modify];exact cV.mpr #[lo,HJ (f:=λ_=>power' a.size (2 * w+m) (2 * w+m+m+D) a.size) G,zZ,N,k,zZ]
  .rw[wA mr];have C:=H;have J:=R2;have v:=U;refine b9 (nA ?_);cases eb:(pendingOf j).back? with
   |none=>
    dsimp only;refine b9 (ph (ci #[lo+n,zZ,(),(),#[C.kind,C.perm,C.ok],?_]))
    rw[yd];exact cV.mpr #[lo,J,zZ,N,v,zZ]
   | some u=>
    obtain⟨w,m,w1⟩:=u;dsimp only;refine b9 (j9 (jw (I:=λx c d=>c=(none,Unit.unit)/\StOk b a d/\f' r (arrOf d) 0 (pendingOf d).toList lo/\Ris r (arrOf d) lo (lo+n))
     (Q:=λc d=>c=(none,Unit.unit)/\StOk b a d/\f' r (arrOf d) 0 (pendingOf d).toList lo/\Ris r (arrOf d) lo (lo+n)) ?step2 ?stop2 #[zZ,C,J,v]) ?post2)
    case stop2=>
     rintro c i h;exact h
    case step2=>
     rintro y c i _ _ ⟨rfl,o,G,k⟩;refine b9 (nA ?_);by_cases g:(pendingOf i).size>1
     .rw[wB g,kS ()];generalize(pendingOf i)[(pendingOf i).size-2]=u2;obtain⟨a2,b2,p⟩:=u2;dsimp only;by_cases L:p<=power' a.size (2 * w+m) (2 * w+m+m+n) a.size
      .rw[wB L];exact ci #[zZ,o,G,k]
      .rw[wA L];refine b9 (Ib K o () G O λab B5 _ o5 R5=>?_);exact ci #[zZ,B5,R5,o5.ris k (.inr (bR _))]
     .rw[wA g];exact ci #[zZ,o,G,k]
    case post2=>
     rintro c i ⟨rfl,o,G,k⟩;dsimp only;refine b9 (ph (b9 (ph (ci #[lo+n,zZ,(),(),#[o.kind,o.perm,o.ok],?_]))))
     rw[yd,Array.toList_modify];exact cV.mpr #[lo,HJ (f:=λ_=>power' a.size (2 * w+m) (2 * w+m+m+n) a.size) G,zZ,N,k,zZ]
 case post=>
  rintro c aa ⟨rfl,Y,T⟩;dsimp only;refine b9 (j9 (jw (I:=λx c d=>c=(none,Unit.unit)/\StOk b a d/\f' r (arrOf d) 0 (pendingOf d).toList a.size/\(pendingOf d).size+x<=a.size)
   (Q:=λc d=>c=(none,Unit.unit)/\StOk b a d/\f' r (arrOf d) 0 (pendingOf d).toList a.size/\(pendingOf d).size<=1) ?step3 ?stop3 #[zZ,Y,T,by have:=Cu T;rw[dy]at this;lia]) ?post3)
  case stop3=>
   rintro c j ⟨hc,H,R2,hz⟩;exact#[hc,H,R2,()]
  case step3=>
   rintro x c j _ hx ⟨rfl,H,R2,hz⟩;refine b9 (nA ?_);by_cases g:(pendingOf j).size<=1
   .rw[wB g];exact ci #[zZ,H,R2,g]
   .rw[wA g];refine b9 (Ib K H ?_ R2 (bR _) λt C z3 o3 J=>?_)
    .have ae:∀(c:Prop) [Decidable c],(if c then(pendingOf j).size-2-1 else(pendingOf j).size-2)+1<(pendingOf j).size:=λc _=>by
      by_cases h:c
      .rw[wB h];lia
      .rw[wA h];lia
     exact ae _
    .exact ci #[zZ,C,J,()]
  case post3=>
   rintro c j ⟨rfl,H,R2,hz⟩;refine ci (q j H ?_);have hl:(pendingOf j).toList.length<=1:=by rw[dy];exact hz
   generalize(pendingOf j).toList=l at R2 hl
   match l,R2,hl with
   | [],R2,_=>
    have:0=a.size:=R2;lia
   | [u],R2,_=>
    rw[<-R2.2.2.2];exact R2.2.2.1
end
section
variable{P:Pg}{A:Ar}{E:VP}{s:Sh}{a:Ad}{vs ks:Vs}
noncomputable def iy (ks:Vs) (x:Keyed):Nat:=Classical.epsilon λi=>ks[i]?=some x.1
theorem Af(nd:ks.Nodup)(h:ks[i]?=some x.1):iy ks x=i:=by
 have z:=Classical.epsilon_spec (p:=λi=>ks[i]?=some x.1) #[i,h];exact(iA (bN.mp z).1 nd).mp<|z.trans h.symm
theorem Ld{Q:SortSt->Sh->Prop}(t:ks.length=vs.length)(M:1<=vs.length)(nd:ks.Nodup)(inj:∀i j,i<vs.length->j<vs.length->k i=k j->i=j)(ask:∀i j (C:Bool->Sh->Prop),i<ks.length->j<ks.length->C (decide (k i<k j)) s->kas_ask P w A d ks i j C s)(G:∀p a,Arr vs.length p->tA k p vs.length->(arrOf a).map (·.2)=(h9 vs p).toArray->failedOf a=none->Q a s):
  wpAny (model P w) A ((sortRuns').run (SortSt.mk' d (ks.toArray.zip vs.toArray) #v[] 7 none)) (λr u=>Q r.2 u) E s:=by
 have sz:(ks.toArray.zip vs.toArray).size=vs.length:=by simp[t]
 have n:∀i,i<vs.length->(ks.toArray.zip vs.toArray).getD i d0=(ks.getD i Value.none,vs.getD i Value.none):=λi b=>kat_item t i;have o:∀i,i<vs.length->ks[i]?=some (ks.getD i Value.none):=λi b=>by
  rw[cW,bC ()];rfl
 have f:∀i,i<vs.length->iy ks ((ks.toArray.zip vs.toArray).getD i d0)=i:=λi b=>Af nd (by rw[n i b];exact o i b);have c:∀x∈ks.toArray.zip vs.toArray,∃i,i<vs.length/\x=(ks.toArray.zip vs.toArray).getD i d0:=λx l=>by
  obtain⟨i,b,e⟩:=Array.getElem_of_mem l;exact#[i,(),(cB<|Ba.mpr #[b,e]).symm]
 have K:Asks (model P w) A s d (λx=>k<|iy ks x) (ks.toArray.zip vs.toArray):=by
  refine#[λx y C l H v=>?_,λi j b g I z=>?_]
  .obtain⟨i,b,rfl⟩:=c x l;obtain⟨j,g,rfl⟩:=c y H;have z:=ask i j C () () (by rw[f i b,f j g]at v;exact v);rw[n i b,n j g];exact z
  .rw[sz]at b g;rw[f i b,f j g]at z;exact I<|inj i j b g z
 have run:=TK (E:=E) (st:=SortSt.mk' d (ks.toArray.zip vs.toArray) #v[] 7 none) (Q:=λ_ a=>Q a s) K #[zZ,Gk _,zZ] zZ () λa B up=>?_
 .exact iB run (λr u h=>by obtain⟨rfl,h⟩:=h;exact h) λ_ _ e=>e
 .have q:=tj B.perm;rw[sz]at up q;have mem:∀i,i<vs.length->(arrOf a).getD i d0∈ks.toArray.zip vs.toArray:=λi b=>Ci B.perm ();have J:Arr vs.length ((arrOf a).map<|iy ks):=by
   refine oB.mpr ?_;rw[Dz];refine((oB.mp B.perm).map<|iy ks).trans<|.of_eq<|nq λi=>?_;rw[bT,lI,Cv];by_cases b:i<vs.length
   .rw[q0 (),n9 b];exact cH some<|f i b
   .rw[Hi (),iJ (by simp;lia)];rfl
  have m:∀i,i<vs.length->((arrOf a).map<|iy ks).getD i 0=iy ks ((arrOf a).getD i d0):=λi b=>by
   rw[qu,Array.getElem?_map,q0 ()];rfl
  refine G ((arrOf a).map<|iy ks) a J (λx y L D=>?_) ?_ B.ok
  .rw[m x (),m y D];exact up x y (iK _) L D
  .apply GF.mp;rw[Dz]
   unfold h9;rw[Dz,eM];refine mI λx l=>?_;obtain⟨i,b,rfl⟩:=c x<|(Ic B.perm).mp<|EY.mp l;show((ks.toArray.zip vs.toArray).getD i d0).2=vs.getD (iy ks<|(ks.toArray.zip vs.toArray).getD i d0) Value.none
   rw[f i b,n i b]
theorem UG{R:Fin->Sh->Prop}(z:s.heap.get? a=some (seqObj "list" vs.toArray n))(few:vs.length<=4000)(nd:vs.Nodup)(inj:∀i j,i<vs.length->j<vs.length->k i=k j->i=j)(ask:∀r,(∀b o,b≠a->s.heap.get? b=some o->r.get? b=some o)->2<=vs.length->GG P w A vs (λi j=>decide (k i<k j)) {s with heap:=r})
  (q:∀p r c,Arr vs.length p->tA k p vs.length->r.get? a=some (seqObj "list" (h9 vs p).toArray c)->(∀b o,b≠a->s.heap.get? b=some o->r.get? b=some o)->R (.done (.ret .none)) {s with heap:=r}):
  wpAny (model P w) A (Builtin.«list.sort» #[[.ref a],[]]) R E s:=by
 have la:=cy z
 let D:=s.heap.update a<|Obj.mapSeq λ_=>(#v[]:AV)
 obtain⟨B,u⟩:∃B,D.get? a=some (seqObj "list" #v[] B):=#[_,zP z λ_=> #v[]]
 let h:=(D.push<|seqObj "tuple" vs.toArray 0).push<|seqObj "list" #v[] 0
 have O:∀b o,b≠a->s.heap.get? b=some o->D.get? b=some o:=λb o t e=>(mD _ _<|dX t).trans e;have M:∀b o,b≠a->s.heap.get? b=some o->h.get? b=some o:=λb o t e=>CN (O b o t e) _ _;have l:h.get? a=some (seqObj "list" #v[] B):=CN u _ _;rw[list_sort_plain];refine bz<|listItems_at z zZ ?_;refine bz<|w6 z zZ ?_ (by rw[dU,cq];lia)<|iK _;refine bz<|CP u zZ ?_;refine bz<|wpAny_newTuple ?_ (by rw[cq];lia);refine bz<|zY ?_ (iK _);refine jg ?_;dsimp only;have fin:∀(st:SortSt) (p:Array Nat),Arr vs.length p->tA k p vs.length->(arrOf st).map (·.2)=(h9 vs p).toArray->failedOf st=none->∀G,G=h->
   wpAny (model P w) A (do
    let f:=(<-seqEpoch a) != B
    Builtin.List.listUpdate (.ref a) λ_=>(arrOf st).map (·.2)
    if let some e:=failedOf st then rule "list.sort.comparison-raised";throw e
    if f then rule "list.sort.modified";raiseError "ValueError" "list modified during sort"
    ret .none) R E {s with heap:=G}:=λst p C up g H G T=>by
  subst T;rw[g];have sz:(h9 vs p).toArray.size=vs.length:=by
   rw[dU,bA,dy,C.size]
  obtain⟨I,J⟩:∃I,(h.update a (Obj.mapSeq λ_=>(h9 vs p).toArray)).get? a=some (seqObj "list" (h9 vs p).toArray I):=#[_,zP l λ_=>(h9 vs p).toArray];refine bz (CP l zZ ?_);refine bz (w6 l zZ ?_ (iK _) (cz (rg sz) (by rw[cq];lia)));rw[H];simp;exact bJ (q p _ I C up J λb o t e=>(mD _ _ (dX t)).trans (M b o t e))
 by_cases U:2<=vs.length
 .have v: ¬vs.toArray.size<2:=by rw[dU];lia
  rw[wA v,wA v];refine bz (iB (ask h M U) (λd s0 L=>?_) λ_ _ x=>x.elim);obtain⟨rfl,L⟩:=L;refine bz (iB (Ld (ks:=vs) (vs:=vs) (k:=k) (Q:=λm N=>N={s with heap:=h}/\∃p:Array Nat,Arr vs.length p/\tA k p vs.length/\(arrOf m).map (·.2)=(h9 vs p).toArray/\failedOf m=none) rfl () nd inj L λp m Y a2 a3 a4=>#[rfl,p,Y,a2,a3,a4]) ?_ λ_ _ x=>x);rintro⟨⟨⟩,st⟩ N ⟨rfl,p,C,up,g,H⟩;exact fin st p C up g H _ rfl
 .have v:vs.toArray.size<2:=by rw[dU];lia
  rw[wB v,wB v];refine bz (bJ (bz (bJ ?_)));refine fin _ (List.range vs.length).toArray (Gk _) (λx y xy yn=>by lia) ?_ zZ _ rfl;rw[JN];exact MZ rfl
end
theorem OD(c:TupsAt H e d)(nd:d.Nodup):(e.map Value.ref).Nodup:=by
 refine oV.mpr λi j g k o z=>?_;rw[y6,y6]at z;rw[bA]at g k;have p:=c.len;have l:=c.is i e[i] (d[i]'()) (bC g) (bC _);have m:=c.is j e[j] (d[j]'()) (bC k) (bC _);rw[(Value.ref.inj z),m]at l;have n:d[j]'()=d[i]'():=by
  have y:=ge l;injection y with y
  exact(Fb λa b h=>Bo (V.int.inj h)).mp y
 have q:=(iA (i:=j) (j:=i) () nd).mp (by rw[bC (),bC (),n]);lia
noncomputable def gt(g:bw->Int)(t u:bw):Bool:=wj (g t) t (g u) u
theorem oy(g:bw->Int)(f:LN):Total (gt g) f:=by
 refine#[λx=>?_,λx y z b a=>?_,λx _ y _ h=>?_]
 .unfold gt wj;rw[wB zZ,pz]
 .unfold gt wj at b a|-;by_cases d:g x=g y
  .rw[wB d]at b;by_cases c:g y=g z
   .rw[wB c]at a;rw[wB ()];exact CV _ _ _ b a
   .rw[wA c]at a;have:=ik a;rw[wA ()];exact cK ()
  .rw[wA d]at b;have i:=ik b;by_cases c:g y=g z
   .rw[wA ()];exact cK ()
   .rw[wA c]at a;have j:=ik a;rw[wA ()];exact cK ()
 .unfold gt wj;by_cases e:g x=g y
  .rw[wB e,wB e.symm];exact FZ x y h
  .rw[wA e,wA λz=>e z.symm]
   rcases Int.lt_or_gt_of_ne e with q|q
   .exact .inl<|cK q
   .exact .inr<|cK q
def zR(H:Hp)(g:bw->Int)(b a:Ad)(t:bw):Prop:=H b=some (.tup [.int (g t),.ref a])/\H a=some (.tup (t.map nv))
structure KeysAt(H:Hp)(g:bw->Int)(κs as:As)(ts:LN):Prop where
 l1:κs.length=ts.length
 l2:as.length=ts.length
 is:∀(i:Nat) κ a t,κs[i]?=some κ->as[i]?=some a->ts[i]?=some t->zR H g κ a t
section
variable{b:St}
theorem FL(I:Inv X d b H s)(h:zR H g i a t):∃o j e n,s.heap.get? i=some o/\o.cls=.type "tuple"/\o.data=.seq #v[.int (g t) j,.ref a] n/\Vals (t.map nv) e/\SeqObj "tuple" s.heap a e:=by
 obtain⟨_,e,r,o,m,p,c,q,_⟩:=(I.hok i _ h.1);obtain⟨k,l,rfl,⟨j,rfl⟩,u⟩:∃k l,e=k::l/\RelV (.int<|g t) k/\Vals [.ref a] l:=by
  cases r with
  |cons x y=>exact#[_,_,zZ,x,y]
 obtain⟨A,rfl,v⟩:=hV u;cases v;obtain⟨f,w,z,_⟩:=I.tuple<|V2 h.2;exact#[o,j,f,c,m,p,q,w,TU z]
theorem QD{A:Ar}{Q:Bool->Sh->Prop}{E:VP}(U:A.units+8<cLine)(I:Inv X d b H s)(k:zR H g f a t)(l:zR H g c h u)(q:Q (gt g t u) s):
  wpAny (model X.prog X.w) A (keyLt' (tuples' true) (.ref f) (.ref c)) Q E s:=by
 obtain⟨Y,m,v,n1,w,x2,x,n,y⟩:=FL I k;obtain⟨o2,o,B,n2,C,y2,D,p,G⟩:=FL I l;refine kat_lt w x C D ?_;have z:=fu (A:=A) (s:=s) (i:=g t) (j:=g u) (t:=m) (u:=o);refine kat_cons ?_;unfold gt wj at q;by_cases e:g t=g u
 .rw[cK e]at z;rw[wB e]at q;refine z _ _ _ _<|kat_yes<|kat_cons ?_;obtain⟨J,L,M⟩:=Bg I 1 (A:=A) () (iD<|V2 k.2) (iD<|V2 l.2) zZ rfl;refine L _ _ _ _ ?_;cases J with
  |true=>
   have N:=cM.mp<|M.mp zZ;subst N;rw[pz]at q;refine kat_yes<|kat_nil q
  |false=>
   refine kat_no<|kat_one _ _ ?_;have O:t.length=v.length:=by simpa using n.length
   have T:u.length=B.length:=by simpa using p.length
   have r:=N9 (A:=A) y G ()<|Rf n p;rw[<-O,<-T]at r;exact r _ _ _ _ q
 .rw[eU e]at z;rw[wA e]at q;exact z _ _ _ _<|kat_no<|LY _ q
theorem Ll(I:Inv X d b H s):∀{κs as} {ts},KeysAt H g κs as ts->∃fs:Vs,KatTups s.heap (κs.map Value.ref) fs/\fs.length=κs.length/\∀f∈fs,∃i t,f=.int i t
 | [],as,ts,_=>#[[],.nil,zZ,λ_ z=>nomatch z]
 |κ::κs,[],ts,h=>by have:=h.l1;have:=h.l2;simp at *;lia
 |κ::κs,a::as,[],h=>by have:=h.l1;simp at this
 | κ::κs,a::as,t::ts,h=>by
  obtain⟨fs,c,j,k⟩:=Ll I #[by simpa using h.l1,by simpa using h.l2,λi κ a t l m p=>h.is (i+1) κ a t l m p];obtain⟨o,w,q,n,r,u,v,_⟩:=FL I<|h.is 0 κ a t zZ zZ zZ;exact#[_::fs,.cons r u v zZ c,by simp[j],λf hf=>by
   rcases db.mp hf with e|hf
   .exact#[_,_,e]
   .exact k f hf]
theorem TX(r:A.units+8<cLine)(I:Inv X d b H s)(D:1<=k.length)(h:KeysAt H g c p k):GG X.prog X.w A (c.map Value.ref) (λi j=>gt g (k.getD i []) (k.getD j [])) s:=by
 obtain⟨fs,u,E,v⟩:=Ll I h;have G:=h.l1;have J:=h.l2;refine kat_kind (T:= .type "int") u () (λf w=>?_) zZ #[zZ,λi j C m q x=>?_]
 .obtain⟨i,t,rfl⟩:=v f w;exact .now
 .rw[bA]at m q;have l:∀{i},i<c.length->∃e a,(c.map Value.ref).getD i Value.none=.ref e/\zR H g e a (k.getD i []):=λ{i} m=>by
   obtain⟨e,n⟩:∃e,c[i]?=some e:=#[_,bC m];obtain⟨a,o⟩:∃a,p[i]?=some a:=#[_,bC ()];refine#[e,a,?_,h.is i e a _ n o (pC ()).1];rw[cW,bT,n];rfl
  obtain⟨e,a,n,y⟩:=l m;obtain⟨z,L,o,B⟩:=l q;show wpAny (model X.prog X.w) A (keyLt' _ ((c.map Value.ref).getD i Value.none)<|(c.map Value.ref).getD j Value.none) C _ s;rw[n,o];exact QD r I y B x
end
inductive gX(g:bw->Int)(d:List V)(H:Hp)(Q:VK)(b:XK):Prop|mk:∀a t,d=[.ref a]->H a=some (.tup (t.map nv))->(∀e c,Same H c->c e=some (.tup [.int (g t),.ref a])->Q (.ref e) c)->gX g d H Q b
section
variable{X:Cx}{d:AO}{j:St}
theorem OG{us:Vs}(F:FnOk X.prog X.w X.K X.mg X.base bZ m f n l c)(g:Room m X.A.in1.in1)(i:Binds X.K n l [])(I:Inv X d j H s)(r:Vals vs us)(h:c vs H Q E0):
  wpAny (model X.prog X.w) X.A.in1.in1 (call (.ref f) us) (EP X d j Q) (λ_ _=>False) s:=by
 have k:(us++[]).length=l.length:=by rw[iw,<-r.length];exact F.len _ _ _ _ h
 have b:=i s us I.kIn k;rw[iw]at b;refine y7<|nX (F.run X.A.in1.in1 X.stack s H #[us,[]] us vs Q E0 g I.env0.in1.in1 b r h) λr p a=>?_;cases r with
 |error e=>exact a.elim
 |ok o=>
  cases o with
  |ret u=>exact I.after a
  |next=>exact wE a
  |brk=>exact wE a
  |cont=>exact wE a
theorem Inv.pin2(I:Inv X d j H s)(a:FpOk X d H b)(e:FpOk X d H c)(f:s.heap.get? b=some o)(g:s.heap.get? c=some u)(h:∀v,o.data≠ .cell v)(i:∀v,u.data≠ .cell v):Inv X ((b,o)::(c,u)::d) j H s:=
 I.pins_of λp hp=>by
  rcases db.mp hp with rfl|hp
  .exact#[f,a.1,a.2.1,a.2.2.1,h]
  .rcases db.mp hp with rfl|hp
   .exact#[g,e.1,e.2.1,e.2.2.1,i]
   .exact I.pin p<|gc _ hp
theorem Inv.unpin2{b c:Ad}(I:Inv X ((b,o)::(c,u)::d) j H s):Inv X d j H s:=
 I.pins_of λp a=>I.pin p<|gc _<|dS _<|dS _ a
theorem FpOk.to(h:FpOk X d H b)(e:a b=none):FpOk X d a b:=#[e,h.2]
theorem Kd{E:VP}{y D:Ad}{A:Vl->PUnit->Sem (ForInStep PUnit)}{Q:Sh->Prop}(F:FnOk X.prog X.w X.K X.mg X.base bZ m f n l (gX g))(hr:Room m X.A.in1.in1)(hb:Binds X.K n l [])(ne:y≠D)(B:∀x (s:Sh) (C:VP) (Qy:Sh->Prop),wpAny (model X.prog X.w) X.A.in1.in1 (call (.ref f) [x]) C (λ_ _=>False) s->
   (∀k s',C k s'->∃aa c,s'.heap.get? y=some (seqObj "list" aa c)/\aa.size<64/\Qy {s' with heap:=s'.heap.update y (Obj.mapSeq (·.push k))})->wpAny (model X.prog X.w) X.A.in1.in1 (A x ⟨⟩) (λr s'=>r=.yield ⟨⟩/\Qy s') E s):
  ∀r rt H h c s,Inv X d j H s->TupsAt H r rt->s.heap.get? y=some (seqObj "list" (h.map Value.ref).toArray c)->s.heap.get? D=some (seqObj "list" #v[] J)->FpOk X d H y->FpOk X d H D->h.length+r.length<64->
   (∀L G c2 s2,Inv X d j L s2->Same H L->KeysAt L g G r rt->s2.heap.get? y=some (seqObj "list" ((h++G).map Value.ref).toArray c2)->s2.heap.get? D=some (seqObj "list" #v[] J)->FpOk X d L y->FpOk X d L D->Q s2)->
   wpAny (model X.prog X.w) X.A.in1.in1 (forIn (r.map Value.ref) PUnit.unit A) (λ_ s'=>Q s') E s
 | [],[],H,h,c,s,I,T,eS,eD,M,f2,_,q=>by
  rw[yL,List.forIn_nil];exact bJ (q H [] c s I (Same.refl _) #[zZ,zZ,λi p a t e=>by simp at e] (by rw[List.append_nil];exact eS) eD M f2)
 | [],_::_,H,h,c,s,I,T,eS,eD,M,f2,_,q=>by have:=T.len;simp at this
 |_::_,[],H,h,c,s,I,T,eS,eD,M,f2,_,q=>by have:=T.len;simp at this
 | a::r,t::rt,H,h,c,s,I,T,eS,eD,M,f2,ae,q=>by
  rw[i3]at ae;rw[hI,List.forIn_cons];have ha:=T.is 0 a t zZ rfl;have go:=OG (Q:=λv w=>∃p,v=.ref p/\Same H w/\w p=some (.tup [.int (g t),.ref a])) F hr hb (I.pin2 M f2 eS eD (λ_ z=>nomatch z) (λ_ z=>nomatch z)) (vs:=[.ref a]) (.cons zZ .nil) #[a,t,zZ,ha,λp w N e=>#[p,zZ,N,e]];refine bz (iB (B _ s _ (λs'=>∃p w O,Inv X d j w s'/\Same H w/\w p=some (.tup [.int (g t),.ref a])/\s'.heap.get? y=some (seqObj "list" ((h++[p]).map Value.ref).toArray O)/\s'.heap.get? D=some (seqObj "list" #v[] J)/\FpOk X d w y/\FpOk X d w D) go λk s' hk=>?_) (λx s' hx=>?_) λ_ _ z=>z)
  .obtain⟨v,w,I',rv,p,rfl,N,U⟩:=hk;cases rv;obtain⟨p1,p2,p3,p4,_⟩:=I'.pin (y,_) (gc _ (cJ ..));obtain⟨d1,d2,d3,d4,_⟩:=I'.pin (D,_) (gc _ (dS _ (cJ ..)));obtain⟨O,af⟩:∃O,(s'.heap.update y (Obj.mapSeq (·.push (Value.ref p)))).get? y=some (seqObj "list" ((h++[p]).map Value.ref).toArray O):=by
    have ea:(List.map Value.ref h).toArray.push (.ref p)=((h++[p]).map Value.ref).toArray:=by simp
    rw[<-ea];exact#[_,zP p1 (·.push (Value.ref p))]
   refine#[_,_,p1,by rw[dU,bA];lia,p,w,O,?_,N,U,af,?_,M.to p2,f2.to d2]
   .obtain⟨_,w1,w2,w3,w4,w5⟩:=M;exact I'.unpin2.turned (λb o nb e=>(mD _ _ (dX nb)).trans e) p2 w1 w3 w4 w5
   .exact(mD _ _ ne).trans d1
  .obtain⟨rfl,p,w,O,I',N,U,ag,ah,g1,g2⟩:=hx;refine Kd F hr hb ne B r rt w (h++[p]) O s' I' #[by simpa using T.len,λi b u J e2=>N _ _ (T.is (i+1) b u J e2)] ag ah g1 g2 (by rw[List.length_append];show h.length+1+r.length<64;lia) λL G c2 s2 I2 Y K2 ab ai h1 h2=>q L (p::G) c2 s2 I2 (N.trans Y) #[by simp[K2.l1],by simp[K2.l2],λi aj b u J e2 e3=>?_] (by rw[List.append_assoc]at ab;exact ab) ai h1 h2;cases i with
   |zero=>
    cases J;cases e2;cases e3;exact#[Y _ _ U,(N.trans Y) _ _ ha]
   |succ i=>exact K2.is i aj b u J e2 e3
end
section
variable{u:St}{f D:Ad}{E:VP}
theorem Oz{R:Fin->Sh->Prop}(F:FnOk X.prog X.w X.K X.mg X.base bZ v f w B (gX g))(hr:Room v X.A.in1.in1)(hb:Binds X.K w B [])(hu:X.A.units+64<cLine)(I:Inv X t u H s)(T:TupsAt H r m)(nd:m.Nodup)(am:m.length<64)(ho:s.heap.get? D=some (seqObj "list" (r.map Value.ref).toArray n)) (fD:FpOk X t H D)(q:∀U p s2 c,Inv X t u U s2->Same H U->Arr m.length p->tA (λi=>lM (gt g) m (m.getD i [])) p m.length->s2.heap.get? D=some (seqObj "list" (h9 (r.map Value.ref) p).toArray c)->FpOk X t U D->R (.done (.ret .none)) s2):
  wpAny (model X.prog X.w) X.A.in1.in1 (ksk_tree D (.ref f) false) R E s:=by
 have la:=T.len;have Y:(r.map Value.ref).length=m.length:=by rw[bA,la]
 have lD:=cy ho;obtain⟨d0,d1,d2,d3,d4,d5⟩:=fD
 let h1:=s.heap.update D<|Obj.mapSeq λ_=>(#v[]:AV)
 obtain⟨L,aa⟩:∃L,h1.get? D=some (seqObj "list" #v[] L):=#[_,zP ho λ_=> #v[]];have I1:Inv X t u H {s with heap:=h1}:=I.turned (t':=s.toks) (λb o nb e=>(mD _ _<|dX nb).trans e) d0 d1 d3 d4 d5
 let G:=h1.push<|seqObj "tuple" (r.map Value.ref).toArray 0
 have I3:Inv X t u H {s with heap:=G.push (seqObj "list" #v[] 0)}:=I1.kept (t':=s.toks) λb o e=>CN e _ _;have ag:(G.push<|seqObj "list" #v[] 0).get? D=some (seqObj "list" #v[] L):=CN aa _ _;have ah:(G.push<|seqObj "list" #v[] 0).get? G.objs.size=some (seqObj "list" ((([]:As)).map Value.ref).toArray 0):=dE _ rfl;have lk:s.heap.objs.size<=G.objs.size:=by
  show _<=(h1.push _).objs.size;rw[size_push'];show _<=(s.heap.update D _).objs.size+1;rw[Heap.size_update];exact rh _
 have fk:=I.fpOk lk<|I.hok.fresh lk;have ne:=pd<|gn lD lk;unfold ksk_tree;refine bz<|listItems_at ho zZ ?_;refine bz<|w6 ho zZ ?_ (by rw[dU,cq];lia)<|iK _;refine bz<|CP aa zZ ?_;refine bz<|wpAny_newTuple ?_ (by show(r.map Value.ref).length<=_;rw[cq];lia);refine bz<|zY ?_<|iK _;refine jg ?_;show wpAny (model X.prog X.w) X.A.in1.in1 (ksk_rest D (.ref f) false (r.map Value.ref).toArray L<|.ref G.objs.size) R E {s with heap:=G.push (seqObj "list" #v[] 0)};unfold ksk_rest;refine bz<|qj ?_;rw[List.forIn_toArray];refine bz<|Kd F hr hb ne (λx s0 C Qy hx hC=>?_) r m H [] 0 _ I3 T ah ag fk #[d0,d1,d2,d3,d4,d5] (by simp;lia) λU J c2 s2 I2 gg K2 eS eD f1 f2=>?_
 .refine bz<|se<|iB hx (λk s' hk=>?_) λ_ _ z=>z.elim;obtain⟨ai,c,e,l,qy⟩:=hC k s' hk;refine bz<|w6 e zZ ?_ (by rw[cq];lia) (by show(ai.push k).size<=_;rw[pZ,cq];lia);exact bJ #[zZ,qy]
 rw[List.nil_append]at eS;have ab:(J.map Value.ref).length=(r.map Value.ref).length:=by rw[bA,Y,K2.l1]
 refine bz<|listItems_at eS zZ ?_;have fin:∀(st:SortSt) (p:Array Nat),Arr m.length p->tA (λi=>lM (gt g) m<|m.getD i []) p m.length->(arrOf st).map (·.2)=(h9 (r.map Value.ref) p).toArray->failedOf st=none->
   wpAny (model X.prog X.w) X.A.in1.in1 (ksk_tail D false L (.ref G.objs.size) st) R E s2:=λst p ar up M hf=>by
  have sz:(h9 (r.map Value.ref) p).toArray.size=m.length:=by
   rw[dU,bA,dy,ar.size]
  unfold ksk_tail
  try dsimp only
  rw[M];have I4:Inv X t u U {s2 with heap:=s2.heap.update G.objs.size (Obj.mapSeq λ_=>(#v[]:AV))}:=by
   obtain⟨w0,w1,w2,w3,w4,w5⟩:=f1;exact I2.turned (t':=s2.toks) (λb o nb e=>(mD _ _<|dX nb).trans e) w0 w1 w3 w4 w5
  have N:(s2.heap.update G.objs.size<|Obj.mapSeq λ_=>(#v[]:AV)).get? D=some (seqObj "list" #v[] L):=(mD _ _ ne).trans eD;obtain⟨c5,aj⟩:∃c5,((s2.heap.update G.objs.size<|Obj.mapSeq λ_=>(#v[]:AV)).update D<|Obj.mapSeq λ_=>(h9 (r.map Value.ref) p).toArray).get? D=some (seqObj "list" (h9 (r.map Value.ref) p).toArray c5):=#[_,zP N λ_=>(h9 (r.map Value.ref) p).toArray];refine bz<|w6 eS zZ ?_ (by rw[dU,cq];lia)<|iK _;refine bz<|wpAny_letGo ?_;refine bz<|CP N zZ ?_;refine bz<|w6 N zZ ?_ (iK _) (by show(h9 (r.map Value.ref) p).toArray.size<=_;rw[sz,cq];lia);rw[hf];simp;refine bJ<|q U p _ c5 ?_ gg ar up aj f2;obtain⟨w0,w1,w2,w3,w4,w5⟩:=f2;exact I4.turned (t':=s2.toks) (λb o nb e=>(mD _ _<|dX nb).trans e) w0 w1 w3 w4 w5
 unfold ksk_end;simp only[Bool.false_eq_true,if_false];by_cases an:2<=m.length
 .have n2: ¬(r.map Value.ref).toArray.size<2:=by rw[dU];lia
  rw[wA n2,wA n2];have To:=oy g m;have inj:=LC (d:=([]:bw)) To nd;refine bz<|iB (TX (A:=X.A.in1.in1) (by show X.A.units+1+1+8<cLine;lia) I2 () K2) (λκ s0 hk=>?_) λ_ _ x=>x.elim;obtain⟨rfl,hk⟩:=hk;have al:J.length=m.length:=K2.l1;have ae:(J.map Value.ref).Nodup:=by
   refine oV.mpr λi j hi hj ij z=>?_;rw[y6,y6]at z;rw[bA]at hi hj;have z:=Value.ref.inj z;have L:=K2.is i J[i] (r[i]'()) (m[i]'()) (bC hi) (bC _)<|bC _;have e2:=K2.is j J[j] (r[j]'()) (m[j]'()) (bC hj) (bC _) (bC _);obtain⟨L,ak⟩:=L;obtain⟨e2,af⟩:=e2;rw[z,e2]at L;have ea:r[j]'()=r[i]'():=by
    have y:=ge L;injection y with y
    injection y with _ y
    injection y with y
    exact V.ref.inj y
   rw[ea]at af;have et:m[j]'()=m[i]'():=by
    have y:=ge (af.symm.trans ak);injection y with y
    exact(Fb (f:=nv) λa b h=>Bo (V.int.inj h)).mp y
   have e4:=(iA (i:=j) (j:=i) () nd).mp (by rw[bC (),bC (),et]);lia
  refine bz (iB (Ld (ks:=J.map Value.ref) (vs:=r.map Value.ref) (k:=λi=>lM (gt g) m (m.getD i [])) (Q:=λO s'=>s'=s0/\∃p:Array Nat,Arr m.length p/\tA (λi=>lM (gt g) m (m.getD i [])) p m.length/\(arrOf O).map (·.2)=(h9 (r.map Value.ref) p).toArray/\failedOf O=none) ab () ae (by rw[Y];exact inj) (λi j C li lj hC=>hk i j C () () (by
   have e:=To.asks (pC (d:=([]:bw)) (show i<m.length by lia)).2 (pC (d:=([]:bw)) (show j<m.length by lia)).2;show C (gt g (m.getD i []) (m.getD j [])) _
   rw[<-e];exact hC)) λp O a1 a2 a3 a4=>#[zZ,p,by rw[<-Y];exact a1,by rw[<-Y];exact a2,a3,a4]) ?_ λ_ _ x=>x)
  rintro⟨⟨⟩,st⟩ s' ⟨rfl,p,ar,up,M,hf⟩;exact fin st p ar up M hf
 .have n2:(r.map Value.ref).toArray.size<2:=by rw[dU];lia
  rw[wB n2,wB n2];refine bz (bJ (bz (bJ ?_)));refine fin _ (List.range m.length).toArray (Gk _) (λx y xy yn=>by lia) ?_ rfl;rw[<-Y,JN];exact MZ ab
end
section
variable{j:St}
theorem Na(I:Inv X m j H s)(h:H d=some (.dT c))(e:c.map (·.1)=g.map nk):∃M n D,Lies s.heap d n D/\(d==sysModules)=false/\TupsAt H M g/\(∀(i:Nat) E,n[i]?=some E->∃a,M[i]?=some a/\E.key=.ref a)/\n.size=g.length/\g.Nodup/\g.length<=sizeLine:=by
 obtain⟨z,U,w,l,o,n,D,Y,e2,e3,N,nd⟩:=(I.hok d _ h);have l1:=qg l;have l2:c.length=g.length:=by rw[<-bA,e,bA]
 have le:=DY N;have G:∀i t,g[i]?=some t->∃k v y u,c[i]?=some (k,v)/\w[i]?=some (k,y,u)/\k=nk t/\H y=some (.tup (t.map nv)):=λi t B=>by
  have li:=(bN.mp B).1;obtain⟨⟨k,v⟩,r⟩:∃p,c[i]?=some p:=#[_,bC ()];obtain⟨⟨k',y,u⟩,x,J,p2,p3⟩:=DZ l r;have O:k=nk t:=by
   have C:(c.map (·.1))[i]?=some k:=by rw[bT,r];rfl
   rw[e,bT,B]at C;exact(ge C).symm
  have L:=J;subst L;refine#[k,v,y,u,r,x,O,?_];have A:=p2;rw[O,jI]at A;exact A
 refine#[w.map (·.2.1),n,D,#[o,Y,e2,e3],U,#[by rw[bA];lia,λi b t Q B=>?_],λi E T=>?_,(),?_,()]
 .obtain⟨k,v,y,u,_,x,_,hy⟩:=G i t B;rw[bT,x]at Q;cases Q;exact hy
 .rw[entry_at N]at T;obtain⟨q,eq,rfl⟩:=c9.mp T;exact#[q.2.1,by rw[bT,eq];rfl,zZ]
 .have C:(w.map (·.1))=g.map nk:=by
   rw[<-e];refine nq λi=>?_;rw[bT,bT];cases r:c[i]? with
   |none=>rw[iJ (by rw[<-l1];exact List.getElem?_eq_none_iff.mp r)];rfl
   |some p=>
    obtain⟨q,x,J,_⟩:=DZ l r;rw[x];exact cH some J.symm
  rw[C]at nd;exact(yI.mp nd).imp λh z=>h (cH nk z)
theorem LM{e:As}{d:Array DictEntry}{b:AV}(is:∀(i:Nat) c,d[i]?=some c->∃a,e[i]?=some a/\c.key=.ref a)(n:e.length=d.size)(f:ItemsOf (λi v=>∃c,d[i]?=some c/\v=c.key) b d.size):b.toList=e.map Value.ref:=by
 refine nq λi=>?_;by_cases h:i<d.size
 .obtain⟨v,g⟩:∃v,b[i]?=some v:=#[_,kS (by rw[f.1];exact h)];obtain⟨c,j,k⟩:=f.2 i v g;obtain⟨a,l,m⟩:=is i c j;rw[lI,g,bT,l,k,m];rfl
 .rw[iJ (by rw[dy,f.1];lia),iJ (by rw[bA];lia)]
theorem IT:∀l:As,Vals (l.map V.ref) (l.map Value.ref)
 | []=> .nil
 |x::l=> .cons zZ<|IT l
end
inductive iN(g:bw->Int)(f:List V)(H:Hp)(Q:VK):Prop|mk:∀d a c,f=[V.ref d]->H d=some (.dT a)->a.map (·.1)=c.map nk->c.length<64->(∀D bs e b,Same H b->H D=none->b D=some (.lst (bs.map V.ref))->TupsAt b bs e->e.Perm c->e.Pairwise (λx y=>gt g x y=true)->Q (.ref D) b)->iN g f H Q
theorem Mm{a:As}(b:Arr a.length p):h9 (a.map Value.ref) p=(p.toList.map λi=>a.getD i 0).map Value.ref:=by
 rw[eM];refine mI λi c=>?_;have d:i<a.length:=by
  simpa using ((oB.mp b).mem_iff.mp c)
 show(a.map Value.ref).getD i Value.none=Value.ref (a.getD i 0);rw[cW,cW,bT,bC d];rfl
theorem QY{n:St}(N:X.calm=true)(O:X.A.units+64<cLine)(F:FnOk X.prog X.w X.K X.mg X.base bZ x f y B (gX g))(U:Room x X.A.in1.in1)(Y:Binds X.K y B [])(I:Inv X k n H s)(h:iN g [.ref d] H Q):wpAny (model X.prog X.w) X.A (call (.builtin "sorted") [.ref d] [(Str.ofString "key",.ref f)]) (EP X k n Q) X.xe s:=by
 obtain⟨d',aa,ts,e0,hd,e,u,q⟩:=h;cases e0;obtain⟨a,es,ep,L,nm,T,is,le,nd,v⟩:=Na I hd e;refine call_function_entry_kw kind_sorted plain_sorted entry_sorted (ksk_s1 _ _) ?_;unfold Builtin.«sorted»;refine bz<|bJ ?_;refine bz<|kdu_collect (BC nm) (by simpa using I.ok.hd N) L () λj r ab keep it=>?_;rw[(LM is (by rw[T.len,le]) it)];have t:Inv X k n H {s with heap:=j,toks:=r}:=I.kept keep;refine bz<|zY ?_ (by rw[bA,T.len,cq];lia);have C:(j.push<|seqObj "list" (a.map Value.ref).toArray 0).get? j.objs.size=some (seqObj "list" (a.map Value.ref).toArray 0):=dE _ rfl;have I2:Inv X k n H {s with heap:=j.push<|seqObj "list" (a.map Value.ref).toArray 0,toks:=r}:=t.kept λb o z=>cI _ z;have D:=t.hok.fresh<|bR _;refine bz<|jg<|wpAny_call_entry_kw slot_list_sort #[_,C,zZ] Gp (Oz F U Y O I2 T nd u C (t.fpOk (bR _) D) λH2 p s2 c Iz E l up G f2=>#[_,rfl,?_])<|ksk_l1 _ _;have w:Arr a.length p:=by rw[T.len];exact l
 rw[Mm w]at G;obtain⟨J,w1,w2,w3,w4,w5⟩:=f2;have few:((p.toList.map λi=>a.getD i 0).map V.ref).length<=sizeLine:=by
  rw[bA,bA,dy,l.size];exact v
 have I5:=Iz.track (o:= .lst<|(p.toList.map λi=>a.getD i 0).map V.ref) J #[few,_,c,IT _,G] (cz t.sz<|bR _) w1 w4 w5;have M:=bP J<|.lst<|(p.toList.map λi=>a.getD i 0).map V.ref;exact bJ #[_,zZ,.ref j.objs.size,_,I5,zZ,q _ _ _ _ (E.trans M) D bE (((T.same E).pick l).same M) (LP l)<|J1 (oy g ts) l up]
def U0(g:bw->Int)(a:TE):TE:=λb H Q=>a b H λx c=>∃d,x=.ref d/\iN g [.ref d] c Q
theorem SJ{p w y a:Pos}(z:X.calm=true)(A:X.A.units+64<cLine)(B:cn X.prog X.w X.K X.mg X.base b n v (gX g))(C:Room (n+2) X.A)(D:Gl X "sorted")(E:X.mg "sorted"=none)(i:Gl X b)(G:PE X e c)(j:(b==("__debug__":Str))=false:=by decide) (k:starEach [e] X.env=[(false,eval e X.env)]:=by rfl):PE X (.Call (.Name "sorted" p) [e] [#[some "key",.Name b w,y]] a) (U0 g c):=by
 intro J s L H Q I h;obtain⟨f,T,F,l,U,M⟩:=B;refine ve<|vh I D E boot_sorted<|callWith_kw ?_ (by rw[k];rfl) (by rw[k];rfl);refine bS ((bG G bF k) a J s L H (λm o=>match m with| [x]=>∃d,x=.ref d/\iN g [.ref d] o Q|_=>False) I h) λY s1 ⟨m,o,t,r,q⟩=>?_
 match m,r,q with
 | [x],r,q=>
  obtain⟨d,rfl,q⟩:=q;obtain⟨u,rfl,O⟩:=hV r;cases O;refine kws_cons<|z8 t i l (kws_nil<|QY z A F C.in1.in1 M t q) j
end L2
namespace L2
open PySem PySem.Spec PyProof.Rows
section
variable{j:St}
theorem Inv.freeze(I:Inv X l j H s)(h:H d=some (.dT c))(e:s.heap.get? d=some o):Inv X l j (bx H d (.frz o (.dT c))) s:=by
 obtain⟨z,b,f,a,g,i,k,m,n,t,u,nd⟩:=(I.hok d _ h);refine I.write (by rw[h];exact True.intro) (.inl rfl) (λ_ _ _ q=>q) #[o,e] #[e,z,b,f,Paired.mapP a λp q r=>#[r.1,?_,r.2.2],g,i,k,m,n,t,u,nd];rw[bI<|nE r.2.1 h];exact r.2.1
theorem FH(I:Inv X l j H s)(h:H d=some (.frz o (.dT c)))(e:c.map (·.1)=g.map nk):∃B m w,s.heap.get? d=some o/\o.ExactDict/\o.data=.dict m w/\(d==sysModules)=false/\TupsAt H B g/\(∀(i:Nat) x,m[i]?=some x->∃a,B[i]?=some a/\x.key=.ref a)/\m.size=g.length:=by
 obtain⟨C,z,O,A,n,o',m,w,D,Q,T,E,nd⟩:=(I.hok d _ h);rw[C]at D;cases D;have l1:=qg n;have l2:c.length=g.length:=by rw[<-bA,e,bA]
 have le:=DY E;refine#[A.map (·.2.1),m,w,C,Q,T,O,#[by rw[bA];lia,λi b t G J=>?_],λi x L=>?_,()]
 .have li:=(bN.mp J).1;obtain⟨⟨k,v⟩,M⟩:∃p,c[i]?=some p:=#[_,bC ()];obtain⟨⟨k',y,u⟩,U,p1,Y,p3⟩:=DZ n M;have kk:k=nk t:=by
   have N:(c.map (·.1))[i]?=some k:=by rw[bT,M];rfl
   rw[e,bT,J]at N;exact(ge N).symm
  rw[bT,U]at G;cases G;have r:=Y;rw[kk,jI]at r;exact r
 .rw[entry_at E]at L;obtain⟨q,eq,rfl⟩:=c9.mp L;exact#[q.2.1,by rw[bT,eq];rfl,zZ]
end
noncomputable def uq(d:Ad)(o:Obj):It:=
  #[λi H=>∃(b:List (List cE×V)) (c:LN) (t:bw),H d=some (.frz o (.dT b))/\b.map (·.1)=c.map nk/\c[i]?=some t,
   λi H x e=>e=H/\∃a,x=.ref a/\∀b (c:LN),H d=some (.frz o (.dT b))->b.map (·.1)=c.map nk->∃t:bw,c[i]?=some t/\H a=some (.tup (t.map nv)),
   λi H=>∃b,∃c:LN,H d=some (.frz o (.dT b))/\b.map (·.1)=c.map nk/\c.length<=i]
theorem ND{c d:LN}(h:c.map nk=d.map nk):c=d:=ue (λa b e=>DU e) h
theorem Uj{K:V3}(ne:d≠c)(l:o.data=.dict y ep)(ox:o.ExactDict):Turn P w K tg (uq d o) [c] c (λi h=>h.get? c=some (sn d i y.size ep)) where
 mem:=by simp
 obj:=λi h st b f=>by
  have e:b=c:=by simpa using f
  subst e;exact#[_,st,λv z=>by
   cases z]
 keep:=λi h m st k=>k c (by simp) _ st
 item:=by
  intro X A hw B hc i za s σ H E I p st C;obtain⟨D,ts,t,r,u,x⟩:=C;obtain⟨as,G,J,L,e2,g,nm,T,is,le⟩:=FH I r u;rw[l]at g;cases g;obtain⟨M,N,f2,O,U,Y⟩:=p c (by simp);have li:=(bN.mp x).1;obtain⟨en,ee⟩:∃en,y[i]?=some en:=#[_,kS ()];obtain⟨a,ea,ek⟩:=is i en ee;refine Jo st #[o,L,ox,l] ee λm j sb=>?_;refine#[_,zZ,AD j rfl rfl zZ #[.ref a,H,(I.turned (t':=s.toks) (λb o f e=>(sb.2 b f).trans e) M N O U Y),ek,#[rfl,a,rfl,λaa ab g1 g2=>?_],j,λb f=>(p b f).1]];rw[r]at g1;cases g1;have tt:=ND (u.symm.trans g2);subst tt;exact#[t,x,T.is i a t ea x]
 done:=by
  intro X A hw B hc i za s σ H E I p st C;obtain⟨D,ts,r,u,x⟩:=C;obtain⟨as,G,J,L,e2,g,nm,T,is,le⟩:=FH I r u;rw[l]at g;cases g;obtain⟨M,N,f2,O,U,Y⟩:=p c (by simp);exact M3 (I.ok.hd hc) st #[o,L,ox,l] (Hi ()) λm eb=>#[zZ,I.turned (λb o f e=>eb b o f e) M N O U Y]
 self:=λ_ i s Q E st q=>by
  have ty:s.TypeIs (.ref c) "dict_keyiterator":=#[_,st,zZ];refine zb ty Cq (mC Cq ty Ka ?_ (MJ _));exact bJ #[_,zZ,"dict_keyiterator",_,ty,u7.lookup,q]
def Qt(H:Hp)(d:Ad)(o:Obj)(a:List (List cE×V))(b:Hp):Prop:=(H d=some (.frz o (.dT a))/\b=H)\/(H d=some (.dT a)/\b=bx H d (.frz o (.dT a)))
def Au(e:TE):TI:=λf H R=>e f H λx b=>∃d a,∃g:LN,x=.ref d/\a.map (·.1)=g.map nk/\(b d=some (.dT a)\/∃o,b d=some (.frz o (.dT a)))/\∀o c,Qt b d o a c->R (uq d o) c
theorem ML(z:PE X l tl):PI X a l (Au tl):=by
 intro m s n H R I h;refine bS (z m s n H _ I h) λv f ⟨x,t,p,A,B⟩=>?_;obtain⟨d,g,G,e,C,w,q⟩:=B;subst e;cases A;have go:∀i o,Inv X m n i f->i d=some (.frz o<|.dT g)->R (uq d o) i->wpAny (model X.prog X.w) X.A (pyIter<|.ref d) (Gx X m n a R) X.xe f:=λi o j c r=>by
  obtain⟨J,L,M,k,u,y,D,_⟩:=FH j c C;refine KO D #[o,k,u,y] ?_;refine#[f.heap.objs.size,[f.heap.objs.size],_,_,i,zZ,j.kept λb o e=>cI _ e,Uj (dr<|cy k) y u,dE _ zZ,λb E=>?_,r];have e:b=f.heap.objs.size:=by grind
  subst e;exact j.fpOk (bR _)<|j.hok.fresh<|bR _
 rcases w with c|⟨o,c⟩
 .obtain⟨_,_,_,_,o,_,_,k,_⟩:=(p.hok d _ c);exact go _ o (p.freeze c k) bE<|q o _<|.inr #[c,zZ]
 .exact go t o p c<|q o _<|.inl #[c,zZ]
section
variable{c:LN}{Fin:List V->Hp->Prop}
theorem Vb(u:f.map (·.1)=c.map nk)(Pv:Nat->List V->Hp->Prop)(N:c.length<=sizeLine)(x:Pv 0 [] H)(z:∀i n H,i<=c.length->Pv i n H->H d=some (.frz o (.dT f))/\n.length<=i)(A:∀i a t n H,c[i]?=some t->H a=some (.tup (t.map nv))->Pv i n H->g (.ref a) (jt j h) H λr B=>b7i (jt j h) r/\k r B λb w=>if b=true then l r w λy C=>Pv (i+1) (n++[y]) C else Pv (i+1) n w)(D:∀n H,Pv c.length n H->Fin n H):n7 j g k l h (uq d o) H Fin:=by
 refine#[λi m n H=>m=c.length-i/\i<=c.length/\Pv i n H,#[c.length,by simp,Nat.zero_le _,x],?_];rintro i m n H ⟨rfl,E,p⟩;obtain⟨q,O⟩:=z i n H E p;by_cases s:i<c.length
 .refine .inr #[#[f,c,c[i],q,u,by simp],(),Pv<|i+1,λQ G I=>#[c.length-(i+1),Nat.sub_succ_lt_self _ _ s,zZ,s,I],λv G y=>?_];obtain⟨e,a,J,y⟩:=y;subst e J;obtain⟨t,L,M⟩:=y f c q u;exact A i a t n _ L M p
 .have e:i=c.length:=by lia
  subst e;exact .inl #[#[f,c,q,u,bR _],(),D n H p]
end
section
variable{ts:LN}{g:TG}{f:TS}{D:Ends}
theorem NM(n:c.map (·.1)=ts.map nk)(Pv:Nat->St->Hp->Prop)(u:Pv 0 b H)(v:∀i b H,i<=ts.length->Pv i b H->H d=some (.frz o (.dT c)))(w:∀i a t b H,ts[i]?=some t->H a=some (.tup (t.map nv))->Pv i b H->g (.ref a) b H λh r=>f {D with nx:=Pv (i+1),ct:=Pv (i+1),bk:=D.nx} h r) (z:∀b H,Pv ts.length b H->D.nx b H):
  ∃W:Nat->Nat->St->Hp->Prop,(∃m,W 0 m b H)/\∀i m b H,W i m b H->
   ((uq d o).stop i H/\D.nx b H)\/((uq d o).go i H/\∃N,(∀j k,N j k->∃s,s<m/\W (i+1) s j k)/\∀x k,(uq d o).yld i H x k->g x b k λh r=>f {D with nx:=N,ct:=N,bk:=D.nx} h r):=by
 refine#[λi m b H=>m=ts.length-i/\i<=ts.length/\Pv i b H,#[ts.length,by simp,Nat.zero_le _,u],?_];rintro i m b H ⟨rfl,A,p⟩;have q:=v i b H A p;by_cases l:i<ts.length
 .refine .inr #[#[c,ts,ts[i],q,n,by simp],Pv<|i+1,λj k B=>#[ts.length-(i+1),Nat.sub_succ_lt_self _ _ l,zZ,l,B],λx k y=>?_];obtain⟨e,a,C,y⟩:=y;subst e C;obtain⟨t,E,G⟩:=y c ts q n;exact w i a t b _ E G p
 .have e:i=ts.length:=by lia
  subst e;exact .inl #[#[c,ts,q,n,bR _],z b H p]
end
section
variable{d:St}
theorem Inv.turnedN{ch:As}(I:Inv X a d H s)(k:∀b o,b∉ch->s.heap.get? b=some o->h'.get? b=some o)(h:∀b∈ch,FpOk X a H b):Inv X a d H {s with heap:=h',toks:=t'}:=by
 have i:∀b u,H b=some u->b∉ch:=λb u e f=>by rw[(h b f).1]at e;cases e
 refine I.step (λb f=>?_) (λb o _ _ g e _=>k b o g e) (λb o _ _ g e _=>#[o.slots,k b o g e]) (λb o _ _ n=>n) (λb o g e=>#[o,k b o g e])
  (λb w q=>q) (λb o u q=>q) (λb x q=>#[#v[],by rw[q];simp]) (λm j=>?_) (λb u q=>?_) I.bare
 .obtain⟨_,l,_,p,r,t⟩:=h b f;exact#[p,l,r,t]
 .exact j.at' λo e=>k _ o (λf=>(h _ f).2.1 zZ) e
 .refine(I.hok b u q).stay (λc o v e=>k c o ?_ e) (λ_ z=>z) λ_ _ z=>z
  rcases v with z|z
  .rw[z];exact i b u q
  .exact i c _ z
end
structure ZipL(h:Heap)(z TI TO i1 i2 t1 t2:Ad)(f0:Vl)(i:Nat):Prop where
 zip:IsZip h z TI TO f0
 ins:IsPair h TI (.ref i1) (.ref i2)
 out:∃a b,IsPair h TO a b
 one:h.IsListIter i1 t1 i
 two:h.IsListIter i2 t2 i
theorem P4{n a b:Nat}(c:a<n)(d:b<n):ZipApart (n+4) (n+2) (n+3) n (n+1) a b:=by
 constructor<;>(intro h;have e:=h;lia)
theorem Mb{z TO a b c:Ad}(h:c∉[z,TO,a,b]):c≠z/\c≠TO/\c≠a/\c≠b:=by grind
noncomputable def AI(K:V3)(c d:Ad):It:=
  #[λi H=>∃a b x y,SqL K H c a/\SqL K H d b/\a[i]?=some x/\b[i]?=some y,
   λi H v e=>∃T x y,v=.ref T/\H T=none/\e=bx H T (.tup [x,y])/\(∀a,SqL K H c a->a[i]?=some x)/\∀b,SqL K H d b->b[i]?=some y,
   λi H=>∃a b,SqL K H c a/\SqL K H d b/\(a.length<=i\/b.length<=i)]
theorem TV{K:V3}{z TI TO g j L M:Ad}(D:ZipApart z TI TO g j L M):
  Turn P w K (.Tuple t x1 Y) (AI K L M) [z,TI,TO,g,j] z (λi h=>ZipL h z TI TO g j L M .none i) where
 mem:=cJ ..
 obj:=λi h Z b f=>by
  obtain⟨a0,b0,n⟩:=Z.out;simp only[List.mem_cons,List.not_mem_nil,or_false]at f
  rcases f with rfl|rfl|rfl|rfl|rfl
  .exact#[_,Z.zip,λv q=>by cases q]
  .exact#[_,Z.ins,λv q=>by cases q]
  .exact#[_,n,λv q=>by cases q]
  .obtain⟨o,e,c,d⟩:=Z.one;exact#[o,e,λv z=>by rw[d]at z;cases z]
  .obtain⟨o,e,c,d⟩:=Z.two;exact#[o,e,λv z=>by rw[d]at z;cases z]
 keep:=λi h h' Z k=>#[k z (by simp) _ Z.zip,k TI (by simp) _ Z.ins,let⟨a,b,o⟩:=Z.out;#[a,b,k TO (by simp) _ o],Z.one.at λo e=>k g (by simp) o e,Z.two.at λo e=>k j (by simp) o e]
 item:=by
  intro X hP hw hK hc i N s O H E I A Z hg;subst hP hw hK;obtain⟨xs,ys,x,y,Q,T,hx,hy⟩:=hg;obtain⟨aa,rv,p1,_⟩:=I.list Q;obtain⟨B,p,p2,_⟩:=I.list T;obtain⟨u,hu,ru⟩:=rv.get hx;obtain⟨v,hv,ab⟩:=p.get hy;obtain⟨ae,af,l⟩:=Z.out;refine wpAny_pyNext_zip_item D Z.zip Z.ins l Z.one Z.two p1.isList p2.isList (by simpa using hu) (by simpa using hv) λr c1 c2 c3 c4 pr _ U=>?_;have k1:=λc o nc e=>let⟨n1,n2,n3,n4⟩:=Mb nc;U c o n1 n2 n3 n4 e
  have C:ZipL r z TI TO g j L M (rawInt s.heap.objs.size) (i+1):=#[c1,U _ _ D.TIz D.TITO D.TIi1 D.TIi2 Z.ins,#[_,_,c2],c3,c4];have sub:∀b∈[z,TO,g,j],b∈[z,TI,TO,g,j]:=λb f=>by simp only[List.mem_cons,List.not_mem_nil,or_false]at f|-;rcases f with e|e|e|e<;>simp[e]
  have I1:=I.turnedN (t':=s.toks) k1 λb f=>A b<|sub b f;have ok:ObjOk X.prog X.w (bx H s.heap.objs.size<|.tup [x,y]) r s.heap.objs.size (.tup [x,y]):=#[by show 2<=sizeLine;decide,[u,v],.cons ru<|.cons ab .nil,#[_,pr,zZ,_,zZ,zZ]];have I2:=Inv.trackNew I I1 ok;refine#[_,zZ,wpAny_letOwnedTupleGo_zip C.zip λh2 z2 G=>?_];obtain⟨a0,b0,n⟩:=C.out;have old:∀b∈[z,TI,TO,g,j],b≠s.heap.objs.size:=λb f=>by
   obtain⟨a1,b1,J⟩:=Z.out;simp only[List.mem_cons,List.not_mem_nil,or_false]at f
   rcases f with rfl|rfl|rfl|rfl|rfl
   .exact dr<|cy Z.zip
   .exact dr<|cy Z.ins
   .exact dr<|cy J
   .obtain⟨o,e,_⟩:=Z.one;exact dr<|cy e
   .obtain⟨o,e,_⟩:=Z.two;exact dr<|cy e
  have m:∀b∈[z,TI,TO,g,j],bx H s.heap.objs.size (.tup [x,y]) b=none:=λb f=>by rw[bI<|old b f];exact(A b f).1
  obtain⟨f0,f1,f2,f3,f4,f5⟩:=A z<|cJ ..;have I3:=I2.turned (t':=s.toks) (λb o nb e=>G.extBut b o nb e) (m z<|cJ ..) f1 f3 f4 f5;refine#[.ref s.heap.objs.size,_,I3,zZ,#[_,x,y,zZ,(I.hok.fresh<|bR _),zZ,λag h=>?_,λah h=>?_],#[z2,G.extBut _ _ D.TIz C.ins,#[a0,b0,G.extBut _ _ D.TOz n],C.one.at λo e=>G.extBut _ _ D.i1z e,C.two.at λo e=>G.extBut _ _ D.i2z e],m]
  .rw[I.list_inj h Q];exact hx
  .rw[I.list_inj h T];exact hy
 done:=by
  intro X hP hw hK hc i N s O H E I A Z hg;subst hP hw hK;obtain⟨xs,ys,Q,T,he⟩:=hg;obtain⟨aa,rv,p1,_⟩:=I.list Q;obtain⟨B,p,p2,_⟩:=I.list T;have l1:=rv.length;have l2:=p.length;have sub:∀b∈[z,TO,g,j],b∈[z,TI,TO,g,j]:=λb f=>by simp only[List.mem_cons,List.not_mem_nil,or_false]at f|-;rcases f with e|e|e|e<;>simp[e]
  obtain⟨ae,af,l⟩:=Z.out;refine wpAny_pyNext_zip_end (I.ok.hd hc) D Z.zip Z.ins l Z.one Z.two p1.isList p2.isList ?_ λr U=>#[zZ,I.turnedN (λc o nc e=>let⟨n1,n2,n3,n4⟩:=Mb nc;U c o n1 n2 n3 n4 e) λb f=>A b<|sub b f]
  rcases he with h|h
  .exact .inl (by simp;lia)
  .exact .inr (by simp;lia)
 self:=λ_ _ _ _ _ Z q=>wpAny_pyIter_zip Z.zip q
def Ag(K:V3)(d:TA):TI:=λe H R=>d e H λf a=>∃b c g h,f=[.ref b,.ref c]/\SqL K a b g/\SqL K a c h/\R (AI K b c) a
theorem HX{c:List Expr}{J:Nat}{L:Pos}{p d:Pos}(M:Gl X "zip")(N:X.mg "zip"=none)(O:PA X [a,b] u)(Q:starEach [a,b] X.env=[(false,eval a X.env),(false,eval b X.env)]:=by rfl)
  (f:starEach [b] X.env=[(false,eval b X.env)]:=by rfl):PI X (.Tuple c J L) (.Call (.Name "zip" p) [a,b] [] d) (Ag X.K u):=by
 intro v s w H R I h;refine Call_<|vh I M N boot_zip<|Cm (bS (O d v s w H _ I h) λx s1 ⟨vs,y,g,T,l⟩=>?_) (by rw[Q,f]) (by rw[f];rfl);obtain⟨j,k,xs,ys,e,l,U,q⟩:=l;subst e;obtain⟨m,x,rfl,n,Y⟩:∃m i,x=m::i/\RelV (.ref j) m/\Vals [.ref k] i:=by cases T with|cons a b=>exact#[_,_,rfl,a,b]
 obtain⟨u2,rfl,o⟩:=hV Y;cases n;cases o;obtain⟨aa,rv,z,_⟩:=g.list l;obtain⟨A,ab,B,_⟩:=g.list U;have r:=let⟨_,e,_⟩:=z.isList;cy e
 have t:=let⟨_,e,_⟩:=B.isList;cy e
 refine call_zip_2 z.isList B.isList λC c1 c2 c3 c4 c5 _ all=>?_;have Z:ZipL C (s1.heap.objs.size+4) (s1.heap.objs.size+2) (s1.heap.objs.size+3) s1.heap.objs.size (s1.heap.objs.size+1) j k .none 0:=#[c1,c2,#[_,_,c3],c4,c5];refine wpAny_pyIter_zip Z.zip ?_;have I2:=g.kept (t':=s1.toks) all;have D:=P4 r t;refine#[_,_,_,_,y,zZ,I2,TV D,Z,λb E=>?_,q];have G:s1.heap.objs.size<=b:=by grind
 exact g.fpOk G<|g.hok.fresh G
theorem Fs{K:V3}{g:TG}{n:TS}{D:Ends}(Pv:Nat->St->Hp->Prop)(q:Pv 0 a H)(r:∀i a H,Pv i a H->SqL K H f xs/\SqL K H h ys)(s:∀i x y T a H,xs[i]?=some x->ys[i]?=some y->H T=none->Pv i a H->g (.ref T) a (bx H T (.tup [x,y])) λb j=>n {D with nx:=Pv (i+1),ct:=Pv (i+1),bk:=D.nx} b j) (t:∀a H,Pv (min xs.length ys.length) a H->D.nx a H):
  ∃W:Nat->Nat->St->Hp->Prop,(∃m,W 0 m a H)/\∀i m a H,W i m a H->
   ((AI K f h).stop i H/\D.nx a H)\/((AI K f h).go i H/\∃N,(∀c d,N c d->∃o,o<m/\W (i+1) o c d)/\∀x d,(AI K f h).yld i H x d->g x a d λb j=>n {D with nx:=N,ct:=N,bk:=D.nx} b j):=by
 refine#[λi m a H=>m=min xs.length ys.length-i/\i<=min xs.length ys.length/\Pv i a H,#[min xs.length ys.length,by simp,Nat.zero_le _,q],?_];rintro i m a H ⟨rfl,E,p⟩;obtain⟨k,l⟩:=r i a H p;by_cases lt:i<min xs.length ys.length
 .have u:i<xs.length:=by lia
  have w:i<ys.length:=by lia
  refine .inr #[#[xs,ys,xs[i],ys[i],k,l,bC u,bC w],Pv<|i+1,λc d A=>#[min xs.length ys.length-(i+1),(),zZ,lt,A],λv d z=>?_];obtain⟨T,x,y,rfl,hT,rfl,B,C⟩:=z;exact s i x y T a H (B xs k) (C ys l) hT p
 .have e:i=min xs.length ys.length:=by lia
  exact .inl #[#[xs,ys,k,l,()],t a H<|e▸p]
noncomputable def Aw(K:V3)(l:Ad):It:=
  #[λi H=>∃a x,SqL K H l a/\a[i]?=some x,
   λi H v b=>∃T x,v=.ref T/\H T=none/\b=bx H T (.tup [.int (i:Nat),x])/\∀a,SqL K H l a->a[i]?=some x,
   λi H=>∃a,SqL K H l a/\a.length<=i]
def UE(e a l:Ad)(i:Nat)(h:Heap):Prop:=(∃old,IsEnum h e a (i:Nat) old)/\h.IsListIter a l i
theorem Vf{K:V3}{e d l:Ad}(U:e≠d):Turn P w K (.Tuple m x1 B) (Aw K l) [e,d] e (λi h=>UE e d l i h) where
 mem:=cJ ..
 obj:=λi h Z b f=>by
  obtain⟨⟨old,c⟩,o,g,r,C⟩:=Z;simp only[List.mem_cons,List.not_mem_nil,or_false]at f
  rcases f with rfl|rfl
  .exact#[_,c,λv q=>by cases q]
  .exact#[_,g,λv q=>by rw[C]at q;cases q]
 keep:=λi h n Z k=>by
  obtain⟨⟨old,c⟩,o,g,r,C⟩:=Z;exact#[#[old,k e (by simp) _ c],o,k d (by simp) _ g,r,C]
 item:=by
  intro X D hw G Y i t s y H E I p Z J;subst D hw G;obtain⟨xs,x,A,hx⟩:=J;obtain⟨⟨old,c⟩,g⟩:=Z;obtain⟨L,M,N,_⟩:=I.list A;obtain⟨u,hu,ru⟩:=M.get hx;refine wpAny_pyNext_enum_item c g N.isList (by simpa using hu) U λn ho O hT hs k=>?_;have nT:=I.hok.fresh (bR _);have ok:ObjOk X.prog X.w (bx H s.heap.objs.size (.tup [.int (i:Nat),x])) n s.heap.objs.size (.tup [.int (i:Nat),x]):=#[by show 2<=sizeLine;decide,[_,u],.cons #[_,zZ] (.cons ru .nil),#[_,hT,zZ,_,zZ,zZ]];have I2:=Inv.trackNew I (I.turnedN (t':=s.toks+1) (λb o j Q=>k b o (λz=>j (by simp[z])) (λz=>j (by simp[z])) Q) p) ok;refine#[_,zZ,wpAny_letOwnedTupleGo_enum ho λr T sb=>?_];have li:d<s.heap.objs.size:=by obtain⟨_,z,_⟩:=g;exact cy z
  have a:∀b∈[e,d],bx H s.heap.objs.size (.tup [.int (i:Nat),x]) b=none:=λb f=>by
   have j:b≠s.heap.objs.size:=by
    simp only[List.mem_cons,List.not_mem_nil,or_false]at f
    rcases f with rfl|rfl
    .exact dr (cy c)
    .exact dr li
   rw[bI j];exact(p b f).1
  obtain⟨f0,f1,f2,f3,f4,f5⟩:=p e (cJ ..);refine#[.ref s.heap.objs.size,_,(I2.turned (t':=s.toks+1) (λb o j e=>sb.extBut b o j e) (a e (cJ ..)) f1 f3 f4 f5),zZ,#[_,x,zZ,nT,zZ,λaa h=>?_],#[#[_,T],?_],a]
  .rw[I.list_inj h A];exact hx
  .obtain⟨o,z1,z2,z3⟩:=O;exact#[o,sb.extBut _ _ (dX U) z1,z2,z3]
 done:=by
  intro X D hw G Y i t s y H E I p Z J;subst D hw G;obtain⟨xs,A,he⟩:=J;obtain⟨⟨old,c⟩,g⟩:=Z;obtain⟨L,M,N,_⟩:=I.list A;have l1:=M.length;refine wpAny_pyNext_enum_end (I.ok.hd Y) c g N.isList (by simp;lia) λn k=>#[zZ,?_];exact I.turnedN (ch:=[d]) (λb o j Q=>k b o (λz=>j (by simp[z])) Q) λb f=>p b (by rw[List.mem_singleton.mp f];simp)
 self:=λ_ _ _ _ _ Z q=>by
  obtain⟨⟨old,c⟩,_⟩:=Z;exact wpAny_pyIter_enum c q
def BA(K:V3)(b:TA):TI:=λc H R=>b c H λd a=>∃l e,d=[.ref l]/\SqL K a l e/\R (Aw K l) a
theorem KA(y:Gl X "enumerate")(z:X.mg "enumerate"=none)(A:PA X [a] m)(B:starEach [a] X.env=[(false,eval a X.env)]:=by rfl):PI X (.Tuple c w x) (.Call (.Name "enumerate" p) [a] [] d) (BA X.K m):=by
 intro n s o H R I h;refine Call_<|vh I y z boot_enumerate<|Cm (bS (A d n s o H _ I h) λM s1 ⟨N,r,f,C,g⟩=>?_) (by rw[B];rfl) zZ;obtain⟨l,O,e,g,q⟩:=g;subst e;obtain⟨Q,rfl,i⟩:=hV C;cases i;obtain⟨D,T,E,_⟩:=f.list g;refine call_enumerate_list E.isList λG t J sz k=>wpAny_pyIter_enum t ?_;refine#[_,_,_,_,r,zZ,(f.kept (t':=s1.toks) k),Vf<|pd<|ti _,#[#[_,t],J],λb u=>?_,q];have v:s1.heap.objs.size<=b:=by grind
 exact f.fpOk v<|f.hok.fresh v
section
variable{K:V3}{g:TG}{b:TS}{D:Ends}
theorem LQ(Pv:Nat->St->Hp->Prop)(n:Pv 0 a H)(o:∀i a H,i<=xs.length->Pv i a H->SqL K H l xs)(r:∀i T x a H,xs[i]?=some x->H T=none->Pv i a H->g (.ref T) a (bx H T (.tup [.int (i:Nat),x])) λc j=>b {D with nx:=Pv (i+1),ct:=Pv (i+1),bk:=D.nx} c j) (s:∀a H,Pv xs.length a H->D.nx a H):
  ∃W:Nat->Nat->St->Hp->Prop,(∃m,W 0 m a H)/\∀i m a H,W i m a H->
   ((Aw K l).stop i H/\D.nx a H)\/((Aw K l).go i H/\∃N,(∀d f,N d f->∃k,k<m/\W (i+1) k d f)/\∀x f,(Aw K l).yld i H x f->g x a f λc j=>b {D with nx:=N,ct:=N,bk:=D.nx} c j):=by
 refine#[λi m a H=>m=xs.length-i/\i<=xs.length/\Pv i a H,#[xs.length,by simp,Nat.zero_le _,n],?_];rintro i m a H ⟨rfl,t,p⟩;have q:=o i a H t p;by_cases h:i<xs.length
 .refine .inr #[#[xs,xs[i],q,by simp],Pv<|i+1,λd f u=>#[xs.length-(i+1),Nat.sub_succ_lt_self _ _ h,zZ,h,u],λv f y=>?_];obtain⟨T,x,rfl,w,rfl,y⟩:=y;exact r i T x a _ (y xs q) w p
 .have e:i=xs.length:=by lia
  subst e;exact .inl #[#[xs,q,bR _],s a H p]
end
open PySem PySem.Spec PySem.W PyProof.Rows
inductive iP(e:List V)(H:Hp)(Q:VK):Prop|mk:∀d a b,e=[V.ref d]->H d=some (.dT a)->a.map (·.1)=b.map nk->(∀t∈b,t≠[])->b.length<=4000->(∀D bs c,H D=none->TupsAt H bs c->c.Perm b->c.Pairwise (λx y=>dF x y=true)->Q (.ref D) (bx H D (.lst (bs.map V.ref))))->iP e H Q
theorem SY(hc:X.calm=true):iu X (.builtin "sorted") iP:=by
 intro G s J H xs us Q I rr h;obtain⟨d,ae,g,rfl,hd,e,ne,few,q⟩:=h;obtain⟨u,rfl,ru⟩:=hV rr;cases ru;obtain⟨n,es,ep,L,nm,f,is,le,nd,M⟩:=Na I hd e;refine IS kind_sorted plain_sorted entry_sorted (args_sorted1 _) ?_;unfold Builtin.«sorted»;refine bz (bJ ?_);refine bz (kdu_collect (BC nm) (by simpa using I.ok.hd hc) L (by rw[sizeLine_eq];lia) λl y af keep it=>?_);have N:=LM is (by rw[f.len,le]) it;rw[N];have D:(n.map Value.ref).length=g.length:=by rw[bA,f.len]
 refine bz (zY ?_ (by rw[D,cq];lia));have T:=SG g;have inj:=LC (d:=([]:bw)) T nd;have O:=OD f nd;have eD:(l.push (seqObj "list" (n.map Value.ref).toArray 0)).get? l.objs.size=some (seqObj "list" (n.map Value.ref).toArray 0):=dE _ rfl;have B:∀{b:Ad} {o:Obj},s.heap.get? b=some o->b≠l.objs.size:=λz=>dr (cy (keep _ _ z));refine bz (jg (mC slot_list_sort #[_,eD,zZ] Gp (UG eD (by rw[D];exact few) O (λi j hi hj z=>inj i j () () z) (λE U h2=>?_) λp E c r up e U=>#[_,zZ,?_]) (args_list_sort _)))
 .have Y:Inv X G J H {s with heap:=E,toks:=y}:=I.kept λb o z=>U b o (B z) (cI _ (keep b o z));have z:=Q3 (P:=X.prog) (w:=X.w) (A:=X.A.in1.in1) D () (λi v t e1 e2=>by
   rw[bT]at e1;obtain⟨a,N,rfl⟩:=c9.mp e1;exact#[A6 Y.hok (f.is i a t N e2),ne t (bX e2)])
  refine iB z (λκ s' hk=>#[hk.1,λi j C li lj hC=>hk.2 i j C li lj ?_]) λ_ _ x=>x;have e:=T.asks (pC (d:=([]:bw)) (show i<g.length by lia)).2 (pC (d:=([]:bw)) (show j<g.length by lia)).2;show C (dF (g.getD i []) (g.getD j [])) _;rw[<-e];exact hC
 .rw[D]at r up;have Y:Inv X G J H {s with heap:=E,toks:=y}:=I.kept λb o z=>U b o (B z) (cI _ (keep b o z));have I0:Inv X G J H {s with heap:=l,toks:=y}:=I.kept keep;have hD:=I0.hok.fresh (bR _);obtain⟨f0,f1,f2,f3,f4,f5⟩:=I0.fpOk (H':=H) (bR _) hD;have ab:Arr n.length p:=by rw[f.len];exact r
  rw[Mm ab]at e;have fw:((p.toList.map λi=>n.getD i 0).map V.ref).length<=sizeLine:=by
   rw[bA,bA,dy,r.size];exact M
  exact bJ #[_,zZ,.ref l.objs.size,_,Y.track (o:= .lst ((p.toList.map λi=>n.getD i 0).map V.ref)) hD #[fw,_,c,IT _,e] I0.sz f1 f4 f5,zZ,q _ _ _ hD (f.pick r) (LP r) (J1 T r up)]
theorem K8(l:Ad)(a:AV)(n)(v:Option Ad)(sl:Array (Option Vl))(x:Vl)(e:Vl->Bool)(j)(M:j<a.size)(p:e a[j]=true)(q:∀m N,m<j->e a[m]=false):
  Meets (Builtin.«tuple.index» #[[.ref l,x],[]]) (λA R s=>s.heap.get? l=some {cls:= .type "tuple",dict:=v,data:= .seq a n,slots:=sl}/\(∀y,y∈a->SeqAt.EqAt A.in1 s y x (e y))/\R (.ok (.ret (.int j s.toks))) {s with toks:=s.toks+1}):=
 .of_wp λf w A R s h=>by
  obtain⟨B,g,d,C,os⟩:=s;obtain⟨D,E,h⟩:=h;unfold Builtin.«tuple.index»;simp only[Std.Legacy.Range.forIn_eq_forIn_range'];have G:∀k,([:k]:Std.Legacy.Range).size=k:=λk=>by simp
  wp_walk using D2 D,wpAny_forIn_list _ (λrest b r=>r=#[B,g,d,C,os]/\b=(none,Unit.unit)/\∃i,i<=j/\rest=List.range' i (a.size-i)) _
  case h=>exact#[zZ,zZ,0,iK _,by rw[G,ye];rfl]
  case turn=>
   rintro i rest b r ⟨rfl,rfl,u,H,o⟩;have I:a.size-u=(a.size-(u+1))+1:=by lia
   rw[I,List.range'_succ]at o;injection o with J L
   subst J;have t:i<a.size:=by lia
   rw[kS t];refine bz<|E _ (Array.getElem_mem t) f w _ _ ?_;by_cases c:i=j
   .subst c;rw[p];exact bz<|bz<|nB<|bJ<|bJ<|bJ #[_,zZ,h]
   .rw[q i t ()];exact bJ #[zZ,zZ,i+1,(),L]
  case fin=>
   rintro b r ⟨rfl,rfl,i,H,o⟩;have z:=cH List.length o;rw[List.length_range']at z;simp at z;lia
inductive l6(K:V3)(x:V)(b:List V)(H:Hp)(Q:VK):Prop|mk:∀l (a:Zs) i,x=.ref l->b=[.int i]->SqT K H l (a.map V.int)->i∈a->Q (.int (a.idxOf i:Nat)) H->l6 K x b H Q
theorem OK:mZ X "tuple.index" (l6 X.K):=by
 intro E s G H x J v L Q I j m h;obtain⟨l,b,i,rfl,rfl,o,p,q⟩:=h;cases j;obtain⟨u,rfl,t,rfl⟩:=m.one;obtain⟨a,r,w,M⟩:=I.tuple o;obtain⟨⟨N,z,O,A⟩,e,f,n,g⟩:=w;subst f g;have c:=S7 r;have T:=c.length;have B:=yW.mpr p;refine ud F.slot_tuple_index #[_,e,zZ] F.entry_tuple_index (F.args_tuple_index_2 _ _) (K8 l a.toArray n z A (.int i t) (isInt i) (b.idxOf i) (by simp;lia) ?_ ?_)
  #[e,λy C=>(eq_isInt i t c y (by simpa using C)).at _ _,#[.int (b.idxOf i:Nat),H,I.tok _,#[_,zZ],q]]
 .show isInt i a[b.idxOf i]=true;rw[isInt_at i c _ () B];simp
 .intro k D d;show isInt i a[k]=false;rw[isInt_at i c _ () ()];exact ne_of_lt_idxOf d _
def G7(r:V->List V->Hp->VK->Prop)(to:TE)(t:TA):TE:=λa H Q=>to a H λx b=>(∃p c,x=.ref p/\b p=some (.tup c))/\t a b λd e=>r x d e Q
theorem Kt{d b:Pos}{id:String}(i:Slot "tuple" name id)(k:typeOf (.builtin id)=pure (.type "method_descriptor"))(A:mZ X id r)(B:PE X o to)(C:PA X (e::c) t)(f:attributeBase o name X.env (eval o X.env)=eval o X.env:=by rfl)
  (j:((backTo b (starEach (e::c) X.env)).all (λx=> !x.1)&&(backToKw b (keywordEach [] X.env)).all (λx=>x.1.isSome)&&decide ((e::c).length+([]:List Keyword).length+(if([]:List Keyword).isEmpty then 0 else 1)<30))=true:=by rfl)
  (g:(d.endLine==b.line)=true:=by rfl) (D:starEach (e::c) X.env=(false,eval e X.env)::starEach c X.env:=by rfl) (E:(backTo b (starEach c X.env)).any (·.1)=false:=by rfl):
  PE X (.Call (.Attribute o name d) (e::c) [] b) (G7 r to t):=by
 intro l s m H Q I h;refine wpAny_Call_method_late f j g zZ<|bS (B l s m H _ I h) λv n ⟨x,q,u,G,⟨p,J,L,M⟩,N⟩=>?_;subst L;cases(G);obtain⟨_,_,_,w,y,O,_,_,T⟩:=(u.hok p _ M);refine#["tuple",id,F.plainAttrs_tuple,i,k,#[w,y,O],λa U=>?_,?_]
 .cases U;exact#[w,y,T]
 have z:=C b l n m q _ u N;rw[D]at z|-;refine Fu (show(false || (backTo b<|starEach c X.env).any λx=>x.1)=false by rw[E];rfl)<|Calls.evalArgs_plain<|bS z λY s2 ⟨vs,H2,I2,r2,q2⟩=>A l s2 m H2 (.ref p) vs (.ref p) Y Q I2 zZ r2 q2
end L2
namespace L2
open PySem PySem.Spec PyProof.Rows
def NoAs(K:V3)(C:Ad):Ss->Prop
 | []=>True
 |f::fs=>W.findIn K (.ref C) f=some none/\NoAs K C fs
structure OwnC(K:V3)(C:Ad)(fs:Ss):Prop where
 cl:Cls K C
 na:NoAs K C fs
theorem NoAs.get{K:V3}{f:Str}:∀{fs},NoAs K C fs->f∈fs->NoAttr K C f
 | [],_,h=>nomatch h
 | g::fs,n,h=>by
  rcases db.mp h with e|e
  .subst e;exact n.1
  .exact NoAs.get n.2 e
theorem OwnC.no{K:V3}(o:OwnC K C fs)(h:fs.contains f=true:=by rfl):NoAttr K C f:=o.na.get<|im.mp h
theorem NoAs.nil{K:V3}:NoAs K C []:=True.intro
theorem NoAs.cons{K:V3}{C:Ad}{f:Str}{fs:Ss}(h:W.findIn K (.ref C) f=some none)(n:NoAs K C fs):NoAs K C (f::fs):=#[h,n]
abbrev FU(K:V3)(C:Ad)(m q:Str)(st:Stmt)(f:Ad)(a:Fd):Prop:=W.findIn K (.ref C) m=some (some (.ref f))/\W.isFn K (.ref f)=true/\Fun K m q st f a
def fh(P:Pg)(w:World)(K:V3)(mg:SV)(a:Heap)(C:Ad)(m:Str)(k:Nat)(b:Ss)(d:Sp):Prop:=
 ∃f c,FnOk P w K mg a bZ k f c b d/\Meth K C m f/\Binds K c b []
def xr(P:Pg)(w:World)(K:V3)(mg:SV)(a:Heap)(x:Str)(C:Ad)(k:Nat)(b:Ss)(d:Sp):Prop:=
 ∃f c,FnOk P w K mg a bZ k f c b d/\Mk K C f/\mg x=some (.ref C)/\Binds K c b []
theorem gF{d a:Pos}{q:Sem Bool}(r:PE X o j)(c:Cls X.K C)(s:fh X.prog X.w X.K X.mg X.base C m k p l)(u:Room k X.A)(v:PA X (e::g) t)(h:starEach (e::g) X.env=(false,eval e X.env)::starEach g X.env:=by rfl) (i:(backTo a (starEach g X.env)).any (·.1)=false:=by rfl)
  (ht:eval (.Call (.Attribute o m d) (e::g) [] a) X.env=(do
   let n <-eval o X.env
   standAt d.atName
   let(f,first) <-holding [n] (getMethod n m q)
   callWith a f first (backTo a (starEach (e::g) X.env)) (backToKw a (keywordEach [] X.env))):=by rfl):
  PE X (.Call (.Attribute o m d) (e::g) [] a) (Cc C m l [] E0 j t):=by
 obtain⟨f,w,F,M,b⟩:=s;exact R8 r c M F u b .nil An v h i ht
theorem xm(l:PE X o e)(c:Cls X.K C)(n:fh X.prog X.w X.K X.mg X.base C m k i g)(p:Room k X.A)(ht:eval (.Call (.Attribute o m a) [] [] d) X.env=(do
   let h <-eval o X.env
   standAt a.atName
   let(f,first) <-holding [h] (getMethod h m j)
   callWith d f first (backTo d (starEach [] X.env)) (backToKw d (keywordEach [] X.env))):=by rfl):
  PE X (.Call (.Attribute o m a) [] [] d) (Cc C m g [] E0 e lG):=by
 obtain⟨f,q,F,M,b⟩:=n;exact TY l c M F p b .nil An ht
theorem zO{p d:Pos}(c:xr X.prog X.w X.K X.mg X.base x C k h g)(i:Room (k+1) X.A)(j:Gl X x)(l:PA X (e::a) t)(n:(x==("__debug__":Str))=false:=by decide) (o:starEach (e::a) X.env=(false,eval e X.env)::starEach a X.env:=by rfl) (q:(backTo d (starEach a X.env)).any (·.1)=false:=by rfl):
  PE X (.Call (.Name x p) (e::a) [] d) (Lk C g [] E0 t):=by
 obtain⟨f,r,F,M,m,b⟩:=c;exact Ra M F i j m b .nil An l n o q
theorem UW{K:V3}(c:PE X e b)(d:attributeBase e f X.env (eval e X.env)=eval e X.env)(g:X.K=K):PE X (.Attribute e f a) (Bj K b f):=g▸dJ c d
theorem Mu:∀{bs:List Bool} {a:Vs},Vals (bs.map V.bl) a->a=bs.map Value.bool
 | [],_,h=>by cases h;rfl
 | b::bs,_,h=>by
  cases h with
  |cons r t=>
   obtain rfl:=r;rw[Mu t];rfl
noncomputable def FF:Vl->Bool
 |.bool b=>b
 |_=>false
inductive md(K:V3)(x:V)(a:List V)(H:Hp)(Q:VK):Prop|mk:∀l (bs:List Bool),x=.ref l->a=[.bl true]->SqL K H l (bs.map V.bl)->true∈bs->Q (.int (bs.idxOf true:Nat)) H->md K x a H Q
theorem Pu:mZ X "list.index" (md X.K):=by
 intro L s M H x N v O Q I j m h;obtain⟨l,bs,rfl,rfl,o,t,q⟩:=h;cases j;obtain⟨u,rfl,w⟩:=m.one;obtain rfl:u=Value.bool true:=w;obtain⟨B,r,⟨⟨T,U,Y,C⟩,n,e,c,d,f⟩,D⟩:=I.list o;subst c d f;have E:=Mu r;subst E;have g:=yW.mpr t;rw[bA,cq]at D;refine ud F.slot_list_index #[_,e,zZ] F.entry_list_index (F.args_list_index_2 _ _) (SeqAt.list_indexAt l (bs.map Value.bool).toArray n none C (.bool true) FF (bs.idxOf true) (by simp;exact g) () ?_ ?_)
  #[e,λy G=>?_,#[.int (bs.idxOf true:Nat),H,I.tok _,#[_,zZ],q]]
 .simp[FF,List.getElem_idxOf g]
 .intro k J a;have hk:k<bs.length:=by lia
  have z:bs[k]≠true:=λe=>by
   have y:=GO a;rw[e]at y;cases y
  simp;exact pK.mpr z
 .obtain⟨b,_,rfl⟩:=bY.mp (show y∈bs.map Value.bool by simpa using G);have z:=SeqAt.EqAt.bool_bool (A:=X.A.in1) (s:=s) b true;rw[show(b==true)=FF (.bool b) by cases b<;>rfl]at z;exact z
noncomputable def zf(c:Nat):Str:=#[#v[c]]
noncomputable def Ew(x:Str):It:=#[λi _=>i<x.cps.size,λi H v a=>a=H/\∃c,x.cps[i]?=some c/\v=.str (zf c),λi _=>x.cps.size<=i]
theorem R4{K:V3}(a:Ad)(x)(t):Turn P w K M (Ew x) [a] a (λi h=>h.IsStrIter a "str_ascii_iterator" x t i) where
 mem:=by simp
 obj:=λi h st b f=>by
  have e:b=a:=by simpa using f
  subst e;obtain⟨o,e,c,d⟩:=st;exact#[o,e,λv z=>by rw[d]at z;cases z]
 keep:=λi h l st k=>let⟨o,e,r⟩:=st;#[o,k a (by simp) o e,r]
 item:=by
  intro X n hw p D i G s J H E I m st q;obtain⟨u,y,N,A,B,C⟩:=m a (by simp);have g:=q;have L:=kS g;refine wpAny_pyNext_ascii_item st L λl j O=>?_;obtain⟨o,e,c,d⟩:=id j;exact#[_,zZ,AD e c d zZ #[.str (zf (x.cps[i]'g)),H,(I.turned (t':=s.toks+1) (λb o f e=>(O.2 b f).trans e) u y A B C),#[_,rfl],#[rfl,_,L,rfl],j,λb f=>(m b f).1]]
 done:=by
  intro X n hw p D i G s J H E I m st q;obtain⟨u,y,N,A,B,C⟩:=m a (by simp);exact wpAny_pyNext_ascii_end (I.ok.hd D) st (by simp;exact q) λl T=>#[zZ,I.turned (λb o f e=>T b o f e) u y A B C]
 self:=λ_ _ _ _ _ st h=>wpAny_pyIter_striter_ascii st h
def CH(x:Str):Prop:=x.cps.all (· <128)=true
def Gc(a:TE):TI:=λb H R=>a b H λv c=>∃x,v=.str x/\CH x/\R (Ew x) c
theorem Ni(d:PE X l tl):PI X a l (Gc tl):=by
 intro f s g H R I h;refine bS (d f s g H _ I h) λu i ⟨v,j,c,k,x,e,m,q⟩=>?_;subst e;obtain⟨t,rfl⟩:=k;refine wpAny_pyIter_ascii m ?_;refine#[_,[_],_,_,j,zZ,c.kept<|λb o e=>cI _ e,R4 _ x t,#[_,dE _ zZ,zZ,zZ],λb n=>?_,q];rw[cf.mp n];exact c.fpOk (bR _)<|c.hok.fresh<|bR _
section
variable{a:St}{Fin:List V->Hp->Prop}
theorem Qg(Pv:Nat->List V->Hp->Prop)(C:x.length<=sizeLine)(o:Pv 0 [] H)(q:∀i f H,i<=x.length->Pv i f H->f.length<=i)(r:∀i c f H,x.cps.toList[i]?=some c->Pv i f H->g (.str (zf c)) (jt h a) H λk s=>b7i (jt h a) k/\j k s λb n=>if b=true then d k n λy t=>Pv (i+1) (f++[y]) t else Pv (i+1) f n)(u:∀f H,Pv x.length f H->Fin f H):n7 h g j d a (Ew x) H Fin:=by
 refine#[λi m f H=>m=x.length-i/\i<=x.length/\Pv i f H,#[x.length,by simp,Nat.zero_le _,o],?_];rintro i m f H ⟨rfl,w,p⟩;have D:=q i f H w p;by_cases l:i<x.length
 .refine .inr #[l,(),Pv (i+1),λE z A=>#[x.length-(i+1),EO _ _ l,zZ,l,A],λv z y=>?_];obtain⟨e,c,B,y⟩:=y;subst e y;exact r i c f _ (by simpa using B) p
 .have e:i=x.length:=by lia
  subst e;exact .inl #[bR _,(),u f H p]
theorem Jc(k:x.length<=sizeLine)(l:∀c Q,c∈x.cps.toList->Q (f c) H->d (some (.str (zf c))::a) H Q)(m:Fin (x.cps.toList.map f) H):
  n7 [n] (gi 0) yf d a (Ew x) H Fin:=by
 have o:x.cps.toList.length=x.length:=by simp[Str.length]
 refine Qg (λi g h=>h=H/\g=(x.cps.toList.take i).map f) k #[zZ,zZ] (λi g h p ⟨e,b⟩=>?_) (λi c g h j ⟨e,b⟩=>#[iE,?_])<|λg h ⟨e,b⟩=>?_
 .subst e b;simp;lia
 .subst e b;refine jc<|l c _ (bX j) #[zZ,?_];rw[gj,j,c7];rfl
 .subst e b;rw[<-o,fF];exact m
end
inductive sm(x:V)(a:List V)(H:Hp)(Q:VK):Prop|mk:∀z y,x=.str z->a=[.str y]->y.length≠0->z.length<=sizeLine->(∀p,H p=none->Q (.ref p) (bx H p (.tup [.str (Txt.partition z y).1,.str (Txt.partition z y).2.1,.str (Txt.partition z y).2.2])))->sm x a H Q
theorem R3:mZ X "str.partition" sm:=by
 intro l s m H x B v C Q I n o h;obtain⟨z,y,rfl,rfl,p,r,q⟩:=h;obtain⟨t,rfl⟩:=n;obtain⟨u,rfl,w⟩:=o.one;obtain⟨A,rfl⟩:=w;have told:=q _<|I.hok.fresh<|bR s.heap.objs.size;have d:∀{a b c} {f g j} {k},Txt.partition z y=(a,b,c)->EP X l m Q (.ref s.heap.objs.size) {s with toks:=k,heap:=s.heap.push {cls:= .type "tuple",data:= .seq [Value.str a f,.str b g,.str c j].toArray}}:=λ{a b c f g j k} e=>by
  rw[e]at told;refine#[.ref s.heap.objs.size,_,I.laid (λb u e=>cI _ e) (bR _) ?_,zZ,told];exact#[by show 3<=sizeLine;decide,_,.cons #[f,zZ]<|.cons #[g,zZ]<|.cons #[j,zZ] .nil,_,dE _ zZ,zZ,_,zZ,zZ]
 refine ud F.slot_str_partition (xz s z t) F.entry_str_partition (F.args_str_partition_2 _ _) (meets_str_partition z y t A (HP p) r) ?_
 rcases e:Builtin.Str.occurrences z y 0 z.length 1 with _|⟨i,_⟩
 .exact d (by unfold Txt.partition;rw[e])
 .exact d (by unfold Txt.partition;rw[e])
theorem J7:∀l,Vals ((l.map (·.1)).map V.str) (strValues l)
 | []=> .nil
 |p::r=> .cons #[p.2,zZ]<|J7 r
inductive ow(x:V)(a:List V)(H:Hp)(Q:VK):Prop|mk:∀z y,x=.str z->a=[.str y]->y.length≠0->z.length+2<=sizeLine->(∀p,H p=none->Q (.ref p) (bx H p (.lst ((Txt.split z y).map V.str))))->ow x a H Q
theorem Ot{P:Pg}{A:Ar}{E:VP}{s:Sh}{Q:VP}(d:y.length≠0)(f:z.length+2<=sizeLine)(go:∀l g,l.map (·.1)=Txt.split z y->Q (.ref s.heap.objs.size) {s with toks:=g,heap:=s.heap.push {cls:= .type "list",data:= .seq (strValues l).toArray}}):
  wpAny (model P w) A (call (.builtin "str.split") [.str z t,.str y c]) Q E s:=by
 have b:∀{S},Meets (Builtin.«str.split» #[[.str z t,.str y c],[]]) S->S A (wants Q E) s->wpAny (model P w) A (call (.builtin "str.split") [.str z t,.str y c]) Q E s:=λm h=>
  ud F.slot_str_split (xz s z t) F.entry_str_split (F.args_str_split_2 _ _) m h
 have a:Txt.split z y=[z]->listOfItself z t A (wants Q E) s:=λe=>go [(z,t)] s.toks e.symm;by_cases no:(decide (z.length<y.length) || decide (Builtin.Str.strKind z<Builtin.Str.strKind y))=true
 .exact b (meets_str_split_cannot_occur z y t c no)<|a (by unfold Txt.split;rw[wB no])
 by_cases nil:(Builtin.Str.occurrences z y 0 z.length<|z.length+1).isEmpty=true
 .exact b (meets_str_split_not_found z y t c (pK.mpr no) (HP d) nil)<|a (by unfold Txt.split;rw[wA no,wB nil])
 have is:Txt.split z y=Builtin.Str.partsBetween z (Builtin.Str.occurrences z y 0 z.length<|z.length+1) y.length:=by unfold Txt.split;rw[wA no,wA nil]
 refine b (meets_str_split_sep z y t c (pK.mpr no) (HP d) (pK.mpr nil) ()<|is▸(cz (split_le z y) f)) ?_;rw[<-is,strsFrom_eq];exact go (numbered s.toks<|Txt.split z y) _<|numbered_texts _ _
theorem J3:mZ X "str.split" ow:=by
 intro j s k H x m v n Q I c d h;obtain⟨z,y,rfl,rfl,f,a,q⟩:=h;obtain⟨t,rfl⟩:=c;obtain⟨u,rfl,g⟩:=d.one;obtain⟨o,rfl⟩:=g;refine Ot f a λl i e=>#[.ref s.heap.objs.size,_,I.laid (λb u e=>cI _ e) (bR _) ?_,zZ,q _<|I.hok.fresh<|bR _];refine#[?_,strValues l,0,?_,dE _ zZ]
 .rw[bA];exact cz (split_le z y) a
 .rw[<-e];exact J7 l
noncomputable def mz:bw->List Nat
 |a::_::r=>a::mz r
 | [a]=>[a]
 | []=>[]
theorem MA:∀m,(List.range ((m.length+1) /2)).filterMap (λk=>m[2 * k]?)=mz m
 | []=>rfl
 | [a]=>by simp[mz,List.range_succ]
 | a::b::r=>by
  have e:((a::b::r).length+1) /2=(r.length+1) /2+1:=by
   show(r.length+1+1+1) /2=_;lia
  rw[e,List.range_succ_eq_map,wc,Ds];show a::_=a::mz r;rw[<-MA r]
  congr 1
theorem MB{b c:Type}{f g:b->Option c}:∀{l:List b},(∀x∈l,f x=g x)->l.filterMap f=l.filterMap g
 | [],_=>rfl
 |a::l,h=>by rw[wc,wc,h a<|cJ ..,MB λx d=>h x<|dS _ d]
theorem RG(h:0<=i):Txt.sliceBy x (some (i,ui)) none (2,uk)=#[(mz (x.cps.toList.drop i.toNat)).toArray]:=by
 unfold Txt.sliceBy;rw[wA<|by simp]
 congr 2
 have a:slicePicked x (some (i,ui)) none (some (2,uk))=(List.range<|(x.cps.toList.length-i.toNat+1) /2).map λk=>min i.toNat x.cps.toList.length+2 * k:=by
  unfold slicePicked Builtin.Str.strSliceIndices sliceRange;have e:x.cps.toList.length=x.length:=by simp[Str.length]
  simp only[Option.map_some,Option.map_none,Option.getD_some];have b: ¬i<0:=by lia
  rw[wA b,e];simp;have c:max 0 (min i (x.length:Int))=((min i.toNat x.length:Nat):Int):=by lia
  rw[c];have d:(if((min i.toNat x.length:Nat):Int)<(x.length:Int)then((x.length:Int)-((min i.toNat x.length:Nat):Int)+2-1) /2 else 0).toNat=(x.length-i.toNat+1) /2:=by grind
  rw[d];refine mI λk _=>?_;lia
 rw[a,Ds,<-MA,rb];refine MB λk f=>?_;have g:=fm.mp f;show x.cps[min i.toNat x.cps.toList.length+2 * k]?=_;rw[xw,<-lI]
 congr 1
 lia
theorem QZ:typeLookup (.type "str") "__int__"=pure none:=by rw[By,AU];kernel_rfl
theorem SS:typeLookup (.type "str") "__index__"=pure none:=by rw[By,AU];kernel_rfl
theorem Ua:typeLookup (.type "str") "__trunc__"=pure none:=by rw[By,AU];kernel_rfl
theorem oS{A:Ar}{E:VP}{s:Sh}{Q:a->Sh->Prop}(h:t=t')(q:wpAny M A t' Q E s):wpAny M A t Q E s:=h▸q
theorem UP(i:d<10)(t):Meets (Builtin.«int.__new__» #[[.type "int",.str (#[#v[48+d]]:Str) t],[]]) (Made.int (d:Int)).spec:=
 Meets.of_wp λc w A R s a=>by
  obtain⟨e,g,f,h,os⟩:=s;have j:=F.conv_sub_int;have k:=F.madeHere_int;have hT:(#[e,g,f,h,os]:Sh).TypeIs (.str (#[#v[48+d]]:Str) t) "str":=rfl;have l:=QZ;have m:=SS;have n:=Ua
  repeat (any_goals (first|assumption|wp_step))
  have b:d=0\/d=1\/d=2\/d=3\/d=4\/d=5\/d=6\/d=7\/d=8\/d=9:=by lia
  rcases b with rfl|rfl|rfl|rfl|rfl|rfl|rfl|rfl|rfl|rfl
  .exact oS (t':=mkInt 0) (by kernel_rfl)<|nB<|bJ #[_,zZ,a]
  .exact oS (t':=mkInt 1) (by kernel_rfl)<|nB<|show wpAny _ _ (ret _) _ _ _ from bJ #[_,zZ,a]
  .exact oS (t':=mkInt 2) (by kernel_rfl)<|nB<|show wpAny _ _ (ret _) _ _ _ from bJ #[_,zZ,a]
  .exact oS (t':=mkInt 3) (by kernel_rfl)<|nB<|show wpAny _ _ (ret _) _ _ _ from bJ #[_,zZ,a]
  .exact oS (t':=mkInt 4) (by kernel_rfl)<|nB<|show wpAny _ _ (ret _) _ _ _ from bJ #[_,zZ,a]
  .exact oS (t':=mkInt 5) (by kernel_rfl)<|nB<|show wpAny _ _ (ret _) _ _ _ from bJ #[_,zZ,a]
  .exact oS (t':=mkInt 6) (by kernel_rfl)<|nB<|show wpAny _ _ (ret _) _ _ _ from bJ #[_,zZ,a]
  .exact oS (t':=mkInt 7) (by kernel_rfl)<|nB<|show wpAny _ _ (ret _) _ _ _ from bJ #[_,zZ,a]
  .exact oS (t':=mkInt 8) (by kernel_rfl)<|nB<|show wpAny _ _ (ret _) _ _ _ from bJ #[_,zZ,a]
  .exact oS (t':=mkInt 9) (by kernel_rfl)<|nB<|show wpAny _ _ (ret _) _ _ _ from bJ #[_,zZ,a]
theorem Oj:iu X (.type "int") (λa H Q=>∃d,a=[.str (zf (48+d))]/\d<10/\Q (.int (d:Int)) H):=by
 intro e s f H a g Q I r h;obtain⟨d,rfl,b,q⟩:=h;obtain⟨u,rfl,c⟩:=hV r;obtain⟨t,rfl⟩:=c;exact call_int_1 (UP b t)<|#[zZ,.int (d:Int),H,I.tok _,#[_,zZ],q]
inductive qz(t:TJ)(a:Str)(b:St)(v:V)(c:Hp)(Q:Str->Hp->Prop):Prop|mk:∀x,v=.str x->x.length<=sizeLine->(a++x).length<=sizeLine->t (a++x) b c Q->qz t a b v c Q
def Gy(c:TE)(t:TJ):TJ:=λa b H Q=>c b H λv d=>qz t a b v d Q
theorem E7(i:PE X e d)(j:PJ X b t):PJ X (.FormattedValue e (-1) none a::b) (Gy d t):=by
 intro f s g H c Q I h;refine joinParts_cons<|FormattedValue_plain<|bS (i f s g H _ I h) λv u ⟨y,k,l,m,x,n,o,p,q⟩=>?_;subst n;obtain⟨w,rfl⟩:=m;exact formatField_str (λz r=>#[p,j f _ g k _ Q (l.tok _) q]) o
def Ik(b tl c:TE):TE:=λa H Q=>b a H λx d=>tl a d λl e=>c a e λk f=>∃z i,x=.str z/\l=.int i/\k=.int 2/\0<=i/\z.length<=sizeLine/\Q (.str #[(mz (z.cps.toList.drop i.toNat)).toArray]) f
theorem EJ{e lo st:Expr}(w:PE X e m)(y:PE X lo tl)(A:PE X st n):PE X (.Subscript e (.Slice (some lo) none (some st) o) j) (Ik m tl n):=by
 intro a s d H Q I h;refine zL<|bS (w a s d H _ I h) λv B ⟨x,C,D,E,G⟩=>?_;refine wpAny_Slice ?_;rw[Cr,DM];refine bS (y a B d C _ D G) λvl J ⟨l,L,M,N,O⟩=>bJ ?_;rw[Cr];refine bS (A a J d L _ M O) λvk s3 ⟨k,p,U,Y,q3⟩=>?_;obtain⟨z,i,rfl,rfl,rfl,hi,hz,q⟩:=q3;obtain⟨t,rfl⟩:=E;obtain⟨g,rfl⟩:=N;obtain⟨f,rfl⟩:=Y;have I4:∀t',Inv X a d p {s3 with heap:=s3.heap.push {cls:= .type "slice",data:= .fields #v[.int i g,.none,.int 2 f]},toks:=t'}:=λt'=>U.kept λb ob q=>cI _ q;refine tail_any (xz _ _ _) F.slot_str_getitem.lookup ?_ (by with_unfolding_all rfl);refine Av (l:=some (i,g)) (u:=none) (st:=some (2,f)) #[_,dE _ zZ,zZ,zZ] zZ ?_;refine AG #[cz (Txt.sliceBy_le z _ _ (2,f)<|show(2:Int)≠0 by decide) hz,λt' c=>?_];have r:=RG (x:=z) (ui:=g) (uk:=f) hi;unfold Txt.sliceBy at r;refine#[.str #[(mz<|z.cps.toList.drop i.toNat).toArray],p,I4 _,#[t',?_],q];rw[<-r]
section
variable{b a d:Pos}{T id:String}
theorem vz(k:PlainAttrs T)(h:Slot T name id)(j:typeOf (.builtin id)=pure (.type "method_descriptor"))(l:mZ X id r)(m:QE X o to)(n:PL X (e::c) t)(f:attributeBase o name X.env (eval o X.env)=eval o X.env:=by rfl)
  (i:((backTo a (starEach (e::c) X.env)).all (λx=> !x.1)&&(backToKw a (keywordEach [] X.env)).all (λx=>x.1.isSome)
   &&decide ((e::c).length+([]:List Keyword).length+(if([]:List Keyword).isEmpty then 0 else 1)<30))=true:=by rfl)
  (g:(b.endLine==a.line)=true:=by rfl) (p:starEach (e::c) X.env=(false,eval e X.env)::starEach c X.env:=by rfl) (d:(backTo a (starEach c X.env)).any (·.1)=false:=by rfl):
  QE X (.Call (.Attribute o name b) (e::c) [] a) (zm X.K T r to t):=#[hO k h j l m.pe n.pa f i g p d]
theorem P5(a:QE X e f)(b:swapsWith e none d.line X.env=pure false:=by rfl):QS X (.Expr e d) (zn f):=#[iR a.pe b]
end
noncomputable def ou(a:Ss)(x:Str):Ss:=if x∈a then a else a++[x]
noncomputable def v8(a:Ss):Ss:=a.foldl ou []
def IsSetS(P:Pg)(w:World)(h:Heap)(a:Ad)(b:Ss):Prop:=h.SetOf (strKind P w) a (λk=>decide (k∈b)) b.length
section
variable{P:Pg}{w:World}{A:Ar}{E:VP}{S a l:Ad}{xs:Ss}{vs:Vs}
theorem IsSetS.ext{a:Ss}(b:IsSetS P w h S a)(k:∀o,h.get? S=some o->h'.get? S=some o):IsSetS P w h' S a:=by
 obtain⟨o,c,d,t,e,r⟩:=b;exact#[o,c,d,t,k _ e,r]
theorem KR{R:Result->Sh->Prop}(M:A.handled=none)(m:S≠a)(N:S≠l)(O:a≠l)(v:Vals (xs.map V.str) vs)(few:xs.length<1000):
  ∀(rest:Ss) i c (s:Sh),xs.drop i=rest->c.length<=i->s.heap.IsTupleIter a l i->s.heap.IsTuple l vs.toArray->IsSetS P w s.heap S c->
   (∀d B,IsSetS P w d S (rest.foldl ou c)->(∀b o,b≠S->b≠a->s.heap.get? b=some o->d.get? b=some o)->R (.ok (.ret .none)) {s with heap:=d,toks:=B})->
   codeAny (model P w) A (.builtin "set.update.loop" #[[.ref S,.ref a],[]]) R s
 | [],i,c,s,n,Y,C,p,D,q=>by
  have Q:vs.length<=i:=by
   have E:vs.length=xs.length:=by simpa using v.length.symm
   have r:=List.drop_eq_nil_iff.mp n;lia
  refine o0 CK ?_;rw[rf yX _];refine bz<|wpAny_pyNext_tuple_end M C p (by simp;lia) λd keep=>?_;exact bJ<|q d s.toks (D.ext λo e=>keep _ _ m e) λb o _ r e=>keep b o r e
 | x::rest,i,c,s,n,Y,C,p,D,q=>by
  have h:xs[i]?=some x:=by rw[<-List.head?_drop,n];rfl
  have next:xs.drop (i+1)=rest:=by rw[<-List.tail_drop,n];rfl
  have il:=(bN.mp h).1;obtain⟨u,hu,t,rfl⟩:=v.get (by rw[bT,h];rfl);refine o0 CK ?_;rw[rf yX _];refine bz<|wpAny_pyNext_tuple_item C p (by simpa using hu) λE oN f=>?_;refine bz<|jg ?_;unfold setAdd;have j:(strKind P w).is x (.str x t)=true:=by show Value.isStrOf x (.str x t)=true;simp[Value.isStrOf]
  refine jg<|bz<|(strKind P w).pyHash j ?_;refine wpAny_setAddHashed_of j zZ (D.ext λo e=>f.extBut _ _ m e) (by show c.length+1<4096;lia) λr g H=>?_;have I:IsSetS P w r S (ou c x):=by
   unfold IsSetS;refine SetOf_congr H (λk=>?_) ?_
   .unfold ou;by_cases e:x∈c
    .rw[wB e,kq];simp only[Bool.or_eq_true,decide_eq_true_iff];exact#[λz=>z.elim id λy=>y▸e,.inl]
    .rw[wA e,kq];simp
   .unfold ou;by_cases e:x∈c
    .rw[wB e,wB<|by simpa using e]
    .rw[wA e,wA<|by simpa using e,List.length_append];rfl
  have J:(ou c x).length<=i+1:=by
   unfold ou;split
   .lia
   .rw[cC];show c.length+1<=_;lia
  refine bJ #[vb yX _,KR M m N O v few rest (i+1) (ou c x) _ next J (oN.extBut g.extBut m.symm) ((p.extBut f.extBut O.symm).extBut g.extBut N.symm) I λd B L keep=>?_];exact q d B L λb o T U e=>keep b o T U<|g.extBut _ _ T<|f.extBut _ _ U e
set_option maxHeartbeats 4000000 in
theorem Ue{h:Heap}{os:OsState}{R:Fin->Sh->Prop}(x:∃a,j={cls:= .type "set",dict:=none,data:= .set #v[] 0 (.fresh 0 0 a)})(y:A.handled=none)(p:h.IsTuple l vs.toArray)(z:Vals (xs.map V.str) vs)(few:xs.length<1000)
  (q:∀c f,IsSetS P w c h.objs.size (v8 xs)->(∀b o,h.get? b=some o->c.get? b=some o)->R (.done (.ret .none)) #[c,m,n,f,os]):
  wpAny (model P w) A (Builtin.«set.__init__» #[[.ref h.objs.size,.ref l],[]]) R E #[h.push j,m,n,k,os]:=by
 obtain⟨a,rfl⟩:=x;obtain⟨⟨J,dl,B,sl⟩,r,s,C,t⟩:=id p;simp only at s t;subst s t;have L:(h.push {cls:= .type "set",dict:=none,data:= .set #v[] 0 (.fresh 0 0 a)}).get? l=some #[.type "tuple",dl,.seq vs.toArray C,sl]:=cI _ r;have D:(h.push {cls:= .type "set",dict:=none,data:= .set #v[] 0 (.fresh 0 0 a)}).get? h.objs.size=some {cls:= .type "set",dict:=none,data:= .set #v[] 0 (.fresh 0 0 a)}:=dE _ rfl;have M:=F.sub_tuple_set;have N:=F.sub_tuple_frozenset;have O:(Value.type "tuple"==Value.type "dict")=false:=by decide
 unfold Builtin.«set.__init__» noKeywords Builtin.Frozenset.updateFrom;generalize g:pyIter=u
 wp_walk
 subst g;have d:(h.push {cls:= .type "set",dict:=none,data:= .set #v[] 0 (.fresh 0 0 a)}).IsTuple l vs.toArray:=p.push _;refine wpAny_pyIter_tuple d<|bz<|wpAny_runValue ?_;have lt:l<h.objs.size:=cy r;have sz:(h.push {cls:= .type "set",dict:=none,data:= .set #v[] 0 (.fresh 0 0 a)}).objs.size=h.objs.size+1:=ya ..;have i:IsSetS P w ((h.push {cls:= .type "set",dict:=none,data:= .set #v[] 0 (.fresh 0 0 a)})) h.objs.size []:=by
  refine#[_,_,_,_,D,#[zZ,zZ,zZ],zZ,λe G=>?_,λk=>?_,by decide,by cases a<;>rfl,zZ]
  .simp at G
  .simp
 refine KR (vs:=vs) (xs:=xs) (by simpa using y) (by rw[sz];exact Nat.ne_of_lt<|Nat.lt_succ_self _) (Nat.ne_of_gt lt) (by rw[sz];exact Nat.ne_of_gt<|Nat.lt_succ_of_lt lt) z few xs 0 [] _ zZ (Nat.le_refl _) #[_,Heap.get?_push_size _ zZ,zZ,zZ] (d.push _) (i.ext λo e=>Heap.get?_push_of_some _ e) λc f H I=>?_;refine bJ<|bJ<|q c f H λb o e=>?_;have v:=cy e;exact I b o (dr v) (by rw[sz];exact dr<|CI v)<|cI _<|cI _ e
theorem Rm{s:Sh}{Q:VP}(B:A.handled=none)(x:s.heap.IsTuple l vs.toArray)(C:Vals (xs.map V.str) vs)(few:xs.length<1000)(q:∀a d,IsSetS P w a s.heap.objs.size (v8 xs)->(∀b o,s.heap.get? b=some o->a.get? b=some o)->Q (.ref s.heap.objs.size) {s with heap:=a,toks:=d}):
  wpAny (model P w) A (call (.type "set") [.ref l]) Q E s:=by
 have lt:l<s.heap.objs.size:=let⟨_,e,_⟩:=x;cy e
 obtain⟨c,tl,D⟩:=ka.mro;have made:=ka.made;have sub:=ka.sub;have j:=ka.notType;have G:=ka.canCreate;have args:=F.typeCall_set_1<|.ref l;have look:=ka.init.lookup;have H:=ka.init.bind<|.ref s.heap.objs.size;refine y7<|EV<|show wpAny _ _ (callAny (.type "set") _) _ _ _ from bJ #[Code.quiet_builtin _<|by decide+kernel,o0 F.entry_type_call ?_];rw[Around.under_plain (weight_type_call_type "set" [.ref l] []) zZ]
 repeat (any_goals (first|assumption|wp_step))
 refine nX (code_set_new_1 (.ref l) (E:=E) (Q₁:=λk i=>∃g,(∃h,g={cls:= .type "set",dict:=none,data:= .set #v[] 0 (.fresh 0 0 h)})/\k=.ref s.heap.objs.size/\i={s with heap:=s.heap.push g}) λh=>#[_,#[h,rfl],rfl,rfl]) λr L z=>?_;cases r with
 |error _=>exact z
 | ok f=>
  cases f<;>first|exact z.elim|skip
  obtain⟨g,m,n,p⟩:=z;subst n p;have I:g.cls=.type "set":=by obtain⟨_,rfl⟩:=m;rfl
  have J:(s.heap.push g).get? s.heap.objs.size=some g:=dE _ (by obtain⟨_,rfl⟩:=m;rfl);have ty:Shared.TypeIs {s with heap:=s.heap.push g} (.ref s.heap.objs.size) "set":=#[_,J,I]
  repeat (any_goals (first|assumption|wp_step))
  refine nX (codeAny_call_builtin (R:=wants (λv y=>v=.none/\∃a d,y={s with heap:=a,toks:=d}/\IsSetS P w a s.heap.objs.size (v8 xs)/\∀b o,s.heap.get? b=some o->a.get? b=some o) E)
   ka.init.plain F.entry_set_init<|check_set_init_1 ty ?_) λr y z=>?_
  .exact Ue (A:=A.in1.in1) m (by simpa using B) x C few λa d t u=>#[zZ,a,d,zZ,t,u]
  .cases r with
   |error _=>exact z
   |ok f=>
    cases f<;>first|exact z.elim|skip
    obtain⟨n,a,d,p,t,u⟩:=z;subst n p
    repeat (any_goals (first|assumption|wp_step))
    exact q a d t u
end
noncomputable def ql(a:Ad)(b:Ss):HO:= .ext λh=>∃P w,IsSetS P w h a (v8 b)
inductive rj(K:V3)(c:List V)(H:Hp)(Q:VK):Prop|mk:∀p b,c=[.ref p]->SqT K H p (b.map V.str)->b.length<1000->(∀a,H a=none->Q (.ref a) (bx H a (ql a b)))->rj K c H Q
theorem NH(c:X.calm=true):iu X (.type "set") (rj X.K):=by
 intro d s f H A B Q I r h;obtain⟨p,a,rfl,g,few,q⟩:=h;obtain⟨u,rfl,i⟩:=hV r;cases i;obtain⟨j,l,m,_⟩:=I.tuple g;refine Rm (I.ok.hd c) m l few λb n z keep=>?_;have v:Inv X d f H {s with heap:=b,toks:=n}:=I.kept keep;obtain⟨o,C,D,t,x,r⟩:=id z;have ok:ObjOk X.prog X.w (bx H s.heap.objs.size<|ql s.heap.objs.size a) b s.heap.objs.size (ql s.heap.objs.size a):=#[#[_,_,z],#[_,x],λE G ⟨P,w,y⟩ k=>#[P,w,y.ext λo e=>k _ e]];exact#[.ref s.heap.objs.size,_,Inv.trackNew I v ok,zZ,q _ I.fresh]
inductive n0(b:List V)(H:Hp)(Q:VK):Prop|mk:∀a c,b=[.ref a]->H a=some (ql a c)->Q (.int (v8 c).length) H->n0 b H Q
theorem Ru:iu X (.builtin "len") n0:=by
 intro k s l H m n Q I r h;obtain⟨a,b,rfl,c,q⟩:=h;obtain⟨u,rfl,d⟩:=hV r;cases d;obtain⟨⟨_,_,o,p,v,t,e,f,g,_,_,w,i,j⟩,_⟩:=(I.hok a _ c);refine call_len_set e f g i (by have:scanBound=4096:=rfl;lia) #[.int (v8 b).length,H,I.tok _,#[_,by rw[j]],q]
inductive jx(K:V3)(x:V)(b:List V)(H:Hp)(Q:VK):Prop|mk:∀l (a:Ss) z,x=.ref l->b=[.str z]->SqT K H l (a.map V.str)->z∈a->Q (.int (a.idxOf z:Nat)) H->jx K x b H Q
theorem TN:mZ X "tuple.index" (jx X.K):=by
 intro za s σ H x vs v us Q I E G h;obtain⟨l,c,z,rfl,rfl,J,L,q⟩:=h;cases E;obtain⟨u,rfl,t,rfl⟩:=G.one;obtain⟨b,r,M,hz⟩:=I.tuple J;obtain⟨⟨c1,N,k1,O⟩,e,A,n,B⟩:=M;subst A B;have T:=r.length;rw[bA]at T;have U:=yW.mpr L;have d:∀k (j:k<b.length),∃t,b[k]=.str (c[k]'()) t:=λk j=>by
  obtain⟨u,C,t,rfl⟩:=r.get (by rw[bT,bC<|show k<c.length by lia];rfl);rw[bC j]at C;exact#[t,by injection C]
 let m:Vl->Bool:=λy=>match y with
  |.str a _=>ko (.str a)<|.str z
  |_=>false
 have D:∀a,ko (.str a) (.str z)=decide (a=z):=λa=>by
  rw[kq];simp[ko]
 refine ud F.slot_tuple_index #[_,e,zZ] F.entry_tuple_index (F.args_tuple_index_2 _ _) (K8 l b.toArray n N O (.str z t) m (c.idxOf z) (by simp;lia) ?_ ?_)
  #[e,λy Y=>?_,#[.int (c.idxOf z:Nat),H,I.tok _,#[_,zZ],q]]
 .obtain⟨o,f⟩:=d (c.idxOf z) ();show m b[c.idxOf z]=true;rw[f];show ko _ _=true;rw[D,AC U];exact cK rfl
 .intro k g w;obtain⟨o,f⟩:=d k g;show m b[k]=false;rw[f];show ko _ _=false;rw[D];have y:=GO w;simpa using y
 .obtain⟨k,j,rfl⟩:=CO (show y∈b by simpa using Y);obtain⟨o,f⟩:=d k j;rw[f];exact zC #[o,zZ] #[t,zZ] zZ rfl
inductive zJ(x:V)(lo a:Option Int)(H:Hp)(Q:VK):Prop|mk:∀z,x=.str z->z.length<=sizeLine->Q (.str (Txt.slice z lo a)) H->zJ x lo a H Q
theorem Sw:Ht X zJ:=by
 intro m s n H x v w y lo e sl Q I o a p f h;obtain⟨z,rfl,r,q⟩:=h;obtain⟨t,rfl⟩:=o;refine#["str",_,F.slot_str_getitem.lookup,xz _ _ _,?_];have fin:∀c k,EP X m n Q (.str (Txt.slice z lo e) c) {s with toks:=k}:=λc k=>#[.str _,H,I.tok _,#[c,rfl],q];have b:=cz (Txt.slice_le z lo e) r;cases p with
 |none=>
  cases f with
  |none=>exact Av (l:=none) (u:=none) (st:=none) a zZ<|AG #[b,fin]
  |int j d=>exact Av (l:=none) (u:=some (j,d)) (st:=none) a zZ<|AG #[b,fin]
 |int i g=>
  cases f with
  |none=>exact Av (l:=some (i,g)) (u:=none) (st:=none) a zZ<|AG #[b,fin]
  |int j d=>exact Av (l:=some (i,g)) (u:=some (j,d)) (st:=none) a zZ<|AG #[b,fin]
inductive Bw(K:V3)(x y:V)(H:Hp)(Q:VK):Prop|mk:∀a b c,x=.ref a->y=.ref b->SqL K H a c->SqL K H b []->Q (.bl c.isEmpty) H->Bw K x y H Q
theorem Rj(r:X.A.units+64<cLine):OpR X (compareOp .Eq) (Bw X.K):=by
 intro t s w H x y v u Q I k l h;obtain⟨a,b,m,rfl,rfl,n,o,q⟩:=h;cases m with
 |nil=>exact DR r t s w H _ _ _ _ Q I k l #[a,b,0,.lst [],.lst [],zZ,zZ,.lst n zZ (λi d v e=>nomatch e),.lst o zZ (λi d v e=>nomatch e),by decide,λc A=>by cases A.mpr rfl;exact q]
 | cons x m=>
  cases k;cases l;obtain⟨g,B,p,_⟩:=I.list n;obtain⟨f,j,C,_⟩:=I.list o;have D:(g.toArray.size != f.toArray.size)=true:=by
   rw[bne_iff_ne,dU,dU,<-B.length,<-j.length];exact λz=>nomatch z
  exact SeqAt.RcAt.lists_lengths p.isList C.isList D () _ _ _ _ #[.bl false,H,I,zZ,q]
theorem Mj{b:Type}:∀a:List b,(List.range a.length).filterMap (a[·]?)=a
 | []=>rfl
 |y::a=>by
  rw[i3,List.range_succ_eq_map,wc];rw[Ds];exact cH (y:: ·)<|Mj a
theorem J'{b c:Type}{f g:b->Option c}:∀{l:List b},(∀k∈l,f k=g k)->l.filterMap f=l.filterMap g
 | [],_=>rfl
 |a::l,h=>by
  rw[wc,wc,h a<|cJ ..,J' λk d=>h k<|dS _ d]
theorem UD(a:Vs):slicePick a.toArray none none (some (-1))=a.reverse.toArray:=by
 have e:sliceRange ((a.length:Int)-1) (-1) (-1)=(List.range a.length).map λk=>a.length-1-k:=picked_rev a.length;show((sliceRange ((a.length:Int)-1) (-1)<|-1).filterMap (a.toArray[·]?)).toArray=_;rw[e,Ds]
 conv=>rhs;rw[<-Mj a.reverse,B8]
 congr 1
 refine J' λk b=>?_;rw[List.getElem?_reverse<|fm.mp b];exact List.getElem?_toArray
def zW(K:V3)(e f:TE):TE:=λc H Q=>e c H λx g=>f c g λk b=>∃a d,x=.ref a/\k=.int (-1)/\SqL K b a d/\∀p,b p=none->Q (.ref p) (bx b p (.lst d.reverse))
theorem LH:∀{a} {b:Vs},Vals a b->Vals a.reverse b.reverse
 | [],_,h=>by cases h;exact .nil
 | x::a,_,h=>by
  cases h with
  |cons r t=>
   rw[List.reverse_cons,List.reverse_cons];exact(LH t).append<|.cons r .nil
theorem JF{e st:Expr}(w:PE X e l)(y:PE X st m):PE X (.Subscript e (.Slice none none (some st) n) g) (zW X.K l m):=by
 intro d s f H Q I h;refine zL (bS (w d s f H _ I h) λv z ⟨x,A,B,C,D⟩=>wpAny_Slice ?_);rw[DM];refine bJ (bJ ?_);rw[Cr];refine bS (y d z f A _ B D) λO s3 ⟨k,E,G,J,L⟩=>?_;obtain⟨a,p,rfl,rfl,M,q⟩:=L;cases C;obtain⟨t,rfl⟩:=J;have i:Inv X d f E {s3 with heap:=s3.heap.push {cls:= .type "slice",data:= .fields #v[.none,.none,.int (-1) t]}}:=G.kept λb N q=>cI _ q;obtain⟨j,r,ht,u⟩:=i.list M;have c:j.toArray.size=p.length:=by rw[dU];exact r.length.symm
 refine tail_any ht.isList.typeIs Hg.lookup ?_ (by with_unfolding_all rfl);refine wpAny_getItem_list_slice ht.isList #[_,dE _ zZ,zZ,zZ] .none .none (.int _ _) (by decide) ?_ (by rw[c];exact u);rw[UD];refine#[.ref _,_,i.laid (λb N q=>cI _ q) (bR _) ?_,zZ,q _ (i.hok.fresh (bR _))];exact#[by rw[B8];exact u,_,_,LH r,dE _ zZ]
end L2
namespace My
open PySem L2 PyProof.Rows
abbrev sA:Str:="machine"
abbrev sB:Str:="rooms"
abbrev sC:Str:="self"
abbrev sD:Str:="word_back.<locals>.<lambda>"
abbrev sE:Str:="sets_reached.<locals>.<lambda>"
abbrev sF:Str:="_law_machine_here"
abbrev sG:Str:="level"
abbrev sH:Str:="level_group.<locals>.<lambda>"
abbrev sI:Str:="group"
abbrev sJ:Str:="tiles"
abbrev sK:Str:="letter"
abbrev sL:Str:="_law_names_here"
abbrev sM:Str:="row"
abbrev sN:Str:="words"
abbrev sO:Str:="tile_count"
abbrev sP:Str:="_law_script"
abbrev sQ:Str:="here"
abbrev sR:Str:="turns"
abbrev sS:Str:="names"
abbrev sT:Str:="word"
abbrev sU:Str:="sets_reached"
abbrev sV:Str:="text"
abbrev sW:Str:="level_group"
abbrev sX:Str:="_law_cell"
abbrev sY:Str:="other"
abbrev sZ:Str:="steps"
abbrev tE:Str:="thing"
abbrev tG:Str:="word_back"
abbrev tH:Str:="_law_k"
abbrev tI:Str:="sets"
abbrev tJ:Str:="abcdefghijklmnopqrstuvwxyz"
abbrev tK:Str:="about"
abbrev tL:Str:="reached"
abbrev tM:Str:="parts"
abbrev tN:Str:="waiting"
abbrev tO:Str:="turning"
abbrev tQ:Str:="room"
abbrev tR:Str:="turn"
abbrev tS:Str:="__init__"
abbrev tT:Str:="one"
abbrev tV:Str:="_law_rooms"
abbrev tW:Str:="pair"
abbrev tX:Str:="tiles_turned"
abbrev tY:Str:="carried"
abbrev tZ:Str:="_law_many"
abbrev wF:Str:="pairs"
abbrev wG:Str:="step"
abbrev wH:Str:="deed"
abbrev wI:Str:="behind"
abbrev wJ:Str:="all_tiles_turned"
abbrev wK:Str:="_law_cell_at"
abbrev wL:Str:="tiles_of_set"
abbrev wM:Str:="levels_in_order"
abbrev wN:Str:="_law_parts_text"
abbrev wO:Str:="_law_about_text"
abbrev wP:Str:="_law_more"
abbrev wQ:Str:="within"
abbrev wR:Str:="sets_of_levels"
abbrev wS:Str:="found"
abbrev wT:Str:="most"
abbrev wU:Str:="words_between"
abbrev wV:Str:="is_turning"
abbrev wW:Str:="makers"
abbrev wX:Str:="_law_machine"
abbrev wY:Str:="still"
abbrev wZ:Str:="first_turned"
abbrev xP:Str:="_law_written"
abbrev xQ:Str:="_law_answers"
abbrev xR:Str:="_law_hall"
abbrev xS:Str:="letters"
abbrev xT:Str:="part"
abbrev xV:Str:="name"
abbrev xW:Str:="lies_in"
abbrev xX:Str:="refuse_more"
abbrev xY:Str:="has_only"
abbrev xZ:Str:="there"
abbrev yA:Str:="_law_start"
abbrev yB:Str:="_law_names"
abbrev yC:Str:="is_figures"
abbrev yD:Str:="0123456789"
abbrev yE:Str:="is_covered"
abbrev yF:Str:="alike_sets"
abbrev yG:Str:="least_tile"
def top(i:Nat):Stmt:=Challenge.pw_cascade_k84_parts_and_what_turns.main.body.getD i (.Pass #[0,0,0,0])
abbrev Ft:Stmt:=top 11
abbrev Gz:Stmt:=top 12
abbrev Dm:Stmt:=top 13
abbrev Iy:Stmt:=top 14
abbrev wp:Stmt:=top 15
abbrev Fq:Stmt:=top 17
abbrev qi:Stmt:=top 18
abbrev Hr:Stmt:=top 20
abbrev G4:Stmt:=top 21
abbrev Dp:Stmt:=top 22
abbrev CD:Stmt:=top 23
abbrev oF:Stmt:=top 24
abbrev F6:Stmt:=top 26
abbrev Ch:Stmt:=top 27
abbrev G6:Stmt:=top 29
abbrev yY:Stmt:=top 30
abbrev B6:Stmt:=top 31
abbrev A9:Stmt:=top 32
abbrev GK:Stmt:=top 34
abbrev Ct:Stmt:=top 35
abbrev Iw:Stmt:=top 36
abbrev C4:Stmt:=top 37
abbrev Bl:Stmt:=top 38
abbrev Dr:Stmt:=top 39
abbrev DT:Stmt:=top 40
abbrev GR:Stmt:=top 41
abbrev DE:Stmt:=top 42
abbrev D6:Stmt:=top 44
abbrev FY:Stmt:=top 45
abbrev oU:Stmt:=top 46
abbrev Fl:Stmt:=top 47
abbrev Gb:Stmt:=top 49
abbrev ot:Stmt:=top 50
abbrev El:Stmt:=top 51
abbrev CQ:Stmt:=top 59
abbrev GY:Stmt:=top 60
abbrev Ga:Stmt:=top 61
abbrev DQ:Stmt:=top 62
abbrev qv:Stmt:=top 63
abbrev Gh:Stmt:=top 65
abbrev GV:Stmt:=top 66
abbrev FE:Stmt:=top 67
abbrev Gq:Stmt:=top 70
abbrev Dh:Stmt:=top 71
abbrev zt:Stmt:=top 72
abbrev G9:Stmt:=top 73
abbrev Du:Stmt:=top 74
abbrev Bp:Stmt:=top 75
abbrev Fg:Stmt:=top 76
abbrev F':Stmt:=top 77
abbrev yk:Stmt:=top 78
noncomputable def ie:Stmt->List Stmt
 | .ClassDef _ _ _ b _ _ _ _ _ _ _=>b
 |_=>[]
noncomputable abbrev Ej:Stmt:=(ie (top 53)).getD 0 (.Pass #[0,0,0,0])
noncomputable abbrev Hu:Stmt:=(ie (top 53)).getD 1 (.Pass #[0,0,0,0])
noncomputable abbrev HZ:Stmt:=(ie (top 53)).getD 2 (.Pass #[0,0,0,0])
noncomputable abbrev DF:Stmt:=(ie (top 53)).getD 3 (.Pass #[0,0,0,0])
noncomputable abbrev HU:Stmt:=(ie (top 53)).getD 4 (.Pass #[0,0,0,0])
noncomputable abbrev F9:Stmt:=(ie (top 53)).getD 5 (.Pass #[0,0,0,0])
noncomputable abbrev IC:Stmt:=(ie (top 53)).getD 6 (.Pass #[0,0,0,0])
noncomputable abbrev FW:Stmt:=(ie (top 53)).getD 7 (.Pass #[0,0,0,0])
noncomputable abbrev Dq:Stmt:=(ie (top 54)).getD 0 (.Pass #[0,0,0,0])
noncomputable abbrev Gf:Stmt:=(ie (top 54)).getD 1 (.Pass #[0,0,0,0])
noncomputable abbrev Ih:Stmt:=(ie (top 54)).getD 2 (.Pass #[0,0,0,0])
noncomputable abbrev IF:Stmt:=(ie (top 54)).getD 3 (.Pass #[0,0,0,0])
noncomputable abbrev Ff:Stmt:=(ie (top 54)).getD 4 (.Pass #[0,0,0,0])
noncomputable abbrev IH:Stmt:=(ie (top 54)).getD 5 (.Pass #[0,0,0,0])
noncomputable abbrev GZ:Stmt:=(ie (top 54)).getD 6 (.Pass #[0,0,0,0])
noncomputable abbrev E8:Stmt:=(ie (top 54)).getD 8 (.Pass #[0,0,0,0])
noncomputable abbrev EX:Stmt:=(ie (top 54)).getD 9 (.Pass #[0,0,0,0])
noncomputable abbrev EZ:Stmt:=(ie (top 68)).getD 0 (.Pass #[0,0,0,0])
noncomputable abbrev BK:Stmt:=(ie (top 68)).getD 1 (.Pass #[0,0,0,0])
noncomputable abbrev Fx:Stmt:=(ie (top 68)).getD 2 (.Pass #[0,0,0,0])
noncomputable abbrev Ek:Stmt:=(ie (top 68)).getD 3 (.Pass #[0,0,0,0])
noncomputable abbrev zV:Stmt:=(ie (top 68)).getD 5 (.Pass #[0,0,0,0])
theorem UC:FnScope [tE] [tE] (bQ Ft):={}
theorem Q4:FnScope [tE,sB] [tE,sB] (bQ Gz):={}
theorem RM:FnScope [tE,sB] [tE,sB] (bQ Dm):={}
theorem vP:FnScope [tE,"first",tR] [tE] (bQ Iy):={}
theorem xN:FnScope [sA,tQ,sT,sK] [sA,tQ,sT] (bQ wp):={}
theorem Ux:FnScope ["things",wT] ["things",wT] (bQ Fq):={}
theorem kQ:FnScope ["start",xS,wG,wT,sN,"wave","following",tE,sK,wS] ["start",xS,wG,wT] (bQ qi):={}
theorem OR:FnScope [sB] [sB] (bQ Hr):={}
theorem uO:FnScope [tI,"once",sB] [tI] (bQ G4):={}
theorem UU:FnScope [tT,sY] [tT,sY] (bQ Dp):={}
theorem SN:FnScope [sA,sB,sT] [sA,sB,sT] (bQ CD):={}
theorem SF:FnScope [sA,sB] [sA,sB] (bQ oF):={}
theorem RK:FnScope [sB] [sB] (bQ F6):={}
theorem Vi:FnScope [tT,sY] [tT,sY] (bQ Ch):={}
theorem vB:FnScope [sA,sN] [sA] (bQ G6):={}
theorem xB:FnScope [sA,"singles"] [sA] (bQ yY):={}
theorem NQ:FnScope [xT,tI] [xT,tI] (bQ B6):={}
theorem xL:FnScope [sA,sB,wQ] [sA,sB] (bQ A9):={}
theorem qN:FnScope [sA,sN,sB] [sA] (bQ GK):={}
theorem Rl:FnScope [sN,sB] [sN,sB] (bQ Ct):={}
theorem kW:FnScope [sN,wS,sB,tI] [sN] (bQ Iw):={}
theorem O0:FnScope [sN,tI,tN] [sN,tI,tN] (bQ C4):={}
theorem kK:FnScope [sN,tN,"told","free"] [sN,tN] (bQ Bl):={}
theorem qS:FnScope [sA,sN,"told",tI,"face","ways"] [sA] (bQ Dr):={}
theorem Ro:FnScope [sA,sG,"k"] [sA,sG,"k"] (bQ DT):={}
theorem Sn:FnScope [sA,sG,"k","j"] [sA,sG,"k","j"] (bQ GR):={}
theorem Vc:FnScope [sA,sG,"k"] [sA,sG,"k"] (bQ DE):={}
theorem qQ:FnScope [sA,sG,"k",sK,xZ,"ends"] [sA,sG,"k",sK] (bQ D6):={}
theorem jR:FnScope [sA,sG,wS,"k",sK,tR] [sA,sG] (bQ FY):={}
theorem uJ:FnScope [sA,sG,wW] [sA,sG] (bQ oU):={}
theorem O7:FnScope [sA,sG] [sA,sG] (bQ Fl):={}
theorem kJ:FnScope [sA,sG,"still_turn","k",sK,tR] [sA,sG] (bQ Gb):={}
theorem vC:FnScope [sA,sG,"m",sN] [sA,sG,"m"] (bQ ot):={}
theorem uK:FnScope [sA,tO,sG,wS,"m"] [sA] (bQ El):={}
theorem Vv:FnScope [sV,"signs"] [sV,"signs"] (bQ CQ):={}
theorem OI:FnScope [sV] [sV] (bQ GY):={}
theorem Rz:FnScope [sV] [sV] (bQ Ga):={}
theorem vJ:FnScope [sM,"halves"] [sM] (bQ DQ):={}
theorem vQ:FnScope [sV,"rows",sS,sA] [sV] (bQ qv):={}
theorem NL:FnScope [sN] [sN] (bQ Gh):={}
theorem Qi:FnScope [sM] [sM] (bQ GV):={}
theorem O':FnScope [sN] [sN] (bQ FE):={}
theorem Rq:FnScope [sP,tH] [sP,tH] (bQ Gq):={}
theorem jP:FnScope [sX,tZ,"_law_letters","_law_base","_law_at",sL,tH,"_law_name","_law_j"] [sX,tZ] (bQ Dh):={}
theorem qE:FnScope [tV,sX,wP,"_law_numbers","_law_turn_here",tH,"_law_j","_law_kept"] [tV,sX,wP] (bQ zt):={}
theorem kX:FnScope [sP,yA,tV,"_law_turns",tH,sX] [sP,yA] (bQ G9):={}
theorem qZ:FnScope [sL,sF,"_law_lines",tH] [sL,sF] (bQ Du):={}
theorem rP:FnScope [sF,"_law_words"] [sF] (bQ Bp):={}
theorem jL:FnScope [sL,sF,"_law_told","_law_found","_law_letter","_law_room"] [sL,sF] (bQ Fg):={}
theorem rA:FnScope [xR,sL,sF,"_law_one","_law_other"] [xR,sL,sF] (bQ F'):={}
theorem vD:FnScope [sP,sF,sL,xR,sX,"_law_other","_law_beside"] [sP] (bQ yk):={}
theorem qF:FnScope [sC,sA,sG,"k",sB] [sC,sA,sG] (bQ Ej):={}
theorem Pq:FnScope [sC] [sC] (bQ Hu):={}
theorem Px:FnScope [sC,sQ,tW] [sC,sQ,tW] (bQ HZ):={}
theorem Sc:FnScope [sC,sQ,sB] [sC,sQ,sB] (bQ DF):={}
theorem kL:FnScope [sC,sQ,xZ,sK,"still_turn","end"] [sC,sQ,xZ,sK] (bQ HU):={}
theorem OM:FnScope [sC,wH,tO] [sC,wH,tO] (bQ F9):={}
theorem RI:FnScope [sC,wH,tO,"bringing"] [sC,wH,tO,"bringing"] (bQ IC):={}
theorem UM:FnScope [sC,wH,tW] [sC,wH,tW] (bQ FW):={}
theorem S5:FnScope [sC,sA] [sC,sA] (bQ Dq):={}
theorem rB:FnScope [sC,wS,"number",wG] [sC] (bQ Gf):={}
theorem jU:FnScope [sC,sM,wF,"place",wG,tO] [sC,sM] (bQ Ih):={}
theorem qJ:FnScope [sC,wF,sM,wG,tW] [sC,wF] (bQ IF):={}
theorem qT:FnScope [sC,sM,sQ,wG,tW] [sC,sM] (bQ Ff):={}
theorem jO:FnScope [sC,wF,sK,sQ,xZ,"ends",wG,tW,"end"] [sC,wF,sK] (bQ IH):={}
theorem Sg:FnScope [sC,sM,sK] [sC,sM,sK] (bQ GZ):={}
theorem qG:FnScope [sC,tQ,sQ,wF,wG,tW] [sC,tQ] (bQ E8):={}
theorem uP:FnScope [sC,sM,sT,sK] [sC,sM,sT] (bQ EX):={}
theorem vE:FnScope [sC,sV,"written"] [sC,sV] (bQ EZ):={}
theorem vK:FnScope [sC,sM,sN] [sC,sM] (bQ BK):={}
theorem QM:FnScope [sC,xV] [sC,xV] (bQ Fx):={}
theorem xC:FnScope [sC,sS,sT] [sC,sS] (bQ Ek):={}
theorem kA:FnScope [sC,wS,sT,sB] [sC] (bQ zV):={}
inductive fH(K:V3)(d:List V)(H:Hp)(Q:VK)(b:XK):Prop|mk:∀a (e:Zs) k,d=[.ref a,.int k]->0<=k->SqL K H a (e.map V.int)->(∀c,Q (.int c) H)->fH K d H Q b
variable{P:Pg}{w:World}{K:V3}{mg:SV}{base:Heap}{f:Ad}{fd:Fd}
theorem NY(F:Fun K wK wK Gq f fd)(i:mg "len"=none):FnOk P w K mg base bZ 1 f fd [sP,tH] (fH K):=by
 refine F.ok Rq<|λj A b s H n Q E o h=>?_
 obtain⟨a,d,k,rfl,p,g,q⟩:=h;refine#[_,(bK (di (eG MF (pv 1) (cX eR zZ i dW<|bG (pv 0) bF)<|dC _) (bM<|cg<|b7 dD (pv 0) (pv 1)<|λ_ _=>rfl) dh)<|bM<|cg bL),#[_,zZ,_,zZ,a,_,zZ,.inl g,_,_,zZ,zZ,_,zZ,?_]];refine mL (λc=>?_)<|λc=>?_
 .have l:=ik c;rw[bA]at l;have m:k.toNat<d.length:=by lia
  have e:k=((k.toNat:Nat):Int):=by lia
  refine#[_,zZ,_,zZ,a,_,_,.int<|d.getD k.toNat 0,zZ,zZ,g,?_,q _];rw[e];exact J5 m
 .exact q _
structure Mach(H:Hp)(m:Ad)(ts:LN)(n:Nat):Prop where
 refs:∃rs:As,H m=some (.tup (rs.map V.ref))/\rs.length=ts.length/\∀(i:Nat) r t,rs[i]?=some r->ts[i]?=some t->H r=some (.tup (t.map nv))
 some1:1<=ts.length
 few:ts.length<=4
 n1:1<=n
 n5:n<=5
 each:∀t∈ts,t.length=n/\∀x∈t,x<n
theorem Mach.same(M:Mach H m b n)(g:Same H a):Mach a m b n:=
 #[let⟨c,d,e,f⟩:=M.refs;#[c,g _ _ d,e,λi r t h j=>g _ _<|f i r t h j],M.some1,M.few,M.n1,M.n5,M.each]
theorem Mach.at(M:Mach H m ts n)(b:l<ts.length):
  ∃(a:As) (r:Ad),H m=some (.tup (a.map V.ref))/\a.length=ts.length/\fL (a.map V.ref) (l:Int)=some (.ref r)/\H r=some (.tup ((ts.getD l []).map nv))/\(ts.getD l []).length=n/\∀x∈ts.getD l [],x<n:=by
 obtain⟨a,d,f,g⟩:=M.refs;have c:l<a.length:=by lia
 have e:ts.getD l []=ts[l]:=by rw[cW,bC b];rfl
 rw[e];obtain⟨h,i⟩:=M.each ts[l] (ga b);exact#[a,a[l],d,f,fE (by rw[bT,bC c];rfl),g l _ _ (by simp) (by simp),h,i]
noncomputable def dA(a:LN)(r:Nat)(word:bw):Nat:=word.foldl (λr l=>(a.getD l []).getD r 0) r
theorem K'(a)(r)(word)(l):dA a r (word++[l])=(a.getD l []).getD (dA a r word) 0:=by
 unfold dA;rw[oJ];rfl
theorem m8(M:Mach H m a n):∀word r,r<n->(∀l∈word,l<a.length)->dA a r word<n
 | [],_,b,_=>b
 |l::word,r,b,h=>by
  obtain⟨_,_,_,_,_,_,e,c⟩:=M.at<|h l<|cJ ..;exact m8 M word _ (xj c ()) λx d=>h x<|dS _ d
noncomputable def yH(a:LN)(n:Nat)(word:bw):bw:=(List.range n).map λr=>dA a r word
theorem NX(a)(n)(word):(yH a n word).length=n:=by simp[yH]
inductive lV(e:List V)(H:Hp)(Q:VK)(a:XK):Prop|mk:∀n c m,e=[nv n,.int c,.int m]->1<=n->n<=5->(∀(b:bw) r d,Same H d->d r=some (.tup (b.map nv))->b.length=n->(∀y∈b,y<n)->Q (.ref r) d)->lV e H Q a
inductive fZ(K:V3)(d:List V)(H:Hp)(Q:VK)(b:XK):Prop|mk:∀a (e:Zs) st,d=[.ref a,.int st]->0<=st->SqL K H a (e.map V.int)->(∀m f n c,Same H c->Mach c m f n->Q (.ref m) c)->fZ K d H Q b
def sh(H:Hp)(n:Nat)(c m:Int)(a:Ad)(e:Zs)(f:L2.St)(b:Hp):Prop:=Same H b/\∃(l:Ad) (d:bw) (g h i:Option V),f=[some (nv n),some (.int c),some (.int m),some (.ref a),some (.ref l),g,h,i]/\
 b a=some (.lst (e.map V.int))/\b l=some (.lst (d.map nv))/\H l=none/\l≠a/\d.length=n/\∀y∈d,y<n
noncomputable def Iq(n:Nat):V->V
 |.int i=>nv (i%(n:Int)).toNat
 |v=>v
theorem NE{ms:Zs}(h:1<=ms.length):∃i,fL (ms.map V.int) (-1)=some (.int i):=by
 have a:ms≠[]:=λz=>by rw[z]at h;exact wC h<|by decide
 refine#[ms.getLast a,?_];have e:ms.map V.int=ms.dropLast.map V.int++[V.int<|ms.getLast a]:=by
  conv=>lhs;rw[<-ID a]
  rw[c7];rfl
 rw[e];exact Uu _ _
theorem TH(F:Fun K "_law_turn" "_law_turn" zt f fd)(jD:mg "range"=none)(jE:mg "tuple"=none)(uQ:mg "list"=none):FnOk P w K mg base bZ 1 f fd [tV,sX,wP] lV:=by
 refine F.ok qE<|λap A ae s H vs Q E hr h=>?_
 obtain⟨n,c,m,rfl,T,h5,q⟩:=h;refine#[_,(bK (vw (CompSc.to (N:=[tV,sX,wP,"_law_numbers","_law_turn_here",tH,"_law_j","_law_kept"]) (osc:=bQ zt) (vs:=[tH]) {}) zZ zZ qE.nd (j:=3) zZ zZ (j8 zZ jD<|bG (pv 0) bF) (λ_ _ _ _=>fK)<|λ_ _ _ _=>(cw gM (cw tF (cw mJ (cw mJ (pv 3)<|cw tF (cw tF bL<|pv 0)<|pv 0) bL) bL) bL))<|bK (di (eG iH (cw gM (pv 1) bL) bL<|dC _) (bM<|cg<|gE nL zZ jE lL<|bG (gN (CompSc.to (N:=[tV,sX,wP,"_law_numbers","_law_turn_here",tH,"_law_j","_law_kept"]) (osc:=bQ zt) (vs:=["_law_number"]) {}) zZ zZ (fq<|pv 3) (λ_ _ _ _=>fK)<|λ_ _ _ _=>(cw gM (pv 0)<|pv 1)) bF) dh)<|bK (cj (i:=4) qE.nd zZ Z'<|gE (Rr zZ) zZ uQ boot_list<|bG (gE JD zZ jD boot_range<|bG (pv 0) bF) bF)<|bK (vy<|di (eG iH (cw gM (pv 1) bL) bL<|dC _) (bM<|fA fi zZ (j8 zZ jD<|bG (pv 0) bF) (dG (i:=5) qE.nd zZ Z')<|bK (cj (i:=6) qE.nd zZ Z'<|cw mJ (pv 5)<|cw gM (cw oR (b7 dD (pv 3) (pv 5)<|λ_ _=>rfl) bL)<|cw Pt (pv 0)<|pv 5)<|bK (cj (i:=7) qE.nd zZ Z'<|b7 dD (pv 4) (pv 5)<|λ_ _=>rfl)<|bK (Cg (b7 dD (pv 4) (pv 6)<|λ_ _=>rfl)<|C5 (pv 4) (pv 5) B9)<|bM<|Cg (pv 7)<|C5 (pv 4) (pv 6) B9) dh)<|bK (vy<|di (eG iH (cw gM (pv 1) bL) bL<|dC _) (bM<|Cg (cw gM (cw oR (b7 dD (pv 3) (zq zB bL)<|λ_ _=>rfl) bL)<|pv 0)<|C5 (pv 4) (cw gM (b7 dD (pv 3) bL<|λ_ _=>rfl)<|pv 0) B9) dh)<|bK (vy<|di (eG iH (cw gM (pv 1) bL) bL<|dC _) (bM<|fA fi zZ (j8 zZ jD<|bG (pv 0) bF) (dG (i:=5) qE.nd zZ Z')<|bM<|di (PW.pt<|zg (eG iH (cw gM (cw oR (pv 1) bL) bL) bL<|dC _)<|yc<|eG iH (cw gM (cw oR (b7 dD (pv 3) (pv 5)<|λ_ _=>rfl) bL) bL) bL<|dC _) (bM<|Cg (cw gM (b7 dD (pv 3) bL<|λ_ _=>rfl)<|pv 0)<|C5 (pv 4) (pv 5) B9) dh) dh)<|bM<|cg<|gE nL zZ jE lL<|bG (pv 4) bF),?_];have np:(0:Int)<(n:Int):=by lia
 have e1:(n:Int).toNat=n:=hY n;refine#[_,zZ,(n:Int),zZ,(),(),MH (f:=λ(i:Nat)=> .int<|(m+31 * (0+(i:Int)) * (0+(i:Int))+7) * 48271%2147483647) (small ()) (λi Q hi q=>?_)<|λb af=>?_]
 .have jb:CMul (31 * (0+(i:Int))) (0+(i:Int)):= .inr #[(),()];exact#[_,zZ,_,zZ,_,_,zZ,zZ,.inl #[by decide,by decide],_,zZ,_,_,zZ,zZ,jb,_,_,zZ,zZ,_,_,zZ,zZ,_,_,zZ,zZ,.inr #[by decide,by decide],_,_,zZ,zZ,(by decide:(0:Int)<2147483647),q]
 obtain⟨a,ag,ah⟩:∃a:Zs,(List.range (n:Int).toNat).map (λ(i:Nat)=>V.int<|(m+31 * (0+(i:Int)) * (0+(i:Int))+7) * 48271%2147483647)=a.map V.int/\a.length=n:=#[(List.range n).map λ(i:Nat)=>((m+31 * (0+(i:Int)) * (0+(i:Int))+7) * 48271%2147483647),by rw[e1,eM];rfl,by simp];rw[ag];have r:=bP af<|.lst<|a.map V.int;have d:bx H b (.lst<|a.map V.int) b=some (.lst<|a.map V.int):=bE;generalize bx H b (.lst<|a.map V.int)=H1 at r d|-;refine#[_,zZ,_,_,zZ,zZ,(by decide:(0:Int)<4),zZ,_,zZ,mL (λc1=>?_)<|λc1=>?_]
 .refine#[_,zZ,b,zZ,#[_,V1 d],Fj (f:=Iq n) (small (by rw[bA];lia)) (V1 d) (λv Q hv q=>?_)<|λp hp=>?_]
  .obtain⟨i,_,rfl⟩:=bY.mp hv;refine#[_,zZ,_,zZ,_,_,zZ,zZ,np,?_];try dsimp only
   rw[(df i T).1];exact q
  .refine#[p,_,zZ,.inl #[V1 bE,λt ht=>q (a.map λi=>(i%(n:Int)).toNat) t _ ((r.trans<|bP hp _).trans<|bP ht _) (by rw[bE,eM,eM];rfl) (by rw[bA,ah]) λy o=>?_]];obtain⟨i,_,rfl⟩:=bY.mp o;exact(df i T).2
 refine#[_,zZ,(n:Int),zZ,λp1 ai=>#[p1,(n:Int),zZ,bE,(),(),λl e=>?_]];have k1:=bP ai<|.rng 0 (n:Int);have k2:=bP e<|.lst<|mP (n:Int).toNat;have num:∀{k:Nat},k<n->fL (a.map V.int) ((k:Nat):Int)=some (.int<|a.getD k 0):=λh=>J5 ();have s1:sh H n c m b a [some<|nv n,some<|.int c,some<|.int m,some<|.ref b,some<|.ref l,none,none,none] (bx (bx H1 p1<|.rng 0 (n:Int)) l<|.lst<|mP (n:Int).toNat):=
  #[(r.trans k1).trans k2,l,List.range n,none,none,none,zZ,((k1.trans k2) _ _ d),by rw[bE];rfl,(r.trans k1).free e,(λz=>by rw[z,k1 _ _ d]at e;cases e),by simp,λy o=>List.mem_range.mp o]
 refine#[sh H n c m b a,?_,λaq H2 p2=>?_]
 .refine#[_,zZ,_,_,zZ,zZ,(by decide:(0:Int)<4),zZ,_,zZ,mL (λc2=>?_)<|λc2=>s1];refine#[_,zZ,(n:Int),zZ,(),(),nS (λ_ B u=>sh H n c m b a B u) s1 (λi B u hi p=>?_)<|λB u p=>p];obtain⟨g,l,ys,o1,I,J,rfl,C,L,e,M,x,o⟩:=p;have D:i<n:=by lia
  have O:(0+(i:Int))=((i:Nat):Int):=by lia
  have ip:(0:Int)<(n:Int)-(0+(i:Int)):=by lia
  refine#[_,zZ,_,zZ,_,zZ,b,_,_,_,zZ,zZ,V1 C,(by rw[O];exact num D),_,_,zZ,zZ,#[by decide,by decide],_,zZ,_,zZ,_,_,zZ,zZ,_,_,zZ,zZ,ip,_,_,zZ,zZ,?_];obtain⟨k,ek,hk⟩:∃k:Nat,0+(i:Int)+a.getD i 0/8%((n:Int)-(0+(i:Int)))=(k:Int)/\k<n:=#[(0+(i:Int)+a.getD i 0/8%((n:Int)-(0+(i:Int)))).toNat,by have:=IK (a.getD i 0/8)<|Int.ne_of_gt ip;lia,by have:=Hv (a.getD i 0/8) ip;lia]
  try dsimp only
  rw[ek];refine#[_,zZ,_,zZ,l,_,_,_,zZ,zZ,V1 L,(by rw[O];exact sv ()),?_];refine#[_,zZ,_,zZ,l,_,_,_,zZ,zZ,V1 L,sv (),_,zZ,_,zZ,l,_,_,i,zZ,zZ,L,(by rw[O,bA];exact Dn ()),?_]
  try dsimp only
  rw[BV];refine#[_,zZ,_,zZ,_,zZ,l,_,_,k,zZ,zZ,bE,(by rw[bA,v0];exact Dn ()),?_]
  try dsimp only
  rw[BV,RJ];exact#[gh g e,l,_,_,_,_,zZ,by rw[bI<|dX M];exact C,bE,e,M,by rw[v0,v0,x],DJ (DJ o<|xj o ())<|xj o ()]
 obtain⟨g2,l2,ar,o1,I,J,rfl,G,aj,Y,tD,aa,ak⟩:=id p2;refine#[sh H n c m b a,?_,λas H3 p3=>?_]
 .refine#[_,zZ,_,_,zZ,zZ,(by decide:(0:Int)<4),zZ,_,zZ,mL (λc3=>?_)<|λc3=>p2];obtain⟨v,ev⟩:=NE (ms:=a) ();refine#[_,zZ,_,zZ,b,_,_,_,zZ,zZ,V1 G,ev,_,_,zZ,zZ,#[by decide,by decide],_,zZ,_,_,zZ,zZ,np,?_]
  try dsimp only
  obtain⟨m1,m2⟩:=df (v/8) T;obtain⟨m3,m4⟩:=df (a.getD 0 0) T;rw[m1];refine#[_,zZ,_,zZ,b,_,_,_,zZ,zZ,V1 G,num (k:=0) (),_,zZ,_,_,zZ,zZ,np,?_]
  try dsimp only
  rw[m3];refine#[l2,_,_,(a.getD 0 0%(n:Int)).toNat,zZ,zZ,aj,(by rw[bA];exact Dn ()),?_]
  try dsimp only
  rw[BV];exact#[gh g2 Y,l2,_,_,_,_,zZ,by rw[bI<|dX tD];exact G,bE,Y,tD,by rw[v0,aa],DJ ak m2]
 obtain⟨g3,l3,au,o1,I,J,rfl,av,aw,ax,yp,ao,ay⟩:=id p3;refine#[sh H n c m b a,?_,λaz H4 p4=>?_]
 .refine#[_,zZ,_,_,zZ,zZ,(by decide:(0:Int)<4),zZ,_,zZ,mL (λc4=>?_)<|λc4=>p3];refine#[_,zZ,(n:Int),zZ,(),(),nS (λ_ B u=>sh H n c m b a B u) p3 (λi B u hi p=>?_)<|λB u p=>p];obtain⟨g,l,ys,o1,I,J,rfl,C,L,e,M,x,o⟩:=p;have D:i<n:=by lia
  have O:(0+(i:Int))=((i:Nat):Int):=by lia
  obtain⟨m3,m4⟩:=df (a.getD 0 0) T;have keep:sh H n c m b a [some<|nv n,some<|.int c,some<|.int m,some<|.ref b,some<|.ref l,some<|.int<|0+(i:Int),I,J] u:=#[g,l,ys,_,_,_,zZ,C,L,e,M,x,o];have set:sh H n c m b a [some<|nv n,some<|.int c,some<|.int m,some<|.ref b,some<|.ref l,some<|.int<|0+(i:Int),I,J] (bx u l<|.lst<|(ys.set i (a.getD 0 0%(n:Int)).toNat).map nv):=#[gh g e,l,_,_,_,_,zZ,by rw[bI<|dX M];exact C,bE,e,M,by rw[v0,x],DJ o m4];refine#[_,zZ,_,_,zZ,zZ,#[by decide,by decide],_,_,zZ,zZ,(by decide:(0:Int)<3),zZ,_,zZ,mL (λc5=>dP ?_)<|λc5=>#[_,zZ,_,zZ,b,_,_,_,zZ,zZ,V1 C,(by rw[O];exact num D),_,_,zZ,zZ,#[by decide,by decide],_,_,zZ,zZ,(by decide:(0:Int)<2),zZ,_,zZ,mL (λc6=>?_)<|λc6=>keep]]
  all_goals
   refine#[_,zZ,b,_,_,_,zZ,zZ,V1 C,num (k:=0) (),_,zZ,_,_,zZ,zZ,np,?_];try dsimp only
   rw[m3];refine#[_,zZ,_,zZ,l,_,_,i,zZ,zZ,L,(by rw[O,bA];exact Dn ()),?_];try dsimp only
   rw[BV];exact set
 .obtain⟨g4,l4,al,o1,I,J,rfl,aA,am,aB,CS,ab,an⟩:=p4;exact#[_,zZ,l4,_,zZ,.inl #[V1 am,λt ht=>q al t _ (g4.trans<|bP ht _) bE ab an]]
theorem Uk(F:Fun K wX wX G9 f fd)(L:cn P w K mg base wK 1 [sP,tH] (fH K))(rQ:cn P w K mg base "_law_turn" 1 [tV,sX,wP] lV)(jD:mg "range"=none) (jE:mg "tuple"=none):FnOk P w K mg base bZ 3 f fd [sP,yA] (fZ K):=by
 refine F.ok kX (λab A O s H vs Q E u h=>?_)
 obtain⟨a,M,st,rfl,h0,N,q⟩:=h;refine#[_,(bK (cj (i:=2) kX.nd zZ Z' (cw mJ bL (cw gM (ck L u.m zZ (b8 (bB (pv 0) (bB (pv 1) bW zZ) zZ))) bL))) (bK (cj (i:=3) kX.nd zZ Z' (gw bF)) (bK (fA fi zZ (j8 zZ jD (bG (cw mJ bL (cw gM (cw oR (ck L u.m zZ (b8 (bB (pv 0) (bB (pv 1) bW zZ) zZ))) bL) bL)) bF)) (dG (i:=4) kX.nd zZ Z') (bK (cj (i:=5) kX.nd zZ Z' (ck L u.m zZ (b8 (bB (pv 0) (bB (cw mJ (cw mJ (pv 1) bL) (cw tF bL (pv 4))) bW zZ) zZ)))) (bM (iR (hO iM lW lF lJ (pv 3) (bG (ck rQ u.m zZ (b8 (bB (pv 2) (bB (pv 5) (bB (ck L u.m zZ (b8 (bB (pv 0) (bB (cw mJ (cw mJ (pv 1) bL) (cw tF bL (pv 4))) bW zZ) zZ))) bW zZ) zZ) zZ))) bF)))))) (bM (cg (gE nL zZ jE lL (bG (pv 3) bF))))))),?_];refine#[_,zZ,_,zZ,a,M,st,zZ,h0,N,λc=>#[_,_,zZ,zZ,(by decide:(0:Int)<5),_,_,zZ,zZ,?_]];obtain⟨n,en,n1,n5⟩:∃n:Nat,(1+c%5:Int)=(n:Int)/\1<=n/\n<=5:=#[(1+c%5).toNat,(),(),()]
 try dsimp only
 rw[en];refine#[by decide,λtl v=>?_];have l:=bP v (.lst []);have y:bx H tl (.lst []) tl=some (.lst []):=bE;generalize bx H tl (.lst [])=H1 at l y|-;refine#[_,zZ,_,zZ,a,M,st,zZ,h0,l.seq N,λT=>#[_,_,zZ,zZ,#[by decide,by decide],_,_,zZ,zZ,(by decide:(0:Int)<4),_,_,zZ,zZ,?_]];obtain⟨k,ek,k1,k4⟩:∃k:Nat,(1+T/5%4:Int)=(k:Int)/\1<=k/\k<=4:=#[(1+T/5%4).toNat,(),(),()]
 let Pk:Nat->L2.St->Hp->Prop:=λi U Y=>Same H Y/\∃(d:As) (g:LN) (o4 o5:Option V),Y tl=some (.lst (d.map .ref))/\d.length=i/\g.length=i/\(∀(j:Nat) r t,d[j]?=some r->g[j]?=some t->Y r=some (.tup (t.map nv)))/\(∀t∈g,t.length=n/\∀x∈t,x<n)/\U=[some (.ref a),some (.int st),some (nv n),some (.ref tl),o4,o5]
 refine#[(k:Int),(by rw[ek]),(),(),nS Pk #[l,[],[],none,none,y,zZ,zZ,(λj r t e=>wC e (by simp)),(λt ht=>wC ht (by simp)),zZ] (λi U H2 hi p=>?_) (λU H2 p=>?_)]
 .obtain⟨B,d,g,o4,o5,b,C,D,m,ht,rfl⟩:=p;have ae:i<k:=by simpa using hi
  refine#[_,zZ,_,zZ,_,_,zZ,zZ,_,zZ,_,_,zZ,zZ,.inl #[by decide,by decide],_,_,zZ,zZ,a,M,_,zZ,(),B.seq N,λcl=>?_];refine#[_,zZ,.inl #[zZ,_,V1 b],_,zZ,_,zZ,_,zZ,_,zZ,_,_,zZ,zZ,_,zZ,_,_,zZ,zZ,.inl #[by decide,by decide],_,_,zZ,zZ,a,M,_,zZ,(),B.seq N,λcm=>?_];refine#[n,cl,cm,zZ,n1,n5,λys r H3 G er aa hy=>#[tl,_,_,zZ,zZ,G _ _ b,by rw[bA,cq];lia,?_]];refine#[gh (B.trans G) v,d++[r],g++[ys],_,_,by rw[bE,c7];rfl,by rw[cC,C];rfl,by rw[cC,D];rfl,λj r' I o J=>?_,λI h'=>?_,zZ]
  .rcases yt j i with hj|hj
   .rw[dO ()]at o J;have z:=G _ _ (m j r' I o J);rw[bI (nE z (G _ _ b))];exact z
   .rw[dQ ()]at o J;have j0:j-d.length=0:=by
     have:=(bN.mp o).1;simp at this;lia
    have j1:j-g.length=0:=by lia
    rw[j0]at o;rw[j1]at J;cases o;cases J;rw[bI (nE er (G _ _ b))];exact er
  .rcases cF.mp h' with z|z
   .exact ht I z
   .rw[cf.mp z];exact#[aa,hy]
 .obtain⟨B,d,g,o4,o5,b,C,D,m,ht,rfl⟩:=p;have o:=hY k;refine#[_,zZ,tl,_,zZ,.inl #[V1 b,λt nt=>q t g n _ (B.trans (bP nt _)) #[#[d,bE,(),λj r I a1 a2=>bP nt _ _ _ (m j r I a1 a2)],(),(),n1,n5,ht]]]
def v9(c:Nat):Prop:=97<=c/\c<=122
structure NameOk(x:Str):Prop where
 some1:1<=x.cps.toList.length
 few:x.cps.toList.length<=8
 small:∀c∈x.cps.toList,v9 c
noncomputable def u5:Str:=tJ
theorem Lh:u5.length=26:=by decide+kernel
theorem EM(h:i<26):fL u5.cps.toList ((i:Nat):Int)=some (97+i):=by
 refine fE ?_;have z:∀i:Fin 26,u5.cps.toList[i.1]?=some (97+i.1):=by decide+kernel
 exact z #[i,h]
theorem Jm(c):V.int (c%26)=nv (c%26).toNat/\(c%26).toNat<26:=df c<|by decide
theorem Eg:(Str.ofString "").cps.toList=[]:=by decide+kernel
theorem fP(x y:Str):(x++y).cps.toList=x.cps.toList++y.cps.toList:=by
 show(x.cps++y.cps).toList=_;simp
theorem iL(x:Str):x.length=x.cps.toList.length:=by
 show x.cps.size=_;simp
inductive i4(e:List V)(H:Hp)(Q:VK)(b:XK):Prop|mk:∀c,e=[.int c,.int 4]->(∀l (a:Ss) d,Same H d->d l=some (.lst (a.map V.str))->H l=none->a.length=4->a.Nodup->(∀x∈a,NameOk x)->Q (.ref l) d)->i4 e H Q b
theorem Q8(F:Fun K yB yB Dh f fd)(jD:mg "range"=none)(jA:mg "len"=none)(uL:mg "int"=none):FnOk P w K mg base bZ 1 f fd [sX,tZ] i4:=by
 refine F.ok jP<|λao A ag s H vs Q E hr h=>?_
 obtain⟨c,rfl,q⟩:=h;refine#[_,(bK (cj (i:=2) jP.nd zZ Z' dM)<|bK (vw (CompSc.to (N:=[sX,tZ,"_law_letters","_law_base","_law_at",sL,tH,"_law_name","_law_j"]) (osc:=bQ Dh) (vs:=[tH]) {}) zZ zZ jP.nd (j:=3) zZ zZ (j8 zZ jD<|bG (cw mJ bL<|cw gM (pv 0) bL) bF) (λ_ _ _ _=>fK)<|λ_ _ _ _=>(cw gM (cw mJ (cw oR (cw oR (pv 1) bL)<|cw mJ (cw tF (pv 0)<|pv 0) bL)<|cw tF bL<|pv 0) bL))<|bK (cj (i:=4) jP.nd zZ Z'<|cw gM (cw oR (pv 0) bL)<|cX eR zZ jA dW<|bG (pv 3) bF)<|bK (cj (i:=5) jP.nd zZ Z'<|gw bF)<|bK (fA fi zZ (j8 zZ jD<|bG (pv 1) bF) (dG (i:=6) jP.nd zZ Z')<|bK (cj (i:=7) jP.nd zZ Z' dM)<|bK (fA fi zZ (j8 zZ jD<|bG (cX eR zZ jA dW<|bG (pv 3) bF) bF) (dG (i:=8) jP.nd zZ Z')<|bM<|cj (i:=7) jP.nd zZ Z'<|cw mG (pv 7)<|b7 Jj (pv 2) (cw gM (cw mJ (b7 dD (pv 3) (pv 8)<|λ_ _=>rfl)<|cw tF (pv 6)<|gE Qv zZ uL boot_int<|bG (mK iH (pv 8) (pv 4)<|dC _) bF) bL)<|λ_ _=>rfl)<|bK (vy<|di (PW.pt<|yZ (eG iH (cw gM (cw oR (pv 0) bL) bL) bL<|dC _)<|yK<|eG iH (cw gM (pv 6) bL) bL<|dC _) (bM<|cj (i:=7) jP.nd zZ Z'<|cw mG (pv 7)<|b7 Jj (pv 2) (cw gM (cw oR (pv 0) bL) bL)<|λ_ _=>rfl) dh)<|bM<|iR<|hO iM lW lF lJ (pv 5)<|bG (pv 7) bF)<|bM<|cg<|pv 5),?_];have cN:∀{i:Nat},i<7->CMul (0+(i:Int)) (0+(i:Int)):=λ{i} h=> .inl #[(),()];obtain⟨L,eL,L1,L7⟩:∃L:Nat,(1+c%7:Int)=(L:Int)/\1<=L/\L<=7:=#[(1+c%7).toNat,(),(),()];have I:(L:Int).toNat=L:=hY L;refine#[_,zZ,_,_,zZ,zZ,(by decide:(0:Int)<7),_,_,zZ,zZ,(L:Int),(by show[V.int<|1+c%7]=_;rw[eL]),(),(),MH (f:=λ(i:Nat)=>nv ((c/7/ ((0+(i:Int)) * (0+(i:Int))+1)+5 * (0+(i:Int)))%26).toNat) (small ()) (λi Q hi q=>?_)<|λl ah=>?_]
 .have ai:i<7:=by lia
  have sq:(0+(i:Int)) * (0+(i:Int))<=49:=by
   have:=Int.mul_le_mul (show(0+(i:Int))<=7 by lia) (show(0+(i:Int))<=7 by lia) () (by decide);lia
  have ap:0<=(0+(i:Int)) * (0+(i:Int)):=Int.mul_nonneg () ();refine#[_,zZ,_,_,zZ,zZ,#[by decide,by decide],_,zZ,_,zZ,_,_,zZ,zZ,cN ai,_,_,zZ,zZ,_,_,zZ,zZ,#[(),()],_,zZ,_,_,zZ,zZ,.inl #[by decide,by decide],_,_,zZ,zZ,_,_,zZ,zZ,(by decide:(0:Int)<26),?_]
  try dsimp only
  rw[(Jm _).1];exact q
 obtain⟨bs,aj,J,an⟩:∃bs:bw,(List.range (L:Int).toNat).map (λ(i:Nat)=>nv ((c/7/ ((0+(i:Int)) * (0+(i:Int))+1)+5 * (0+(i:Int)))%26).toNat)=bs.map nv/\bs.length=L/\∀b∈bs,b<26:=
  #[(List.range L).map λ(i:Nat)=>((c/7/ ((0+(i:Int)) * (0+(i:Int))+1)+5 * (0+(i:Int)))%26).toNat,by rw[I,eM];rfl,by simp,λb hb=>by
   obtain⟨i,_,rfl⟩:=bY.mp hb;exact(df (n:=26) _ (by decide)).2]
 rw[aj];have M:=bP ah (.lst (bs.map nv));have o:bx H l (.lst (bs.map nv)) l=some (.lst (bs.map nv)):=bE;generalize bx H l (.lst (bs.map nv))=H1 at M o|-;have Lp:(0:Int)<(((bs.map nv).length:Nat):Int):=by rw[bA,J];lia
 refine#[_,zZ,_,_,zZ,zZ,#[by decide,by decide],_,zZ,l,_,zZ,.inl (V1 o),_,_,zZ,zZ,Lp,?_];obtain⟨m1,m2⟩:=df (c/7) L1
 try dsimp only
 rw[bA,J,m1];generalize(c/7%(L:Int)).toNat=a at m2;refine#[by show 0<=sizeLine;decide,λr O=>?_];have T:=bP O (.lst []);have aa:bx H1 r (.lst []) r=some (.lst []):=bE;have ab:H r=none:=M.free O;have nb:l≠r:=λz=>by rw[z,O]at o;cases o
 have C:=T _ _ o;generalize bx H1 r (.lst [])=H2 at T aa C|-
 let ae (x:Str) (k m:Nat):Prop:=x.cps.toList.length=m/\(∀c∈x.cps.toList,v9 c)/\(a<m->x.cps.toList[a]?=some (97+(bs.getD a 0+k)%26))
 let Pk:Nat->L2.St->Hp->Prop:=λk U D=>Same H D/\∃(t:Ss) (o6 o7 u:Option V),D l=some (.lst (bs.map nv))/\D r=some (.lst (t.map V.str))/\t.length=k/\(∀(j:Nat) x,t[j]?=some x->NameOk x/\x.cps.toList[a]?=some (97+(bs.getD a 0+j)%26))/\U=[some (.int c),some (.int 4),some (.str u5),some (.ref l),some (nv a),some (.ref r),o6,o7,u]
 refine#[_,zZ,4,zZ,by decide,by decide,nS Pk #[M.trans T,[],none,none,none,C,aa,zZ,(λj x e=>wC e (by simp)),zZ] (λk U H3 hk p=>?_) (λU H3 p=>?_)]
 .obtain⟨g3,t,o6,o7,u,v,B,lx,g,rfl⟩:=p;have aq:k<4:=by simpa using hk
  let Pj:Nat->L2.St->Hp->Prop:=λj U D=>D=H3/\∃(x:Str) (u:Option V),ae x k j/\U=[some (.int c),some (.int 4),some (.str u5),some (.ref l),some (nv a),some (.ref r),some (.int (0+(k:Int))),some (.str x),u]
  refine#[_,zZ,l,_,zZ,.inl (V1 v),(L:Int),(by rw[bA,J]),(),(),nS Pj #[zZ,_,_,#[by rw[Eg];rfl,(λc Y=>wC Y (by rw[Eg];simp)),λh=>wC h ()],zZ] (λj U H4 hj p=>?_) (λU H4 p=>?_)]
  .obtain⟨rfl,x,u,⟨G,g2,g4⟩,rfl⟩:=p;have ar:j<L:=by simpa using hj
   have e0:(0+(j:Int))=((j:Nat):Int):=by lia
   obtain⟨b,eb,b1⟩:∃b:Int,(if decide (V.int (0+(j:Int))=nv a)=true then(1:Int)else 0)=b/\b=if j=a then 1 else 0:=#[_,zZ,by
    by_cases z:j=a
    .rw[wB z,wB (cK (by rw[z,td]))]
    .rw[wA z,wA λy=>z (by have y':=ik y;injection y' with y';lia)]]
   have b2:b=0\/b=1:=by rw[b1];split<;>simp
   have cm:CMul (0+(k:Int)) b:= .inl #[(),()];obtain⟨m3,m4⟩:=df (n:=26) ((bs.getD j 0:Int)+(0+(k:Int)) * b) (by decide);have ak:fL (bs.map nv) ((j:Nat):Int)=some (nv (bs.getD j 0)):=sv ();refine#[_,zZ,_,zZ,_,zZ,_,zZ,l,_,_,_,zZ,zZ,V1 v,(by rw[e0];exact ak),_,zZ,_,zZ,_,zZ,zZ,.inr #[_,zZ,?_]];rw[eb];refine#[_,_,zZ,zZ,cm,_,_,zZ,zZ,_,_,zZ,zZ,(by decide:(0:Int)<26),?_];try dsimp only
   have as:V.int (((bs.getD j 0:Nat):Int)+(0+(k:Int)) * b)=V.int (((bs.getD j 0:Nat):Int)+(0+(k:Int)) * b):=rfl;rw[show V.int ((((bs.getD j 0:Nat):Int)+(0+(k:Int)) * b)%26)=nv ((((bs.getD j 0:Nat):Int)+(0+(k:Int)) * b)%26).toNat from m3];generalize ed:((((bs.getD j 0:Nat):Int)+(0+(k:Int)) * b)%26).toNat=d at m4;refine#[_,_,_,zZ,zZ,by rw[Lh,cq];decide,EM m4,_,_,zZ,zZ,?_,zZ,x++#[#v[97+d]],_,#[?_,?_,?_],zZ]
   .rw[iL,G];show j+1<=sizeLine;rw[cq];lia
   .rw[fP,cC,G];rfl
   .intro c' Y;rw[fP]at Y
    rcases cF.mp Y with h|h
    .exact g2 _ h
    .rw[cf.mp h];exact#[(),()]
   .intro h;rw[fP]
    rcases yt a j with h2|h2
    .rw[dO ()];exact g4 h2
    .have ea:a=j:=by lia
     rw[dQ (),G,ea,mT];show some (97+d)=_
     rw[<-ed,b1,wB ea.symm]
     congr 2
     lia
  .obtain⟨rfl,x,u,⟨G,g2,g4⟩,rfl⟩:=p;have G:x.cps.toList.length=L:=G.trans I;have g4:x.cps.toList[a]?=some (97+(bs.getD a 0+k)%26):=g4 (by rw[I];exact m2);refine#[λaf D=>D=H4/\∃(y:Str) (u:Option V),NameOk y/\y.cps.toList[a]?=some (97+(bs.getD a 0+k)%26)/\af=[some (.int c),some (.int 4),some (.str u5),some (.ref l),some (nv a),some (.ref r),some (.int (0+(k:Int))),some (.str y),u],?_,λaf D p'=>?_]
   .have stay:NameOk x:=#[(),(),g2];refine#[_,zZ,_,_,zZ,zZ,#[by decide,by decide],_,_,zZ,zZ,(by decide:(0:Int)<2),zZ,_,zZ,mL (λc5=>?_) (λc5=>cR #[zZ,x,_,stay,g4,zZ])];refine#[_,zZ,_,_,zZ,zZ,(by decide:(0:Int)<2),zZ,_,zZ,mL (λc6=>?_) (λc6=>#[zZ,x,_,stay,g4,zZ])];obtain⟨m5,m6⟩:=Jm (c/98);refine#[_,zZ,_,zZ,_,zZ,_,_,zZ,zZ,#[by decide,by decide],_,_,zZ,zZ,(by decide:(0:Int)<26),?_];try dsimp only
    rw[m5];generalize(c/98%26).toNat=d at m6;refine#[_,_,_,zZ,zZ,by rw[Lh,cq];decide,EM m6,_,_,zZ,zZ,?_,zZ,x++#[#v[97+d]],_,#[?_,?_,?_],?_,zZ]
    .rw[iL,G];show L+1<=sizeLine;rw[cq];lia
    .rw[fP,cC];lia
    .rw[fP,cC,G];show L+1<=8;lia
    .intro c' Y;rw[fP]at Y
     rcases cF.mp Y with h|h
     .exact g2 _ h
     .rw[cf.mp h];exact#[(),()]
    .rw[fP,dO ()];exact g4
   .obtain⟨rfl,y,u,al,am,rfl⟩:=p';refine#[_,zZ,.inl #[zZ,_,V1 B],_,zZ,r,_,_,zZ,zZ,B,by rw[bA,cq];lia,?_];refine#[gh g3 ab,t++[y],_,_,_,by rw[bI nb];exact v,by rw[bE,c7];rfl,by rw[cC,lx];rfl,λj x' e=>?_,zZ]
    rcases yt j k with h|h
    .rw[dO ()]at e;exact g j x' e
    .rw[dQ ()]at e;have j0:j-t.length=0:=by
      have:=(bN.mp e).1;simp at this;lia
     have jk:j=k:=by lia
     rw[j0]at e;cases e;rw[jk];exact#[al,am]
 .obtain⟨g3,t,o6,o7,u,v,B,lx,g,rfl⟩:=p;refine#[_,zZ,q r t _ g3 B ab lx ?_ λx hx=>?_]
  .rw[ES];refine oV.mpr λi j hi hj au e=>?_;have av:j<4:=by have:t.length=4:=lx;lia
   have ei:=(g i t[i] (bC _)).2;rw[e,((g j t[j] (bC _)).2)]at ei;have z:=ge ei;lia
  .obtain⟨j,hj,e⟩:=CO hx;exact(g j x (by rw[bC hj,e])).1
theorem mW{x y:Str}(h:x.cps.toList=y.cps.toList):x=y:=by
 cases x;cases y
 congr 1
 exact GF.mp h
noncomputable def jl(c:bw):LN->List Nat
 | []=>[]
 | [x]=>x
 |x::y::r=>x++c++jl c (y::r)
theorem EU(a):∀l:Ss,(Str.join a l).cps.toList=jl a.cps.toList (l.map λx=>x.cps.toList)
 | []=>rfl
 | [x]=>rfl
 |x::y::r=>by
  show(x++a++Str.join a (y::r)).cps.toList=x.cps.toList++a.cps.toList++jl _ _;rw[fP,fP,EU a (y::r)];rfl
theorem rN(a)(l:Ss):(Txt.join a l).cps.toList=jl a.cps.toList (l.map λx=>x.cps.toList):=by
 rw[eq_of_beq<|Er a l,EU]
theorem KL:∀{x y A B:bw},c∉x->c∉y->x++c::A=y++c::B->x=y/\A=B
 | [],[],A,B,_,_,h=>#[zZ,by injection h]
 | [],b::y,A,B,_,e,h=>by
  injection h with d _
  exact wC (by rw[d];exact cJ ..) e
 |a::x,[],A,B,f,_,h=>by
  injection h with d _
  exact wC (by rw[<-d];exact cJ ..) f
 |a::x,b::y,A,B,f,e,h=>by
  injection h with d g
  obtain⟨i,j⟩:=KL (λz=>f (dS _ z)) (λz=>e (dS _ z)) g;exact#[by rw[d,i],j]
theorem MO:∀{ps qs:LN},ps≠[]->qs≠[]->(∀p∈ps,c∉p)->(∀p∈qs,c∉p)->jl [c] ps=jl [c] qs->ps=qs
 | [],_,h,_,_,_,_=>wC zZ h
 |_,[],_,h,_,_,_=>wC zZ h
 | [x],[y],_,_,_,_,h=>by
  have a:x=y:=h;rw[a]
 | [x],y::z::r,_,_,b,_,h=>by
  have a:x=y++[c]++jl [c] (z::r):=h;exact wC (by rw[a];simp)<|b x<|List.mem_singleton.mpr zZ
 |x::z::r,[y],_,_,_,d,h=>by
  have a:x++[c]++jl [c] (z::r)=y:=h;exact wC (by rw[<-a];simp)<|d y<|List.mem_singleton.mpr zZ
 |x::z::r,y::e::f,_,_,b,d,h=>by
  have a:x++[c]++jl [c] (z::r)=y++[c]++jl [c] (e::f):=h;rw[dR,dR]at a;obtain⟨g,i⟩:=KL (b x<|cJ ..) (d y<|cJ ..) a;rw[g,(MO (by simp) (by simp) (λp h=>b p<|List.mem_cons_of_mem _ h) (λp h=>d p<|List.mem_cons_of_mem _ h) i)]
theorem LS{a:Ss}(f:a≠[])(h:∀p∈a,c∉p.cps.toList):Txt.split (Txt.join #[#v[c]] a) #[#v[c]]=a:=by
 have e:(Str.join #[#v[c]]<|Txt.split (Txt.join #[#v[c]] a) #[#v[c]]).cps.toList=(Txt.join #[#v[c]] a).cps.toList:=by rw[(StrLaws.join_split (Txt.join #[#v[c]] a) #[#v[c]])]
 rw[EU,rN]at e;have i:=MO (by
   intro z;have:=split_pos (Txt.join #[#v[c]] a) #[#v[c]]
   rw[x4.mp z]at this;exact wC this<|by decide) (by simp_all) (λp b=>by
   obtain⟨x,d,rfl⟩:=bY.mp b;exact StrLaws.split_free _ c x d) (λp b=>by
   obtain⟨x,d,rfl⟩:=bY.mp b;exact h x d) e
 exact Fb (λx y z=>mW z) |>.mp i
theorem Vj(h:c∉a.cps.toList):Txt.partition (a++#[#v[c]]++b) #[#v[c]]=(a,#[#v[c]],b):=by
 have d:(a++#[#v[c]]++b).cps.toList=a.cps.toList++c::b.cps.toList:=by
  rw[fP,fP,dR];rfl
 generalize a++#[#v[c]]++b=x at d;have here:x.cps.toList[a.cps.toList.length]?=some c:=by rw[d,dQ (bR _),mT];rfl
 have k:x.length=a.cps.toList.length+1+b.cps.toList.length:=by rw[iL,d,cC,i3];lia
 unfold Txt.partition
 rcases StrLaws.occ_head x #[#v[c]] 1 (bR 1)with⟨g,f⟩|⟨i,r,g,l,f⟩
 .exact wC ((FA x c _).mpr here) (f _)
 .rw[g];have e:=(FA x c i).mp l;have j:i=a.cps.toList.length:=by
   rcases Nat.lt_trichotomy i a.cps.toList.length with z|z|z
   .rw[d,dO z]at e;exact wC (bX e) h
   .exact z
   .exact wC ((FA x c _).mpr here) (f _ z)
  show(Builtin.Str.strSub x 0 i,(#[#v[c]]:Str),Builtin.Str.strSub x (i+1) x.length)=_
  congr 1
  .refine mW ?_;rw[StrLaws.strSub_toList,d,j];simp
  .congr 1
   refine mW ?_;rw[StrLaws.strSub_toList,d,j,k];have m:List.drop (a.cps.toList.length+1) (a.cps.toList++c::b.cps.toList)=b.cps.toList:=by
    rw[List.drop_append];simp
   rw[m];exact yh ()
noncomputable def LI(d:Nat):bw:=[32,48+d]
noncomputable def mF(t:bw):bw:=t.flatMap LI
noncomputable def ig(t:bw):Str:=#[(mF t).toArray]
noncomputable def oZ(x:Str)(t:bw):Str:=x++#[#v[58]]++ig t
noncomputable def iT(a:Ss)(b:LN):Ss:=List.zipWith oZ a b
noncomputable def uz(a:Ss)(b:LN):Str:=Txt.join #[#v[10]] (iT a b)
theorem qc(t):(ig t).cps.toList=mF t:=by
 show(mF t).toArray.toList=_;simp
theorem Aa(t):(mF t).length=2 * t.length:=by
 unfold mF
 induction t with
 |nil=>rfl
 |cons a t b=>rw[FD,cC,b,i3];show 2+_=_;lia
theorem zw:∀t,mz (mF t)=t.map λ_=>32
 | []=>rfl
 |a::t=>by
  show mz (32::(48+a)::mF t)=32::t.map λ_=>32;rw[<-zw t];rfl
theorem u0:∀t,mz ((mF t).drop 1)=t.map λd=>48+d
 | []=>rfl
 | [a]=>rfl
 |a::b::t=>by
  show mz ((48+a)::32::(48+b)::mF t)=(48+a)::(b::t).map λd=>48+d;rw[<-(u0 (b::t))];rfl
theorem Rn(h:c∈mF t):c=32\/∃d∈t,c=48+d:=by
 obtain⟨d,b,a⟩:=List.mem_flatMap.mp h;simp only[LI,List.mem_cons,List.not_mem_nil,or_false]at a
 rcases a with rfl|rfl
 .exact .inl rfl
 .exact .inr #[d,b,zZ]
theorem PQ(h:NameOk x):Txt.partition (oZ x t) #[#v[58]]=(x,#[#v[58]],ig t):=Vj λz=>by
 have:=h.small _ z;unfold v9 at this;lia
theorem Nu(x)(t):(oZ x t).cps.toList=x.cps.toList++[58]++mF t:=by
 unfold oZ;rw[fP,fP,qc]
theorem Sf(h:NameOk x):10∉(oZ x t).cps.toList:=λz=>by
 rw[Nu]at z
 rcases cF.mp z with z|z
 .rcases cF.mp z with z|z
  .have:=h.small _ z;unfold v9 at this;lia
  .exact wC (cf.mp z)<|by decide
 .rcases Rn z with e|⟨d,_,e⟩<;>lia
theorem J2(h:NameOk x)(ht:t.length<=5):(oZ x t).length<=19:=by
 rw[iL,Nu,cC,cC,Aa];have:=h.few;show _+1+_<=19;lia
theorem NV(f:b.length=a.length)(c:1<=a.length)(h:∀x∈b,NameOk x):Txt.split (uz b a) #[#v[10]]=iT b a:=by
 refine LS (λz=>?_) λp d=>?_
 .have e:=cH List.length z;unfold iT at e;rw[CY,f,ye]at e;have g:a.length=0:=e;lia
 .unfold iT at d;obtain⟨i,j,e⟩:=CO d;rw[List.getElem_zipWith]at e;rw[<-e];exact Sf<|h _<|ga _
theorem Lz{d:Nat}(h:d<10):Str.ofString (toString (d:Int))=(#[#v[48+d]]:Str):=by
 have z:∀d:Fin 10,Str.ofString (toString ((d.1:Nat):Int))=(#[#v[48+d.1]]:Str):=by decide+kernel
 exact z #[d,h]
theorem CU:∀l,jl [] l=l.flatten
 | []=>rfl
 | [x]=>by simp[jl]
 |x::y::r=>by
  show x++[]++jl [] (y::r)=_;rw[CU (y::r)];simp
theorem Ui(t):Txt.join (Str.ofString "") (t.map λd=>(#[#v[32,48+d]]:Str))=ig t:=by
 refine mW ?_;rw[rN,Eg,CU,qc,eM];unfold mF;rw[List.flatMap_def];rfl
theorem C0(h:∀c∈x.cps.toList,c<128):CH x:=by
 unfold CH;rw[<-Array.all_toList,pb];exact λc a=>cK<|h c a
inductive eO(b:List V)(H:Hp)(Q:VK)(a:XK):Prop|mk:∀x y,b=[.str x,.str y]->CH x->x.length<=1000->(∀c∈x.cps.toList,c∈y.cps.toList)->(∀d,Same H d->Q (.bl true) d)->eO b H Q a
inductive gZ(b:List V)(H:Hp)(Q:VK)(a:XK):Prop|mk:∀x,b=[.str x]->NameOk x->(∀c,Same H c->Q (.bl true) c)->gZ b H Q a
inductive eE(b:List V)(H:Hp)(Q:VK)(a:XK):Prop|mk:∀t,b=[.str (ig t)]->1<=t.length->t.length<=5->(∀d∈t,d<10)->(∀c,Same H c->Q (.bl true) c)->eE b H Q a
inductive fX(c:List V)(H:Hp)(Q:VK)(b:XK):Prop|mk:∀x t,c=[.str (oZ x t)]->NameOk x->1<=t.length->t.length<=5->(∀d∈t,d<10)->(∀p r a,Same H a->a p=some (.tup [.str x,.ref r])->a r=some (.tup (t.map nv))->Q (.ref p) a)->fX c H Q b
theorem UK(F:Fun K xY xY CQ f fd)(d:mg "all"=none):FnOk P w K mg base bZ 1 f fd [sV,"signs"] eO:=by
 refine F.ok Vv (λg A a s H m Q E n h=>?_)
 obtain⟨x,y,rfl,i,j,all,q⟩:=h;refine#[_,(bM (cg (cX (FR zZ) zZ d boot_all (bG (gN (CompSc.to (N:=[sV,"signs"]) (osc:=bQ CQ) {}) zZ zZ (Ni (pv 0)) (λ_ _ _ _=>fK) (λ_ _ _ _=>(mK N' (pv 0) (pv 2) (by with_unfolding_all rfl)))) bF)))),#[_,zZ,x,zZ,i,Jc (f:=λc=> .bl (decide (c∈y.cps.toList))) (small j) (λc Q b q=>?_) (λp k=>?_)]]
 .refine#[_,zZ,_,zZ,_,_,zZ,zZ,?_];rw[show zf c=(#[#v[c]]:Str)from rfl,StrLaws.found_one];exact q
 .have e:x.cps.toList.map (λc=>V.bl (decide (c∈y.cps.toList)))=(x.cps.toList.map λc=>decide (c∈y.cps.toList)).map V.bl:=by rw[eM];rfl
  rw[e];refine#[p,_,zZ,V1 bE,?_];have l:(x.cps.toList.map λc=>decide (c∈y.cps.toList)).all id=true:=by
   rw[ww,pb];exact λc b=>cK (all c b)
  rw[l];exact q _ (bP k _)
theorem P8(F:Fun K "is_name" "is_name" GY f fd)(d:cn P w K mg base xY 1 [sV,"signs"] eO)(k:mg "MOST_SIGNS"=some (.int 8 e))(l:mg "SMALL_LETTERS"=some (.str tJ g))(m:mg "len"=none):FnOk P w K mg base bZ 3 f fd [sV] gZ:=by
 refine F.ok OI<|λn A a s H r Q E o h=>?_
 obtain⟨x,rfl,ok,q⟩:=h;refine#[_,(bM<|cg<|tz (KS u9 u9 bL (cX Nq zZ m dW<|bG (pv 0) bF)<|A3 (v:= .int 8) zZ k #[_,zZ])<|rq<|ck d o.m zZ<|b8<|bB (pv 0) (bB (A3 (v:= .str tJ) zZ l #[_,zZ]) bW zZ) zZ),?_];have t:1<=x.length:=by rw[iL];exact ok.some1
 have u:x.length<=8:=by rw[iL];exact ok.few
 refine#[_,zZ,x,zZ,small (),_,_,zZ,zZ,_,zZ,Am () #[_,_,zZ,zZ,_,zZ,Am () #[_,zZ,x,u5,zZ,C0 λc b=>?_,(),λc b=>?_,q]]]
 .have:=ok.small c b;unfold v9 at this;lia
 .have z:=ok.small c b;unfold v9 at z;have y:=EM (i:=c-97) ();rw[show 97+(c-97)=c by lia]at y;obtain⟨j,_,p,_⟩:=DL y;exact bX p
theorem R'(F:Fun K yC yC Ga f fd)(k:cn P w K mg base xY 1 [sV,"signs"] eO)(n:mg "FIGURES"=some (.str yD l))(o:mg "len"=none):FnOk P w K mg base bZ 3 f fd [sV] eE:=by
 refine F.ok Rz<|λp A g s H J Q E m h=>?_
 obtain⟨t,rfl,l,L,b,q⟩:=h;refine#[_,(bK (di (PW.pt<|zg (eG iH (pv 0) dM<|dC _)<|yc<|eG FJ (cw gM (cX Nq zZ o dW<|bG (pv 0) bF) bL) bL<|dC _) (bM<|cg wn) dh)<|bM<|cg<|tz (ck k m.m zZ<|b8<|bB (EJ (pv 0) bL bL) (bB dM bW zZ) zZ)<|rq<|ck k m.m zZ<|b8<|bB (EJ (pv 0) bL bL) (bB (A3 (v:= .str yD) zZ n #[_,zZ]) bW zZ) zZ),?_];have r:(ig t).length=2 * t.length:=by rw[iL,qc,Aa]
 have i:(ig t).length<=sizeLine:=small ();have u: ¬V.str (ig t)=V.str (Str.ofString ""):=λz=>by
  injection z with z
  have:=cH (λx=>x.cps.toList.length) z;rw[qc,Aa]at this;have:2 * t.length=0:=this;lia
 have y:V.int (((ig t).length:Int)%2)=V.int 0:=by grind
 refine#[_,zZ,zZ,_,zZ,Az u #[_,zZ,ig t,zZ,i,_,_,zZ,zZ,(by grind),zZ,_,zZ,zK y ?_]];have B:(mz<|(ig t).cps.toList.drop (0:Int).toNat)=t.map λ_=>32:=by rw[qc];exact zw t
 have C:(mz<|(ig t).cps.toList.drop (1:Int).toNat)=t.map λd=>48+d:=by rw[qc];exact u0 t
 refine#[_,zZ,ig t,0,zZ,zZ,zZ,by decide,i,?_];rw[B];refine#[_,_,zZ,C0 λc a=>?_,?_,λc a=>?_,λM D=>#[_,zZ,dP ?_]]
 .simp at a;lia
 .rw[iL];simp;lia
 .have:c=32:=by
   simp at a;exact a.2.symm
  rw[this];decide+kernel
 refine#[_,zZ,ig t,1,zZ,zZ,zZ,by decide,i,?_];rw[C];refine#[_,_,zZ,C0 λc a=>?_,?_,λc a=>?_,λG I=>q G<|D.trans I]
 .simp at a;obtain⟨d,j,e⟩:=a;have:=b d j;lia
 .rw[iL];simp;lia
 .simp only[List.mem_map]at a;obtain⟨d,j,rfl⟩:=a;have z:∀d:Fin 10,48+d.1∈yD.cps.toList:=by decide+kernel
  exact z #[d,b d j]
theorem PR(F:Fun K "read_row" "read_row" DQ f fd)(G:cn P w K mg base "is_name" 3 [sV] gZ)(I:cn P w K mg base yC 3 [sV] eE)(J:mg "tuple"=none)(L:mg "int"=none):FnOk P w K mg base bZ 5 f fd [sM] fX:=by
 refine F.ok vJ<|λM A m s H vs Q E v h=>?_
 obtain⟨x,t,rfl,ok,O,y,a,q⟩:=h;refine#[_,(bK (cj (i:=1) vJ.nd zZ Z'<|hO pS PySem.F.slot_str_partition PySem.F.type_str_partition R3 (pv 0)<|bG dM bF)<|bK (di (PW.pt<|zg (iC<|iI<|ck G v.m zZ<|bG (b7 cO (pv 1) bL<|λ_ _=>rfl) bF)<|yc<|iC<|iI<|ck I v.m zZ<|bG (b7 cO (pv 1) bL<|λ_ _=>rfl) bF) (bM nh) dh)<|bM<|cg<|jo<|b8<|bB (b7 cO (pv 1) bL<|λ_ _=>rfl) (bB (gE nL zZ J lL<|bG (gN (CompSc.to (N:=[sM,"halves"]) (osc:=bQ DQ) (vs:=["figure"]) {}) zZ zZ (Ni<|EJ (b7 cO (pv 1) bL<|λ_ _=>rfl) bL bL) (λ_ _ _ _=>fK)<|λ_ _ _ _=>(gE Oj zZ L boot_int<|bG (pv 0) bF)) bF) bW zZ) zZ),?_];have rl:=J2 (t:=t) ok y;have T:=PQ (t:=t) ok;refine#[_,zZ,zZ,oZ x t,_,zZ,zZ,by decide,small (),λb n=>?_];rw[show Str.ofString ":"=(#[#v[58]]:Str) by decide+kernel,T];have z:=bP n<|.tup [.str x,.str #[#v[58]],.str<|ig t];have o:bx H b (.tup [.str x,.str #[#v[58]],.str<|ig t]) b=some (.tup [.str x,.str #[#v[58]],.str<|ig t]):=bE;generalize bx H b (.tup [.str x,.str #[#v[58]],.str<|ig t])=H1 at z o|-;refine#[_,zZ,b,_,_,_,zZ,zZ,V2 o,zZ,x,zZ,ok,λH2 B=>#[_,zZ,cR ?_]];have e:=B _ _ o;refine#[_,zZ,b,_,_,_,zZ,zZ,V2 e,zZ,t,zZ,O,y,a,λH3 C=>#[_,zZ,cR ?_]];have g:=C _ _ e;have ll:(ig t).length=2 * t.length:=by rw[iL,qc,Aa]
 have U:(mz<|(ig t).cps.toList.drop (1:Int).toNat)=t.map λd=>48+d:=by rw[qc];exact u0 t
 refine#[_,zZ,b,_,_,_,zZ,zZ,V2 g,zZ,_,zZ,b,_,_,_,zZ,zZ,V2 g,zZ,ig t,1,zZ,zZ,zZ,by decide,small (),?_];rw[U];have k:(#[(t.map λd=>48+d).toArray]:Str).cps.toList=t.map λd=>48+d:=by simp
 refine#[_,zZ,C0 λc j=>?_,Jc (f:=λc=>nv<|c-48) (by rw[iL,k,bA];exact small ()) (λc Q j q=>?_)<|λl Y=>?_]
 .rw[k]at j;obtain⟨d,u,rfl⟩:=bY.mp j;have:=a d u;lia
 .rw[k]at j;obtain⟨d,u,rfl⟩:=bY.mp j;refine#[_,zZ,d,zZ,a d u,?_];rw[show 48+d-48=d by lia]at q;exact q
 .have em:(#[(t.map λd=>48+d).toArray]:Str).cps.toList.map (λc=>nv<|c-48)=t.map nv:=by
   rw[k,eM];refine mI λd _=>?_;show nv (48+d-48)=nv d;rw[show 48+d-48=d by lia]
  rw[em];refine#[l,_,zZ,.inl #[V1 bE,λr nr=>#[by show 2<=sizeLine;decide,λp D=>?_]]];exact q p r _ ((((z.trans B).trans C).trans<|bP Y _).trans<|(bP nr _).trans<|bP D _) bE<|bP D _ _ _ bE
inductive f6(b:List V)(H:Hp)(Q:VK)(a:XK):Prop|mk:∀i,b=[.int i]->Q (.bl true) H->f6 b H Q a
inductive gV(b:List V)(H:Hp)(Q:VK)(a:XK):Prop|mk:∀r k,b=[nv r,nv k]->r<k->Q (.bl true) H->gV b H Q a
inductive g7(c:List V)(H:Hp)(Q:VK)(b:XK):Prop|mk:∀a (t:bw) k,c=[.ref a,nv k]->H a=some (.tup (t.map nv))->t.length=k->k<=5->(∀x∈t,x<k)->(∀d,Same H d->Q (.bl true) d)->g7 c H Q b
inductive i'(b:List V)(H:Hp)(Q:VK)(a:XK):Prop|mk:∀m d n,b=[.ref m]->Mach H m d n->(∀c,Same H c->Q .non c)->i' b H Q a
theorem Pf(F:Fun K "is_whole" "is_whole" Ft f fd)(b:mg "isinstance"=none)(c:mg "int"=none)(d:mg "bool"=none):FnOk P w K mg base bZ 1 f fd [tE] f6:=by
 refine F.ok UC<|λe A a s H g Q E j h=>?_
 obtain⟨i,rfl,q⟩:=h;refine#[_,(bM<|cg<|tz (cX qp zZ b pH<|b8<|bB (pv 0) (bB (qq zZ c boot_int) bW zZ) zZ)<|rq<|RX<|cX qp zZ b pH<|b8<|bB (pv 0) (bB (qq zZ d boot_bool) bW zZ) zZ),#[_,zZ,_,_,_,_,zZ,.int i,S0,_,zZ,dP ?_]];exact#[_,zZ,_,_,_,_,zZ,.int i,Qf,_,zZ,q]
theorem Sb(F:Fun K "is_room" "is_room" Gz f fd)(b:cn P w K mg base "is_whole" 1 [tE] f6):FnOk P w K mg base bZ 3 f fd [tE,sB] gV:=by
 refine F.ok Q4<|λc A a s H e Q E d h=>?_
 obtain⟨r,k,rfl,lt,q⟩:=h;refine#[_,(bM<|cg<|tz (ck b d.m zZ<|bG (pv 0) bF)<|rq<|KS u9 MF bL (pv 0)<|pv 1),#[_,zZ,(r:Int),zZ,_,zZ,dP #[_,zZ,_,_,zZ,zZ,_,zZ,Am () #[_,zZ,_,_,zZ,zZ,?_]]]]
 rw[cK<|show(r:Int)<(k:Int) by lia];exact q
theorem Ou(F:Fun K "is_turn" "is_turn" Dm f fd)(d:cn P w K mg base "is_room" 3 [tE,sB] gV)(g:mg "isinstance"=none)(i:mg "tuple"=none)(j:mg "len"=none)(l:mg "all"=none):FnOk P w K mg base bZ 5 f fd [tE,sB] g7:=by
 refine F.ok RM<|λm A c s H y Q E n h=>?_
 obtain⟨a,t,k,rfl,b,lt,z,lk,q⟩:=h;refine#[_,(bK (di (PW.pt<|zg (iC<|iI<|cX qp zZ g pH<|b8<|bB (pv 0) (bB (qq zZ i lL) bW zZ) zZ)<|yc<|eG FJ (cX eR zZ j dW<|bG (pv 0) bF) (pv 1)<|dC _) (bM<|cg wn) dh)<|bM<|cg<|cX (FR zZ) zZ l boot_all<|bG (gN (CompSc.to (N:=[tE,sB]) (osc:=bQ Dm) {}) zZ zZ (pY<|pv 0) (λ_ _ _ _=>fK)<|λ_ _ _ _=>(ck d n.m zZ<|b8<|bB (pv 0) (bB (pv 2) bW zZ) zZ)) bF),#[_,zZ,_,_,_,_,zZ,.tup b,ED,_,zZ,cR ?_]];refine#[_,zZ,a,_,zZ,.inr<|V2 b,_,zZ,zZ,_,zZ,zK (by rw[bA,lt]) #[_,zZ,a,zZ,#[_,V2 b],t9 (f:=λ_=> .bl true) (small (by rw[bA];lia)) (V2 b) (λv Q o q=>?_)<|λp r=>?_]]
 .obtain⟨x,u,rfl⟩:=bY.mp o;exact#[_,zZ,_,zZ,x,k,zZ,lk x u,q]
 .have e:(t.map nv).map (λ_=>V.bl true)=(t.map λ_=>true).map V.bl:=by rw[eM,eM];rfl
  rw[e];refine#[p,_,zZ,V1 bE,?_];rw[show(t.map λ_=>true).all id=true by rw[ww,pb];exact λ_ _=>rfl];exact q _<|bP r _
theorem U1(F:Fun K "check" "check" Iy f fd)(J:cn P w K mg base "is_turn" 5 [tE,sB] g7)(x:mg "isinstance"=none)(y:mg "tuple"=none)(e:mg "len"=none)(O:mg "MOST_LETTERS"=some (.int 4 L))(T:mg "MOST_ROOMS"=some (.int 5 N)):FnOk P w K mg base bZ 7 f fd [tE] i':=by
 refine F.ok vP<|λU A j s H vs Q E Y h=>?_
 obtain⟨m,a,n,rfl,M,q⟩:=h;refine#[_,(bK (di (iC<|iI<|cX qp zZ x pH<|b8<|bB (pv 0) (bB (qq zZ y lL) bW zZ) zZ) (bM nh) dh)<|bK (di (iC<|JH u9 u9 bL (cX eR zZ e dW<|bG (pv 0) bF)<|A3 (v:= .int 4) zZ O #[_,zZ]) (bM nh) dh)<|bK (cj (i:=1) vP.nd zZ Z'<|b7 cO (pv 0) bL<|λ_ _=>rfl)<|bK (di (PW.pt<|zg (iC<|iI<|cX qp zZ x pH<|b8<|bB (pv 1) (bB (qq zZ y lL) bW zZ) zZ)<|yc<|iC<|JH u9 u9 bL (cX eR zZ e dW<|bG (pv 1) bF)<|A3 (v:= .int 5) zZ T #[_,zZ]) (bM nh) dh)<|bM<|fA fi zZ (pY<|pv 0) (dG (i:=2) vP.nd zZ Z')<|bM<|di (iC<|iI<|ck J Y.m zZ<|b8<|bB (pv 2) (bB (cX eR zZ e dW<|bG (pv 1) bF) bW zZ) zZ) (bM nh) dh),?_];obtain⟨B,c,h2,h3⟩:=M.refs;have s1:=M.some1;have few:=M.few;have n1:=M.n1;have n5:=M.n5;have C:(B.map V.ref).length=a.length:=by rw[bA,h2]
 refine#[_,zZ,_,_,_,_,zZ,.tup c,ED,_,zZ,cR ?_];refine#[_,zZ,m,_,zZ,.inr<|V2 c,_,_,zZ,zZ,_,zZ,Am (by rw[C];lia) #[_,_,zZ,zZ,_,zZ,zK (by rw[C];lia) ?_]];obtain⟨_,k,b1,b2,b3,t,b5,b6⟩:=M.at (l:=0) ();refine#[_,zZ,m,_,_,_,zZ,zZ,V2 b1,b3,?_];have u:((a.getD 0 []).map nv).length=n:=by rw[bA,b5]
 refine#[_,zZ,_,_,_,_,zZ,.tup t,ED,_,zZ,cR ?_];refine#[_,zZ,k,_,zZ,.inr<|V2 t,_,_,zZ,zZ,_,zZ,Am (by rw[u];lia) #[_,_,zZ,zZ,_,zZ,zK (by rw[u];lia) ?_]];refine#[_,zZ,m,zZ,#[_,V2 c],IX (xs:=B.map V.ref) (λ_ d b=>Same H b/\∃o,d=[some<|.ref m,some<|.ref k,o]) #[Same.refl H,_,zZ] (λi d b _ p=>?_) (λi v d b D p=>?_)<|λd b p=>?_]
 .obtain⟨g,_⟩:=p;exact V2<|g _ _ c
 .obtain⟨g,o,rfl⟩:=p;rw[bT]at D;obtain⟨r,G,rfl⟩:=c9.mp D;have I:i<a.length:=by grind
  have z:=h3 i r a[i] G<|bC I;obtain⟨e1,e2⟩:=M.each a[i]<|ga I;refine#[_,zZ,_,zZ,k,_,zZ,.inr<|V2<|g _ _ t,?_];rw[u];refine#[r,a[i],n,zZ,g _ _ z,e1,n5,e2,λH2 g2=>#[_,zZ,cR #[g.trans g2,_,zZ]]]
 .obtain⟨g,_⟩:=p;exact q b g
theorem Kr{b:LN}{i:Nat}{t:bw}(c:a[i]?=some x)(ht:b[i]?=some t):(iT a b)[i]?=some (oZ x t):=by
 unfold iT;rw[F5,c,ht]
theorem C9(c:b.length=a.length):(iT b a).length=a.length:=by
 unfold iT;rw[CY,c,ye]
theorem oC:∀{l:Ss} {k},(∀y∈l,y.length<=k)->(l.map (·.length)).sum<=l.length * k
 | [],_,_=>iK _
 |y::l,k,h=>by
  rw[hI,List.sum_cons,i3,Nat.succ_mul];have:=h y<|cJ ..;have:=oC λy a=>h y<|dS _ a;lia
theorem LB(h:∀x∈a,NameOk x)(ht:∀t∈ts,t.length<=5):∀y∈iT a ts,y.length<=19:=λy b=>by
 unfold iT at b;obtain⟨i,c,e⟩:=CO b;rw[List.getElem_zipWith]at e;rw[<-e];exact J2 (h _<|ga _)<|ht _<|ga _
theorem NN{b:LN}{i:Nat}{t:bw}(c:a[i]?=some x)(ht:b[i]?=some t):(iT a b).take (i+1)=(iT a b).take i++[oZ x t]:=by
 rw[gj,Kr c ht];rfl
noncomputable def Km:V->V
 |.int i=> .str #[#v[32,48+i.toNat]]
 |v=>v
theorem Db:W.kitOne K (.type "str") (.type "str")=some true:=zZ
structure ReadAt(H:Hp)(p:Ad)(xs:Ss)(ts:LN)(n:Nat):Prop where
 here:∃a b,H p=some (.tup [.ref a,.ref b])/\H a=some (.tup (xs.map V.str))/\Mach H b ts n
structure Fit(xs:Ss)(ts:LN)(n:Nat):Prop where
 el:xs.length=ts.length
 nd:xs.Nodup
 ok:∀x∈xs,NameOk x
 some1:1<=ts.length
 few:ts.length<=4
 n1:1<=n
 n5:n<=5
 each:∀t∈ts,t.length=n/\∀x∈t,x<n
theorem S8(h:c.Nodup):v8 c=c:=by
 have go:∀(b a:Ss),(a++b).Nodup->b.foldl ou a=a++b:=by
  intro b
  induction b with
  |nil=>intro a _;simp
  | cons y b d=>
   intro a nd;have e:ou a y=a++[y]:=by
    unfold ou;rw[wA λz=>(A5.mp nd).2.2 y z y (cJ ..) zZ]
   rw[Ck,e,d _ (by rw[dR];exact nd),dR];rfl
 exact go c [] h
theorem S6(h:Fit b a n):(uz b a).length<=80:=by
 unfold uz;rw[eq_of_beq<|Er _ _];have z:=HY #[#v[10]]<|iT b a;have y:=oC (LB h.ok λt ht=>by rw[(h.each t ht).1];exact h.n5);have l:=C9 h.el;have f:=h.few;have e:(#[#v[10]]:Str).length=1:=rfl;rw[e]at z;lia
inductive lR(e:List V)(H:Hp)(Q:VK)(a:XK):Prop|mk:∀b c n,e=[.str (uz b c)]->Fit b c n->(∀p d,Same H d->ReadAt d p b c n->Q (.ref p) d)->lR e H Q a
theorem Pr(F:Fun K "read" "read" qv f fd)(uB:cn P w K mg base "read_row" 5 [sM] fX)(vR:cn P w K mg base "check" 7 [tE] i')(jB:mg "isinstance"=none)(kH:mg "str"=none)(jE:mg "tuple"=none)(vL:mg "set"=none)(jA:mg "len"=none):FnOk P w K mg base bZ 9 f fd [sV] lR:=by
 refine F.ok vQ<|λau A ai s H vs Q E hr h=>?_
 obtain⟨a,l,n,rfl,b,q⟩:=h;refine#[_,(bK (di (iC<|iI<|cX qp zZ jB pH<|b8<|bB (pv 0) (bB (qq zZ kH tv) bW zZ) zZ) (bM nh) dh)<|bK (vw (CompSc.to (N:=[sV,"rows",sS,sA]) (osc:=bQ qv) (vs:=[sM]) {}) zZ zZ vQ.nd (j:=1) zZ zZ (fq<|hO pS PySem.F.slot_str_split PySem.F.type_str_split J3 (pv 0)<|bG dM bF) (λ_ _ _ _=>fK)<|λ_ _ _ _=>(ck uB hr.m zZ<|bG (pv 0) bF))<|bK (cj (i:=2) vQ.nd zZ Z'<|gE nL zZ jE lL<|bG (BJ (CompSc.to (N:=[sV,"rows",sS,sA]) (osc:=bQ qv) (vs:=[xV,tR]) {}) zZ (fq<|pv 1) (Gr (CompSc.to (N:=[sV,"rows",sS,sA]) (osc:=bQ qv) (vs:=[xV,tR]) {}) zZ zZ zZ) (λ_ _ _ _=>fK)<|λ_ _ _ _=>(pv 0)) bF)<|bK (di (eG FJ (cX Ru zZ jA dW<|bG (gE (NH zZ) zZ vL PyProof.Rows.boot_set<|bG (pv 2) bF) bF) (cX eR zZ jA dW<|bG (pv 2) bF)<|dC _) (bM nh) dh)<|bK (cj (i:=3) vQ.nd zZ Z'<|gE nL zZ jE lL (bG (BJ (CompSc.to (N:=[sV,"rows",sS,sA]) (osc:=bQ qv) (vs:=[xV,tR]) {}) zZ (fq (pv 1)) (Gr (CompSc.to (N:=[sV,"rows",sS,sA]) (osc:=bQ qv) (vs:=[xV,tR]) {}) zZ zZ zZ) (λ_ _ _ _=>fK) (λ_ _ _ _=>(pv 1))) bF)) (bK (iR (ck vR hr.m zZ (bG (pv 3) bF))) (bM (cg (jo (b8 (bB (pv 2) (bB (pv 3) bW zZ) zZ))))))),?_];have aj:Str.ofString "\n"=(#[#v[10]]:Str):=by decide+kernel
 have few:=b.few;have el:=b.el;have C:=b.some1;have n5:=b.n5;have tl:=S6 b;have lr:=C9 el;refine#[_,zZ,_,_,_,_,zZ,.str _,Db,_,zZ,cR ?_];refine#[_,zZ,zZ,uz a l,_,zZ,zZ,by decide+kernel,small (),λsl ak=>?_];rw[aj,NV el C b.ok];have ks:=bP ak (.lst ((iT a l).map V.str));have es:bx H sl (.lst ((iT a l).map V.str)) sl=some (.lst ((iT a l).map V.str)):=bE;generalize bx H sl (.lst ((iT a l).map V.str))=H1 at ks es|-;refine#[sl,zZ,#[_,V1 es],je (xs:=(iT a l).map V.str) (λi o u=>Same H1 u/\∃k c:As,o=k.map V.ref/\k.length=i/\c.length=i/\∀(j:Nat) p r x t,k[j]?=some p->c[j]?=some r->a[j]?=some x->l[j]?=some t->u p=some (.tup [.str x,.ref r])/\u r=some (.tup (t.map nv))) (small (by rw[bA];lia)) #[Same.refl _,[],[],zZ,zZ,zZ,(λj p r x t e=>wC e (by simp))] (λi o u hi p=>?_) (λi v o u Y p=>?_) (λo H2 p rl al=>?_)]
 .obtain⟨g,k,c,rfl,l1,_,_⟩:=p;exact#[V1 (g _ _ es),by rw[bA,l1];exact bR _]
 .obtain⟨g,k,c,rfl,l1,l2,all⟩:=p;rw[bT]at Y;obtain⟨y,ey,rfl⟩:=c9.mp Y;have il:i<l.length:=by have:=(bN.mp ey).1;lia
  have ix:i<a.length:=by lia
  rw[Kr (bC ix) (bC il)]at ey;cases ey;obtain⟨e1,e2⟩:=b.each l[i] (ga il);have n1:=b.n1;refine#[iE,jc #[_,zZ,a[i],l[i],zZ,b.ok _ (ga ix),(),(),λd hd=>by have:=e2 d hd;lia,λp r H3 g3 ep er=>#[g.trans g3,k++[p],c++[r],by simp,by simp[l1],by simp[l2],λj p' r' x' t' z B J L=>?_]]]
  rcases yt j i with hj|hj
  .rw[dO ()]at z B;obtain⟨z1,z2⟩:=all j p' r' x' t' z B J L;exact#[g3 _ _ z1,g3 _ _ z2]
  .have ji:j=i:=by
    have:=(bN.mp z).1;rw[cC]at this;have:j<k.length+1:=this
    lia
   subst ji;rw[dQ (),l1,mT]at z;rw[dQ (),l2,mT]at B;rw[bC ix]at J;rw[bC il]at L;cases z;cases B;cases J;cases L;exact#[ep,er]
 obtain⟨g2,k,c,rfl,l1,l2,all⟩:=p;rw[bA,lr]at l1 l2;have ab:=bP al (.lst (k.map V.ref));have M:bx H2 rl (.lst (k.map V.ref)) rl=some (.lst (k.map V.ref)):=bE;have af:=(ks.trans g2).trans ab;have m:∀(j:Nat) p r x t,k[j]?=some p->c[j]?=some r->a[j]?=some x->l[j]?=some t->bx H2 rl (.lst (k.map V.ref)) p=some (.tup [.str x,.ref r])/\bx H2 rl (.lst (k.map V.ref)) r=some (.tup (t.map nv)):=λj p r x t z B J L=>#[ab _ _ (all j p r x t z B J L).1,ab _ _ (all j p r x t z B J L).2];generalize bx H2 rl (.lst (k.map V.ref))=H3 at M af m|-;refine#[_,zZ,rl,zZ,#[_,V1 M],je (xs:=k.map V.ref) (λi o u=>u=H3/\o=(a.take i).map V.str) (small (by rw[bA];lia)) #[zZ,zZ] (λi o u hi p=>?_) (λi v o u Y p=>?_) (λo H4 p cl am=>?_)]
 .obtain⟨rfl,rfl⟩:=p;exact#[V1 M,by rw[bA,fe];exact zo ..]
 .obtain⟨rfl,rfl⟩:=p;rw[bT]at Y;obtain⟨pa,D,rfl⟩:=c9.mp Y;have ip:=(bN.mp D).1;have il:i<l.length:=by lia
  have ix:i<a.length:=by lia
  have ir:i<c.length:=by lia
  obtain⟨z1,z2⟩:=m i pa c[i] a[i] l[i] D (bC ir) (bC ix) (bC il);refine#[pa,_,zZ,V2 z1,zZ,_,_,zZ,_,_,zZ,zZ,Ip,jc #[_,zZ,zZ,?_]];rw[gj,bC ix,c7];rfl
 obtain⟨rfl,rfl⟩:=p;rw[bA,l1,<-el,fF];have an:=bP am (.lst (a.map V.str));refine#[cl,_,zZ,.inl #[V1 bE,λnm ao=>?_]];have ag:=an.trans (bP ao (.tup (a.map V.str)));have O:bx (bx H4 cl (.lst (a.map V.str))) nm (.tup (a.map V.str)) nm=some (.tup (a.map V.str)):=bE;generalize bx (bx H4 cl (.lst (a.map V.str))) nm (.tup (a.map V.str))=H5 at ag O|-;refine#[_,zZ,nm,a,zZ,V2 O,(),λsa ap=>?_];have ae:=bP ap (ql sa a);refine#[sa,a,zZ,bE,_,zZ,nm,_,zZ,.inr (V2 (ae _ _ O)),zZ,_,zZ,zK (by rw[S8 b.nd,bA]) ?_];have aa:=ae _ _ O;have T:=ag.trans ae;have G:=T _ _ M;have I:∀(j:Nat) p r x t,k[j]?=some p->c[j]?=some r->a[j]?=some x->l[j]?=some t->bx H5 sa (ql sa a) p=some (.tup [.str x,.ref r])/\bx H5 sa (ql sa a) r=some (.tup (t.map nv)):=λj p r x t z B J L=>#[T _ _ (m j p r x t z B J L).1,T _ _ (m j p r x t z B J L).2];have ah:=af.trans T;clear all m;generalize bx H5 sa (ql sa a)=H6 at aa G I ah|-;refine#[_,zZ,rl,zZ,#[_,V1 G],je (xs:=k.map V.ref) (λi o u=>u=H6/\o=(c.take i).map V.ref) (small (by rw[bA];lia)) #[zZ,zZ] (λi o u hi p=>?_) (λi v o u Y p=>?_) (λo H7 p dl aq=>?_)]
 .obtain⟨rfl,rfl⟩:=p;exact#[V1 G,by rw[bA,fe];exact zo ..]
 .obtain⟨rfl,rfl⟩:=p;rw[bT]at Y;obtain⟨pa,D,rfl⟩:=c9.mp Y;have ip:=(bN.mp D).1;have il:i<l.length:=by lia
  have ix:i<a.length:=by lia
  have ir:i<c.length:=by lia
  obtain⟨z1,z2⟩:=I i pa c[i] a[i] l[i] D (bC ir) (bC ix) (bC il);refine#[pa,_,zZ,V2 z1,zZ,_,_,zZ,_,_,zZ,zZ,Ip,jc #[_,zZ,zZ,?_]];rw[gj,bC ir,c7];rfl
 obtain⟨rfl,rfl⟩:=p;rw[bA,l1,<-l2,fF];have ar:=bP aq (.lst (c.map V.ref));refine#[dl,_,zZ,.inl #[V1 bE,λmm as=>?_]];have U:=ar.trans (bP as (.tup (c.map V.ref)));have MM:Mach (bx (bx H7 dl (.lst (c.map V.ref))) mm (.tup (c.map V.ref))) mm l n:=#[#[c,bE,l2,λi r t z B=>by
  have il:=(bN.mp B).1;exact U _ _ (I i k[i] r a[i] t (bC ()) z (bC ()) B).2],C,few,b.n1,n5,b.each]
 generalize bx (bx H7 dl (.lst (c.map V.ref))) mm (.tup (c.map V.ref))=H8 at U MM|-;refine#[_,zZ,mm,l,n,zZ,MM,λH9 g9=>?_];refine#[_,zZ,_,zZ,by show 2<=sizeLine;decide,λp np=>q p _ (((ah.trans U).trans g9).trans (bP np _)) #[#[nm,mm,bE,bP np _ _ _ (g9 _ _ (U _ _ aa)),(MM.same g9).same (bP np _)]]]
inductive mE(K:V3)(d:List V)(H:Hp)(Q:VK)(a:XK):Prop|mk:∀m b c n r word,d=[.ref m,nv r,.ref b]->Mach H m c n->r<n->SqL K H b (word.map nv)->(∀l∈word,l<c.length)->Q (nv (dA c r word)) H->mE K d H Q a
theorem PX(F:Fun K "led" "led" wp f fd):FnOk P w K mg base bZ 1 f fd [sA,tQ,sT] (mE K):=by
 refine F.ok xN<|λu A g s H D Q E G h=>?_
 obtain⟨m,b,k,n,r,word,rfl,M,j,t,hw,q⟩:=h;refine#[_,(bK (fA fi zZ (fq<|pv 2) (dG (i:=3) xN.nd zZ Z')<|bM<|cj (i:=1) xN.nd zZ Z'<|b7 cO (b7 cO (pv 0) (pv 3)<|λ_ _=>rfl) (pv 1)<|λ_ _=>rfl)<|bM<|cg<|pv 1),?_];refine#[_,zZ,b,zZ,#[_,t],oX (λi c d=>d=H/\∃o,c=[some<|.ref m,some<|nv<|dA k r<|word.take i,some<|.ref b,o]) #[zZ,none,zZ] (λi c d _ p=>by obtain⟨rfl,_⟩:=p;exact t) (λi x c d a p=>?_)<|λc d p=>?_]
 .obtain⟨rfl,o,rfl⟩:=p;rw[bT]at a;cases e:word[i]? with
  |none=>rw[e]at a;cases a
  | some l=>
   rw[e]at a;cases a;obtain⟨I,v,y,J,z,B,C,L⟩:=M.at<|hw l<|bX e;refine#[_,zZ,_,zZ,m,_,_,_,zZ,zZ,V2 y,z,_,zZ,v,_,_,_,zZ,zZ,V2 B,sv ?_,zZ,some<|nv l,?_]
   .rw[C];exact m8 M _ _ j λx a=>hw x<|qr a
   .rw[gj,e];show _=[some<|.ref m,some<|nv<|dA k r<|word.take i++[l],some<|.ref b,some<|nv l];rw[K'];rfl
 .obtain⟨rfl,o,rfl⟩:=p;refine#[_,zZ,?_];rw[bA,fF];exact q
noncomputable def pW(b:LN)(a word:bw):bw:=a.map λr=>dA b r word
theorem Po(c:n<=5)(h:∀x∈a,x<n):eX a=(List.range n).filter λi=>a.contains i:=by
 unfold eX;have e:List.range 5=List.range n++(List.range<|5-n).map (n+ ·):=by rw[<-List.range_add];congr 1;lia
 rw[e,AE];have no:((List.range<|5-n).map (n+ ·)).filter (λi=>a.contains i)=[]:=by
  rw[List.filter_eq_nil_iff];intro y b z;obtain⟨k,_,rfl⟩:=bY.mp b;have:=h _<|im.mp z;lia
 rw[no,iw]
theorem C8(h:x∈eX a):x∈a:=im.mp (cL.mp h).2
theorem Gw(h:x∈a)(b:x<5):x∈eX a:=cL.mpr #[fm.mpr b,im.mpr h]
theorem KD(a):(eX a).length<=5:=cz (jm _ _)<|by simp
theorem AQ(i)(a:bw):uh (nv i) (a.map nv)=a.contains i:=by
 unfold uh;rw[AL]
 induction a with
 |nil=>rfl
 | cons x a b=>
  rw[yU,List.contains_cons,b]
  congr 1
  by_cases h:x=i
  .subst h;show((x:Int)==(x:Int))=(x==x);simp
  .have c: ¬(x:Int)=(i:Int):=by lia
   have d: ¬i=x:=by lia
   show((x:Int)==(i:Int))=(i==x);rw[qm.mpr c,qm.mpr d]
theorem Uc(a:bw):(a.map nv).all jh=true:=by
 rw[ww,pb];intro x _;rfl
inductive cG(K:V3)(e:List V)(H:Hp)(Q:VK)(c:XK):Prop|mk:∀m p b d n a word,e=[.ref m,.ref p,.ref b]->Mach H m d n->SqT K H p (a.map nv)->a.length<=5->(∀r∈a,r<n)->SqL K H b (word.map nv)->(∀l∈word,l<d.length)->yj H ((eX (pW d a word)).map nv) Q->cG K e H Q c
theorem RO(F:Fun K tY tY CD f fd)(y:cn P w K mg base "led" 1 [sA,tQ,sT] (mE K))(z:mg "tuple"=none)(B:mg "sorted"=none)(C:mg "set"=none):FnOk P w K mg base bZ 3 f fd [sA,sB,sT] (cG K):=by
 refine F.ok SN<|λD A j s H vs Q E G h=>?_
 obtain⟨m,p,b,d,n,c,word,rfl,M,u,I,g,J,hw,q⟩:=h;refine#[_,(bM<|cg<|gE nL zZ z lL<|bG (cX (OX zZ) zZ B boot_sorted<|bG (gE (Nz zZ) zZ C boot_set<|bG (gN (CompSc.to (N:=[sA,sB,sT]) (osc:=bQ CD) {}) zZ zZ (pY<|pv 1) (λ_ _ _ _=>fK)<|λ_ _ _ _=>(ck y G.m zZ<|b8<|bB (pv 1) (bB (pv 0) (bB (pv 3) bW zZ) zZ) zZ)) bF) bF) bF),?_];have n5:=M.n5;refine#[_,zZ,p,zZ,#[_,u],t9 (f:=λv=>match v with|.int i=>nv (dA d i.toNat word)|v=>v) (by rw[bA];exact small ()) u (λv Q L q=>?_)<|λl O=>?_]
 .obtain⟨r,k,rfl⟩:=bY.mp L;exact#[_,zZ,_,zZ,_,zZ,m,b,d,n,r,word,zZ,M,g r k,J,hw,q]
 .have e:(c.map nv).map (λv=>match v with|.int i=>nv (dA d i.toNat word)|v=>v)=(pW d c word).map nv:=by
   unfold pW;rw[eM,eM];rfl
  try dsimp only
  rw[e];refine#[l,_,zZ,V1 bE,λx U=>?_,λa Y=>#[a,_,zZ,bE,λo ho=>?_]]
  .obtain⟨r,k,rfl⟩:=bY.mp U;have:=m8 M word r (g r k) hw;lia
  .try dsimp only
   rw[KE];exact#[o,_,zZ,.inl #[V1 bE,λt ht=>q t _ ((bP O<|.lst<|(pW d c word).map nv).trans<|(bP Y _).trans<|(bP ho _).trans<|bP ht _) bE]]
inductive cA(P:Pg)(w:World)(K:V3)(mg:SV)(base:Heap)(f:List V)(H:Hp)(Q:VK)(c:XK):Prop|mk:∀a st fd h d L U g,f=[.ref a,nv L,.ref st,.non]->H a=some (.tup (d.map nv))->H st=some (hX st fd)->d∈U->((∀x∈U,∀l,l<L->g x l∈U))->U.length<=4000->L<=4000->FnOk P w K mg base bZ 5 st fd h (de (Same H) U L g)->Binds K fd h []->(∀D i j e,Same H e->WordsAt e D i j->(∀b∈D::j,H b=none)->Told g L d i->Q (.ref D) e)->cA P w K mg base f H Q c
theorem Pe(F:Fun K xX xX Fq f fd)(b:mg "len"=none):FnOk P w K mg base bZ 1 f fd ["things",wT] d7:=by
 refine F.ok Ux<|λc A a s H e Q E g h=>?_
 obtain⟨d,rfl,q⟩:=h;refine#[_,(bM<|di (PW.pt<|yZ (eG HN (pv 1) n'<|dC _)<|yK<|eG Co (cX UH zZ b dW<|bG (pv 0) bF) (pv 1)<|dC _) (bM nh) dh),#[_,zZ,zZ,_,zZ,q]]
theorem NS(F:DefAt K tL qi f fd e m)(l:cn P w K mg base xX 1 ["things",wT] d7)(n:mg "range"=none):FnOk P w K mg base bZ 8 f fd ["start",xS,wG,wT] (cA P w K mg base):=by
 refine F.fnOk kQ (λo H Q E h=>?_)<|λA j s H o Q E h d=>?_
 .obtain⟨a,st,fd,p,r,L,U,g,rfl,_⟩:=h;rfl
 obtain⟨a,st,z,p,r,L,U,g,rfl,t,k,u,v,few,c,x,y,q⟩:=h;have b:=gJ d;exact#[_,UF d.m t k u v few c x y q,(bK (cj kQ.nd zZ Z'<|S4 b (pv 0)<|gw bF)<|bK (iR<|ck l d.m zZ<|b8<|bB (pv 4) (bB (pv 3) bW zZ) zZ)<|bK (cj kQ.nd zZ Z'<|gw<|bG (pv 0) bF)<|bK (Jh fi (B4 (pv 5)<|λ_=>rfl)<|bK (cj kQ.nd zZ Z'<|gw bF)<|bK (fA fi zZ (fq<|pv 5) (dG kQ.nd zZ Z')<|bM<|fA fi zZ (j8 zZ n<|bG (pv 1) bF) (dG kQ.nd zZ Z')<|bK (cj kQ.nd zZ Z'<|Th 2 (pv 2)<|b8<|bB (pv 7) (bB (pv 8) bW zZ) zZ)<|bM<|di (vd<|Fv b (pv 9)<|pv 4) (bK (z9 b (pv 4) (pv 9) (cw DV (oK b (pv 4) (pv 7)<|λ_ _=>rfl)<|gw<|bG (pv 8) bF) zZ)<|bK (iR<|ck l d.m zZ<|b8<|bB (pv 4) (bB (pv 3) bW zZ) zZ)<|bM<|iR<|hO iM lW lF lJ (pv 6)<|bG (pv 9) bF) dh)<|bM<|cj kQ.nd zZ Z'<|pv 6)<|bM<|cg<|pv 4)]
noncomputable def dv:List (Str×Pos×Ad):=[(sE,(#[78,40,78,93]:Pos),175),(sH,(#[152,61,152,110]:Pos),279),(sD,(#[165,60,165,112]:Pos),300)]
theorem OC:(dv.map (·.2.2)).Nodup:=by decide
def Tabs(H:Hp):Prop:=∀q∈dv,TabOk q.1 q.2.1 H q.2.2
theorem _root_.L2.TabOk.most{H f:Hp}(t:TabOk a c H T)(g:∀b u,(∀d,u≠HO.dT d)->(∀h,u≠HO.lst h)->H b=some u->f b=some u):TabOk a c f T:=by
 rcases t with t|⟨i,j,k⟩
 .exact .inl<|g _ _ (λ_ e=>nomatch e) (λ_ e=>nomatch e) t
 .exact .inr #[i,g _ _ (λ_ e=>nomatch e) (λ_ e=>nomatch e) j,g _ _ (λ_ e=>nomatch e) (λ_ e=>nomatch e) k]
theorem Tabs.same(t:Tabs H)(g:Same H a):Tabs a:=λq b=>(t q b).same g
theorem Tabs.most(t:Tabs H)(g:∀b u,(∀a,u≠HO.dT a)->(∀d,u≠HO.lst d)->H b=some u->c b=some u):Tabs c:=λq e=>(t q e).most g
def KeepsBut(T:Ad)(H a:Hp):Prop:=∀b o,b≠T->H b=some o->a b=some o
theorem KeepsBut.keeps(g:KeepsBut T H a)(hT:H T=some (.tbl c)):Keeps H a:=λb o d=>by
 obtain⟨z,f⟩:=xp d;exact g b o (j6 z hT λe=>f _ e) z
theorem Kx:∀{l:List (Str×Pos×Ad)} {p q},(l.map (·.2.2)).Nodup->p∈l->q∈l->p.2.2=q.2.2->p=q
 | [],_,_,_,hp,_,_=>nomatch hp
 | r::l,p,q,nd,hp,hq,e=>by
  obtain⟨b,d⟩:=lQ.mp nd
  rcases db.mp hp with c|hp
  .rcases db.mp hq with a|hq
   .rw[c,a]
   .exact wC (bY.mpr #[q,hq,by rw[<-c];exact e.symm]) b
  .rcases db.mp hq with a|hq
   .exact wC (bY.mpr #[p,hp,by rw[<-a];exact e]) b
   .exact Kx d hp hq e
theorem Tabs.but(j:(a,b,T)∈dv)(t:Tabs H)(hT:H T=some (.tbl i))(g:KeepsBut T H d)(k:TabOk a b d T):Tabs d:=λf c=>by
 by_cases e:f.2.2=T
 .have:=Kx OC c j e;subst this;exact k
 .rcases t f c with t|⟨l,m,h⟩
  .exact .inl<|g _ _ e t
  .exact .inr #[l,g _ _ e m,g _ _ (nE h hT) h]
theorem IE(d)(c)(hT:H T=some (.tbl #v[]))(f:H e=none)(g:H a=none)(h:e≠a)(lo):KeepsBut T H (bx (bx (bx H T (.tbl (kg d a))) a (j4 a c)) e lo)/\
  (bx (bx (bx H T (.tbl (kg d a))) a (j4 a c)) e lo) T=some (.tbl (kg d a))/\(bx (bx (bx H T (.tbl (kg d a))) a (j4 a c)) e lo) a=some (j4 a c):=by
 refine#[λb o i z=>?_,?_,?_]
 .rw[bI<|cQ z f,bI<|cQ z g,bI i];exact z
 .rw[bI<|cQ hT f,bI<|cQ hT g,bE]
 .rw[bI<|dX h,bE]
noncomputable def bH(a:LN)(x:bw)(l:Nat):bw:=eX (pW a x [l])
noncomputable def cZ(n:Nat):LN:=((List.range 32).map bV).filter λx=>x.all λr=>decide (r<n)
inductive cU(T:Ad)(d:Pos)(g:List V)(H:Hp)(Q:VK)(e:XK):Prop|mk:∀m p f n (a:bw),g=[.ref m,.ref p]->Mach H m f n->H p=some (.tup (a.map nv))->a∈cZ n->Tabs H->(∀D h i c,Keeps H c->Tabs c->WordsAt c D h i->(∀b∈D::i,noT H b=none)->Told (bH f) f.length a h->Q (.ref D) c)->cU T d g H Q e
theorem bD{x:bw}:x∈cZ n↔eX x=x/\∀r∈x,r<n:=by
 unfold cZ;rw[cL,bY,pb];constructor
 .rintro⟨⟨k,a,rfl⟩,h⟩;refine#[?_,λr c=>ik<|h r c];have z:∀k:Fin 32,eX (bV k)=bV k:=by decide+kernel
  exact z #[k,fm.mp a]
 .rintro⟨d,e⟩;refine#[#[nW 0<|eX x,fm.mpr ?_,by rw[KE,d];exact d],λr c=>cK<|e r c];have z:∀b k,(∀n∈b,n<5)->k<32->nW k b<32:=by
   intro b
   induction b with
   |nil=>intro k _ a;exact a
   |cons n b f=>intro k h a;exact f _ (λy g=>h y<|dS _ g)<|Kb #[k,a] #[n,h n<|cJ ..]
  exact z _ 0 (λn i=>fm.mp (cL.mp i).1)<|by decide
theorem LJ(a):eX (eX a)=eX a:=by
 unfold eX;refine xg λi b=>?_;rw[kq,im,im,cL,im];exact#[λh=>h.2,λh=>#[b,h]]
theorem Mach.noT(M:Mach H m a n):Mach (noT H) m a n:=
 #[let⟨b,c,d,e⟩:=M.refs;#[b,nU c,d,λi r t f g=>nU<|e i r t f g],M.some1,M.few,M.n1,M.n5,M.each]
theorem Mach.keeps(M:Mach H m b n)(g:Keeps H a):Mach a m b n:=M.noT.same g
theorem Mach.drop(M:Mach H m a n)(b:H c=some (.ext e)):Mach (drop H c) m a n:=by
 obtain⟨f,d,g,h⟩:=M.refs;refine#[#[f,?_,g,λi r t j k=>?_],M.some1,M.few,M.n1,M.n5,M.each]
 .rw[dm<|nE d b];exact d
 .have z:=h i r t j k;rw[dm<|nE z b];exact z
theorem IW{u c m i:Ad}{f:Expr}(e:gK oF=[.Return (some (.Call Y [a1,a2,.Lambda a f d lp] kw cp)) rp])(jH:cn P w K mg base tY 3 [sA,sB,sT] (cG K)) (M:Mach j m p n) (h1:j u=some (hX u (fJ sE a f d sA c pm (.ref i) v))) (O:j c=some (eY c m N)) (h3:j i=some (j4 i sE)):
  FnOk P w K mg base bZ 5 u (fJ sE a f d sA c pm (.ref i) v) [sQ,sK] (de (Same j) (cZ n) p.length (bH p))/\Binds K (fJ sE a f d sA c pm (.ref i) v) [sQ,sK] []:=by
 cases e;refine#[EI (m:=m) (oc:=N) #[zZ,zZ,zZ,by decide+kernel,by decide+kernel,zZ,by decide+kernel] (λT H Q E h=>?_) (λT H Q E h=>?_)<|λA B s H T Q E hr h=>?_,.all λus C=>match us,C with| [_,_],_=>rfl]
 .obtain⟨t,x,l,rfl,_⟩:=h;rfl
 .obtain⟨t,x,l,rfl,g,_⟩:=h;exact#[g _ _ h1,g _ _ O,g _ _ h3]
 .obtain⟨t,x,l,rfl,g,ht,hx,C,q⟩:=h;refine#[_,(ck jH hr.m zZ<|b8<|bB (pv 2) (bB (pv 0) (bB (gw<|bG (pv 1) bF) bW zZ) zZ) zZ),?_];obtain⟨x1,x2⟩:=bD.mp hx;have D:=g _ _ O;refine#[_,zZ,_,zZ,_,zZ,by show 1<=sizeLine;decide,λb hb=>?_];have G:=bP hb<|.lst [nv l];have I:=G _ _ (by rw[dm<|nE ht D];exact ht);refine#[m,t,b,p,n,x,[l],zZ,(((M.same g).drop D).same G),V2 I,by rw[<-x1];exact KD x,x2,V1 bE,λz hz=>by rw[cf.mp hz];exact C,λr H3 g3 U free=>q r _ (λy o J=>?_) ?_]
  .by_cases L:y=c
   .subst L;rw[D]at J;cases J;exact bE
   .rw[bI L];exact g3 _ _<|G _ _ (by rw[dm L];exact J)
  .rw[bI<|cQ U free];exact U
theorem UX{cd T:Ad}(F:DefAt K sU oF f fd .none (.ref cd))(hC:W.CodeHd base cd T)(bm:pi mg base)(hq:((sE:Str),(#[78,40,78,93]:Pos),T)∈dv)(jH:cn P w K mg base tY 3 [sA,sB,sT] (cG K))(kE:Bh P w K mg base tL 8 ["start",xS,wG,wT] (cA P w K mg base) [.non]) (jA:mg "len"=none):FnOk P w K mg base bZ 10 f fd [sA,sB] (cU T (#[78,40,78,93]:Pos)):=by
 refine F.fnOk SF (λvs H Q E h=>?_) (λA af s H vs Q E h hr=>?_)
 .obtain⟨m,p,Y,n,v,rfl,_⟩:=h;rfl
 obtain⟨m,p,Y,n,v,rfl,M,hp,hU,hT,q⟩:=h;refine#[_,?_,(bM (cg (Fy kE hr.m zZ (j:=0) zZ zZ zZ zZ (b8 (bB (pv 1) (bB (cX eR zZ jA dW (bG (pv 0) bF)) (bB (E2 zZ hC bm (λ_ _ _ _ _=>rfl) zZ zZ) bW zZ) zZ) zZ)))))];obtain⟨rs,hm,ag,_⟩:=M.refs;refine#[_,zZ,_,zZ,m,_,zZ,.inr (V2 hm),?_]
 rw[bA,ag];have go:∀B t J L aa,H T=some (.tbl aa)->KeepsBut T H L->L T=some (.tbl (kg (#[78,40,78,93]:Pos) t))->L t=some (j4 t sE)->∀d k e pm c,L B=some (hX B (fJ sE d k e sA c pm (.ref t) J))->
   ∀C,L c=none->(FnOk P w K mg base bZ 5 B (fJ sE d k e sA c pm (.ref t) J) [sQ,sK] (de (Same (bx L c (eY c m C))) (cZ n) Y.length (bH Y)))->Binds K (fJ sE d k e sA c pm (.ref t) J) [sQ,sK] []->
   cA P w K mg base [.ref p,nv Y.length,.ref B,.non] (bx L c (eY c m C)) (λr H2=>H2 c=some (eY c m C)/\Q r (drop H2 c)) E0:=λB t J L aa ab kb h1 h2 d k e pm c h3 C G hF hB=>by
  have u:=kb.keeps ab;have i:=bP G (eY c m C);have n5:=M.n5;refine#[p,B,_,_,v,Y.length,cZ n,bH Y,zZ,i _ _ (u _ _ (nU hp)),i _ _ h3,hU,λx hx l hl=>?_,?_,?_,hF,hB,λD ws as H2 N W nw TT=>#[N _ _ bE,q D ws as _ (λb o O=>?_) (hT.but hq ab (λb o nb O=>?_) (.inr #[t,?_,?_])) #[W.len,?_,λj a r e1 e2=>?_] (λb O=>?_) TT]]
  .obtain⟨x1,x2⟩:=bD.mp hx;refine bD.mpr #[LJ _,λr hr=>?_];obtain⟨y,h4,rfl⟩:=bY.mp (C8 hr);exact m8 M [l] y (x2 y h4) λz hz=>by rw[cf.mp hz];exact hl
  .exact cz (jm _ _) (by rw[bA,mw];decide)
  .have:=M.few;lia
  .have z:=u b o O;rw[dm (cQ z G)];exact N _ _ (i _ _ z)
  .have z:=kb b o nb O;rw[dm (cQ z G)];exact N _ _ (i _ _ z)
  .rw[dm (cQ h1 G)];exact N _ _ (i _ _ h1)
  .rw[dm (cQ h2 G)];exact N _ _ (i _ _ h2)
  .rw[dm (nE W.dict (N _ _ bE))];exact W.dict
  .have z:=W.list j a r e1 e2;rw[dm (nE z (N _ _ bE))];exact z
  .cases y:L2.noT H b with
   |none=>rfl
   |some o=>
    have z2:=i _ _ (u _ _ y);rw[(nw b O)]at z2;cases z2
 rcases hT _ hq with g|⟨t,g,I⟩
 .refine .inl #[g,λB t J U I ne=>#[m,zZ,λC G=>?_]];obtain⟨u,ah,ae⟩:=IE (#[78,40,78,93]:Pos) sE g U I ne _;have i:=bP G (eY (s.heap.objs.size+1) m C);obtain⟨F1,F2⟩:=IW zZ jH ((M.keeps (u.keeps g)).same i) (i _ _ bE) bE (i _ _ ae);exact go B t J _ _ g u ah ae _ _ _ _ _ bE C G F1 F2
 .refine .inr #[t,g,I,λB J U=>#[m,zZ,λC G=>?_]];have u:=λlo=>bP U lo;have i:=bP G (eY (s.heap.objs.size+1) m C);obtain⟨F1,F2⟩:=IW zZ jH ((M.same (u _)).same i) (i _ _ bE) bE (i _ _ (u _ _ _ I));exact go B t J _ _ g (λb o _ O=>u _ _ _ O) (u _ _ _ g) (u _ _ _ I) _ _ _ _ _ bE C G F1 F2
inductive dL(b:List V)(H:Hp)(Q:VK)(a:XK):Prop|mk:∀n,b=[nv n]->n<=1000->yj H ((List.range n).map nv) Q->dL b H Q a
theorem NF(F:Fun K wY wY F6 f fd)(b:mg "tuple"=none)(c:mg "range"=none):FnOk P w K mg base bZ 1 f fd [sB] dL:=by
 refine F.ok RK<|λd A a s H g Q E i h=>?_
 obtain⟨n,rfl,j,q⟩:=h;refine#[_,(bM<|cg<|gE (Qo zZ) zZ b lL<|bG (gE JD zZ c boot_range<|bG (pv 0) bF) bF),#[_,zZ,(n:Int),zZ,λp e=>#[p,(n:Int),zZ,bE,(),(),λt ht=>?_]]];exact q t _ ((bP e _).trans<|bP ht _) bE
noncomputable def dz(xs a:bw):bw:=xs.map λx=>a.getD x 0
inductive cY(f:List V)(H:Hp)(Q:VK)(d:XK):Prop|mk:∀a b c e,f=[.ref a,.ref b]->H a=some (.tup (c.map nv))->H b=some (.tup (e.map nv))->(∀x∈c,x<e.length)->c.length<=1000->yj H ((dz c e).map nv) Q->cY f H Q d
theorem OT(F:Fun K wI wI Ch f fd)(l:mg "tuple"=none):FnOk P w K mg base bZ 1 f fd [tT,sY] cY:=by
 refine F.ok Vi<|λm A c s H z Q E B h=>?_
 obtain⟨a,b,j,d,rfl,k,n,g,o,q⟩:=h;refine#[_,(bM<|cg<|gE nL zZ l lL<|bG (gN (CompSc.to (N:=[tT,sY]) (osc:=bQ Ch) {}) zZ zZ (pY<|pv 0) (λ_ _ _ _=>fK)<|λ_ _ _ _=>(b7 (IxR.k oh cO zZ) (pv 2) (pv 0)<|λ_ _=>rfl)) bF),?_];have e:(j.map nv).map (λv=>match v with|.int i=>nv (d.getD i.toNat 0)|v=>v)=(dz j d).map nv:=by
  unfold dz;rw[eM,eM];rfl
 refine#[_,zZ,a,zZ,#[_,V2 k],t9 (f:=λv=>match v with|.int i=>nv (d.getD i.toNat 0)|v=>v) (by rw[bA];exact small o) (V2 k) (λv Q r q=>?_)<|λp u=>?_]
 .obtain⟨x,y,rfl⟩:=bY.mp r;exact#[_,zZ,_,zZ,b,_,_,_,zZ,zZ,V2 n,sv<|g x y,q]
 .rw[e];exact#[p,_,zZ,.inl #[V1 bE,λt ht=>q t _ ((bP u _).trans<|bP ht _) bE]]
noncomputable def gG(n:Nat):Nat->List bw
 |0=>[[]]
 |k+1=>(gG n k).flatMap λx=>(List.range n).map λr=>x++[r]
theorem ce:∀{k} {x},x∈gG n k↔x.length=k/\∀r∈x,r<n
 | 0,x=>by
  show x∈[[]]↔_;rw[cf];constructor
  .rintro rfl;exact#[zZ,λr a=>nomatch a]
  .rintro⟨h,_⟩;exact sk.mp h
 | k+1,x=>by
  show x∈(gG n k).flatMap _↔_;rw[List.mem_flatMap];constructor
  .rintro⟨y,e,f⟩;obtain⟨r,a,rfl⟩:=bY.mp f;obtain⟨b,c⟩:=ce.mp e;refine#[by simp[b],λz g=>?_]
   rcases cF.mp g with m|m
   .exact c z m
   .rw[cf.mp m];exact fm.mp a
  .rintro⟨b,c⟩;have d:x≠[]:=λz=>by rw[z]at b;cases b
   refine#[x.dropLast,ce.mpr #[by rw[List.length_dropLast,b];rfl,λr a=>c r<|List.dropLast_subset _ a],bY.mpr #[x.getLast d,fm.mpr<|c _<|List.getLast_mem d,ID d]]
theorem HC:∀k,(gG n k).length=n ^ k
 |0=>rfl
 | k+1=>by
  show((gG n k).flatMap _).length=_;rw[List.length_flatMap];have z:∀l:LN,(l.map λx=>((List.range n).map λr=>x++[r]).length).sum=l.length * n:=by
   intro l
   induction l with
   |nil=>simp
   |cons a l b=>rw[hI,List.sum_cons,b,bA,mw,i3,Nat.succ_mul,Nat.add_comm]
  rw[z,HC k,Nat.pow_succ]
theorem Od(h:n<=5):(gG n n).length<=4000:=by
 rw[HC];have z:∀k:Fin 6,(k:Nat) ^ (k:Nat)<=4000:=by decide
 exact z #[n,()]
theorem RS(n):List.range n∈gG n n:=ce.mpr #[mw,λr a=>fm.mp a]
noncomputable def gl(t:bw):Int:= -((t.length:Nat):Int)
noncomputable def nH(a:LN)(t:bw):LN:=if a.contains t then a else a++[t]
noncomputable def uniq(a:LN):LN:=a.foldl nH []
theorem Ri(a)(t):uniq (a++[t])=nH (uniq a) t:=by
 unfold uniq;rw[oJ];rfl
theorem Vm{t x:bw}:x∈nH a t↔x∈a\/x=t:=by
 unfold nH;by_cases h:a.contains t=true
 .rw[wB h];constructor
  .exact .inl
  .rintro(b|rfl)
   .exact b
   .exact im.mp h
 .rw[wA h,cF,cf]
theorem NO(nd:a.Nodup):(nH a t).Nodup:=by
 unfold nH;by_cases h:a.contains t=true
 .rw[wB h];exact nd
 .rw[wA h,A5];refine#[nd,by simp,λx b y c z=>h<|List.contains_iff_mem.mpr ?_];rw[<-cf.mp c,<-z];exact b
theorem Hj(b):(uniq b).Nodup/\∀x,x∈uniq b↔x∈b:=by
 have go:∀(b a:LN),a.Nodup->(b.foldl nH a).Nodup/\∀x,x∈b.foldl nH a↔x∈a\/x∈b:=by
  intro b
  induction b with
  |nil=>intro a nd;exact#[nd,λx=>by simp]
  |cons t b e=>
   intro a nd;obtain⟨c,d⟩:=e (nH a t)<|NO nd;refine#[c,λx=>?_];rw[Ck,d x,Vm,db,or_assoc]
 obtain⟨c,d⟩:=go b [] List.nodup_nil;exact#[c,λx=>by rw[show uniq b=b.foldl nH []from rfl,d x];simp]
theorem Uy(h:b.map (·.1)=d.map nk):(jz b (nk t) v).map (·.1)=(nH d t).map nk:=by
 have e:(b.any λa=>decide (a.1=nk t))=d.contains t:=by
  rw[kq,Ab,im];constructor
  .rintro⟨a,f,g⟩;have m:a.1∈d.map nk:=by rw[<-h];exact bY.mpr #[a,f,zZ]
   obtain⟨u,i,j⟩:=bY.mp m;rw[<-(DU (j.trans (ik g)))];exact i
  .intro ht;have m:nk t∈b.map (·.1):=by rw[h];exact bY.mpr #[t,ht,zZ]
   obtain⟨a,f,g⟩:=bY.mp m;exact#[a,f,cK g]
 unfold jz nH;rw[e];by_cases c:d.contains t=true
 .rw[wB c,wB c,<-h,eM];refine mI λa _=>?_;show(if a.1=nk t then(a.1,v)else a).1=a.1;split<;>rfl
 .rw[wA c,wA c,c7,c7,h];rfl
theorem Hy{g:Type}{lt:g->g->Bool}(i:∀x,lt x x=false)(j:∀x y z,lt x y=true->lt y z=true->lt x z=true):∀{c d:List g},c.Pairwise (λx y=>lt x y=true)->d.Pairwise (λx y=>lt x y=true)->(∀x,x∈c↔x∈d)->c=d
 | [],[],_,_,_=>rfl
 | [],q::d,_,_,h=>wC ((h q).mpr<|cJ ..)<|by simp
 |p::c,[],_,_,h=>wC ((h p).mp<|cJ ..)<|by simp
 | p::c,q::d,m,n,h=>by
  obtain⟨k,o⟩:=yo.mp m;obtain⟨l,s⟩:=yo.mp n;have no:∀{x y},lt x y=true->lt y x=true->False:=λ{x y} a b=>by
   have:=j _ _ _ a b;rw[i]at this;cases this
  have t:p=q:=by
   rcases db.mp ((h p).mp<|cJ ..)with e|e
   .exact e
   .rcases db.mp ((h q).mpr<|cJ ..)with e'|e'
    .exact e'.symm
    .exact(no (l p e)<|k q e').elim
  subst t;have rest:=Hy i j o s λr=>by
   constructor
   .intro f
    rcases db.mp ((h r).mp<|dS _ f)with e|e
    .subst e;have:=k r f;rw[i]at this;cases this
    .exact e
   .intro f
    rcases db.mp ((h r).mpr<|dS _ f)with e|e
    .subst e;have:=l r f;rw[i]at this;cases this
    .exact e
  rw[rest]
inductive f7(e:List V)(H:Hp)(Q:VK)(c:XK):Prop|mk:∀l f (a U:LN),e=[.ref l]->H l=some (.lst (f.map .ref))->TupsAt H f a->(∀t∈a,t∈U)->U.length<64->a.length<=4000->(∀D bs d b,Same H b->H D=none->b D=some (.lst (bs.map .ref))->TupsAt b bs d->(∀x,x∈d↔x∈a)->d.Pairwise (λx y=>gt gl x y=true)->Q (.ref D) b)->f7 e H Q c
theorem Qz(F:Fun K "place_of" "place_of" Hr f fd)(d:mg "len"=none):FnOk P w K mg base bZ 1 f fd [sB] (gX gl):=by
 refine F.ok OR<|λe A b s H j Q E k h=>?_
 obtain⟨a,t,rfl,g,q⟩:=h;refine#[_,(bM<|cg<|jo<|b8<|bB (zq zB<|cX eR zZ d dW<|bG (pv 0) bF) (bB (pv 0) bW zZ) zZ),#[_,zZ,a,_,zZ,.inr<|V2 g,_,zZ,_,zZ,by show 2<=sizeLine;decide,λi c=>?_]];refine q i _ (bP c _) ?_;rw[bE,bA];rfl
theorem QN(F:Fun K "in_order" "in_order" G4 f fd)(M:cn P w K mg base "place_of" 1 [sB] (gX gl))(N:mg "sorted"=none):FnOk P w K mg base bZ 5 f fd [tI] f7:=by
 refine F.ok uO<|λO A r s H vs Q E u h=>?_
 obtain⟨l,Y,c,U,rfl,z,T,inU,few,B,q⟩:=h;have v:=gJ u;refine#[_,(bK (cj (i:=1) uO.nd zZ Z' Ey)<|bK (fA fi zZ (fq<|pv 0) (dG (i:=2) uO.nd zZ Z')<|bM<|z9 v (pv 1) (pv 2) wn zZ)<|bM<|cg<|SJ zZ u.units M u.m zZ N zZ<|pv 1),?_];intro d C;have G:=bP C<|.dT [];have la:=T.len;obtain⟨un,I⟩:=Hj c;refine#[_,zZ,l,zZ,#[_,V1<|G _ _ z],oX (λi n j=>Same H j/\∃b o,j d=some (.dT b)/\b.map (·.1)=(uniq<|c.take i).map nk/\n=[some<|.ref l,some<|.ref d,o]) #[G,[],none,bE,zZ,zZ] (λi n j _ p=>V1<|p.1 _ _ z) (λi x n j e p=>?_)<|λn j p=>?_]
 .obtain⟨g,b,o,y,k,rfl⟩:=p;rw[bT]at e;obtain⟨a,J,rfl⟩:=c9.mp e;have li:=(bN.mp J).1;obtain⟨t,L⟩:∃t,c[i]?=some t:=#[_,bC ()];have ha:=g _ _<|T.is i a t J L;have lk:b.length<=c.length:=by
   rw[<-bA,k,bA];refine cz (m9 (Hj _).1 λx e=>qr<|((Hj _).2 x).mp e)<|bR _
  refine#[_,zZ,_,zZ,d,_,zZ,DPut.t y (by rw[jI];exact ha) (by rw[cq];lia),#[gh g C,_,_,bE,?_,zZ]];rw[Uy k,gj,L];show _=(uniq<|c.take i++[t]).map nk;rw[Ri]
 .obtain⟨g,b,o,y,k,rfl⟩:=p;rw[bA,la,fF]at k;refine#[_,zZ,d,zZ,d,b,uniq c,zZ,y,k,(BF (m9 un λx e=>inU x<|(I x).mp e) few),λD bs us H2 g2 hD eD T2 m pw=>q D bs us H2 (g.trans g2) (g.free hD) eD T2 (λx=>(m.mem_iff).trans<|I x) pw]
def PicsAt(H:Hp)(l:Ad)(d:As)(e:TW):Prop:=H l=some (.lst (d.map .ref))/\d.length=e.length/\∀(j:Nat) (a:Ad) p,d[j]?=some a->e[j]?=some p->∃b c,c≠l/\H a=some (.tup [.ref b,.ref c])/\H b=some (.tup (p.1.map nv))/\H c=some (.lst (p.2.map nv))
inductive fb(T:Ad)(b:Pos)(e:List V)(H:Hp)(Q:VK)(c:XK):Prop|mk:∀m d n,e=[.ref m]->Mach H m d n->Tabs H->(∀l g f a,Keeps H a->Tabs a->PicsAt a l g f->Told (bH d) d.length (List.range n) f->Q (.ref l) a)->fb T b e H Q c
noncomputable def hE(a:bw):List Dt:=(a.map λ(n:Nat)=>(n:Int)).map Dt.int
theorem GN(h:hE a=hE b):a=b:=cM.mp<|cH Dt.tup h
theorem FI(h:n<=5):List.range n∈cZ n:=by
 have z:∀k:Fin 6,eX (List.range k)=List.range k:=by decide+kernel
 exact bD.mpr #[z #[n,()],λr a=>fm.mp a]
theorem Vk(F:Fun K "pictures" "pictures" G6 f fd)(Y:cn P w K mg base wY 1 [sB] dL)(jS:cn P w K mg base sU 10 [sA,sB] (cU T (#[78,40,78,93]:Pos)))(jA:mg "len"=none)(uQ:mg "list"=none):
  FnOk P w K mg base bZ 12 f fd [sA] (fb T (#[78,40,78,93]:Pos)):=by
 refine F.ok vB<|λaa A g s H vs Q E G h=>?_
 obtain⟨m,ts,n,rfl,M,hT,q⟩:=h;have t1:=M.some1;have n5:=M.n5;obtain⟨_,r0,b1,b2,b3,b4,b5,b6⟩:=M.at (l:=0) ();refine#[_,(bK (cj (i:=1) vB.nd zZ Z'<|ck jS G.m zZ<|b8<|bB (pv 0) (bB (ck Y G.m zZ<|bG (cX eR zZ jA dW<|bG (b7 cO (pv 0) bL<|λ_ _=>rfl) bF) bF) bW zZ) zZ)<|bM<|cg<|gE (Rk zZ) zZ uQ boot_list<|bG (Ut PySem.F.plainAttrs_dict PySem.F.slot_dict_items PySem.F.type_dict_items RH<|pv 1) bF),#[_,zZ,_,zZ,m,_,_,_,zZ,zZ,V2 b1,b3,r0,_,zZ,.inr<|V2 b4,?_]]
 rw[bA,b5];refine#[n,zZ,(),λst H1 r t=>#[m,st,ts,n,List.range n,zZ,M.same r,t,FI n5,hT.same r,λD ws as I k2 T2 W _ TT=>#[_,zZ,.inr<|.inr<|.inl #[zZ,.inr #[_,W.dict]],zZ,D,_,zZ,W.dict,λv hv=>?_]]];have u:=bP hv<|AX v D;refine#[v,D,_,zZ,bE,u _ _ W.dict,λl ps y d=>?_];have B:Same (bx I v<|AX v D) y:=λb o e=>by
  rw[d.rest b (cQ e d.new) λz=>by rw[d.news b z]at e;cases e];exact e
 have J:=u.trans B;refine q l ps ws y ((r.keeps.trans k2).trans J.keeps) (T2.same J) #[d.lst,by rw[d.len,Ky W.len],λj a p t C=>?_] TT;obtain⟨k,x,b,L,N,f3⟩:=d.is j a t;obtain⟨hj,_⟩:=bN.mp C;obtain⟨c,O⟩:∃c,as[j]?=some c:=#[_,bC (by rw[W.len];exact hj)];rw[RB C O]at L;cases L;have U:=u _ _<|W.list j c p O C;rw[jI]at N;exact#[b,c,cQ U d.new,f3,B _ _ N,B _ _ U]
theorem K7(h:∀r,r∈a↔r∈b):eX a=eX b:=by
 refine xg λi _=>?_;rw[kq,im,im];exact h i
theorem BL(M:Mach H m a n){x:bw}(b:x∈cZ n)(c:l<a.length):bH a x l∈cZ n:=by
 obtain⟨h,d⟩:=bD.mp b;refine bD.mpr #[LJ _,λr e=>?_];obtain⟨y,f,rfl⟩:=bY.mp<|C8 e;exact m8 M [l] y (d y f) λz g=>by rw[cf.mp g];exact c
theorem BG(M:Mach H m a n):∀word (x:bw),x∈cZ n->(∀l∈word,l<a.length)->cu (bH a) x word=eX (pW a x word)
 | [],x,c,_=>by
  show x=eX (x.map λr=>dA a r []);rw[show(λr=>dA a r [])=id from rfl,Dc];exact(bD.mp c).1.symm
 | l::word,x,c,h=>by
  have e:=h l<|cJ ..;have f:=M.n5;show cu (bH a) (bH a x l) word=_;rw[BG M word _ (BL M c e) λy b=>h y<|dS _ b];refine K7 λr=>?_;unfold pW;rw[bY,bY];constructor
  .rintro⟨y,b,rfl⟩;obtain⟨z,d,rfl⟩:=bY.mp<|C8 b;exact#[z,d,zZ]
  .rintro⟨z,d,rfl⟩;have g:=m8 M [l] z ((bD.mp c).2 z d) λy b=>by rw[cf.mp b];exact e
   exact#[dA a z [l],Gw (bY.mpr #[z,d,zZ]) (),zZ]
theorem FG{b:Type}{P:Nat->b->Prop}:∀{n},(∀j,j<n->∃x,P j x)->∃a:List b,a.length=n/\∀j x,a[j]?=some x->P j x
 |0,_=>#[[],zZ,λj x e=>by simp at e]
 | n+1,h=>by
  obtain⟨a,c,d⟩:=FG (n:=n) λj f=>h j ();obtain⟨x,g⟩:=h n ();refine#[a++[x],by simp[c],λj y e=>?_];by_cases f:j<n
  .rw[dO ()]at e;exact d j y e
  .rw[dQ ()]at e;have z:j-a.length=0:=by
    have:=(bN.mp e).1;simp at this;lia
   rw[z]at e;cases e;have i:j=n:=by lia
   subst i;exact g
structure Prs(H:Hp)(l:Ad)(as:As)(bc:List (Ad×Ad))(ws:TW):Prop where
 lst:H l=some (.lst (as.map .ref))
 la:as.length=ws.length
 lb:bc.length=ws.length
 is:∀(j:Nat) (a:Ad) q p,as[j]?=some a->bc[j]?=some q->ws[j]?=some p->q.2≠l/\H a=some (.tup [.ref q.1,.ref q.2])/\H q.1=some (.tup (p.1.map nv))/\H q.2=some (.lst (p.2.map nv))
theorem PicsAt.prs(h:PicsAt H l g d):∃m,Prs H l g m d:=by
 obtain⟨o,r,s⟩:=h;obtain⟨m,t,u⟩:=FG (n:=d.length) (P:=λj (q:Ad×Ad)=>∀a p,g[j]?=some a->d[j]?=some p->q.2≠l/\H a=some (.tup [.ref q.1,.ref q.2])/\H q.1=some (.tup<|p.1.map nv)/\H q.2=some (.lst<|p.2.map nv)) λj v=>by
  obtain⟨a,i⟩:∃a,g[j]?=some a:=#[_,bC ()];obtain⟨p,k⟩:∃p,d[j]?=some p:=#[_,bC v];obtain⟨b,c,w,x,y,z⟩:=s j a p i k;refine#[(b,c),λB C e f=>?_];rw[i]at e;rw[k]at f;cases e;cases f;exact#[w,x,y,z]
 exact#[m,o,r,t,λj a q p i A k=>u j q A a p i k]
theorem Prs.at(h:Prs H l as b ws)(f:j<ws.length):∃a q p,as[j]?=some a/\b[j]?=some q/\ws[j]?=some p/\q.2≠l/\H a=some (.tup [.ref q.1,.ref q.2])/\H q.1=some (.tup (p.1.map nv))/\H q.2=some (.lst (p.2.map nv)):=by
 have g:=h.la;have i:=h.lb;obtain⟨a,c⟩:∃a,as[j]?=some a:=#[_,bC ()];obtain⟨q,d⟩:∃q,b[j]?=some q:=#[_,bC ()];obtain⟨p,e⟩:∃p,ws[j]?=some p:=#[_,bC f];exact#[a,q,p,c,d,e,h.is j a q p c d e]
def DX(a:LN)(n:Nat)(x:bw):Prop:=∃word,(∀l∈word,l<a.length)/\cu (bH a) (List.range n) word=x
structure FamOf(ts:LN)(n:Nat)(us:LN):Prop where
 up:us.Pairwise λx y=>gt gl x y=true
 mem:∀x,x∈us↔(DX ts n x\/∃r,r<n/\x=[r])
theorem FamOf.uniq(d:FamOf b n a)(e:FamOf b n c):a=c:=Hy (oy gl a).irr (oy gl a).trans d.up e.up λx=>(d.mem x).trans (e.mem x).symm
theorem FX(T:Told (bH a) a.length (List.range n) b)(x):x∈b.map (·.1)↔DX a n x:=by
 constructor
 .intro h;obtain⟨p,c,rfl⟩:=bY.mp h;obtain⟨d,e⟩:=T.run p c;exact#[p.2,d,e]
 .rintro⟨word,f,rfl⟩;obtain⟨u,g,_⟩:=T.least _ word zZ f;exact bY.mpr #[_,g,zZ]
theorem Ao(b:n<=5)(h:r<n):[r]∈cZ n:=by
 have z:∀k:Fin 5,eX [(k:Nat)]=[(k:Nat)]:=by decide+kernel
 exact bD.mpr #[z #[r,()],λx a=>by rw[cf.mp a];exact h]
theorem HL(M:Mach H m a n)(h:DX a n x):x∈cZ n:=by
 obtain⟨word,b,rfl⟩:=h;exact wr (FI M.n5) (λy c l d=>BL M c d) word b
theorem C6(n):(cZ n).length<=32:=cz (jm _ _) (by rw[bA,mw];decide)
theorem FamOf.inU(M:Mach H m a n)(h:FamOf a n b){x:bw}(c:x∈b):x∈cZ n:=by
 rcases (h.mem x).mp c with z|⟨r,d,rfl⟩
 .exact HL M z
 .exact Ao M.n5 d
theorem FamOf.few(M:Mach H m d n)(h:FamOf d n c):c.length<=32:=by
 refine cz (m9 ?_ λx f=>h.inU M f)<|C6 n;exact h.up.imp λ{a b} z e=>by
  subst e;rw[(oy gl c).irr]at z;cases z
theorem Ob(M:Mach H m a n)(h:DX a n x):x≠[]:=by
 obtain⟨word,b,rfl⟩:=h;rw[BG M word _ (FI M.n5) b];intro z;have e:=M.n1;have f:=M.n5;have d:dA a 0 word∈pW a (List.range n) word:=bY.mpr #[0,fm.mpr (),zZ];have g:=m8 M word 0 () b;have c:=Gw d ();rw[z]at c;cases c
theorem oI(a:n<=5){x:bw}(h:x∈cZ n):x.length<=n:=by
 obtain⟨b,c⟩:=bD.mp h;rw[<-b,Po a c];exact cz (jm _ _)<|by simp
theorem re(T:TupsAt H bs a)(h:H d=some o)(no:∀f,o≠ .tup f):TupsAt (bx H d c) bs a:=#[T.len,λi b u g j=>by
 have z:=T.is i b u g j;rw[bI<|j6 z h λe=>no _ e.symm];exact z]
theorem Bn{u:bw}(h:TupsAt H bs d)(e:H p=some (.tup (u.map nv))):TupsAt H (bs++[p]) (d++[u]):=by
 refine#[by simp[h.len],λi b v c a=>?_];have l:=h.len;by_cases f:i<d.length
 .rw[dO ()]at c a;exact h.is i b v c a
 .rw[dQ ()]at c a;have z:i-d.length=0:=by
   have:=(bN.mp a).1;simp at this;lia
  rw[l,z]at c;rw[z]at a;cases c;cases a;exact e
theorem PU{d f:LN}(h:TupsAt H bs d)(g:TupsAt H e f):TupsAt H (bs++e) (d++f):=by
 refine#[by simp[h.len,g.len],λi b v a c=>?_];have l:=h.len;by_cases j:i<d.length
 .rw[dO ()]at a c;exact h.is i b v a c
 .rw[dQ ()]at a c;rw[l]at a;exact g.is _ b v a c
theorem Jt(e:H l=some (.lst (bs.map .ref)))(T:TupsAt H bs us):Rep K H 2 (.lst (us.map λu=> .tup (hE u))) (.ref l):=by
 refine .lst (V1 e) (by rw[bA,bA,T.len]) λi d v b c=>?_;rw[bT]at b c;obtain⟨p,f,rfl⟩:=c9.mp b;obtain⟨a,g,rfl⟩:=c9.mp c;exact iD<|V2<|T.is i a p g f
theorem Go{c d:LN}(h:(Dt.lst (c.map λu=> .tup (hE u)))=Dt.lst (d.map λu=> .tup (hE u))):c=d:=by
 injection h with h
 exact ue (λa b e=>by injection e with e;exact GN e) h
inductive fy(T:Ad)(b:Pos)(d:List V)(H:Hp)(Q:VK)(c:XK):Prop|mk:∀m e n,d=[.ref m]->Mach H m e n->Tabs H->(∀D bs f a,Keeps H a->Tabs a->noT H D=none->a D=some (.lst (bs.map .ref))->TupsAt a bs f->FamOf e n f->Q (.ref D) a)->fy T b d H Q c
theorem QW(F:Fun K "family" "family" yY f fd)(uD:cn P w K mg base "pictures" 12 [sA] (fb T (#[78,40,78,93]:Pos)))(uE:cn P w K mg base "in_order" 5 [tI] f7)(jA:mg "len"=none)(jD:mg "range"=none):FnOk P w K mg base bZ 14 f fd [sA] (fy T (#[78,40,78,93]:Pos)):=by
 refine F.ok xB<|λak A aa s H vs Q E hr h=>?_
 obtain⟨m,ts,n,rfl,M,hT,q⟩:=h;have t1:=M.some1;have n1:=M.n1;have n5:=M.n5;obtain⟨_,r0,b1,b2,b3,b4,b5,b6⟩:=M.at (l:=0) ();refine#[_,(bK (vw (CompSc.to (N:=[sA,"singles"]) (osc:=bQ yY) (vs:=[tQ]) {}) zZ zZ xB.nd (j:=1) zZ zZ (j8 zZ jD<|bG (cX eR zZ jA dW<|bG (b7 cO (pv 0) bL<|λ_ _=>rfl) bF) bF) (λ_ _ _ _=>fK)<|λ_ _ _ _=>(jo<|bG (pv 0) bF))<|bM<|cg<|ck uE hr.m zZ<|bG (cw DV (BJ (CompSc.to (N:=[sA,"singles"]) (osc:=bQ yY) (vs:=[sB,sT]) {}) zZ (fq<|ck uD hr.m zZ<|bG (pv 0) bF) (Gr (CompSc.to (N:=[sA,"singles"]) (osc:=bQ yY) (vs:=[sB,sT]) {}) zZ zZ zZ) (λ_ _ _ _=>fK)<|λ_ _ _ _=>(pv 0)) (pv 1)) bF),?_];refine#[_,zZ,m,_,_,_,zZ,zZ,V2 b1,b3,r0,_,zZ,.inr (V2 b4),(n:Int),by rw[bA,b5],(),(),D' (λi d c=>Same H c/\∃a,d=a.map V.ref/\a.length=i/\TupsAt c a ((List.range i).map λr=>[r])) (by rw[hY];exact small ()) #[Same.refl _,[],zZ,zZ,zZ,λi b u e=>by simp at e] (λi d c _ p=>?_) (λi d c hi p=>?_) (λd H1 p U ab=>?_)]
 .obtain⟨_,a,rfl,e,_⟩:=p;rw[bA];lia
 .obtain⟨g,a,rfl,e,Y⟩:=p;have e0:V.int (0+(i:Int))=nv i:=by show V.int (0+(i:Int))=V.int (i:Int);rw[td]
  refine#[iE,jc #[_,zZ,by show 1<=sizeLine;decide,λp hp=>?_]];have k:=bP hp (.tup [V.int (0+(i:Int))]);refine#[g.trans k,a++[p],by simp,by simp[e],?_];rw[List.range_succ,c7];refine Bn (Y.same k) ?_;rw[bE,e0];rfl
 obtain⟨g1,a,rfl,er,Y⟩:=p;rw[hY]at Y er;have k1:=bP ab (.lst (a.map V.ref));have I:bx H1 U (.lst (a.map V.ref)) U=some (.lst (a.map V.ref)):=bE;have T2:=Y.same k1;have B:=g1.trans k1;generalize bx H1 U (.lst (a.map V.ref))=H2 at k1 I T2 B|-;refine#[_,zZ,m,ts,n,zZ,M.same B,hT.same B,λl as ws H3 k3 T3 ae TT=>?_];obtain⟨bc,C⟩:=ae.prs;have aj:=(M.same B);have few:ws.length<=32:=by
  rw[<-bA (f:=(·.1)) (as:=ws)];exact cz (m9 TT.keys λx hx=>HL M ((FX TT x).mp hx)) (C6 n)
 refine#[l,zZ,#[_,V1 C.lst],je (xs:=as.map .ref) (λi d c=>c=H3/\∃bs,d=bs.map V.ref/\bs.length=i/\TupsAt H3 bs ((ws.take i).map (·.1))) (by rw[bA,C.la,cq];lia) #[zZ,[],zZ,zZ,zZ,λi b u e=>by simp at e] (λi d c _ p=>?_) (λi v d c hv p=>?_) (λd c p c1 af=>?_)]
 .obtain⟨rfl,bs,rfl,e,_⟩:=p;exact#[V1 C.lst,by rw[bA];lia]
 .obtain⟨rfl,bs,rfl,e,J⟩:=p;rw[bT]at hv;obtain⟨a1,ea,rfl⟩:=c9.mp hv;obtain⟨a',q',p',L,al,ag,f0,f1,f2,f3⟩:=C.at (j:=i) (by have:=(bN.mp ea).1;rw[<-C.la];exact this);rw[ea]at L;cases L;refine#[a1,_,zZ,V2 f1,zZ,_,_,zZ,_,_,zZ,zZ,Ip,jc #[_,zZ,zZ,bs++[q'.1],by simp,by simp[e],?_]];rw[gj,ag,c7];exact Bn J f2
 obtain⟨rfl,bs,rfl,e,J⟩:=p;rw[bA,C.la,fF]at J;have G:=bP af (.lst (bs.map V.ref));have O:=G _ _ (k3 _ _ (nU I));have T5:TupsAt (bx c c1 (.lst (bs.map V.ref))) a ((List.range n).map λr=>[r]):=#[T2.len,λi b u e1 e2=>G _ _ (k3 _ _ (nU (T2.is i b u e1 e2)))];have lb:bs.length=ws.length:=by rw[J.len,bA]
 refine#[_,zZ,c1,U,_,_,zZ,zZ,V1 bE,V1 O,by rw[bA,bA,lb,er,cq];lia,λl2 ah=>?_];have k2:=bP ah (.lst (bs.map V.ref++a.map V.ref));have T6:=(PU (J.same G) T5).same k2;refine#[l2,bs++a,_,cZ n,zZ,by rw[bE,c7],T6,λt ht=>?_,BF (C6 n) (by decide),by rw[cC,bA,bA,mw];lia,λD ds us H5 g5 hD eD T7 mem up=>?_]
 .rcases cF.mp ht with z|z
  .exact HL M ((FX TT t).mp z)
  .obtain⟨r,ai,rfl⟩:=bY.mp z;exact Ao n5 (fm.mp ai)
 .have kk:=((B.keeps.trans k3).trans (G.trans k2).keeps).trans g5.keeps;refine q D ds us H5 kk (T3.same ((G.trans k2).trans g5)) ?_ eD T7 #[up,λx=>?_]
  .cases y:L2.noT H D with
   |none=>rfl
   |some o=>
    have z:=(G.trans k2) _ _ ((B.keeps.trans k3) _ _ y);rw[hD]at z;cases z
  .rw[mem x,cF,FX TT x];refine or_congr Iff.rfl ?_;rw[bY];constructor
   .rintro⟨r,h1,rfl⟩;exact#[r,fm.mp h1,zZ]
   .rintro⟨r,h1,rfl⟩;exact#[r,fm.mpr h1,zZ]
noncomputable def sub(x y:bw):Bool:=x.all λr=>y.contains r
inductive jq(d:List V)(H:Hp)(Q:VK)(c:XK):Prop|mk:∀a b x y,d=[.ref a,.ref b]->H a=some (.tup (x.map nv))->H b=some (.tup (y.map nv))->x.length<=5->(∀e,Same H e->Q (.bl (sub x y)) e)->jq d H Q c
noncomputable def iz(a:LN)(x:bw):LN:=a.filter λu=>decide (u≠x)&&sub u x
noncomputable def nI(a:LN)(u:bw):Bool:=a.any λv=>decide (v≠u)&&sub u v
noncomputable def gO(a:LN)(x:bw):LN:=(iz a x).filter λu=> !nI (iz a x) u
inductive nO(d:List V)(H:Hp)(Q:VK)(b:XK):Prop|mk:∀a l x bs c,d=[.ref a,.ref l]->H a=some (.tup (x.map nv))->H l=some (.lst (bs.map .ref))->TupsAt H bs c->x.length<=5->c.length<=32->(∀e,Same H e->Q (.bl (nI c x)) e)->nO d H Q b
inductive iO(T:Ad)(c:Pos)(e:List V)(H:Hp)(Q:VK)(d:XK):Prop|mk:∀m p f n x,e=[.ref m,.ref p]->Mach H m f n->H p=some (.tup (x.map nv))->Tabs H->(∀D bs g a b,Keeps H b->Tabs b->noT H D=none->b D=some (.lst (bs.map .ref))->TupsAt b bs g->FamOf f n a->g=gO a x->Q (.ref D) b)->iO T c e H Q d
theorem Cw{b:LN}{f:bw->Bool}{t:bw}(T:TupsAt H d ((b.take i).filter f))(e:b[i]?=some t)(g:H a=some (.tup (t.map nv))):if f t=true then TupsAt H (d++[a]) ((b.take (i+1)).filter f)else TupsAt H d ((b.take (i+1)).filter f):=by
 have h:(b.take<|i+1).filter f=(b.take i).filter f++(if f t=true then[t]else[]):=by
  rw[gj,e,AE];cases c:f t with
  |true=>simp[c]
  |false=>simp[c]
 rw[h];cases c:f t with
 |true=>exact Bn T g
 |false=>
  rw[wA<|by decide,wA<|by decide,iw];exact T
theorem Uh(F:Fun K xW xW Dp f fd)(g:mg "all"=none):FnOk P w K mg base bZ 1 f fd [tT,sY] jq:=by
 refine F.ok UU<|λj A c s H p Q E t h=>?_
 obtain⟨a,b,x,y,rfl,d,k,u,q⟩:=h;refine#[_,(bM<|cg<|cX (FR zZ) zZ g boot_all<|bG (gN (CompSc.to (N:=[tT,sY]) (osc:=bQ Dp) {}) zZ zZ (pY<|pv 0) (λ_ _ _ _=>fK)<|λ_ _ _ _=>(mK (OpR.k (λK=>Eu K false) Ks zZ) (pv 0) (pv 2)<|by with_unfolding_all rfl)) bF),#[_,zZ,a,zZ,#[_,V2 d],t9 (f:=λv=>match v with|.int i=> .bl (y.contains i.toNat)|v=>v) (by rw[bA];exact small ()) (V2 d) (λv Q m q=>?_)<|λl n=>?_]]
 .obtain⟨r,z,rfl⟩:=bY.mp m;refine#[_,zZ,_,zZ,b,_,zZ,.inr<|V2 k,zZ,Uc _,?_]
  rw[AQ];exact q
 .have e:(x.map nv).map (λv=>match v with|.int i=>V.bl (y.contains i.toNat)|v=>v)=(x.map λr=>y.contains r).map V.bl:=by
   rw[eM,eM];rfl
  rw[e];refine#[l,_,zZ,V1 bE,?_];have o:(x.map λr=>y.contains r).all id=sub x y:=by
   rw[ww];rfl
  rw[o];exact q _<|bP n _
theorem SX(F:Fun K yE yE B6 f fd)(L:cn P w K mg base xW 1 [tT,sY] jq)(M:mg "any"=none):FnOk P w K mg base bZ 3 f fd [xT,tI] nO:=by
 refine F.ok NQ<|λO A n s H vs Q E r h=>?_
 obtain⟨a,l,x,bs,j,rfl,U,t,T,Y,few,q⟩:=h;have lb:=T.len;refine#[_,(bM<|cg<|cX (MS zZ) zZ M boot_any<|bG (gN (CompSc.to (N:=[xT,tI]) (osc:=bQ B6) {}) zZ zZ (fq<|pv 1) (λ_ _ _ _=>fK)<|λ_ _ _ _=>(tz (mK (OpR.k (λK=>lE K true) (At r.units) zZ) (pv 0) (pv 1)<|dC _)<|rq<|ck L r.m zZ<|b8<|bB (pv 1) (bB (pv 0) bW zZ) zZ)) bF),?_];refine#[_,zZ,l,zZ,#[_,V1 t],je (xs:=bs.map .ref) (λi k m=>Same H m/\k=((j.take i).map λv=>decide (v≠x)&&sub x v).map V.bl) (by rw[bA,cq];lia) #[Same.refl _,zZ] (λi k m hi p=>?_) (λi v k m y p=>?_)<|λk m p c1 o=>?_]
 .obtain⟨g,rfl⟩:=p;exact#[V1<|g _ _ t,by simp;lia]
 .obtain⟨g,rfl⟩:=p;rw[bT]at y;obtain⟨b,B,rfl⟩:=c9.mp y;have li:=(bN.mp B).1;obtain⟨u,C⟩:∃u,j[i]?=some u:=#[_,bC ()];have D:=g _ _<|T.is i b u B C;have G:=g _ _ U;have I:((j.take<|i+1).map λv=>decide (v≠x)&&sub x v).map V.bl=((j.take i).map λv=>decide (v≠x)&&sub x v).map V.bl++[V.bl<|decide (u≠x)&&sub x u]:=by
   rw[gj,C,c7,c7];rfl
  refine#[iE,jc ?_];refine#[_,zZ,_,zZ,b,a,0,_,_,zZ,zZ,iD<|V2 D,iD<|V2 G,by decide,λc J=>?_];by_cases e:u=x
  .have d:=J.mpr<|cM.mpr e;subst d;refine#[_,zZ,cR #[g,?_]];rw[I,eU<|λz=>z e];rfl
  .have d:c=false:=by
    cases c with
    |false=>rfl
    |true=>exact wC (cM.mp<|J.mp zZ) e
   subst d;refine#[_,zZ,dP #[_,zZ,_,zZ,a,b,x,u,zZ,G,D,Y,λH4 g4=>#[g.trans g4,?_]]];rw[I,cK e,zS]
 .obtain⟨g,rfl⟩:=p;rw[bA,lb,fF];have e2:(j.map λv=>decide (v≠x)&&sub x v).any id=nI j x:=by
   unfold nI;rw[AL];rfl
  refine#[c1,_,zZ,V1 bE,?_]
  try dsimp only
  rw[e2];exact q _<|g.trans<|bP o _
theorem Tc(F:Fun K sJ sJ A9 f fd)(qU:cn P w K mg base "family" 14 [sA] (fy T (#[78,40,78,93]:Pos)))(kF:cn P w K mg base xW 1 [tT,sY] jq)(rF:cn P w K mg base yE 3 [xT,tI] nO):FnOk P w K mg base bZ 16 f fd [sA,sB] (iO T (#[78,40,78,93]:Pos)):=by
 refine F.ok xL<|λag A ab s H vs Q E hr h=>?_
 obtain⟨m,p,ts,n,x,rfl,M,hp,hT,q⟩:=h;have n5:=M.n5;refine#[_,(bK (cj (i:=2) xL.nd zZ Z0<|gN (CompSc.to (N:=[sA,sB,wQ]) (osc:=bQ A9) (vs:=[xT]) {}) zZ zZ (fq<|ck qU hr.m zZ<|bG (pv 0) bF) (λ_ _ _ _=>yu<|PW.pt<|yZ (eG (OpR.k (K:=K) (λK=>lE K true) (At hr.units) zZ) (pv 0) (pv 2)<|dC _)<|yK<|iI<|ck kF hr.m zZ<|b8<|bB (pv 0) (bB (pv 2) bW zZ) zZ)<|λ_ _ _ _=>(pv 0))<|bM<|cg<|gN (CompSc.to (N:=[sA,sB,wQ]) (osc:=bQ A9) (vs:=[xT]) {}) zZ zZ (fq<|pv 2) (λ_ _ _ _=>yu<|iC<|iI<|ck rF hr.m zZ<|b8<|bB (pv 0) (bB (pv 3) bW zZ) zZ)<|λ_ _ _ _=>(pv 0)),?_];refine#[_,zZ,m,ts,n,zZ,M,hT,λl bs a H1 k1 T1 nl el Tf ff=>?_];have few:=ff.few M;have lb:=Tf.len;have ae:=k1 _ _<|nU hp;have l5:∀u∈a,u.length<=5:=λu h=>cz (oI n5 (ff.inU M h)) n5;refine#[l,zZ,#[_,V1 el],je (xs:=bs.map .ref) (λi k r=>Same H1 r/\∃d,k=d.map V.ref/\d.length<=i/\TupsAt r d ((a.take i).filter λu=>decide (u≠x)&&sub u x)) (by rw[bA,cq];lia) #[Same.refl _,[],zZ,bR _,zZ,λi b u e=>by simp at e] (λi k r hi p=>?_) (λi v k r L p=>?_) (λk H2 p O af=>?_)]
 .obtain⟨g,d,rfl,e,_⟩:=p;exact#[V1 (g _ _ el),by rw[bA];exact e]
 .obtain⟨g,d,rfl,e,U⟩:=p;rw[bT]at L;obtain⟨b,Y,rfl⟩:=c9.mp L;have li:=(bN.mp Y).1;obtain⟨u,B⟩:∃u,a[i]?=some u:=#[_,bC ()];have C:=g _ _ (Tf.is i b u Y B);have hx:=g _ _ ae;refine#[iE,_,zZ,_,zZ,b,_,0,_,_,zZ,zZ,iD (V2 C),iD (V2 hx),by decide,λc hc=>#[_,zZ,?_]];by_cases ex:u=x
  .have G:=hc.mpr (cM.mpr ex);subst G;have z:=Cw U B C;rw[eU (λz=>z ex),Et,wA (by decide)]at z;refine cR (cR #[g,d,zZ,(),z])
  .have G:c=false:=by
    cases c with
    |false=>rfl
    |true=>exact wC (cM.mp (hc.mp zZ)) ex
   subst G;refine dP #[_,zZ,_,zZ,b,_,u,x,zZ,C,hx,l5 u (bX B),λH4 I=>#[_,zZ,?_]];have z:=Cw (U.same I) B (I _ _ C);rw[cK ex,zS]at z;cases c2:sub u x with
   |true=>
    rw[c2,wB zZ]at z;exact dP #[_,zZ,g.trans I,d++[b],by simp,by simp;exact e,z]
   |false=>
    rw[c2,wA (by decide)]at z;exact cR #[g.trans I,d,zZ,(),z]
 obtain⟨g2,d,rfl,_,U⟩:=p;rw[bA,lb,fF]at U;have Tw:TupsAt H2 d (iz a x):=U;have kw:=bP af (.lst (d.map V.ref));have t:bx H2 O (.lst (d.map V.ref)) O=some (.lst (d.map V.ref)):=bE;have J:=Tw.same kw;have g3:=g2.trans kw;generalize bx H2 O (.lst (d.map V.ref))=H3 at kw t J g3|-;have lw:(iz a x).length<=32:=cz (jm _ _) few;have lc:=Tw.len;have aa:∀u∈iz a x,u∈a:=λu h=>(cL.mp h).1;refine#[_,zZ,O,zZ,#[_,V1 t],je (xs:=d.map .ref) (λi k r=>Same H3 r/\∃j,k=j.map V.ref/\j.length<=i/\TupsAt r j (((iz a x).take i).filter λu=> !nI (iz a x) u)) (by rw[bA,cq];lia) #[Same.refl _,[],zZ,bR _,zZ,λi b u e=>by simp at e] (λi k r hi p=>?_) (λi v k r L p=>?_) (λk H4 p D hD=>?_)]
 .obtain⟨g,j,rfl,e,_⟩:=p;exact#[V1 (g _ _ t),by rw[bA];exact e]
 .obtain⟨g,j,rfl,e,Td⟩:=p;rw[bT]at L;obtain⟨b,Y,rfl⟩:=c9.mp L;have li:=(bN.mp Y).1;obtain⟨u,B⟩:∃u,(iz a x)[i]?=some u:=#[_,bC ()];have C:=g _ _ (J.is i b u Y B);refine#[iE,_,zZ,_,zZ,b,O,u,d,iz a x,zZ,C,g _ _ t,J.same g,l5 u (aa u (bX B)),lw,λH5 g5=>#[_,zZ,?_]];have z:=Cw (Td.same g5) B (g5 _ _ C);cases c2:nI (iz a x) u with
  |true=>
   rw[c2,wA (by decide)]at z;exact cR #[g.trans g5,j,zZ,(),z]
  |false=>
   rw[c2,wB (by decide)]at z;exact dP #[_,zZ,g.trans g5,j++[b],by simp,by simp;exact e,z]
 obtain⟨I,j,rfl,_,Td⟩:=p;rw[bA,lc,fF]at Td;have kD:=bP hD (.lst (j.map V.ref));have gg:=g3.trans (I.trans kD);refine q D j _ a _ (k1.trans gg.keeps) (T1.same gg) ?_ bE (Td.same kD) ff rfl;cases y:L2.noT H D with
 |none=>rfl
 |some o=>
  have z:=(g3.trans I) _ _ (k1 _ _ y);rw[hD]at z;cases z
def Rch(ts:LN)(x y:bw):Prop:=∃word,(∀l∈word,l<ts.length)/\cu (bH ts) x word=y
open Classical in
noncomputable def dN (a:LN) (x y:bw):Bool:=decide (Rch a x y)
theorem bO:dN a x y=true↔Rch a x y:=by
 exact @decide_eq_true_iff _<|Classical.propDecidable _
theorem Rch.refl(ts)(x):Rch ts x x:=#[[],λ_ h=>(nomatch h),zZ]
theorem Rch.trans(a:Rch ts x y)(b:Rch ts y z):Rch ts x z:=by
 obtain⟨u,c,rfl⟩:=a;obtain⟨v,d,rfl⟩:=b;refine#[u++v,λl e=>(cF.mp e).elim (c l)<|d l,?_];unfold cu;rw[oJ]
theorem G5(T:Told (bH a) a.length x b)(y):y∈b.map (·.1)↔Rch a x y:=by
 constructor
 .intro h;obtain⟨p,c,rfl⟩:=bY.mp h;obtain⟨d,e⟩:=T.run p c;exact#[p.2,d,e]
 .rintro⟨word,f,rfl⟩;obtain⟨u,g,_⟩:=T.least _ word zZ f;exact bY.mpr #[_,g,zZ]
abbrev WE:=Ad×TW×As
noncomputable def fV(a:LN)(ys:List WE):List (List cE×V):=a4v (a.map λx=>(x,[])) (ys.map (·.1))
structure WB(H:Hp)(D:Ad)(ts:LN)(xs:LN)(ys:List WE):Prop where
 len:ys.length=xs.length
 each:∀(i:Nat) (x:bw) y,xs[i]?=some x->ys[i]?=some y->WordsAt H y.1 y.2.1 y.2.2/\Told (bH ts) ts.length x y.2.1/\y.1≠D
 nd:xs.Nodup
theorem WB.same(h:WB H D d e ys)(g:Same H c):WB c D d e ys:=#[h.len,λi x y f j=>let⟨a,b⟩:=h.each i x y f j;#[a.same g,b],h.nd]
theorem N6(W:WordsAt H D c d)(g:Keeps H b):WordsAt b D c d:=#[W.len,g _ _<|nU W.dict,λj a p e f=>g _ _<|nU<|W.list j a p e f]
theorem WB.keeps(h:WB H D d e ys)(g:Keeps H c):WB c D d e ys:=#[h.len,λi x y f j=>let⟨a,b⟩:=h.each i x y f j;#[N6 a g,b],h.nd]
theorem AY(h:ys.length=a.length):(fV a ys).map (·.1)=a.map nk:=by
 unfold fV a4v
 induction a generalizing ys with
 |nil=>rfl
 | cons x a b=>
  cases ys with
  |nil=>simp at h
  |cons y ys=>
   simp only[List.map_cons,List.zipWith_cons_cons];rw[(b (by simpa using h))]
theorem WB.off{e f:LN}(h:WB H D e f ys)(g:H D=some (.dT d)):WB (bx H D o) D e f ys:=by
 refine#[h.len,λi x y k m=>?_,h.nd];obtain⟨a,b,c⟩:=h.each i x y k m;refine#[#[a.len,by rw[bI c];exact a.dict,λj l p n q=>?_],b,c];have z:=a.list j l p n q;rw[bI<|nE z g];exact z
theorem Bq(a:LN):((a.map λx=>((x,[]):bw×bw)).map (·.1))=a:=by
 rw[eM];exact List.map_id' a
theorem WB.get{x:bw}(h:WB H D e c ys)(k:Rd H D (.dT (fV c ys)))(l:x∈c)(m:H b=some (.tup (x.map nv))):∃W f j,DGet H D (.ref b) (some (.ref W))/\WordsAt H W f j/\Told (bH e) e.length x f/\∃i:Nat,c[i]?=some x/\ys[i]?=some (W,f,j):=by
 obtain⟨i,d⟩:=fM.mp l;have n:=(bN.mp d).1;have o:=h.len;obtain⟨y,g⟩:∃y,ys[i]?=some y:=#[_,bC ()];obtain⟨a,t,_⟩:=h.each i x y d g;have v:iq (fV c ys) (nk x)=some (.ref y.1):=DO (p:=(x,[])) (by rw[Bq];exact h.nd) (by rw[bT,d];rfl) (by rw[bT,g];rfl);exact#[y.1,y.2.1,y.2.2,.inr #[_,_,b,k,zZ,by rw[jI];exact m,v.symm],a,t,i,d,g]
theorem GC{f:As}(a:WordsAt H W d f)(t:Told (bH b) b.length x d)(g:H c=some (.tup (y.map nv))):∃o,DGet H W (.ref c) o/\o.isSome=dN b x y:=by
 refine#[_,.inr #[_,nk y,c,.inl a.dict,zZ,by rw[jI];exact g,zZ],?_];by_cases m:y∈d.map (·.1)
 .rw[bO.mpr<|(G5 t y).mp m];obtain⟨p,h,rfl⟩:=bY.mp m;obtain⟨l,e,_⟩:=a.word t.keys h;rw[e];rfl
 .rw[we m];cases z:dN b x y with
  |false=>rfl
  |true=>exact wC ((G5 t y).mpr<|bO.mp z) m
noncomputable def cr (ts a:LN) (x:bw):LN:=a.filter λy=>dN ts x y&&dN ts y x
noncomputable def cb (ts a:LN):gW:=(a.filter λx=>(cr ts a x).head? ==some x).map (cr ts a)
noncomputable def big(a:LN):LN:=a.filter λx=>decide (1<x.length)
inductive dj(T:Ad)(e:Pos)(h:List V)(H:Hp)(Q:VK)(f:XK):Prop|mk:∀m g n,h=[.ref m]->Mach H m g n->Tabs H->(∀D a d c,Keeps H c->Tabs c->noT H D=none->FamOf g n a->c D=some (.dT (fV (big a) d))->WB c D g (big a) d->(∀y∈d,∀b∈y.2.2,noT H b=none)->d.Pairwise (λp q=>∀b∈p.2.2,b∉q.2.2)->Q (.ref D) c)->dj T e h H Q f
inductive iY(d:List V)(H:Hp)(Q:VK)(c:XK):Prop|mk:∀D p o e a f (x:bw),d=[.ref D,.ref p]->H D=some (.frz o (.dT (fV a f)))->WB H D e a f->H p=some (.tup (x.map nv))->x∈a->a.length<=32->(∀l bs b,Same H b->H l=none->b l=some (.lst (bs.map .ref))->TupsAt b bs (cr e a x)->Q (.ref l) b)->iY d H Q c
theorem US(F:Fun K wU wU GK f fd)(qU:cn P w K mg base "family" 14 [sA] (fy T (#[78,40,78,93]:Pos)))(jS:cn P w K mg base sU 10 [sA,sB] (cU T (#[78,40,78,93]:Pos)))(jA:mg "len"=none):FnOk P w K mg base bZ 16 f fd [sA] (dj T (#[78,40,78,93]:Pos)):=by
 refine F.ok qN<|λau A ah s H vs Q E hr h=>?_
 obtain⟨m,ts,n,rfl,M,hT,q⟩:=h;have hu:=hr.units;have ai:=gJ hr;refine#[_,(bK (cj (i:=1) qN.nd zZ Z' Ey)<|bK (fA fi zZ (fq<|ck qU hr.m zZ<|bG (pv 0) bF) (dG (i:=2) qN.nd zZ Z')<|bM<|di (eG Co (cX eR zZ jA dW<|bG (pv 2) bF) bL<|dC _) (bM<|z9 ai (pv 1) (pv 2) (ck jS hr.m zZ<|b8<|bB (pv 0) (bB (pv 2) bW zZ) zZ) zZ) dh)<|bM<|cg<|pv 1),?_];intro D hD;have kD:=bP hD<|.dT [];refine#[_,zZ,m,ts,n,zZ,M.same kD,hT.same kD,λso fs d H1 k1 T1 av aa Tf ff=>?_];have aj:=k1 _ _<|nU (bE:bx H D (.dT []) D=_);have ak:=kD.keeps.trans k1;have lf:=Tf.len;have few:=ff.few M;have al:d.Nodup:=ff.up.imp λ{a b} z e=>by
  subst e;rw[(oy gl d).irr]at z;cases z
 have ab:=Jy hD
 let Pv:Nat->L2.St->Hp->Prop:=λi σ N=>Keeps H N/\Tabs N/\N so=some (.lst<|fs.map .ref)/\TupsAt N fs d/\∃k o2,N D=some (.dT<|fV (big<|d.take i) k)/\WB N D ts (big<|d.take i) k/\(∀y∈k,∀b∈y.2.2,L2.noT H b=none)/\k.Pairwise (λp q=>∀b∈p.2.2,b∉q.2.2)/\σ=[some<|.ref m,some<|.ref D,o2]
 refine#[so,zZ,#[_,V1 aa],oX (xs:=fs.map .ref) Pv #[ak,T1,aa,Tf,[],none,aj,#[zZ,λi x y e=>by simp[big]at e,List.nodup_nil],λ_ h=>(nomatch h),.nil,zZ] (λi σ N _ p=>V1 p.2.2.1) (λi v σ H2 hv p=>?_)<|λσ H2 p=>?_]
 .obtain⟨Y,T2,O,C,k,o2,r,B,nw,ap,rfl⟩:=p;rw[bT]at hv;obtain⟨b,eb,rfl⟩:=c9.mp hv;have li:=(bN.mp eb).1;obtain⟨x,ex⟩:∃x,d[i]?=some x:=#[_,bC ()];have hb:=C.is i b x eb ex;have mx:=bX ex;have G:big (d.take<|i+1)=big (d.take i)++(if 1<x.length then[x]else[]):=by
   unfold big;rw[gj,ex,AE];by_cases c:1<x.length
   .rw[wB c];simp[c]
   .rw[wA c];simp[c]
  refine#[_,zZ,b,_,zZ,.inr<|V2 hb,_,_,zZ,zZ,_,zZ,mL (λc=>?_)<|λc=>?_]
  .have c1:1<x.length:=by
    have z:=ik c;rw[bA]at z;lia
   rw[wB c1]at G;refine#[_,zZ,_,zZ,m,b,ts,n,x,zZ,M.keeps Y,hb,ff.inU M mx,T2,λW ws as H3 k3 T3 Wd U TT=>?_];have t:=k3 _ _<|nU r;have am:=k3 _ _<|nU hb;have an:=B.keeps k3;have WD:W≠D:=λz=>by
    subst z;have z2:=U W<|cJ ..;rw[nU r]at z2;cases z2
   have xn:x∉big (d.take i):=λh=>by
    have h1:=(cL.mp h).1;obtain⟨j,ej⟩:=fM.mp h1;have lj:=(bN.mp ej).1;rw[fe]at lj;rw[CA ()]at ej;have:=(iA () al).mp (ej.trans ex.symm)
    lia
   have vn:iq (fV (big (d.take i)) k) (nk x)=none:=we (by rw[Bq];exact xn);have lk:(fV (big (d.take i)) k).length<sizeLine:=by
    rw[<-bA (f:=(·.1)),AY B.len,bA,cq];have z1:(big (d.take i)).length<=(d.take i).length:=jm _ _;rw[fe]at z1;lia
   refine#[_,zZ,_,zZ,D,_,zZ,DPut.t t (by rw[jI];exact am) lk,?_];have ae:=k3 _ _ (nU O);have ao:TupsAt H3 fs d:=#[C.len,λi b u I J=>k3 _ _ (nU (C.is i b u I J))];have ek:jz (fV (big (d.take i)) k) (nk x) (.ref W)=fV (big (d.take (i+1))) (k++[(W,ws,as)]):=by
    rw[HH _ vn,G];unfold fV;rw[c7,c7];exact(FS (ws:=(big (d.take i)).map λx=>(x,[])) (as:=k.map (·.1)) (p:=(x,[])) (a:=W) (by simp[B.len])).symm
   have wo:=an.off (o:= .dT (fV (big (d.take (i+1))) (k++[(W,ws,as)]))) t;have Wo:WordsAt (bx H3 D (.dT (fV (big (d.take (i+1))) (k++[(W,ws,as)])))) W ws as:=#[Wd.len,by rw[bI WD];exact Wd.dict,λj l p h1 h2=>by
    have z:=Wd.list j l p h1 h2;rw[bI (nE z t)];exact z]
   rw[ek];refine#[λL o g=>?_,?_,?_,?_,k++[(W,ws,as)],_,bE,#[?_,λj x' y' I J=>?_,?_],?_,?_,zZ]
   .rw[bI λz=>?_]
    .exact(Y.trans k3) _ _ g
    .subst z;rw[ab]at g;cases g
   .exact T3.most λL u nd _ g=>by rw[bI (j6 g t λe=>nd _ e)];exact g
   .rw[bI (nE ae t)];exact ae
   .exact re ao t λ_ e=>nomatch e
   .rw[G,cC,cC,B.len];rfl
   .rw[G]at I;have hl:=B.len;by_cases hj:j<k.length
    .rw[dO ()]at I;rw[dO hj]at J;exact wo.each j x' y' I J
    .rw[dQ ()]at I J;have z:j-k.length=0:=by
      have:=(bN.mp J).1;simp at this;lia
     rw[<-hl,z]at I;rw[z]at J;cases I;cases J;exact#[Wo,TT,WD]
   .rw[G,A5];refine#[B.nd,by simp,λa ha c hc e=>xn ?_];rw[cf.mp hc]at e;rw[<-e];exact ha
   .intro y hy L g
    rcases cF.mp hy with h|h
    .exact nw y h L g
    .rw[cf.mp h]at g;have z:=U L (.tail _ g);cases y2:L2.noT H L with
     |none=>rfl
     |some o=>
      have z3:=Y _ _ y2;rw[ss z3 (xp y2).2]at z;cases z
   .rw[jp];refine#[ap,u6 _ _,λp hp q' hq L g af=>?_];rw[cf.mp hq]at af;have z:=U L (.tail _ af);obtain⟨j,ej⟩:=fM.mp hp;have lj:=(bN.mp ej).1;have hl:=B.len;obtain⟨x',aq⟩:∃x',(big (d.take i))[j]?=some x':=#[_,bC ()];obtain⟨a',_⟩:=B.each j x' p aq ej;obtain⟨j2,ag⟩:=fM.mp g;have ar:=(bN.mp ag).1;have z2:=a'.list j2 L _ ag (bC (by rw[<-a'.len];exact ar));rw[nU z2]at z;cases z
  .have c1: ¬1<x.length:=by
    have z:=D8 (pK.mpr c);rw[bA]at z;lia
   rw[wA c1,iw]at G;refine#[Y,T2,O,C,k,_,?_,?_,nw,ap,zZ]
   .rw[G];exact r
   .rw[G];exact B
 .obtain⟨Y,T2,O,C,k,o2,r,B,nw,ap,rfl⟩:=p;rw[bA,lf,fF]at r B;exact#[_,zZ,q D d k H2 Y T2 ab ff r B nw ap]
theorem UT(F:Fun K yF yF Ct f fd):FnOk P w K mg base bZ 1 f fd [sN,sB] iY:=by
 refine F.ok Rl<|λaa A G s H vs Q E T h=>?_
 obtain⟨D,p,o,j,I,ys,x,rfl,k,n,U,hx,few,q⟩:=h;have hu:=T.units;have d:=gJ T;refine#[_,(bM<|cg<|gN (CompSc.to (N:=[sN,sB]) (osc:=bQ Ct) {}) zZ zZ (ML<|pv 0) (λ_ _ _ _=>yu<|PW.pt<|yZ (vd<|zp d (pv 0)<|oK d (pv 1) (pv 2)<|λ_ _=>rfl)<|yK<|vd<|zp d (pv 2)<|oK d (pv 1) (pv 0)<|λ_ _=>rfl)<|λ_ _ _ _=>(pv 0)),?_];refine#[_,zZ,D,_,I,zZ,AY n.len,.inr #[o,k],λo' r fz=>?_];have e2:o'=o/\r=H:=by
  rcases fz with⟨e,rfl⟩|⟨e,_⟩
  .rw[k]at e;injection e with e
   injection e with e _
   exact#[e.symm,zZ]
  .rw[k]at e;cases e
 obtain⟨rfl,rfl⟩:=e2;have Y:Rd r D (.dT<|fV I ys):= .inr #[_,k];refine Vb (AY n.len) (λi g v=>v=r/\∃c,g=c.map V.ref/\c.length<=i/\TupsAt r c ((I.take i).filter λy=>dN j x y&&dN j y x)) (by rw[cq];lia) #[zZ,[],zZ,bR _,zZ,λi b u e=>by simp at e] (λi g v _ l=>?_) (λi a t g v et J l=>?_)<|λg v l B m=>?_
 .obtain⟨rfl,c,rfl,e,_⟩:=l;exact#[k,by rw[bA];exact e]
 .obtain⟨rfl,c,rfl,e,C⟩:=l;have z:=Cw C et J;obtain⟨W,ws,as,dg,wa,tt,_⟩:=n.get Y hx U;obtain⟨o1,d1,s1⟩:=GC wa tt J;obtain⟨W2,ab,ae,L,M,O,_⟩:=n.get Y (bX et) J;obtain⟨o2,d2,s2⟩:=GC M O U;refine#[iE,_,zZ,_,zZ,_,zZ,D,_,zZ,dg,W,o1,zZ,d1,_,zZ,?_];rw[s1];cases B:dN j x t with
  |false=>
   rw[B,Et,wA<|by decide]at z;exact cR<|cR #[zZ,c,zZ,(),z]
  | true=>
   rw[B,zS]at z;refine dP #[_,zZ,_,zZ,_,zZ,D,_,zZ,L,W2,o2,zZ,d2,_,zZ,?_];rw[s2];cases c2:dN j t x with
   |true=>
    rw[c2,wB zZ]at z;exact dP #[_,zZ,zZ,c++[a],by simp,by simp;exact e,z]
   |false=>
    rw[c2,wA<|by decide]at z;exact cR #[zZ,c,zZ,(),z]
 .obtain⟨rfl,c,rfl,_,C⟩:=l;rw[fF]at C;have kc:=bP m<|.lst<|c.map V.ref;exact q B c _ kc m bE<|C.same kc
structure LsAt(H:Hp)(as:As)(cs:gW):Prop where
 len:as.length=cs.length
 is:∀(i:Nat) (a:Ad) (c:LN),as[i]?=some a->cs[i]?=some c->∃bs,H a=some (.lst (bs.map .ref))/\TupsAt H bs c
theorem LsAt.same(h:LsAt H d e)(g:Same H b):LsAt b d e:=#[h.len,λi a c f j=>let⟨bs,k,l⟩:=h.is i a c f j;#[bs,g _ _ k,l.same g]]
theorem LsAt.off(h:LsAt H b d)(j:H l=some (.lst g))(no:l∉b):LsAt (bx H l o) b d:=#[h.len,λi a c f k=>by
 obtain⟨bs,m,n⟩:=h.is i a c f k;refine#[bs,?_,re n j λ_ e=>nomatch e];rw[bI λz=>no (by rw[<-z];exact bX f)];exact m]
theorem LsAt.snoc{f:gW}(h:LsAt H g f)(j:H a=some (.lst (bs.map .ref)))(T:TupsAt H bs c):LsAt H (g++[a]) (f++[c]):=by
 refine#[by simp[h.len],λi b v e d=>?_];have l:=h.len;by_cases k:i<f.length
 .rw[dO ()]at e d;exact h.is i b v e d
 .rw[dQ ()]at e d;have z:i-f.length=0:=by
   have:=(bN.mp d).1;simp at this;lia
  rw[l,z]at e;rw[z]at d;cases e;cases d;exact#[bs,j,T]
theorem GD(b:x∈a):x∈cr ts a x:=cL.mpr #[b,by rw[bO.mpr<|Rch.refl ts x];rfl]
inductive hJ(g:List V)(H:Hp)(Q:VK)(d:XK):Prop|mk:∀D h b e,g=[.ref D]->H D=some (.dT (fV b e))->WB H D h b e->b.length<=32->(∀l o f c,Same (bx H D (.frz o (.dT (fV b e)))) c->H l=none->c l=some (.lst (f.map .ref))->LsAt c f (cb h b)->(∀a∈f,H a=none)->Q (.ref l) c)->hJ g H Q d
theorem Sr(F:Fun K wR wR Iw f fd)(rG:cn P w K mg base yF 1 [sN,sB] iY):FnOk P w K mg base bZ 3 f fd [sN] hJ:=by
 refine F.ok kW<|λaj A aa s H vs Q E hr h=>?_
 obtain⟨D,g,d,v,rfl,hD,wb,few,q⟩:=h;have ak:=gJ hr;refine#[_,(bK (cj (i:=1) kW.nd zZ Z'<|gw bF)<|bK (fA fi zZ (ML<|pv 0) (dG (i:=2) kW.nd zZ Z')<|bK (cj (i:=3) kW.nd zZ Z'<|ck rG hr.m zZ<|b8<|bB (pv 0) (bB (pv 2) bW zZ) zZ)<|bM<|di (eG (DR hr.units) (b7 dD (pv 3) bL<|λ_ _=>rfl) (pv 2)<|dC _) (bM<|iR<|hO iM lW lF lJ (pv 1)<|bG (pv 3) bF) dh)<|bM<|cg<|pv 1),?_];refine#[by show 0<=sizeLine;decide,λj m=>?_];have kf:=bP m<|.lst [];have L:=kf _ _ hD;have M:=(cQ hD m).symm;refine#[_,zZ,D,_,d,zZ,AY wb.len,.inl L,λo H2 fz=>?_];have e2:H2=bx (bx H j<|.lst []) D (.frz o<|.dT<|fV d v):=by
  rcases fz with⟨e,_⟩|⟨_,e⟩
  .rw[L]at e;cases e
  .exact e
 have gz:Same (bx H D<|.frz o<|.dT<|fV d v) H2:=λb u I=>by
  rw[e2];by_cases z:b=D
  .subst z;rw[bE]at I|-;exact I
  .rw[bI z]at I|-;exact kf _ _ I
 have wz:WB (bx H D<|.frz o<|.dT<|fV d v) D g d v:=wb.off hD;have ab:H2 j=some (.lst []):=by rw[e2,bI M,bE]
 have ae:bx H D (.frz o<|.dT<|fV d v) j=none:=by rw[bI M];exact m
 clear e2 fz
 let Pv:Nat->L2.St->Hp->Prop:=λi T U=>Same (bx H D<|.frz o<|.dT<|fV d v) U/\∃k o2 o3,U j=some (.lst<|k.map .ref)/\j∉k/\(∀a∈k,H a=none)/\k.length<=i/\LsAt U k (((d.take i).filter λx=>(cr g d x).head? ==some x).map<|cr g d)/\T=[some<|.ref D,some<|.ref j,o2,o3]
 refine NM (AY wb.len) Pv #[gz,[],none,none,ab,by simp,(λ_ h=>nomatch h),Nat.le_refl _,#[zZ,λi a c e=>by simp at e],zZ] (λi T U _ p=>p.1 _ _ bE) (λi a x T H3 ex Y p=>?_)<|λT H3 p=>?_
 .obtain⟨B,k,o2,o3,n,C,r,af,N,rfl⟩:=p;have mx:=bX ex;refine#[_,zZ,_,zZ,D,a,o,g,d,v,x,zZ,B _ _ bE,wz.same B,Y,mx,few,λl bs H4 J nl el Tl=>?_];have self:=GD (ts:=g) mx;obtain⟨y,rest,ea⟩:∃y rest,cr g d x=y::rest:=by
   cases z:cr g d x with
   |nil=>rw[z]at self;cases self
   |cons y rest=>exact#[y,rest,zZ]
  have b1:0<bs.length:=by
   rw[Tl.len,ea];simp
  obtain⟨b,eb⟩:∃b,bs[0]?=some b:=#[_,bC b1];have ag:fL (bs.map V.ref) ((0:Nat):Int)=some (.ref b):=fE (by rw[bT,eb];rfl);have nx:((d.take<|i+1).filter λx=>(cr g d x).head? ==some x).map (cr g d)=((d.take i).filter λx=>(cr g d x).head? ==some x).map (cr g d)++(if y=x then[cr g d x]else[]):=by
   rw[gj,ex,AE,c7];by_cases c:y=x
   .rw[wB c];simp[ea,c]
   .rw[wA c];simp[ea,c]
  refine#[_,zZ,l,_,_,_,zZ,zZ,V1 el,ag,_,zZ,b,a,0,_,_,zZ,zZ,iD<|V2<|Tl.is 0 b y eb (by rw[ea];rfl),iD<|V2<|J _ _ Y,by decide,λc hc=>#[_,zZ,?_]];have t:=J _ _ n;have ah:l≠j:=(cQ n nl).symm;have ai:H l=none:=by
   cases z:H l with
   |none=>rfl
   | some u=>
    by_cases e:l=D
    .have O:=B _ _<|bE (H:=H) (a:=D) (o:= .frz o<|.dT<|fV d v);rw[<-e,nl]at O;cases O
    .have O:=B l u (by rw[bI e];exact z);rw[nl]at O;cases O
  by_cases e:y=x
  .have G:c=true:=hc.mpr<|cM.mpr e;subst G;rw[wB e]at nx;refine dP #[_,zZ,.inl #[zZ,_,V1 t],_,zZ,j,_,_,zZ,zZ,t,by rw[bA,cq];have:=(bN.mp ex).1;lia,?_];have na:j∉k++[l]:=λz=>(cF.mp z).elim C λz=>ah (cf.mp z).symm
   refine#[gh (B.trans J) ae,k++[l],_,_,by rw[bE,c7];rfl,na,(λa Y=>(cF.mp Y).elim (r a) λz=>by rw[cf.mp z];exact ai),by rw[cC];simp;lia,?_,zZ];rw[nx];exact ((N.same J).snoc el Tl).off t na
  .have G:c=false:=by
    cases c with
    |false=>rfl
    |true=>exact wC (cM.mp<|hc.mp zZ) e
   subst G;rw[wA e,iw]at nx;refine cR #[B.trans J,k,_,_,t,C,r,(),?_,zZ];rw[nx];exact N.same J
 .obtain⟨B,k,o2,o3,n,C,r,af,N,rfl⟩:=p;rw[fF]at N;exact#[_,zZ,q j o k H3 B m n N r]
noncomputable def cD (ts:LN) (cs:gW) (c:LN):Bool:=cs.any λd=>decide (d≠c)&&dN ts (d.headD []) (c.headD [])
theorem Dv(f:H a=some (.lst (bs.map .ref)))(T:TupsAt H bs c):Rep K H (n+2) (.lst (c.map λu=> .tup (hE u))) (.ref a):=by
 refine .lst (V1 f) (by rw[bA,bA,T.len]) λi d v b e=>?_;rw[bT]at b e;obtain⟨p,g,rfl⟩:=c9.mp b;obtain⟨a,h,rfl⟩:=c9.mp e;exact iD<|V2<|T.is i a p h g
theorem y9(T:TupsAt H bs c)(d:c≠[]):∃b,fL (bs.map V.ref) 0=some (.ref b)/\H b=some (.tup ((c.headD []).map nv))/\c.headD []∈c:=by
 obtain⟨y,rest,f⟩:∃y rest,c=y::rest:=by
  cases c with
  |nil=>exact wC zZ d
  |cons y rest=>exact#[y,rest,zZ]
 subst f;obtain⟨b,a⟩:∃b,bs[0]?=some b:=#[_,bC (by rw[T.len];simp)];have z:fL (bs.map V.ref) ((0:Nat):Int)=some (.ref b):=fE (by rw[bT,a];rfl);exact#[b,z,T.is 0 b y a zZ,cJ ..]
inductive i7(g:List V)(H:Hp)(Q:VK)(e:XK):Prop|mk:∀D a l h f i c b bs j,g=[.ref D,.ref a,.ref l]->Rd H D (.dT (fV f i))->WB H D h f i->H a=some (.lst (bs.map .ref))->TupsAt H bs c->H l=some (.lst (j.map .ref))->LsAt H j b->c≠[]->(∀d∈b,d≠[]/\∀x∈d,x∈f)->b.length<=32->(∀k,Same H k->Q (.bl (cD h b c)) k)->i7 g H Q e
theorem Qm(F:Fun K "is_led_to" "is_led_to" C4 f fd)(vN:mg "any"=none):FnOk P w K mg base bZ 1 f fd [sN,tI,tN] i7:=by
 refine F.ok O0<|λaa A r s H vs Q E M h=>?_
 obtain⟨D,a,l,j,xs,ys,c,k,bs,as,rfl,rd,wb,O,T,U,L,cne,t,few,q⟩:=h;have m:=gJ M;have la:=L.len;obtain⟨b0,u,x,_⟩:=y9 T cne;refine#[_,(bM<|cg<|cX (MS zZ) zZ vN boot_any<|bG (gN (CompSc.to (N:=[sN,tI,tN]) (osc:=bQ C4) {}) zZ zZ (fq<|pv 2) (λ_ _ _ _=>fK)<|λ_ _ _ _=>(tz (mK (OpR.k (λK=>lE K true) (At M.units) zZ) (pv 0) (pv 2)<|dC _)<|rq<|Pm<|zp m (b7 (IxR.k mQ dD zZ) (pv 2) bL<|λ_ _=>rfl)<|oK m (pv 1) (b7 (IxR.k mQ dD zZ) (pv 0) bL<|λ_ _=>rfl)<|λ_ _=>rfl)) bF),?_];refine#[_,zZ,l,zZ,#[_,V1 U],je (xs:=as.map .ref) (λi b n=>n=H/\b=((k.take i).map λd=>decide (d≠c)&&dN j (d.headD []) (c.headD [])).map V.bl) (by rw[bA,cq];lia) #[zZ,zZ] (λi b n hi p=>?_) (λi v b n Y p=>?_)<|λb n p c1 y=>?_]
 .obtain⟨rfl,rfl⟩:=p;exact#[V1 U,by simp;lia]
 .obtain⟨rfl,rfl⟩:=p;rw[bT]at Y;obtain⟨e,ee,rfl⟩:=c9.mp Y;have li:=(bN.mp ee).1;obtain⟨d,B⟩:∃d,k[i]?=some d:=#[_,bC ()];obtain⟨ds,he,Td⟩:=L.is i e d ee B;obtain⟨C,dx⟩:=t d (bX B);obtain⟨b1,G,I,m1⟩:=y9 Td C;have nx:((k.take (i+1)).map λd=>decide (d≠c)&&dN j (d.headD []) (c.headD [])).map V.bl=((k.take i).map λd=>decide (d≠c)&&dN j (d.headD []) (c.headD [])).map V.bl++[V.bl (decide (d≠c)&&dN j (d.headD []) (c.headD []))]:=by
   rw[gj,B,c7,c7];rfl
  refine#[iE,jc ?_];refine#[_,zZ,_,zZ,e,a,1,_,_,zZ,zZ,Dv he Td,Dv O T,by decide,λJ hc=>?_];by_cases o:d=c
  .have g:=hc.mpr (by rw[o]);subst g;refine#[_,zZ,cR #[zZ,?_]];rw[nx,eU (λz=>z o)];rfl
  .have g:J=false:=by
    cases J with
    |false=>rfl
    |true=>exact wC (Go (hc.mp zZ)) o
   subst g;obtain⟨W,ws,wa,dg,wt,tt,_⟩:=wb.get rd (dx _ m1) I;obtain⟨o1,d1,s1⟩:=GC wt tt x;refine#[_,zZ,dP #[_,zZ,a,_,_,_,zZ,zZ,V1 O,u,_,zZ,_,zZ,e,_,_,_,zZ,zZ,V1 he,G,D,_,zZ,dg,W,o1,zZ,d1,zZ,?_]];rw[nx,cK o,zS,s1]
 .obtain⟨rfl,rfl⟩:=p;rw[bA,la,fF];have e2:(k.map λd=>decide (d≠c)&&dN j (d.headD []) (c.headD [])).any id=cD j k c:=by
   unfold cD;rw[AL];rfl
  refine#[c1,_,zZ,V1 bE,?_]
  try dsimp only
  rw[e2];exact q _ (bP y _)
inductive Ord (ts:LN):gW->List LN->Prop
 |nil:Ord ts [] []
 |cons {cs told:gW} {s:LN} (h:(cs.filter λc=> !cD ts cs c).head?=some s) (r:Ord ts (cs.filter λc=>decide (c≠s)) told):Ord ts cs (s::told)
def xa(a:LN)(b:gW):Prop:=∀c∈b,∀d∈b,dN a (c.headD []) (d.headD [])=true->dN a (d.headD []) (c.headD [])=true->c=d
theorem Kf{a:Type}{xs:List a}{p q:a->Bool}(h:∀z∈xs,p z=true->q z=true)(e:∃z∈xs,q z=true/\p z=false):xs.countP p<xs.countP q:=by
 induction xs with
 |nil=>
  obtain⟨z,hz,_⟩:=e;cases hz
 | cons x xs d=>
  rw[Dk,Dk];have mono:=List.countP_mono_left λz hz f=>h z (.tail _ hz) f;obtain⟨z,hz,b,c⟩:=e
  rcases db.mp hz with rfl|hz
  .rw[b,c];simp;lia
  .have:=d (λz hz=>h z<|.tail _ hz) #[z,hz,b,c];cases i:p x with
   |true=>
    rw[(h x<|cJ ..) i];simp;lia
   |false=>
    simp;split<;>lia
theorem G3(un:xa ts cs):∀k (s:LN),s∈cs->cs.countP (λt=>dN ts (t.headD []) (s.headD []))<=k->∃s∈cs,cD ts cs s=false
 |0,s,a,f=>by
  have z:0<cs.countP (λt=>dN ts (t.headD [])<|s.headD []):=List.countP_pos_iff.mpr #[s,a,bO.mpr<|Rch.refl ts _];lia
 | k+1,s,a,f=>by
  cases c:cD ts cs s with
  |false=>exact#[s,a,c]
  | true=>
   obtain⟨d,b,e⟩:=Ab.mp c;rw[mO,Ap]at e;obtain⟨g,r⟩:=e;have lt:=Kf (q:=λt=>dN ts (t.headD [])<|s.headD []) (λz _ h=>bO.mpr<|(bO.mp h).trans<|bO.mp r) #[s,a,bO.mpr<|Rch.refl ts _,by
    cases z:dN ts (s.headD []) (d.headD [])with
    |false=>rfl
    |true=>exact wC (un d b s a r z) g]
   exact G3 un k d b ()
theorem Kg{d as:As}{b:gW}{f:LN->Bool}{c:LN}(L:LsAt H d ((b.take i).filter f))(g:b[i]?=some c)(h:H a=some (.lst (bs.map .ref)))(T:TupsAt H bs c):if f c=true then LsAt H (d++[a]) ((b.take (i+1)).filter f)else LsAt H d ((b.take (i+1)).filter f):=by
 have e:(b.take<|i+1).filter f=(b.take i).filter f++(if f c=true then[c]else[]):=by
  rw[gj,g,AE];cases z:f c with
  |true=>simp[z]
  |false=>simp[z]
 by_cases z:f c=true
 .rw[wB z,e,wB z];exact L.snoc h T
 .rw[wA z,e,wA z,iw];exact L
inductive fg(k:List V)(H:Hp)(Q:VK)(f:XK):Prop|mk:∀D l g h m c i,k=[.ref D,.ref l]->Rd H D (.dT (fV h m))->WB H D g h m->H l=some (.lst (i.map .ref))->LsAt H i c->(∀d∈c,d≠[]/\∀x∈d,x∈h)->xa g c->c.length<=32->(∀j b told e,Same H e->H j=none->e j=some (.lst (b.map .ref))->LsAt e b told->Ord g c told->told.length<=32->(∀d∈told,d∈c)->(∀a∈b,a∈i)->Q (.ref j) e)->fg k H Q f
theorem Ly(h:Rd H a u)(g:Same H b):Rd b a u:=h.elim (λe=> .inl<|g _ _ e) λ⟨o,e⟩=> .inr #[o,g _ _ e]
theorem OA(F:Fun K wM wM Bl f fd)(rR:cn P w K mg base "is_led_to" 1 [sN,tI,tN] i7):FnOk P w K mg base bZ 3 f fd [sN,tN] fg:=by
 refine F.ok kK<|λaT A aJ s H vs Q E hr h=>?_
 obtain⟨D,l0,M,xs,ys,aa,ab,rfl,rd,wb,av,L0,aK,un,few,q⟩:=h;have hu:=hr.units;have aU:=gJ hr;refine#[_,(bK (cj (i:=2) kK.nd zZ Z'<|gw bF)<|bK (Jh fi (B4 (pv 1)<|λ_=>rfl)<|bK (cj (i:=3) kK.nd zZ Z0<|gN (CompSc.to (N:=[sN,tN,"told","free"]) (osc:=bQ Bl) (vs:=[tI]) {}) zZ zZ (fq<|pv 1) (λ_ _ _ _=>yu<|iC<|iI<|ck rR hr.m zZ<|b8<|bB (pv 1) (bB (pv 0) (bB (pv 2) bW zZ) zZ) zZ)<|λ_ _ _ _=>(pv 0))<|bK (iR<|hO iM lW lF lJ (pv 2)<|bG (b7 dD (pv 3) bL<|λ_ _=>rfl) bF)<|bM<|cj (i:=1) kK.nd zZ Z0<|gN (CompSc.to (N:=[sN,tN,"told","free"]) (osc:=bQ Bl) (vs:=[tI]) {}) zZ zZ (fq<|pv 1) (λ_ _ _ _=>yu (eG (OpR.k (K:=K) (λK=>lE K true) (At hu) zZ) (pv 0) (b7 (IxR.k (K:=K) mQ dD zZ) (pv 4) bL (λ_ _=>rfl)) (dC _))) (λ_ _ _ _=>(pv 0))) (bM (cg (pv 2)))),?_];refine#[by show 0<=sizeLine;decide,λt O=>?_];have kf:=bP O (.lst []);have aw:t∉ab:=λz=>by
  obtain⟨j,ej⟩:=fM.mp z;have lj:=(bN.mp ej).1;obtain⟨bs,e,_⟩:=L0.is j t _ ej (bC (by rw[<-L0.len];exact lj));rw[O]at e;cases e
 let Wv:Nat->L2.St->Hp->Prop:=λm σ C=>Same H C/\∃l B n k told o3,C l=some (.lst (B.map .ref))/\LsAt C B n/\l≠t/\t∉B/\(∀c∈n,c∈aa)/\C t=some (.lst (k.map .ref))/\LsAt C k told/\t∉k/\(∀c∈told,c∈aa)/\told.length+n.length<=32/\(∀a∈B,a∈ab)/\(∀a∈k,a∈ab)/\(∀rest,Ord M n rest->Ord M aa (told++rest))/\m=n.length/\σ=[some (.ref D),some (.ref l),some (.ref t),o3]
 refine#[Wv,#[_,kf,l0,ab,aa,[],[],none,kf _ _ av,L0.same kf,cQ av O,aw,λc h=>h,bE,#[zZ,λi a c e=>by simp at e],by simp,λc h=>(nomatch h),by simpa using few,(λ_ h=>h),(λ_ h=>nomatch h),λrest h=>h,zZ,zZ],λm σ H1 p=>?_];obtain⟨g1,l,B,n,k,told,o3,el,L,aL,ak,G,al,am,aM,ag,aV,ia,ax,ah,hm,rfl⟩:=p;have la:=L.len;have aW:=am.len;refine#[_,zZ,!(B.map V.ref).isEmpty,.inl #[_,V1 el,zZ],?_];by_cases an:n=[]
 .subst an;have e:B=[]:=sk.mp la;subst e;rw[wA (by simp)];have od:=ah [] .nil;rw[iw]at od;exact#[_,zZ,q t k told H1 g1 O al am od () ag ax]
 have ne:B≠[]:=λz=>an (sk.mp (by rw[<-la,z];rfl));have c1:(!(B.map V.ref).isEmpty)=true:=by
  cases B with
  |nil=>exact wC zZ ne
  |cons=>rfl
 rw[c1];refine dP ?_;refine#[λay C=>∃m',m'<m/\Wv m' ay C,λay C h=>h,?_];have ai:∀d∈n,d≠[]/\∀x∈d,x∈xs:=λd hd=>aK d (G d hd);have aN:xa M n:=λc hc d hd=>un c (G c hc) d (G d hd);have aO:=wb.same g1;have aP:=Ly rd g1;refine#[_,zZ,l,zZ,#[_,V1 el],je (xs:=B.map .ref) (λi u C=>Same H1 C/\∃r,u=r.map V.ref/\r.length<=i/\(∀e∈r,e∈B)/\LsAt C r ((n.take i).filter λc=> !cD M n c)) (by rw[bA,cq];lia) #[Same.refl _,[],zZ,bR _,λ_ h=>(nomatch h),#[zZ,λi a c e=>by simp at e]] (λi u C hi p=>?_) (λi v u C hv p=>?_) (λu H2 p fr ao=>?_)]
 .obtain⟨g,r,rfl,e,_⟩:=p;exact#[V1 (g _ _ el),by rw[bA];exact e]
 .obtain⟨g,r,rfl,e,sb,Le⟩:=p;rw[bT]at hv;obtain⟨a,ea,rfl⟩:=c9.mp hv;have li:=(bN.mp ea).1;obtain⟨c,ec⟩:∃c,n[i]?=some c:=#[_,bC ()];obtain⟨bs,ha,Ta⟩:=(L.same g).is i a c ea ec;have mc:=bX ec;refine#[iE,_,zZ,_,zZ,_,zZ,D,a,l,M,xs,ys,c,n,bs,B,zZ,Ly aP g,aO.same g,ha,Ta,g _ _ el,L.same g,(ai c mc).1,ai,(),λH4 g4=>#[_,zZ,?_]];have z:=Kg (as:=B) (f:=λc=> !cD M n c) (Le.same g4) ec (g4 _ _ ha) (Ta.same g4);cases c2:cD M n c with
  |false=>
   rw[c2,wB (show(!false)=true from rfl)]at z;refine dP #[_,zZ,g.trans g4,r++[a],by simp,by simp;exact e,λe' he=>?_,z];exact(cF.mp he).elim (sb e') λh=>by rw[cf.mp h];exact bX ea
  |true=>
   rw[c2,wA (by decide)]at z;exact cR #[g.trans g4,r,zZ,(),sb,z]
 obtain⟨g2,r,rfl,_,sb,Le⟩:=p;rw[bA,la,fF]at Le;have k3:=bP ao (.lst (r.map V.ref));have ap:bx H2 fr (.lst (r.map V.ref)) fr=some (.lst (r.map V.ref)):=bE;have az:fr≠t:=(cQ (g2 _ _ al) ao).symm;have aX:fr≠l:=(cQ (g2 _ _ el) ao).symm;have J:=g2.trans k3;have aq:=Le.same k3;generalize bx H2 fr (.lst (r.map V.ref))=H3 at k3 ap J aq|-;obtain⟨s0,aQ,aR⟩:∃s∈n,cD M n s=false:=by
  cases n with
  |nil=>exact wC zZ an
  |cons c n=>exact G3 aN _ c (cJ ..) (bR _)
 have mf:s0∈n.filter λc=> !cD M n c:=cL.mpr #[aQ,by rw[aR];rfl];obtain⟨s,hs⟩:∃s,(n.filter λc=> !cD M n c).head?=some s:=by
  cases z:n.filter λc=> !cD M n c with
  |nil=>rw[z]at mf;cases mf
  |cons y ys=>exact#[y,zZ]
 have ms:s∈n:=(cL.mp (List.mem_of_mem_head? hs)).1;have aA:(n.filter λc=> !cD M n c)[0]?=some s:=by rw[<-List.head?_eq_getElem?];exact hs
 have le:=aq.len;obtain⟨a,ea⟩:∃a,r[0]?=some a:=#[_,bC (by rw[le];exact(bN.mp aA).1)];have aB:fL (r.map V.ref) ((0:Nat):Int)=some (.ref a):=fE (by rw[bT,ea];rfl);obtain⟨bs,ha,Ta⟩:=aq.is 0 a s ea aA;have aC:=sb a (bX ea);have aD:a≠t:=λz=>ak (z▸aC);have I:=J _ _ al;refine#[_,zZ,.inl #[zZ,_,V1 I],_,zZ,fr,_,_,_,zZ,zZ,V1 ap,aB,t,_,_,zZ,zZ,I,by rw[bA,cq];lia,?_];have g4:Same H (bx H3 t (.lst (k.map V.ref++[.ref a]))):=gh (g1.trans J) O;have aE:t∉k++[a]:=λz=>(cF.mp z).elim aM λz=>aD (cf.mp z).symm;have L4:=((am.same J).snoc ha Ta).off (o:= .lst (k.map V.ref++[.ref a])) I aE;have aF:=(L.same J).off (o:= .lst (k.map V.ref++[.ref a])) I ak;have T:bx H3 t (.lst (k.map V.ref++[.ref a])) t=some (.lst ((k++[a]).map V.ref)):=by rw[bE,c7];rfl
 have ar:bx H3 t (.lst (k.map V.ref++[.ref a])) l=some (.lst (B.map V.ref)):=by
  rw[bI aL];exact J _ _ el
 have aj:bx H3 t (.lst (k.map V.ref++[.ref a])) fr=some (.lst (r.map V.ref)):=by
  rw[bI az];exact ap
 have aG:bx H3 t (.lst (k.map V.ref++[.ref a])) a=some (.lst (bs.map V.ref)):=by
  rw[bI aD];exact ha
 have aH:TupsAt (bx H3 t (.lst (k.map V.ref++[.ref a]))) bs s:=re Ta I λ_ e=>nomatch e;generalize bx H3 t (.lst (k.map V.ref++[.ref a]))=H4 at g4 L4 aF T ar aj aG aH|-;refine#[_,zZ,l,zZ,#[_,V1 ar],je (xs:=B.map .ref) (λi u C=>C=H4/\∃r,u=r.map V.ref/\r.length<=i/\(∀e∈r,e∈B)/\LsAt H4 r ((n.take i).filter λc=>decide (c≠s))) (by rw[bA,cq];lia) #[zZ,[],zZ,bR _,λ_ h=>(nomatch h),#[zZ,λi a c e=>by simp at e]] (λi u C hi p=>?_) (λi v u C hv p=>?_) (λu H5 p wl aI=>?_)]
 .obtain⟨rfl,r,rfl,e,_⟩:=p;exact#[V1 ar,by rw[bA];exact e]
 .obtain⟨rfl,U,rfl,e,Y,ae⟩:=p;rw[bT]at hv;obtain⟨b,eb,rfl⟩:=c9.mp hv;have li:=(bN.mp eb).1;obtain⟨c,ec⟩:∃c,n[i]?=some c:=#[_,bC ()];obtain⟨ds,hb,Tb⟩:=aF.is i b c eb ec;have z:=Kg (as:=B) (f:=λc=>decide (c≠s)) ae ec hb Tb;refine#[iE,_,zZ,_,zZ,fr,_,_,_,zZ,zZ,V1 aj,aB,b,a,1,_,_,zZ,zZ,Dv hb Tb,Dv aG aH,by decide,λcc hc=>#[_,zZ,?_]];by_cases af:c=s
  .have au:cc=true:=hc.mpr (by rw[af]);subst au;rw[eU (λz=>z af),wA (by decide)]at z;exact cR #[zZ,U,zZ,(),Y,z]
  .have au:cc=false:=by
    cases cc with
    |false=>rfl
    |true=>exact wC (Go (hc.mp zZ)) af
   subst au;rw[cK af,wB zZ]at z;refine dP #[_,zZ,zZ,U++[b],by simp,by simp;exact e,λe' he=>?_,z];exact(cF.mp he).elim (Y e') λh=>by rw[cf.mp h];exact bX eb
 obtain⟨rfl,U,rfl,_,Y,ae⟩:=p;rw[bA,la,fF]at ae;have k5:=bP aI (.lst (U.map V.ref));have less:(n.filter λc=>decide (c≠s)).length<n.length:=by
  rw[<-ET];have z:=Kf (xs:=n) (p:=λc=>decide (c≠s)) (q:=λ_=>true) (λ_ _ _=>rfl) #[s,ms,zZ,eU λz=>z zZ];rw[List.countP_true]at z;exact z
 refine#[(n.filter λc=>decide (c≠s)).length,(),g4.trans k5,wl,U,n.filter λc=>decide (c≠s),k++[a],told++[s],_,bE,ae.same k5,(cQ T aI).symm,λz=>ak (Y _ z),λc hc=>G c (cL.mp hc).1,k5 _ _ T,L4.same k5,aE,λc hc=>(cF.mp hc).elim (ag c) λh=>by rw[cf.mp h];exact G s ms,by rw[cC];simp;lia,(λb hb=>ia b (Y b hb)),(λb hb=>(List.mem_append.mp hb).elim (ax b) λz=>by rw[List.mem_singleton.mp z];exact ia a aC),λrest aS=>?_,zZ,zZ];rw[dR];exact ah _ (.cons hs aS)
theorem Qu(h:Rd H a u)(no:∀c,u≠ .tbl c)(g:Keeps H b):Rd b a u:=h.elim (λe=> .inl<|g _ _<|ss e no) λ⟨o,e⟩=> .inr #[o,g _ _<|nU e]
theorem qW(T:TupsAt H bs c)(g:Keeps H a):TupsAt a bs c:=#[T.len,λi b u d e=>g _ _<|nU<|T.is i b u d e]
theorem LsAt.keeps(h:LsAt H d e)(g:Keeps H b):LsAt b d e:=#[h.len,λi a c f j=>let⟨bs,k,l⟩:=h.is i a c f j;#[bs,g _ _<|nU k,qW l g]]
theorem WB.off2(h:WB H D d e ys)(n:H l=some (.lst m))(no:∀y∈ys,l∉y.2.2):WB (bx H l o) D d e ys:=by
 refine#[h.len,λi x y q f=>?_,h.nd];obtain⟨a,b,c⟩:=h.each i x y q f;refine#[#[a.len,by rw[bI (nE a.dict n)];exact a.dict,λj g p k r=>?_],b,c];rw[bI λz=>no y (bX f) (by rw[<-z];exact bX k)];exact a.list j g p k r
theorem fv{c:LN}(h:c∈cb ts b):c≠[]/\c=cr ts b (c.headD [])/\c.headD []∈b/\∀x∈c,x∈b/\Rch ts (c.headD []) x/\Rch ts x (c.headD []):=by
 obtain⟨x,g,rfl⟩:=bY.mp h;obtain⟨f,i⟩:=cL.mp g;have e:(cr ts b x).headD []=x:=by grind
 refine#[λz=>?_,by rw[e],by rw[e];exact f,λy j=>?_]
 .have s:=GD (ts:=ts) f;rw[z]at s;cases s
 .obtain⟨k,d⟩:=cL.mp j;rw[mO]at d;rw[e];exact#[k,bO.mp d.1,bO.mp d.2]
theorem J4(e i):xa e (cb e i):=λc j d k f g=>by
 obtain⟨_,l,_⟩:=fv j;obtain⟨_,m,_⟩:=fv k;rw[l,m];refine xg λz _=>?_;have go:∀{x y},dN e x y=true->dN e y x=true->(dN e x z&&dN e z x)=true->(dN e y z&&dN e z y)=true:=λ{x y} a b h=>by
  rw[mO]at h|-;exact#[bO.mpr<|(bO.mp b).trans<|bO.mp h.1,bO.mpr<|(bO.mp h.2).trans<|bO.mp a]
 rw[kq];exact#[go f g,go g f]
def LevAt(H:Hp)(l:Ad)(f e:LN)(h:LN)(j:List WE)(a:Ad)(c:LN):Prop:=∃(s t v:Ad) (bs g d:As) (i:Nat) (y:WE),H a=some (.tup [.ref s,.ref t,.ref v])/\s≠l/\t≠l/\v≠l/\l∉d/\H s=some (.lst (bs.map .ref))/\TupsAt H bs c/\H t=some (.lst (g.map .ref))/\TupsAt H g (gO e (c.headD []))/\H v=some (.lst (d.map .ref))/\d.length=c.length/\h[i]?=some (c.headD [])/\j[i]?=some y/\Told (bH f) f.length (c.headD []) y.2.1/\
 (∀b∈d,b∈y.2.2)/\∀(k:Nat) (x:bw) (b:Ad),c[k]?=some x->d[k]?=some b->∃word,(x,word)∈y.2.1/\H b=some (.lst (word.map nv))
theorem LevAt.keeps(h:LevAt H l r d u ys a c)(g:Keeps H q):LevAt q l r d u ys a c:=by
 obtain⟨s,t,v,bs,w,z,i,y,A,B,C,D,E,G,I,J,L,e,f,j,m,n,o,p⟩:=h;refine#[s,t,v,bs,w,z,i,y,g _ _<|nU A,B,C,D,E,g _ _<|nU G,qW I g,g _ _<|nU J,qW L g,g _ _<|nU e,f,j,m,n,o,λk x b M N=>?_];obtain⟨word,O,Q⟩:=p k x b M N;exact#[word,O,g _ _<|nU Q]
theorem LevAt.off{u d w:LN}(h:LevAt H l u d w A a c)(f:H l=some (.lst J)):LevAt (bx H l o) l u d w A a c:=by
 obtain⟨s,t,v,bs,L,M,i,y,B,C,D,E,G,N,O,Q,T,g,j,m,n,p,q,r⟩:=h;refine#[s,t,v,bs,L,M,i,y,by rw[bI (nE B f)];exact B,C,D,E,G,by rw[bI C];exact N,re O f (λ_ e=>nomatch e),by rw[bI D];exact Q,re T f (λ_ e=>nomatch e),by rw[bI E];exact g,j,m,n,p,q,λk x b U I=>?_];obtain⟨word,Y,z2⟩:=r k x b U I;refine#[word,Y,?_];rw[bI λz=>G (by rw[<-z];exact bX I)];exact z2
structure LevsAt(H:Hp)(l:Ad)(ts fam xs:LN)(ys:List WE)(as:As)(told:gW):Prop where
 len:as.length=told.length
 is:∀(i:Nat) (a:Ad) (c:LN),as[i]?=some a->told[i]?=some c->LevAt H l ts fam xs ys a c
def JG(H b:Hp)(a:Ad):Prop:=∃s t v,b a=some (.tup [.ref s,.ref t,.ref v])/\noT H s=none/\noT H t=none/\noT H v=none
inductive fB(T:Ad)(g:Pos)(k:List V)(H:Hp)(Q:VK)(h:XK):Prop|mk:∀m e n,k=[.ref m]->Mach H m e n->Tabs H->(∀l i told d j f,Keeps H f->Tabs f->noT H l=none->f l=some (.lst (i.map .ref))->FamOf e n d->Ord e (cb e (big d)) told->(∀c∈told,c∈cb e (big d))->told.length<=32->LevsAt f l e d (big d) j i told->(∀y∈j,∀b∈y.2.2,noT H b=none)->j.Pairwise (λp q=>∀b∈p.2.2,b∉q.2.2)->(∀a∈i,JG H f a)->Q (.ref l) f)->fB T g k H Q h
theorem PH(F:Fun K "levels" "levels" Dr f fd)(qM:cn P w K mg base wU 16 [sA] (dj T (#[78,40,78,93]:Pos)))(qH:cn P w K mg base wR 3 [sN] hJ)(kZ:cn P w K mg base wM 3 [sN,tN] fg)(vS:cn P w K mg base sJ 16 [sA,sB] (iO T (#[78,40,78,93]:Pos))):FnOk P w K mg base bZ 18 f fd [sA] (fB T (#[78,40,78,93]:Pos)):=by
 refine F.ok qS (λbh A aT s H vs Q E hr h=>?_)
 obtain⟨m,ts,n,rfl,M,hT,q⟩:=h;have hu:=hr.units;have az:=gJ hr;refine#[_,(bK (cj (i:=1) qS.nd zZ Z0 (ck qM hr.m zZ (bG (pv 0) bF))) (bK (cj (i:=2) qS.nd zZ Z' (gw bF)) (bK (fA fi zZ (fq (ck kZ hr.m zZ (b8 (bB (pv 1) (bB (ck qH hr.m zZ (bG (pv 1) bF)) bW zZ) zZ)))) (dG (i:=3) qS.nd zZ Z') (bK (cj (i:=4) qS.nd zZ Z0 (b7 dD (pv 3) bL (λ_ _=>rfl))) (bK (vw (CompSc.to (N:=[sA,sN,"told",tI,"face","ways"]) (osc:=bQ Dr) (vs:=[sB]) {}) zZ zZ qS.nd (j:=5) zZ zZ (fq (pv 3)) (λ_ _ _ _=>fK) (λ_ _ _ _=>(oK az (oK az (pv 2) (pv 5) (λ_ _=>rfl)) (pv 0) (λ_ _=>rfl)))) (bM (iR (hO iM lW lF lJ (pv 2) (bG (jo (b8 (bB (pv 3) (bB (ck vS hr.m zZ (b8 (bB (pv 0) (bB (pv 4) bW zZ) zZ))) (bB (pv 5) bW zZ) zZ) zZ))) bF))))))) (bM (cg (pv 2)))))),?_];refine#[_,zZ,m,ts,n,zZ,M,hT,λD l ys H1 k1 T1 nD ff eD wb nw ap=>?_];have few:=ff.few M;have O:(big l).length<=32:=cz (jm _ _) few;refine#[by show 0<=sizeLine;decide,λto af=>?_];have kt:=bP af (.lst []);have aA:∀y∈ys,to∉y.2.2:=λy hy r=>by
  obtain⟨j,ej⟩:=fM.mp hy;have lj:=(bN.mp ej).1;have hl:=wb.len;obtain⟨x',aU⟩:∃x',(big l)[j]?=some x':=#[_,bC ()];obtain⟨a',_⟩:=wb.each j x' y aU ej;obtain⟨j2,aB⟩:=fM.mp r;have aV:=(bN.mp aB).1;have U:=a'.list j2 to _ aB (bC (by rw[<-a'.len];exact aV));rw[af]at U;cases U
 have aW:to≠D:=(cQ eD af).symm;have ar:=kt _ _ eD;refine#[_,zZ,_,zZ,D,ts,big l,ys,zZ,ar,wb.same kt,O,λwl o as H3 g3 bi aX Lw aC=>?_];have aD:H3 D=some (.frz o (.dT (fV (big l) ys))):=g3 _ _ bE;have aE:WB H3 D ts (big l) ys:=((wb.same kt).off ar).same g3;have k13:∀{b:Ad} {u:HO},b≠D->bx H1 to (.lst []) b=some u->H3 b=some u:=λnb r=>g3 _ _ (by rw[bI nb];exact r);have Y:H3 to=some (.lst []):=k13 aW bE;have aY:∀{b:Ad} {u:HO},L2.noT H b=some u->b≠D:=λr z=>by
  subst z;rw[nD]at r;cases r
 have aZ:Keeps H H3:=λb u r=>k13 (aY r) (kt _ _ (k1 _ _ r));have T3:Tabs H3:=(T1.same kt).most λb u nd _ r=>k13 (j6 r ar λe=>nd _ e) r;have a0:∀d∈cb ts (big l),d≠[]/\∀x∈d,x∈big l:=λd hd=>#[(fv hd).1,λx hx=>((fv hd).2.2.2 x hx).1];have aF:(cb ts (big l)).length<=32:=by
  unfold cb;rw[bA];exact cz (jm _ _) O
 refine#[D,wl,ts,big l,ys,_,as,zZ,.inr #[o,aD],aE,aX,Lw,a0,J4 ts _,aF,λol ag told H4 g4 a1 aG Lo od a2 sub a3=>?_];have lo:=Lo.len;have aH:ol≠to:=(cQ Y a1).symm;have an:to∉ag:=λz=>by
  obtain⟨j,ej⟩:=fM.mp z;have lj:=(bN.mp ej).1;obtain⟨bs,e,_⟩:=Lo.is j to _ ej (bC (by rw[<-lo];exact lj));have ec:=ga (show j<told.length by lia);have C:=g4 _ _ Y;rw[e]at C;injection C with C
  injection C with C
  have U:bs=[]:=x4.mp C;obtain⟨a4,e',a5⟩:=Lo.is j to _ ej (bC ());rw[e]at e';injection e' with e'
  injection e' with e'
  rw[U]at e';have z3:a4=[]:=x4.mp e'.symm;have z4:=a5.len;rw[z3]at z4;exact(fv (sub _ ec)).1 (sk.mp z4.symm)
 have a6:Keeps H H4:=aZ.trans g4.keeps;have T4:=T3.same g4;have aI:=g4 _ _ Y;have aJ:L2.noT H to=none:=by
  cases z:L2.noT H to with
  |none=>rfl
  |some u=>
   have U:=k1 _ _ z;rw[af]at U;cases U
 let Pv:Nat->L2.St->Hp->Prop:=λi σ t=>Keeps H t/\Tabs t/\t ol=some (.lst (ag.map .ref))/\LsAt t ag told/\Rd t D (.dT (fV (big l) ys))/\WB t D ts (big l) ys/\∃ls o3 o4 o5,t to=some (.lst (ls.map .ref))/\LevsAt t to ts l (big l) ys ls (told.take i)/\(∀a∈ls,JG H t a)/\σ=[some (.ref m),some (.ref D),some (.ref to),o3,o4,o5]
 refine#[ol,zZ,#[_,V1 aG],oX (xs:=ag.map .ref) Pv #[a6,T4,aG,Lo,.inr #[o,g4 _ _ aD],aE.same g4,[],none,none,none,aI,#[zZ,λi a c e=>by simp at e],(λ_ h=>nomatch h),zZ] (λi σ t _ p=>V1 p.2.2.1) (λi v σ H5 hv p=>?_) (λσ H5 p=>?_)]
 .obtain⟨k5,T5,ao,au,av,aw,ls,o3,o4,o5,I,aa,ax,rfl⟩:=p;rw[bT]at hv;obtain⟨a,ea,rfl⟩:=c9.mp hv;have li:=(bN.mp ea).1;obtain⟨c,ec⟩:∃c,told[i]?=some c:=#[_,bC ()];obtain⟨bs,ha,Ta⟩:=au.is i a c ea ec;obtain⟨cne,_,cx,call⟩:=fv (sub c (bX ec));obtain⟨b0,a7,aK,m0⟩:=y9 Ta cne;have bj:=Ta.len;have bk:c.length<=32:=by
   rw[(fv (sub c (bX ec))).2.1];exact cz (jm _ _) O
  have a8:a≠to:=λz=>an (z▸bX ea);obtain⟨W,ws,wa,dg,wt,tt,ix,ex,ey⟩:=aw.get av cx aK;refine#[_,zZ,a,_,_,_,zZ,zZ,V1 ha,a7,?_];refine#[_,zZ,a,zZ,#[_,V1 ha],je (xs:=bs.map .ref) (λj ah t=>t=H5/\∃G:As,ah=G.map V.ref/\G.length=j/\(∀b∈G,b∈wa)/\∀(k:Nat) (x:bw) (b:Ad),c[k]?=some x->G[k]?=some b->∃word,(x,word)∈ws/\H5 b=some (.lst (word.map nv))) (by rw[bA,cq];lia) #[zZ,[],zZ,zZ,λ_ h=>(nomatch h),λk x b _ e=>by simp at e] (λj ah t hi p=>?_) (λj v ah t hv p=>?_) (λah t p J ai=>?_)]
  .obtain⟨rfl,G,rfl,e,_⟩:=p;exact#[V1 ha,by rw[bA];lia]
  .obtain⟨rfl,G,rfl,e,sb,al⟩:=p;rw[bT]at hv;obtain⟨b,eb,rfl⟩:=c9.mp hv;have lj:=(bN.mp eb).1;obtain⟨x,ay⟩:∃x,c[j]?=some x:=#[_,bC ()];have r:=Ta.is j b x eb ay;obtain⟨_,r1,_⟩:=call x (bX ay);obtain⟨⟨x',u⟩,hp,e'⟩:=bY.mp ((G5 tt x).mpr r1);have B:x'=x:=e';subst B;obtain⟨aL,v1,v2⟩:=wt.word tt.keys hp;have a9:DGet t W (.ref b) (some (.ref aL)):= .inr #[_,nk x',b,.inl wt.dict,zZ,by rw[jI];exact r,v1.symm];refine#[iE,jc #[_,zZ,_,zZ,D,_,zZ,dg,_,zZ,W,_,zZ,a9,zZ,G++[aL],by simp,by simp[e],λb' aj=>?_,λk x b' L B=>?_]]
   .exact(cF.mp aj).elim (sb b') λh=>by rw[cf.mp h];exact Um v1
   .by_cases hk:k<G.length
    .rw[dO hk]at B;exact al k x b' L B
    .rw[dQ ()]at B;have z:k-G.length=0:=by
      have:=(bN.mp B).1;simp at this;lia
     rw[z]at B;cases B;have kj:k=j:=by lia
     subst kj;rw[ay]at L;cases L;exact#[u,hp,v2]
  .obtain⟨rfl,G,rfl,ba,sb,al⟩:=p;rw[bA]at ba;have kw:=bP ai (.lst (G.map V.ref));have aM:J≠to:=(cQ I ai).symm;have aN:bx t J (.lst (G.map V.ref)) J=some (.lst (G.map V.ref)):=bE;generalize bx t J (.lst (G.map V.ref))=H6 at kw aN|-;have ab:=kw _ _ I;refine#[_,zZ,.inl #[zZ,_,V1 ab],_,zZ,_,zZ,_,zZ,m,b0,ts,n,c.headD [],zZ,(M.keeps k5).same kw,kw _ _ aK,T5.same kw,λtl ds us aO H7 k7 T7 ak bb Td bc bd=>?_];have ef:aO=l:=bc.uniq ff;subst ef;subst bd;have aP:=k7 _ _ (nU ab);have aQ:tl≠to:=λz=>by
    subst z;rw[nU ab]at ak;cases ak
   refine#[_,zZ,by show 3<=sizeLine;decide,λlv be=>?_];have kl:=bP be (.tup [.ref a,.ref tl,.ref J]);have am:bx H7 lv (.tup [.ref a,.ref tl,.ref J]) lv=some (.tup [.ref a,.ref tl,.ref J]):=bE;have kk:Keeps t (bx H7 lv (.tup [.ref a,.ref tl,.ref J])):=(kw.keeps.trans k7).trans kl.keeps;have aR:Keeps H6 (bx H7 lv (.tup [.ref a,.ref tl,.ref J])):=k7.trans kl.keeps;have aq:=kl _ _ bb;have aS:=Td.same kl;have T8:=T7.same kl;have g:=kl _ _ aP;generalize bx H7 lv (.tup [.ref a,.ref tl,.ref J])=H8 at kl am kk aR aq aS T8 g|-;have bf:=aa.len;rw[fe]at bf;refine#[to,_,_,zZ,zZ,g,by rw[bA,cq];lia,?_];have ae:∀{b:Ad} {u:HO},t b=some u->(∀ps,u≠ .tbl ps)->H8 b=some u:=λr no=>kk _ _ (ss r no)
   refine#[λb u r=>?_,?_,?_,?_,?_,?_,ls++[lv],_,_,_,by rw[bE,c7];rfl,#[?_,λj a' c' L B=>?_],λa' bg=>?_,zZ]
   .rw[bI λ(z:b=to)=>by subst z;rw[aJ]at r;cases r];exact(k5.trans kk) _ _ r
   .exact T8.most λb' u _ nl aj=>by rw[bI (j6 aj g λe=>nl _ e)];exact aj
   .rw[bI aH];exact ae ao λ_ e=>nomatch e
   .exact(au.keeps kk).off g an
   .rcases Qu av (λ_ e=>nomatch e) kk with z|⟨o',z⟩
    .exact .inl (by rw[bI (nE z g)];exact z)
    .exact .inr #[o',by rw[bI (nE z g)];exact z]
   .exact(aw.keeps kk).off2 g aA
   .rw[cC,fe];simp;lia
   .have lt':told.take (i+1)=told.take i++[c]:=by rw[gj,ec];rfl
    rw[lt']at B;by_cases hj:j<ls.length
    .rw[dO hj]at L;rw[dO (by rw[fe];lia)]at B;exact((aa.is j a' c' L B).keeps kk).off g
    .rw[dQ ()]at L;rw[dQ (by rw[fe];lia)]at B;have z:j-ls.length=0:=by
      have:=(bN.mp L).1;simp at this;lia
     have z':j-(told.take i).length=0:=by rw[fe];lia
     rw[z]at L;rw[z']at B;cases L;cases B;refine LevAt.off #[a,tl,J,bs,ds,G,ix,(W,ws,wa),am,a8,aQ,aM,λz=>aA _ (bX ey) (sb _ z),ae ha (λ_ e=>nomatch e),qW Ta kk,aq,aS,aR _ _ (nU aN),(),ex,ey,tt,sb,λk x b L B=>?_] g;obtain⟨word,C,U⟩:=al k x b L B;exact#[word,C,ae U λ_ e=>nomatch e]
   .rcases cF.mp bg with z|z
    .obtain⟨s',t',v',C,U⟩:=ax a' z;exact#[s',t',v',(by rw[bI (nE (ae C λ_ e=>nomatch e) g)];exact ae C λ_ e=>nomatch e),U]
    .rw[cf.mp z];refine#[a,tl,J,by rw[bI (nE am g)];exact am,?_,?_,?_]
     .have C:=aC a (a3 a (bX ea));cases y:L2.noT H a with
      |none=>rfl
      |some u=>
       rw[kt _ _ (k1 _ _ y)]at C;cases C
     .cases y:L2.noT H tl with
      |none=>rfl
      |some u=>
       have C:=kw _ _ (k5 _ _ y);rw[ss C (xp y).2]at ak;cases ak
     .cases y:L2.noT H J with
      |none=>rfl
      |some u=>
       rw[k5 _ _ y]at ai;cases ai
 .obtain⟨k5,T5,ao,au,av,aw,ls,o3,o4,o5,I,aa,ax,rfl⟩:=p;rw[bA,lo,fF]at aa;exact#[_,zZ,q to ls told l ys H5 k5 T5 aJ I ff od sub a2 aa nw ap ax]
theorem bU:sub x y=true↔ ∀r∈x,r∈y:=by
 unfold sub;rw[pb];exact#[λh r a=>im.mp<|h r a,λh r a=>im.mpr<|h r a]
theorem Mx{u v:bw}(d:u∈cZ n)(f:v∈cZ n)(h:sub u v=true)(g:u≠v):u.length<v.length:=by
 obtain⟨a,_⟩:=bD.mp d;obtain⟨b,_⟩:=bD.mp f;have s:=bU.mp h;have e:∃z∈List.range 5,u.contains z=false/\v.contains z=true:=by
  refine AZ λno=>g ?_;rw[<-a,<-b];refine xg λz j=>?_;rw[kq];constructor
  .exact λq=>im.mpr<|s z<|im.mp q
  .intro q;cases c:u.contains z with
   |true=>rfl
   |false=>exact wC #[z,j,c,q] no
 have z:=E' (λz _ q=>im.mpr<|s z<|im.mp q) e;rw[ET,ET]at z;unfold eX at a b;rw[a,b]at z;exact z
structure TileFacts(fam:LN)(x:bw)(us:LN):Prop where
 mem:∀u∈us,u∈fam/\u≠x/\sub u x=true
 apart:∀u∈us,∀v∈us,u≠v->sub u v=false
 up:us.Pairwise λa b=>gt gl a b=true
 all:∀u∈fam,u≠x->sub u x=true->∃t∈us,sub u t=true
 few:us.length<=32
 few2:fam.length<=32
 l5:∀u∈fam,u.length<=5
theorem t0(M:Mach H m s n)(j:FamOf s n a)(x):TileFacts a x (gO a x):=by
 have few:=j.few M;have b:∀u,u∈iz a x↔u∈a/\u≠x/\sub u x=true:=λu=>by
  unfold iz;rw[cL,mO,Ap]
 have k:∀u,nI (iz a x) u=true↔ ∃v∈iz a x,v≠u/\sub u v=true:=λu=>by
  unfold nI;rw[Ab];constructor
  .rintro⟨v,g,e⟩;rw[mO,Ap]at e;exact#[v,g,e]
  .rintro⟨v,g,e⟩;exact#[v,g,by rw[mO,Ap];exact e]
 have f:∀u,u∈gO a x↔u∈iz a x/\nI (iz a x) u=false:=λu=>by
  unfold gO;rw[cL];refine and_congr Iff.rfl ?_;cases nI (iz a x) u<;>simp
 have w:∀u∈a,u.length<=5:=λu h=>cz (oI M.n5<|j.inU M h) M.n5;have l:∀d u,u∈iz a x->5-u.length<=d->∃t∈gO a x,sub u t=true:=by
  intro d
  induction d with
  | zero=>
   intro u i y;cases c:nI (iz a x) u with
   |false=>exact#[u,(f u).mpr #[i,c],bU.mpr λr p=>p]
   |true=>
    obtain⟨v,o,g,e⟩:=(k u).mp c;have:=Mx (j.inU M ((b u).mp i).1) (j.inU M ((b v).mp o).1) e<|dX g
    have:=w v ((b v).mp o).1;lia
  | succ d A=>
   intro u i y;cases c:nI (iz a x) u with
   |false=>exact#[u,(f u).mpr #[i,c],bU.mpr λr p=>p]
   |true=>
    obtain⟨v,o,g,e⟩:=(k u).mp c;have:=Mx (j.inU M ((b u).mp i).1) (j.inU M ((b v).mp o).1) e<|dX g
    obtain⟨t,ht,q⟩:=A v o ();exact#[t,ht,bU.mpr λr p=>bU.mp q r<|bU.mp e r p]
 refine#[λu i=>(b u).mp ((f u).mp i).1,λu i v o B=>?_,?_,λu g e q=>l 5 u ((b u).mpr #[g,e,q]) (),?_,few,w]
 .cases c:sub u v with
  |false=>rfl
  |true=>
   have z:=(k u).mpr #[v,((f v).mp o).1,dX B,c];rw[((f u).mp i).2]at z;cases z
 .exact(j.up.filter _).filter _
 .exact cz (jm _ _)<|cz (jm _ _) few
theorem Lm(x):gt gl x x=false:=(oy gl [x]).irr x
theorem BD(T:TupsAt H fs b)(i:Nat)(d)(v)(c:(b.map λu=>Dt.tup (hE u))[i]?=some d)(e:(fs.map V.ref)[i]?=some v):Rep K H (n+1) d v:=by
 rw[bT]at c e;obtain⟨p,f,rfl⟩:=c9.mp c;obtain⟨a,g,rfl⟩:=c9.mp e;exact iD<|V2<|T.is i a p g f
theorem P7{a:LN}:Dt.tup (hE u)∈a.map (λu=>Dt.tup (hE u))↔u∈a:=by
 rw[bY];constructor
 .rintro⟨v,c,b⟩;injection b with b
  rw[<-GN b];exact c
 .exact λh=>#[u,h,zZ]
noncomputable def lB(f:Nat->Nat):Nat->Nat->Nat
 |0,r=>r
 |k+1,r=>lB f k (f r)
theorem GP(f:Nat->Nat):∀a b r,lB f (a+b) r=lB f b (lB f a r)
 |0,b,r=>by rw[xk];rfl
 |a+1,b,r=>by
  rw[Nat.add_right_comm];exact GP f a b<|f r
theorem ze{f:Nat->Nat}(h:lB f d r=r):∀k,lB f (d * k) r=r
 |0=>rfl
 |k+1=>by rw[Nat.mul_succ,GP,ze h k,h]
theorem Ee(a)(r)(u v):dA a r (u++v)=dA a (dA a r u) v:=by
 unfold dA;rw[oJ]
noncomputable def s9(u:bw):Nat->List Nat
 |0=>[]
 |k+1=>u++s9 u k
theorem Jz(a)(u):∀k r,dA a r (s9 u k)=lB (λr=>dA a r u) k r
 |0,_=>rfl
 |k+1,r=>by
  show dA a r (u++s9 u k)=_;rw[Ee,Jz a u k];rfl
theorem JK:∀{k},l∈s9 u k->l∈u
 |0,h=>nomatch h
 |k+1,h=>(cF.mp h).elim id JK
theorem Ed(a)(x u v):cu (bH a) x (u++v)=cu (bH a) (cu (bH a) x u) v:=by
 unfold cu;rw[oJ]
theorem Ex{x y:bw}(a:x∈cZ n)(b:y∈cZ n)(h:∀r,r∈x↔r∈y):x=y:=by
 rw[<-(bD.mp a).1,<-(bD.mp b).1];exact K7 h
theorem GQ{x:bw}(a:x∈cZ n):x.Nodup:=by
 rw[<-(bD.mp a).1];exact List.Nodup.sublist vU List.nodup_range
theorem mN(M:Mach H m b n){x word:bw}(d:x∈cZ n)(hw:∀l∈word,l<b.length):r∈cu (bH b) x word↔ ∃a∈x,dA b a word=r:=by
 have f:=M.n5;rw[BG M word x d hw];constructor
 .intro h;obtain⟨a,c,e⟩:=bY.mp<|C8 h;exact#[a,c,e]
 .rintro⟨a,c,rfl⟩;have:=m8 M word a ((bD.mp d).2 a c) hw;exact Gw (bY.mpr #[a,c,zZ]) ()
theorem nG(M:Mach H m a n){x word:bw}(b:x∈cZ n)(hw:∀l∈word,l<a.length):cu (bH a) x word∈cZ n:=wr b (λy c l d=>BL M c d) word hw
structure Bij(ts:LN)(x y w p:bw):Prop where
 to:cu (bH ts) x w=y
 fro:cu (bH ts) y p=x
 lw:∀l∈w,l<ts.length
 lp:∀l∈p,l<ts.length
 here:∀r∈x,dA ts (dA ts r w) p=r
 there:∀r∈y,dA ts (dA ts r p) w=r
theorem Bij.symm{x y w p:bw}(b:Bij a x y w p):Bij a y x p w:=#[b.fro,b.to,b.lp,b.lw,b.there,b.here]
theorem Tx{x:bw}{f:Nat->Nat}(nd:x.Nodup)(j:∀r∈x,∃c∈x,f c=r):∀a∈x,∀b∈x,f a=f b->a=b:=λa d b k e=>by
 by_cases g:a=b
 .exact g
 have z:=xo (l₂:=(x.erase a).map f) nd λr l=>by
  obtain⟨c,m,h⟩:=j r l;by_cases i:c=a
  .exact bY.mpr #[b,(B0<|dX g).mpr k,by rw[<-e,<-i,h]]
  .exact bY.mpr #[c,(B0 i).mpr m,h]
 rw[bA,GI d]at z;have:=C1 d;lia
theorem Ge{x:bw}{f:Nat->Nat}(a:∀r∈x,f r∈x):∀k r,r∈x->lB f k r∈x
 |0,_,h=>h
 |k+1,r,h=>Ge a k (f r)<|a r h
theorem L8{x:bw}{f:Nat->Nat}(c:∀r∈x,f r∈x)(inj:∀a∈x,∀b∈x,f a=f b->a=b):∀k,∀a∈x,∀b∈x,lB f k a=lB f k b->a=b
 |0,_,_,_,_,e=>e
 |k+1,a,d,b,g,e=>inj a d b g<|L8 c inj k (f a) (c a d) (f b) (c b g) e
theorem zz{x:bw}{f:Nat->Nat}(p:x.length<=5)(g:∀r∈x,f r∈x)(inj:∀a∈x,∀b∈x,f a=f b->a=b)(r)(k:r∈x):lB f 60 r=r:=by
 have:∃d,1<=d/\d<=5/\lB f d r=r:=by
  by_cases h:∃i j,i<j/\j<=5/\lB f i r=lB f j r
  .obtain⟨i,j,l,m,c⟩:=h;refine#[j-i,(),(),?_];have e:j=(j-i)+i:=by lia
   rw[e,GP]at c;exact(L8 g inj i r k _ (Ge g (j-i) r k) c).symm
  .have nd:((List.range 6).map λi=>lB f i r).Nodup:=by
    rw[ES,yI];refine Ho ?_ List.pairwise_lt_range;intro i j q n lt e;exact h #[i,j,lt,by have:=fm.mp n;lia,e]
   have z:=xo nd λy o=>by
    obtain⟨i,_,rfl⟩:=bY.mp o;exact Ge g i r k
   rw[bA,mw]at z;lia
 obtain⟨d,l,m,c⟩:=this;have:d=1\/d=2\/d=3\/d=4\/d=5:=by lia
 rcases this with rfl|rfl|rfl|rfl|rfl
 .exact ze c 60
 .exact ze c 30
 .exact ze c 20
 .exact ze c 15
 .exact ze c 12
theorem IQ(M:Mach H m a n){x y w:bw}(b:x∈cZ n)(i:∀l∈w,l<a.length)(e:cu (bH a) x w=y)(back:Rch a y x):∃p,Bij a x y w p:=by
 obtain⟨v,s,B⟩:=back;have t:y∈cZ n:=by rw[<-e];exact nG M b i
 have d:=λl o=>(cF.mp o).elim (i l) (s l);have u:cu (bH a) x (w++v)=x:=by rw[Ed,e,B]
 have C:=λr c=>by
  have z:=(mN M b d).mpr #[r,c,zZ];rw[u]at z;exact z
 have D:∀r∈x,∃j∈x,dA a j (w++v)=r:=λr c=>(mN M b d).mp (by rw[u];exact c);have inj:=Tx (GQ b) D;have E:=zz (cz (oI M.n5 b) M.n5) C inj;have here:∀r∈x,dA a (dA a r w) (v++s9 (w++v) 59)=r:=λr c=>by
  rw[<-Ee,<-dR,Ee,Jz];exact E r c
 have q:∀l∈v++s9 (w++v) 59,l<a.length:=λl o=>(cF.mp o).elim (s l) λh=>d l (JK h);have g:∀r∈y,dA a (dA a r (v++s9 (w++v) 59)) w=r:=λr c=>by
  rw[<-e]at c;obtain⟨j,k,rfl⟩:=(mN M b i).mp c;rw[here j k]
 refine#[v++s9 (w++v) 59,e,Ex (nG M t q) b λr=>?_,i,q,here,g];rw[mN M t q];constructor
 .rintro⟨j,k,rfl⟩;rw[<-e]at k;obtain⟨G,A,rfl⟩:=(mN M b i).mp k;rw[here G A];exact A
 .intro h;exact#[dA a r w,by rw[<-e];exact(mN M b i).mpr #[r,h,zZ],here r h]
theorem Bij.back(M:Mach H m a n){x y w p u:bw}(b:Bij a x y w p)(c:u∈cZ n)(s:sub u x=true):cu (bH a) (cu (bH a) u w) p=u:=by
 have d:=bU.mp s;have e:=nG M c b.lw;refine Ex (nG M e b.lp) c λr=>?_;rw[mN M e b.lp];constructor
 .rintro⟨i,h,rfl⟩;obtain⟨f,g,rfl⟩:=(mN M c b.lw).mp h;rw[b.here f<|d f g];exact g
 .intro z;exact#[dA a r w,(mN M c b.lw).mpr #[r,z,zZ],b.here r<|d r z]
theorem Bs(M:Mach H m a n){u v w:bw}(d:u∈cZ n)(e:v∈cZ n)(b:∀l∈w,l<a.length)(s:sub u v=true):sub (cu (bH a) u w) (cu (bH a) v w)=true:=by
 refine bU.mpr λr f=>?_;obtain⟨c,g,rfl⟩:=(mN M d b).mp f;exact(mN M e b).mpr #[c,bU.mp s c g,zZ]
theorem GX(M:Mach H m b n)(f:FamOf b n a){u w:bw}(g:u∈a)(c:∀l∈w,l<b.length):cu (bH b) u w∈a:=by
 have d:=M.n5;refine(f.mem _).mpr ?_
 rcases (f.mem u).mp g with⟨h,i,j⟩|⟨r,e,rfl⟩
 .refine .inl #[h++w,λl k=>(cF.mp k).elim (i l)<|c l,?_];rw[Ed,j]
 .have lt:=m8 M w r e c;refine .inr #[dA b r w,lt,Ex (nG M (Ao d e) c) (Ao d lt) λp=>?_];rw[mN M (Ao d e) c];constructor
  .rintro⟨q,o,rfl⟩;rw[cf.mp o];exact cf.mpr rfl
  .intro z;exact#[r,cf.mpr zZ,(cf.mp z).symm]
theorem KJ{u v:bw}(c:u∈cZ n)(d:v∈cZ n)(a:sub u v=true)(b:sub v u=true):u=v:=Ex c d λr=>#[bU.mp a r,bU.mp b r]
theorem Hn{u v w:bw}(a:sub u v=true)(b:sub v w=true):sub u w=true:=bU.mpr λr c=>bU.mp b r<|bU.mp a r c
theorem oD(M:Mach H m h n)(d:FamOf h n a){x u:bw}:u∈gO a x↔u∈a/\u≠x/\sub u x=true/\∀v∈a,v≠x->sub v x=true->sub u v=true->v=u:=by
 have b:=t0 M d x;constructor
 .intro i;obtain⟨c,f,g⟩:=b.mem u i;refine#[c,f,g,λv j l o k=>?_];obtain⟨t,ht,st⟩:=b.all v j l o;have p:u=t:=by
   by_cases e:u=t
   .exact e
   .have z:=b.apart u i t ht e;rw[Hn k st]at z;cases z
  subst p;exact KJ (d.inU M j) (d.inU M c) st k
 .rintro⟨c,f,g,q⟩;obtain⟨t,ht,st⟩:=b.all u c f g;obtain⟨r,s,w⟩:=b.mem t ht;rw[<-q t r s w st];exact ht
theorem yV(M:Mach H m a n)(d:FamOf a n c){x y w p u:bw}(j:x∈cZ n)(b:Bij a x y w p)(o:u∈gO c x):cu (bH a) u w∈gO c y:=by
 obtain⟨k,q,h,r⟩:=(oD M d).mp o;have s:y∈cZ n:=by rw[<-b.to];exact nG M j b.lw
 have f:=d.inU M k;have t:sub (cu (bH a) u w) y=true:=by
  have z:=Bs M f j b.lw h;rw[b.to]at z;exact z
 refine(oD M d).mpr #[GX M d k b.lw,λe=>q ?_,t,λv l A i B=>?_]
 .rw[<-b.back M f h,e,b.fro]
 .have g:=d.inU M l;have bs:=b.symm;have C:=GX M d l b.lp;have D:cu (bH a) v p≠x:=λe=>A (by rw[<-bs.back M g i,e,b.to]);have E:sub (cu (bH a) v p) x=true:=by
   have z:=Bs M g s b.lp i;rw[b.fro]at z;exact z
  have G:sub u (cu (bH a) v p)=true:=by
   have z:=Bs M (nG M f b.lw) g b.lp B;rw[b.back M f h]at z;exact z
  rw[<-bs.back M g i,r _ C D E G]
def LvH(H:Hp)(a:Ad)(c g:LN)(d:LN):Prop:=∃(s t v:Ad) (bs ds e:As),H a=some (.tup [.ref s,.ref t,.ref v])/\H s=some (.lst (bs.map .ref))/\TupsAt H bs c/\H t=some (.lst (ds.map .ref))/\TupsAt H ds g/\H v=some (.lst (e.map .ref))/\e.length=d.length/\∀(k:Nat) (b:Ad) (f:bw),e[k]?=some b->d[k]?=some f->H b=some (.lst (f.map nv))
theorem LvH.same{c f d:LN}(h:LvH H a c f d)(g:Same H e):LvH e a c f d:=by
 obtain⟨s,t,v,bs,ds,i,j,l,m,n,o,p,q,r⟩:=h;exact#[s,t,v,bs,ds,i,g _ _ j,g _ _ l,m.same g,g _ _ n,o.same g,g _ _ p,q,λk b u w x=>g _ _<|r k b u w x]
structure LvP(ts fam:LN)(c us wds:LN):Prop where
 cls:c∈cb ts (big fam)
 tl:us=gO fam (c.headD [])
 len:wds.length=c.length
 go:∀(k:Nat) (x wd:bw),c[k]?=some x->wds[k]?=some wd->(∀l∈wd,l<ts.length)/\cu (bH ts) (c.headD []) wd=x
inductive lK(g:List V)(H:Hp)(Q:VK)(d:XK):Prop|mk:∀m a k j e n c h b (u f:bw),g=[.ref m,.ref a,nv k,nv j]->Mach H m e n->LvH H a c h b->h[j]?=some u->b[k]?=some f->u∈cZ n->(∀l∈f,l<e.length)->yj H ((cu (bH e) u f).map nv) Q->lK g H Q d
inductive eQ(i:List V)(H:Hp)(Q:VK)(f:XK):Prop|mk:∀m a k g n c d b (h:bw),i=[.ref m,.ref a,nv k]->Mach H m g n->LvH H a c d b->b[k]?=some h->(∀u∈d,u∈cZ n)->d.length<=32->(∀l∈h,l<g.length)->(∀l j e,Same H e->e l=some (.lst (j.map .ref))->TupsAt e j (d.map λu=>cu (bH g) u h)->Q (.ref l) e)->eQ i H Q f
def i9(a b:LN)(g c:bw)(l:Nat)(d:bw):Prop:=d.length=b.length/\∀(j:Nat) (u:bw) e,b[j]?=some u->d[j]?=some e->∃f,b[e]?=some f/\cu (bH a) f c=bH a (cu (bH a) u g) l
inductive eB(j:List V)(H:Hp)(Q:VK)(h:XK):Prop|mk:∀m a k l d n f c i b (x o:bw),j=[.ref m,.ref a,nv k,nv l]->Mach H m d n->FamOf d n f->LvH H a c i b->LvP d f c i b->c[k]?=some x->b[k]?=some o->l<d.length->((bH d x l∉c->∀e,Same H e->Q .non e))->(∀(q:Nat) (g:bw),c[q]?=some (bH d x l)->b[q]?=some g->∀p r e,Same H e->e p=some (.tup (r.map nv))->i9 d i o g l r->Q (.ref p) e)->eB j H Q h
theorem Fa{b:Type}{d:b}:∀{ds:List b},d∈ds->∃j,ds[j]?=some d/\∀i:Nat,i<j->ds[i]? ≠some d
 | [],h=>nomatch h
 | e::ds,h=>by
  by_cases z:e=d
  .exact#[0,by rw[z];rfl,λi c=>wC c<|sj i]
  .obtain⟨j,f,g⟩:=Fa<|(db.mp h).resolve_left λa=>z a.symm;refine#[j+1,f,λi c=>?_];cases i with
   |zero=>exact λa=>z<|by injection a
   |succ i=>exact g i ()
theorem nM{a:LN}:Dt.tup (hE u)∈a.map (λu=>Dt.tup (hE u))↔u∈a:=P7
theorem ez{a:LN}{j:Nat}:(a.map λu=>Dt.tup (hE u))[j]?=some (Dt.tup (hE u))↔a[j]?=some u:=by
 rw[bT];constructor
 .intro h;obtain⟨v,c,b⟩:=c9.mp h;injection b with b
  rw[<-GN b];exact c
 .intro h;rw[h];rfl
theorem LvP.bij(M:Mach H m d n)(i:FamOf d n a)(f:LvP d a c h b){k:Nat}{x e:bw}(g:c[k]?=some x)(j:b[k]?=some e):∃p,Bij d (c.headD []) x e p:=by
 obtain⟨_,_,l,call⟩:=fv f.cls;obtain⟨o,q⟩:=f.go k x e g j;exact IQ M (i.inU M (cL.mp l).1) o q (call x<|bX g).2.2
theorem Ma(M:Mach H m a n)(b:FamOf a n d)(f:LvP a d c i e){k s l:Nat}{x j g:bw}(t:c[k]?=some x)(D:e[k]?=some j)(E:l<a.length)(v:c[s]?=some (bH a x l))(o:e[s]?=some g){u:bw}(G:u∈i):bH a (cu (bH a) u j) l∈i.map λu=>cu (bH a) u g:=by
 obtain⟨_,_,I,call⟩:=fv f.cls;obtain⟨p,L⟩:=f.bij M b t D;obtain⟨p',y⟩:=f.bij M b v o;obtain⟨N,q,O⟩:=call x<|bX t;obtain⟨Q,T,r⟩:=call _<|bX v;have A:=b.inU M (cL.mp N).1;have U:=b.inU M (cL.mp Q).1;obtain⟨p2,Y⟩:=IQ M (w:=[l]) A (λz hz=>by rw[cf.mp hz];exact E) zZ<|r.trans q;have h:=G;rw[f.tl]at h;have t1:=yV M b (b.inU M (cL.mp I).1) L h;have B:=yV M b A Y t1;obtain⟨f1,f2,f3,_⟩:=(oD M b).mp B;have C:=yV M b U y.symm B;rw[<-f.tl]at C;exact bY.mpr #[_,C,y.symm.back M (b.inU M f1) f3]
theorem LvP.nd{d c i f:LN}(j:FamOf h n d)(k:LvP h d c i f):c.Nodup:=by
 have g:d.Nodup:=j.up.imp λ{a b} z e=>by
  subst e;rw[(oy gl d).irr]at z;cases z
 rw[(fv k.cls).2.1];exact List.Nodup.sublist (vU.trans vU) g
theorem LvP.inU(M:Mach H m b n)(g:FamOf b n a)(h:LvP b a c d e):(∀u∈d,u∈cZ n)/\d.length<=32:=by
 have f:=t0 M g<|c.headD [];rw[<-h.tl]at f;exact#[λu i=>g.inU M (f.mem u i).1,f.few]
theorem UL(F:Fun K "tile" "tile" GR f fd)(C:cn P w K mg base tY 3 [sA,sB,sT] (cG K)):FnOk P w K mg base bZ 5 f fd [sA,sG,"k","j"] lK:=by
 refine F.ok Sn<|λD A e s H vs Q E l h=>?_
 obtain⟨m,a,k,j,G,n,c,us,I,u,g,rfl,M,J,o,r,i,t,q⟩:=h;have hu:=l.units;obtain⟨s',L,N,bs,O,T,v,h2,h3,U,x,Y,h7,h8⟩:=J;have l5:=x.len;have lj:=(bN.mp o).1;have lk:=(bN.mp r).1;obtain⟨d,y⟩:∃d,O[j]?=some d:=#[_,bC ()];obtain⟨b,z⟩:∃b,T[k]?=some b:=#[_,bC ()];have hb:=h8 k b g z r;refine#[_,(bM<|cg<|ck C l.m zZ<|b8<|bB (pv 0) (bB (b7 dD (b7 cO (pv 1) bL<|λ_ _=>rfl) (pv 3)<|λ_ _=>rfl) (bB (b7 dD (b7 cO (pv 1) bL<|λ_ _=>rfl) (pv 2)<|λ_ _=>rfl) bW zZ) zZ) zZ),#[_,zZ,_,zZ,a,_,_,_,zZ,zZ,V2 v,zZ,_,zZ,L,_,_,_,zZ,zZ,V1 U,fE (by rw[bT,y];rfl),_,zZ,a,_,_,_,zZ,zZ,V2 v,zZ,_,zZ,N,_,_,_,zZ,zZ,V1 Y,fE (by rw[bT,z];rfl),m,d,b,G,n,u,g,zZ,M,V2<|x.is j d u y o,cz (oI M.n5 i) M.n5,(bD.mp i).2,V1 hb,t,λp H2 g2 B=>?_]];rw[<-BG M g u i t]at B;exact q p H2 g2 B
theorem Sx(F:Fun K wL wL DE f fd)(L:cn P w K mg base "tile" 5 [sA,sG,"k","j"] lK)(O:mg "len"=none)(T:mg "range"=none):FnOk P w K mg base bZ 7 f fd [sA,sG,"k"] eQ:=by
 refine F.ok Vc (λU A t s H vs Q E B h=>?_)
 obtain⟨m,a,k,C,n,c,j,v,D,rfl,M,G,Y,uU,few,lw,q⟩:=h;have hu:=B.units;obtain⟨s',t',v',bs,ds,cs,h1,h2,h3,h4,h5,h6,h7,h8⟩:=id G;have l5:=h5.len;refine#[_,(bM (cg (gN (CompSc.to (N:=[sA,sG,"k"]) (osc:=bQ DE) {}) zZ zZ (j8 zZ T (bG (cX eR zZ O dW (bG (b7 cO (pv 1) bL (λ_ _=>rfl)) bF)) bF)) (λ_ _ _ _=>fK) (λ_ _ _ _=>(ck L B.m zZ (b8 (bB (pv 1) (bB (pv 2) (bB (pv 3) (bB (pv 0) bW zZ) zZ) zZ) zZ))))))),#[_,zZ,a,_,_,_,zZ,zZ,V2 h1,zZ,t',_,zZ,.inl (V1 h4),(j.length:Int),by rw[bA,l5],(),(),D' (λi l o=>Same H o/\∃d,l=d.map V.ref/\d.length=i/\TupsAt o d ((j.take i).map λu=>cu (bH C) u D)) (by rw[hY];exact small ()) #[Same.refl _,[],zZ,zZ,zZ,λi b u e=>by simp at e] (λi l o _ p=>?_) (λi l o hi p=>?_) (λl H1 p sg x=>?_)]]
 .obtain⟨_,d,rfl,e,_⟩:=p;rw[bA];lia
 .obtain⟨g,d,rfl,e,r⟩:=p;have e0:V.int (0+(i:Int))=nv i:=by rw[td]
  have y:i<j.length:=by simpa using hi
  obtain⟨u,z⟩:∃u,j[i]?=some u:=#[_,bC y];rw[e0];refine#[iE,jc #[_,zZ,_,zZ,_,zZ,_,zZ,m,a,k,i,C,n,c,j,v,u,D,zZ,M.same g,G.same g,z,Y,uU u (bX z),lw,λp H2 I e2=>#[g.trans I,d++[p],by simp,by simp[e],?_]]];rw[gj,z,c7];exact Bn (r.same I) e2
 obtain⟨g1,d,rfl,er,r⟩:=p;rw[hY,fF]at r;have J:=bP x (.lst (d.map V.ref));exact q sg d _ (g1.trans J) bE (r.same J)
theorem RQ(F:Fun K tX tX D6 f fd)(jH:cn P w K mg base tY 3 [sA,sB,sT] (cG K))(jN:cn P w K mg base wL 7 [sA,sG,"k"] eQ)(jE:mg "tuple"=none):FnOk P w K mg base bZ 9 f fd [sA,sG,"k",sK] eB:=by
 refine F.ok qQ<|λay A an s H vs Q E hr h=>?_
 obtain⟨m,a,k,l,o,n,ao,c,us,J,x,wd,rfl,M,ff,lv,lp,ex,ew,ll,q1,q2⟩:=h;have hu:=hr.units;obtain⟨s',t',v',bs,ds,cs,h1,h2,h3,h4,h5,h6,h7,h8⟩:=id lv;obtain⟨cne,az,cx,call⟩:=fv lp.cls;have lb:=h3.len;have lk:=(bN.mp ex).1;obtain⟨b,eb⟩:∃b,bs[k]?=some b:=#[_,bC ()];have hb:=h3.is k b x eb ex;have ab:∀y∈big ao,y∈cZ n:=λy hy=>ff.inU M (cL.mp hy).1;have mx:=bX ex;have hU:=ab x (call x mx).1;refine#[_,(bK (cj (i:=4) qQ.nd zZ Z'<|ck jH hr.m zZ<|b8<|bB (pv 0) (bB (b7 dD (b7 cO (pv 1) bL<|λ_ _=>rfl) (pv 2)<|λ_ _=>rfl) (bB (gw<|bG (pv 3) bF) bW zZ) zZ) zZ)<|bK (di (eG (Tz hu) (pv 4) (b7 cO (pv 1) bL<|λ_ _=>rfl)<|by with_unfolding_all rfl) (bM<|cg n') dh)<|bK (cj (i:=5) qQ.nd zZ Z0<|ck jN hr.m zZ<|b8<|bB (pv 0) (bB (pv 1) (bB (hO iM zT BE (Do hu) (b7 cO (pv 1) bL<|λ_ _=>rfl)<|bG (pv 4) bF) bW zZ) zZ) zZ)<|bM<|cg<|gE nL zZ jE lL<|bG (gN (CompSc.to (N:=[sA,sG,"k",sK,xZ,"ends"]) (osc:=bQ D6) (vs:=[xT]) {}) zZ zZ (fq<|ck jN hr.m zZ<|b8<|bB (pv 0) (bB (pv 1) (bB (pv 2) bW zZ) zZ) zZ) (λ_ _ _ _=>fK)<|λ_ _ _ _=>(U' (K:=K) iW zZ<|hO iM zT BE (Do hu) (pv 6)<|bG (ck jH hr.m zZ<|b8<|bB (pv 1) (bB (pv 0) (bB (gw<|bG (pv 4) bF) bW zZ) zZ) zZ) bF)) bF),?_];obtain⟨uU,few⟩:=lp.inU M ff;have ae:=(lp.go k x wd ex ew).1;have l1:∀z∈[l],z<o.length:=λz hz=>by rw[cf.mp hz];exact ll
 refine#[_,zZ,_,zZ,a,_,_,_,zZ,zZ,V2 h1,zZ,_,zZ,s',_,_,_,zZ,zZ,V1 h2,fE (by rw[bT,eb];rfl),_,zZ,by show 1<=sizeLine;decide,λp1 L=>?_];have G:=bP L<|.lst [nv l];refine#[m,b,p1,o,n,x,[l],zZ,M.same G,V2<|G _ _ hb,cz (oI M.n5 hU) M.n5,(bD.mp hU).2,V1 bE,l1,λth H2 ap I=>?_];have B:=G.trans ap;have O:H2 th=some (.tup<|(bH o x l).map nv):=I;generalize hy:bH o x l=y at O q1 q2;have T:=B _ _ h2;refine#[_,zZ,_,zZ,a,_,_,_,zZ,zZ,V2<|B _ _ h1,zZ,s',1,.tup<|hE y,c.map λu=>Dt.tup<|hE u,_,zZ,V1 T,by rw[bA,bA,lb],iD<|V2 O,BD<|h3.same B,by decide,λcc hc=>#[_,zZ,?_]];by_cases my:y∈c
 .have U:=hc.mpr<|nM.mpr my;subst U;refine cR ?_;obtain⟨k',ey,no⟩:=Fa my;have aq:=(bN.mp ey).1;obtain⟨q,C⟩:∃q,J[k']?=some q:=#[_,bC (by rw[lp.len];exact aq)];have af:=(lp.go k' y q ey C).1;refine#[_,zZ,_,zZ,_,zZ,a,_,_,_,zZ,zZ,V2<|B _ _ h1,zZ,.inl #[zZ,_,V1 T],_,zZ,s',_,1,.tup<|hE y,c.map λu=>Dt.tup<|hE u,_,k',zZ,zZ,V1 T,by rw[bA,bA,lb],iD<|V2 O,BD<|h3.same B,by decide,ez.mpr ey,λi hi e=>no i hi<|ez.mp e,?_];refine#[m,a,k',o,n,c,us,J,q,zZ,M.same B,lv.same B,C,uU,few,af,λen es H3 ar ag ah=>?_];have g3:=B.trans ar;have len:=ah.len;rw[bA]at len;refine#[_,zZ,_,zZ,_,zZ,m,a,k,o,n,c,us,J,wd,zZ,M.same g3,lv.same g3,ew,uU,few,ae,λpl ps H4 Y ai aj=>?_];have g4:=g3.trans Y;have as:=aj.len;rw[bA]at as;refine#[pl,zZ,#[_,V1 ai],je (xs:=ps.map .ref) (λi D H'=>Same H4 H'/\∃t:bw,D=t.map nv/\t.length=i/\∀(j:Nat) (u:bw) (j':Nat),us[j]?=some u->t[j]?=some j'->∃u',us[j']?=some u'/\cu (bH o) u' q=bH o (cu (bH o) u wd) l) (by rw[bA,cq];lia) #[Same.refl _,[],zZ,zZ,λj u j' _ e=>by simp at e] (λi D H' hi p=>?_) (λi v D H' hv p=>?_)<|λD H5 p tl au=>?_]
  .obtain⟨g,t,rfl,e,_⟩:=p;exact#[V1<|g _ _ ai,by rw[bA];lia]
  .obtain⟨g,t,rfl,e,al⟩:=p;rw[bT]at hv;obtain⟨d,ed,rfl⟩:=c9.mp hv;have li:=(bN.mp ed).1;obtain⟨u,eu⟩:∃u,us[i]?=some u:=#[_,bC ()];have mu:=bX eu;have hd:=g _ _<|aj.is i d _ ed (by rw[bT,eu];rfl);have ak:=nG M (uU u mu) ae;have gH:=g4.trans g;refine#[iE,jc #[_,zZ,.inl #[zZ,_,V1<|(Y.trans g) _ _ ag],_,zZ,_,zZ,_,zZ,by show 1<=sizeLine;decide,λp1 L=>?_]];have G:=bP L<|.lst [nv l];refine#[m,d,p1,o,n,_,[l],zZ,M.same<|gH.trans G,V2<|G _ _ hd,cz (oI M.n5 ak) M.n5,(bD.mp ak).2,V1 bE,l1,λca H6 am e6=>?_];have av:=e6;have g6:=(Y.trans g).trans<|G.trans am;have mi:=Ma M ff lp ex ew ll (by rw[hy];exact ey) C mu;obtain⟨j0,aa,aw⟩:=Fa mi;refine#[en,_,1,.tup<|hE<|bH o (cu (bH o) u wd) l,(us.map λu=>cu (bH o) u q).map λu=>Dt.tup<|hE u,_,j0,zZ,zZ,V1<|g6 _ _ ag,by rw[bA,bA,bA,len],iD<|V2 av,BD<|ah.same g6,by decide,ez.mpr aa,λi hi e=>aw i hi<|ez.mp e,?_];refine#[g.trans<|G.trans am,t++[j0],by simp,by simp[e],λj u2 j' e1 I=>?_];by_cases hj:j<t.length
   .rw[dO hj]at I;exact al j u2 j' e1 I
   .rw[dQ ()]at I;have z:j-t.length=0:=by
     have:=(bN.mp I).1;simp at this;lia
    rw[z]at I;cases I;have ji:j=i:=by lia
    subst ji;rw[eu]at e1;cases e1;rw[bT]at aa;obtain⟨u',f1,f2⟩:=c9.mp aa;exact#[u',f1,f2]
  .obtain⟨g5,t,rfl,ej,al⟩:=p;rw[bA]at ej;have kt:=bP au<|.lst<|t.map nv;refine#[tl,_,zZ,.inl #[V1 bE,λr ax=>?_]];have kr:=bP ax<|.tup<|t.map nv;exact q2 k' q ey C r t _ (((g4.trans g5).trans kt).trans kr) bE #[(),al]
 .have U:cc=false:=by
   cases cc with
   |false=>rfl
   |true=>exact wC (nM.mp<|hc.mp zZ) my
  subst U;exact dP<|q1 my H2 B
theorem Hh:(dv[0]'(by decide))∈dv:=ga _
theorem IV:(dv[1]'(by decide))∈dv:=ga _
noncomputable def iv(t u:bw):bw:=eX (u.map λr=>t.getD r 0)
theorem iX:r∈eX a↔r<5/\r∈a:=by
 unfold eX;rw[cL,fm,im]
theorem Tn(h:∀r,r∈a↔r∈b):eX a=eX b:=by
 refine xg λi _=>?_;rw[kq,im,im];exact h i
theorem Ry{f:Nat->Nat}(h:r<n):((List.range n).map f).getD r 0=f r:=by
 rw[cW,bT,n9 h];rfl
theorem Oy(M:Mach H m a n){u w:bw}(b:u∈cZ n)(c:∀l∈w,l<a.length):cu (bH a) u w=iv (yH a n w) u:=by
 rw[BG M w u b c];unfold iv pW yH
 congr 1
 refine mI λr d=>?_;rw[Ry<|(bD.mp b).2 r d]
theorem Qj(M:Mach H m a n){w:bw}(b:∀l∈w,l<a.length):yH a n w∈gG n n:=by
 refine ce.mpr #[NX a n w,λr c=>?_];obtain⟨x,d,rfl⟩:=bY.mp c;exact m8 M w x (fm.mp d) b
noncomputable def dB(a:LN)(x:bw):Nat:=a.findIdx λy=>decide (y=x)
theorem j7(h:x∈a):dB a x<a.length/\a[dB a x]?=some x:=by
 have l:dB a x<a.length:=List.findIdx_lt_length_of_exists #[x,h,cK zZ];refine#[l,?_];rw[bC l];have z:decide (a[dB a x]=x)=true:=List.findIdx_getElem (w:=l);rw[ik z]
theorem CT{a:LN}{x:bw}{j:Nat}(nd:a.Nodup)(h:a[j]?=some x):dB a x=j:=by
 obtain⟨l,e⟩:=j7<|bX h;exact(iA l nd).mp<|e.trans h.symm
noncomputable def yg(a:LN)(t:bw):bw:=a.map λu=>dB a (iv t u)
noncomputable def gU(a:LN)(n:Nat):LN:=((gG n n).filter λt=>a.all λu=>a.contains (iv t u)).map (yg a)
theorem fN{x:bw}:x∈gU a n↔ ∃t∈gG n n,(∀u∈a,iv t u∈a)/\x=yg a t:=by
 unfold gU;rw[bY];constructor
 .rintro⟨t,ht,rfl⟩;obtain⟨b,c⟩:=cL.mp ht;exact#[t,b,λu d=>im.mp<|pb.mp c u d,zZ]
 .rintro⟨t,b,c,rfl⟩;exact#[t,cL.mpr #[b,pb.mpr λu d=>im.mpr<|c u d],zZ]
theorem Ir(h:n<=5):(gU a n).length<=4000:=by
 unfold gU;rw[bA];exact cz (jm _ _)<|Od h
theorem EQ{x:bw}(h:x∈gU a n):x.length=a.length/\∀r∈x,r<a.length:=by
 obtain⟨t,_,g,rfl⟩:=fN.mp h;refine#[by simp[yg],λr b=>?_];obtain⟨u,c,rfl⟩:=bY.mp b;exact(j7<|g u c).1
theorem E1(nd:a.Nodup)(d:∀u∈a,u∈cZ n):List.range a.length∈gU a n:=by
 have b:∀u∈a,iv (List.range n) u=u:=λu c=>by
  obtain⟨e,f⟩:=bD.mp<|d u c;unfold iv;have:u.map (λr=>(List.range n).getD r 0)=u.map id:=mI λr g=>by
   rw[cW,n9<|f r g];rfl
  rw[this,Dc,e]
 refine fN.mpr #[List.range n,RS n,λu c=>by rw[b u c];exact c,(nq λj=>?_)];unfold yg;rw[bT];by_cases h:j<a.length
 .rw[n9 h,bC h];show some j=some (dB a<|iv (List.range n) a[j]);rw[b _<|ga h,CT nd<|bC h]
 .rw[iJ (by simp;lia),List.getElem?_eq_none ()];rfl
theorem NG{t b u:bw}(k:n<=5)(ht:t∈gG n n)(i:u∈cZ n):iv b (iv t u)=iv (dz t b) u:=by
 obtain⟨f,j⟩:=ce.mp ht;obtain⟨_,g⟩:=bD.mp i;refine Tn λr=>?_;have e:∀x∈u,(dz t b).getD x 0=b.getD (t.getD x 0) 0:=λx a=>by
  have h:x<t.length:=by rw[f];exact g x a
  unfold dz;rw[cW,bT,bC h,cW (l:=t),bC h];rfl
 have c:∀x∈u,t.getD x 0<5:=λx a=>by
  have:=xj j (by rw[f];exact g x a);lia
 rw[bY,bY];constructor
 .rintro⟨y,d,rfl⟩;obtain⟨_,d⟩:=iX.mp d;obtain⟨x,a,rfl⟩:=bY.mp d;exact#[x,a,e x a]
 .rintro⟨x,a,rfl⟩;exact#[t.getD x 0,iX.mpr #[c x a,bY.mpr #[x,a,zZ]],(e x a).symm]
theorem Vt(h:t∈gG n n)(b:a∈gG n n):dz t a∈gG n n:=by
 obtain⟨c,d⟩:=ce.mp h;obtain⟨e,f⟩:=ce.mp b;refine ce.mpr #[by unfold dz;rw[List.length_map,c],λr g=>?_];obtain⟨x,i,rfl⟩:=bY.mp g;exact xj f (by rw[e];exact d x i)
theorem Fz{x y:bw}(g:n<=5)(h:∀u∈a,u∈cZ n)(i:x∈gU a n)(j:y∈gU a n):dz x y∈gU a n:=by
 obtain⟨t,d,f,rfl⟩:=fN.mp i;obtain⟨c,k,m,rfl⟩:=fN.mp j;have e:∀u∈a,iv (dz t c) u=iv c (iv t u):=λu b=>(NG g d<|h u b).symm;refine fN.mpr #[dz t c,Vt d k,λu b=>by rw[e u b];exact m _<|f u b,?_];show(a.map λu=>dB a<|iv t u).map (λx=>(a.map λu=>dB a<|iv c u).getD x 0)=_;rw[eM];refine mI λu b=>?_;obtain⟨l,o⟩:=j7<|f u b;show(a.map λu=>dB a<|iv c u).getD (dB a<|iv t u) 0=dB a (iv (dz t c) u);rw[cW,bT,o,e u b];rfl
theorem w9{f:LN}(M:Mach H m f n)(j:FamOf f n d)(k:LvP f d c h g):h.Nodup:=by
 have i:=t0 M j<|c.headD [];rw[<-k.tl]at i;exact i.up.imp λ{a b} z e=>by
  subst e;rw[Lm]at z;cases z
theorem L6(M:Mach H m d n)(y:FamOf d n q)(r:LvP d q c g i){k C l:Nat}{x o s t:bw}(O:c[k]?=some x)(Q:i[k]?=some o)(T:l<d.length)(U:c[C]?=some (bH d x l))(A:i[C]?=some s)(D:i9 d g o s l t):
  t∈gU g n:=by
 obtain⟨E,_⟩:=r.inU M y;have B:=(r.go k x o O Q).1;obtain⟨p,b⟩:=r.bij M y U A;have G:=t0 M y (c.headD []);rw[<-r.tl]at G;have I:∀z∈o++[l]++p,z<d.length:=λz Y=>by
  rcases cF.mp Y with h|h
  .rcases cF.mp h with h|h
   .exact B z h
   .rw[cf.mp h];exact T
  .exact b.lp z h
 have v:∀j u a,g[j]?=some u->t[j]?=some a->g[a]?=some (iv (yH d n (o++[l]++p)) u):=λj u a J f=>by
  obtain⟨L,N,f2⟩:=D.2 j u a J f;have w:=bX N;rw[<-Oy M (E u (bX J)) I,Ed,Ed];show g[a]?=some (cu (bH d) (bH d (cu (bH d) u o) l) p);rw[<-f2,b.back M (E L w) (G.mem L w).2.2];exact N
 have lj:=D.1;refine fN.mpr #[_,Qj M I,λu hu=>?_,?_]
 .obtain⟨j,f⟩:=uj hu;obtain⟨a,e⟩:∃a,t[j]?=some a:=#[_,bC (by rw[lj];exact(bN.mp f).1)];exact bX (v j u a f e)
 .refine nq λj=>?_;unfold yg;rw[bT];cases f:g[j]? with
  |none=>
   have:=List.getElem?_eq_none_iff.mp f;rw[iJ ()];rfl
  |some u=>
   have:=(bN.mp f).1;obtain⟨a,e⟩:∃a,t[j]?=some a:=#[_,bC ()];rw[e];exact cH some (CT (w9 M y r) (v j u a f e)).symm
theorem Iu{f:LN}(M:Mach H m f n)(r:FamOf f n g)(s:LvP f g c q h){B l:Nat}{y C d D i:bw}(N:c[B]?=some y)(t:h[B]?=some d)(w:i9 f q C d l D)(k:i9 f q C d l i):D=i:=by
 obtain⟨E,_⟩:=s.inU M r;obtain⟨p,b⟩:=s.bij M r N t;have x:=t0 M r<|c.headD [];rw[<-s.tl]at x;refine Ac (by rw[w.1,k.1]) λj a O G Q=>?_;obtain⟨u,I⟩:∃u,q[j]?=some u:=#[_,bC (by rw[<-w.1];exact(bN.mp G).1)];obtain⟨v,z,T⟩:=w.2 j u a I G;obtain⟨A,J,U⟩:=k.2 j u O I Q;have L:=bX z;have o:=bX J;have e:v=A:=by
  rw[<-b.back M (E v L) (x.mem v L).2.2,<-b.back M (E A o) (x.mem A o).2.2,T,U]
 subst e;exact(iA (bN.mp z).1<|w9 M r s).mp<|z.trans J.symm
theorem Np{b c i f:LN}(M:Mach H m d n)(g:FamOf d n b)(j:LvP d b c i f):0<i.length:=by
 obtain⟨_,_,l,_⟩:=fv j.cls;obtain⟨o,a⟩:=cL.mp l;have h:=t0 M g<|c.headD [];rw[<-j.tl]at h;obtain⟨_,k⟩:=bD.mp<|g.inU M o;cases e:c.headD []with
 |nil=>
  rw[e]at a;cases a
 | cons r q=>
  rw[e]at h k a;obtain⟨t,ht,_⟩:=h.all [r] ((g.mem [r]).mpr<|.inr #[r,k r<|cJ ..,zZ]) (λz=>by
   have a:=ik a;rw[<-(cH List.length z)]at a;simp at a)<|by simp[sub]
  exact C1 ht
structure Makers(ts c us wds mk:LN):Prop where
 mem:∀t∈mk,∃(k l k':Nat) (x wd wd':bw),c[k]?=some x/\wds[k]?=some wd/\l<ts.length/\c[k']?=some (bH ts x l)/\wds[k']?=some wd'/\i9 ts us wd wd' l t
 all:∀(k l:Nat) (x wd:bw),c[k]?=some x->wds[k]?=some wd->l<ts.length->bH ts x l∈c->∃(k':Nat) (wd' t:bw),t∈mk/\c[k']?=some (bH ts x l)/\wds[k']?=some wd'/\i9 ts us wd wd' l t
theorem Kw:∀{ws} {as},as.length=ws.length->(a4v ws as).map (·.1)=(ws.map (·.1)).map nk
 | [],[],_=>rfl
 |p::ws,a::as,h=>cH (nk p.1:: ·)<|Kw<|Nat.succ.inj h
noncomputable def j5(a:LN)(x:bw)(i:Nat):bw:=dz x (a.getD i [])
inductive d9(i:List V)(H:Hp)(Q:VK)(g:XK):Prop|mk:∀m a e n d c h b,i=[.ref m,.ref a]->Mach H m e n->FamOf e n d->LvH H a c h b->LvP e d c h b->(∀l j mk f,Same H f->f l=some (.lst (j.map .ref))->TupsAt f j mk->Makers e c h b mk->mk.length<=200->Q (.ref l) f)->d9 i H Q g
inductive gD(j:List V)(H:Hp)(Q:VK)(h:XK):Prop|mk:∀m a f n d c g b,j=[.ref m,.ref a]->Mach H m f n->FamOf f n d->LvH H a c g b->LvP f d c g b->Tabs H->(∀l bs i mk k e,Keeps H e->Tabs e->noT H l=none->e l=some (.lst (bs.map .ref))->TupsAt e bs i->i.Perm (k.map (·.1))->i.Pairwise (λx y=>dF x y=true)->Makers f c g b mk->Told (j5 mk) mk.length (List.range g.length) k->Q (.ref l) e)->gD j H Q h
theorem Oh(F:Fun K wJ wJ FY f fd)(jK:cn P w K mg base tX 9 [sA,sG,"k",sK] eB)(jA:mg "len"=none)(jD:mg "range"=none):FnOk P w K mg base bZ 11 f fd [sA,sG] d9:=by
 refine F.ok jR<|λam A ai s H vs Q E hr h=>?_
 obtain⟨m,a,G,n,aj,c,us,B,rfl,M,ff,lv,lp,q⟩:=h;have hu:=hr.units;refine#[_,(bK (cj (i:=2) jR.nd zZ Z'<|gw bF)<|bK (fA fi zZ (j8 zZ jD<|bG (cX eR zZ jA dW<|bG (b7 cO (pv 1) bL<|λ_ _=>rfl) bF) bF) (dG (i:=3) jR.nd zZ Z')<|bM<|fA fi zZ (j8 zZ jD<|bG (cX eR zZ jA dW<|bG (pv 0) bF) bF) (dG (i:=4) jR.nd zZ Z')<|bK (cj (i:=5) jR.nd zZ Z'<|ck jK hr.m zZ<|b8<|bB (pv 0) (bB (pv 1) (bB (pv 3) (bB (pv 4) bW zZ) zZ) zZ) zZ)<|bM<|di (eG HN (pv 5) n'<|dC _) (bM<|iR<|hO iM lW lF lJ (pv 2)<|bG (pv 5) bF) dh)<|bM<|cg<|pv 2),?_];obtain⟨s',t',v',bs,ds,cs,h1,h2,h3,h4,h5,h6,h7,h8⟩:=id lv;have t1:=M.some1;have t4:=M.few;obtain⟨rs,hm,ak,_⟩:=M.refs;have an:c.length<=32:=by
  rw[(fv lp.cls).2.1];exact cz (jm _ _)<|cz (jm _ _)<|ff.few M
 refine#[by show 0<=sizeLine;decide,λfo ab=>?_];have k0:=bP ab<|.lst []
 let Mk:Nat->Nat->List bw->Prop:=λk l g=>g.length<=4 * k+l/\(∀t∈g,∃(k l J:Nat) (x C o:bw),c[k]?=some x/\B[k]?=some C/\l<G.length/\c[J]?=some (bH G x l)/\B[J]?=some o/\i9 G us C o l t)/\
  ∀(i j:Nat) (x C:bw),(i<k\/i=k/\j<l)->c[i]?=some x->B[i]?=some C->j<G.length->bH G x j∈c->∃(J:Nat) (o t:bw),t∈g/\c[J]?=some (bH G x j)/\B[J]?=some o/\i9 G us C o j t
 let Pk:Nat->L2.St->Hp->Prop:=λk T U=>Same H U/\∃(y:As) (g:LN) (o3 Y o5:Option V),U fo=some (.lst<|y.map .ref)/\TupsAt U y g/\Mk k 0 g/\T=[some<|.ref m,some<|.ref a,some<|.ref fo,o3,Y,o5]
 refine#[_,zZ,a,_,_,_,zZ,zZ,V2<|k0 _ _ h1,zZ,s',_,zZ,.inl<|V1<|k0 _ _ h2,(c.length:Int),by rw[bA,h3.len],(),(),nS Pk #[k0,[],[],none,none,none,bE,#[zZ,λi b u e=>by simp at e],#[Nat.zero_le _,(λt ht=>nomatch ht),λi j x C aa=>by lia],zZ] (λk T H1 hk p=>?_)<|λT H1 p=>?_]
 .obtain⟨g1,y,g,o3,Y,o5,L,T1,K1,rfl⟩:=p;have ae:k<c.length:=by simpa using hk
  have zk:V.int ((0:Int)+((k:Nat):Int))=nv k:=by show V.int (0+(k:Int))=V.int (k:Int);rw[td]
  rw[zk];obtain⟨C,ew⟩:∃C,B[k]?=some C:=#[_,bC (by rw[lp.len];exact ae)];obtain⟨x,ex⟩:∃x,c[k]?=some x:=#[_,bC ae]
  let Pl:Nat->L2.St->Hp->Prop:=λl T U=>Same H U/\∃(y:As) (g:LN) (Y o5:Option V),U fo=some (.lst<|y.map .ref)/\TupsAt U y g/\Mk k l g/\T=[some<|.ref m,some<|.ref a,some<|.ref fo,some<|nv k,Y,o5]
  refine#[_,zZ,m,_,zZ,.inr<|V2<|g1 _ _ hm,(G.length:Int),by rw[bA,ak],(),(),nS Pl #[g1,y,g,_,_,L,T1,K1,zZ] (λl T H2 hl p=>?_)<|λT H2 p=>?_]
  .obtain⟨g2,y,g,Y,o5,N,T2,K2,rfl⟩:=p;have af:l<G.length:=by simpa using hl
   have zl:V.int ((0:Int)+((l:Nat):Int))=nv l:=by show V.int (0+(l:Int))=V.int (l:Int);rw[td]
   rw[zl];obtain⟨kz,km,O⟩:=K2;refine#[_,zZ,_,zZ,_,zZ,_,zZ,m,a,k,l,G,n,aj,c,us,B,x,C,zZ,M.same g2,ff,lv.same g2,lp,ex,ew,af,λmy H3 g3=>?_,λJ o ey ag tp js H3 g3 ah tb=>?_]
   .refine#[_,zZ,zZ,_,zZ,cR #[g2.trans g3,y,g,_,_,g3 _ _ N,T2.same g3,#[(),km,λi j x' r aa d v I D=>?_],zZ]];by_cases z:i=k/\j=l
    .obtain⟨rfl,rfl⟩:=z;rw[ex]at d;cases d;exact wC D my
    .exact O i j x' r () d v I D
   .refine#[_,zZ,zZ,_,zZ,dP ?_];have e3:=g3 _ _ N;have lq:=T2.len;refine#[_,zZ,.inl #[zZ,_,V1 e3],_,zZ,fo,_,_,zZ,zZ,e3,by rw[bA,cq];lia,?_];refine#[gh (g2.trans g3) ab,y++[tp],g++[js],_,_,by rw[bE,c7];rfl,Bn #[lq,λi b u L N=>?_] ?_,#[by rw[cC,qb];lia,λt ht=>?_,λi j x' r aa d v I D=>?_],zZ]
    .have z:=(T2.same g3).is i b u L N;rw[bI<|nE z e3];exact z
    .rw[bI<|nE ah e3];exact ah
    .rcases cF.mp ht with z|z
     .exact km t z
     .rw[cf.mp z];exact#[k,l,J,x,C,o,ex,ew,af,ey,ag,tb]
    .by_cases z:i=k/\j=l
     .obtain⟨rfl,rfl⟩:=z;rw[ex]at d;cases d;rw[ew]at v;cases v;exact#[J,o,js,cF.mpr<|.inr<|cf.mpr zZ,ey,ag,tb]
     .obtain⟨k2,al,t,r1,r2⟩:=O i j x' r () d v I D;exact#[k2,al,t,cF.mpr<|.inl r1,r2]
  .obtain⟨g2,y,g,Y,o5,N,T2,⟨kz,km,O⟩,rfl⟩:=p;have el:(G.length:Int).toNat=G.length:=hY _;rw[el]at kz O;exact#[g2,y,g,_,_,_,N,T2,#[(),km,λi j x' r aa d v I D=>O i j x' r () d v I D],zZ]
 .obtain⟨g1,y,g,o3,Y,o5,L,T1,⟨kz,km,O⟩,rfl⟩:=p;have el:(c.length:Int).toNat=c.length:=hY _;rw[el]at kz O;exact#[_,zZ,q fo y g H1 g1 L T1 #[km,λk l x C L N e3 e4=>O k l x C (.inl (bN.mp L).1) L N e3 e4] ()]
theorem Ml{I c G B:Ad}{f:Expr}(e:gK oU=[s0,.Return (some (.Call sx [.Call fx [a1,a2,.Lambda a f d lp] kw cp] M N)) rp])(jM:cn P w K mg base wI 1 [tT,sY] cY) (O:z G=some (.lst (J.map .ref))) (Tm:TupsAt z J i) (mU:∀t∈i,t∈gU C n) (few:C.length<=32) (h1:z I=some (hX I (fJ sH a f d wW c pm (.ref B) L))) (h2:z c=some (eY c G oc)) (h3:z B=some (j4 B sH)):
  FnOk P w K mg base bZ 5 I (fJ sH a f d wW c pm (.ref B) L) [tR,"number"] (de (Same z) (gU C n) i.length (j5 i))/\Binds K (fJ sH a f d wW c pm (.ref B) L) [tR,"number"] []:=by
 cases e;refine#[EI (m:=G) (oc:=oc) #[zZ,zZ,zZ,by decide+kernel,by decide+kernel,zZ,by decide+kernel] (λvs H Q E h=>?_) (λvs H Q E h=>?_) (λA T s H vs Q E hr h=>?_),.all λC O=>match C,O with| [_,_],_=>rfl]
 .obtain⟨t,x,l,rfl,_⟩:=h;rfl
 .obtain⟨t,x,l,rfl,g,_⟩:=h;exact#[g _ _ h1,g _ _ h2,g _ _ h3]
 .obtain⟨t,x,l,rfl,g,ht,hx,U,q⟩:=h;refine#[_,(ck jM hr.m zZ (b8 (bB (pv 0) (bB (b7 dD (pv 2) (pv 1) (λ_ _=>rfl)) bW zZ) zZ))),?_];have hc:=g _ _ h2;have off:∀{b} {u},(∀φ,u≠ .ext φ)->H b=some u->(drop H c) b=some u:=λnu hb=>by
   rw[dm (j6 hb hc λe=>nu _ e)];exact hb
  have ln:=Tm.len;obtain⟨r,er⟩:∃r,J[l]?=some r:=#[_,bC ()];have et:i[l]?=some (i.getD l []):=by rw[cW,bC U];rfl
  have mt:=mU _ (bX et);obtain⟨x1,x2⟩:=EQ hx;obtain⟨y1,y2⟩:=EQ mt;refine#[_,zZ,_,zZ,_,zZ,G,_,_,_,zZ,zZ,V1 (off (λ_ e=>nomatch e) (g _ _ O)),fE (by rw[bT,er];rfl),t,r,x,i.getD l [],zZ,off (λ_ e=>nomatch e) ht,(off (u:= .tup _) (λ_ e=>nomatch e) (g _ _ (Tm.is l r _ er et))),λy D=>by rw[y1];exact x2 y D,(),λp H3 g3 e3 free=>q p _ (λy o ho=>?_) ?_]
  .by_cases D:y=c
   .subst D;rw[hc]at ho;cases ho;exact bE
   .rw[bI D];exact g3 _ _ (by rw[dm D];exact ho)
  .rw[bI (cQ e3 free)];exact e3
theorem Oi{cd T:Ad}(F:DefAt K sW oU f fd .none (.ref cd))(hC:W.CodeHd base cd T)(bm:pi mg base)(hq:((sH:Str),(#[152,61,152,110]:Pos),T)∈dv)(kN:cn P w K mg base wJ 11 [sA,sG] d9)(jV:cn P w K mg base wY 1 [sB] dL)(jM:cn P w K mg base wI 1 [tT,sY] cY)(kE:Bh P w K mg base tL 8 ["start",xS,wG,wT] (cA P w K mg base) [.non]) (jA:mg "len"=none) (kY:mg "sorted"=none):FnOk P w K mg base bZ 13 f fd [sA,sG] gD:=by
 refine F.fnOk uJ (λvs H Q E h=>?_)<|λA an s H vs Q E h hr=>?_
 .obtain⟨m,a,ts,n,af,c,us,ag,rfl,_⟩:=h;rfl
 obtain⟨m,a,ts,n,af,c,us,ag,rfl,M,ff,lv,lp,hT,q⟩:=h;refine#[_,?_,(bK (cj (i:=2) uJ.nd zZ Z0<|ck kN hr.m zZ<|b8<|bB (pv 0) (bB (pv 1) bW zZ) zZ)<|bM<|cg<|cX (SY zZ) zZ kY boot_sorted<|bG (Fy kE hr.m zZ (j:=2) zZ zZ zZ zZ<|b8<|bB (ck jV hr.m zZ<|bG (cX eR zZ jA dW<|bG (b7 cO (pv 1) bL<|λ_ _=>rfl) bF) bF) (bB (cX eR zZ jA dW<|bG (pv 2) bF) (bB (E2 (qual:=sH) zZ hC bm (λ_ _ _ _ _=>rfl) zZ zZ) bW zZ) zZ) zZ) bF)];refine#[_,zZ,_,zZ,m,a,ts,n,af,c,us,ag,zZ,M,ff,lv,lp,λlm rs mk H1 g1 ao Tm Mk am=>?_];obtain⟨s',t',v',bs,ds,cs,h1,h2,h3,h4,h5,_⟩:=id<|lv.same g1;obtain⟨uU,few⟩:=lp.inU M ff;have n5:=M.n5;have nd:=w9 M ff lp;have mU:∀t∈mk,t∈gU us n:=λt ht=>by
  obtain⟨k,l,k',x,wd,aq,e1,e2,e3,e4,e5,e6⟩:=Mk.mem t ht;exact L6 M ff lp e1 e2 e3 e4 e5 e6
 refine#[_,zZ,a,_,_,_,zZ,zZ,V2 h1,zZ,t',_,zZ,.inl<|V1 h4,?_]
 try dsimp only
 rw[bA,h5.len];refine#[us.length,zZ,(),λst H2 g2 e2=>?_];have L:=g2 _ _ ao;have ab:=Tm.same g2;have T2:=(hT.same g1).same g2;refine#[_,zZ,lm,_,zZ,.inl<|V1 L,?_]
 try dsimp only
 rw[bA,ab.len];have ah:∀(B:Hp) (D:Ad) (ws:TW) (as:As),Keeps H B->Tabs B->WordsAt B D ws as->Told (j5 mk) mk.length (List.range us.length) ws->iP [.ref D] B Q:=λB D ws as k3 t3 W TT=>by
  have inG:∀p∈ws,p.1∈gU us n:=λp hp=>by
   obtain⟨r1,r2⟩:=TT.run p hp;rw[<-r2];refine wr (E1 nd uU) (λx hx l hl=>Fz n5 uU hx ?_) p.2 r1;rw[cW,bC hl];exact mU _ (ga hl)
  refine#[D,_,ws.map (·.1),zZ,W.dict,?_,λt ht e=>?_,?_,λl bs gs hl Tb pm up=>?_]
  .exact Kw W.len
  .obtain⟨p,hp,rfl⟩:=bY.mp ht;have z:=(EQ (inG p hp)).1;rw[e]at z;have:=Np M ff lp
   simp at z;lia
  .refine cz (m9 (U:=gU us n) TT.keys λx hx=>?_) (Ir n5);obtain⟨p,hp,rfl⟩:=bY.mp hx;exact inG p hp
  .have gl:=bP hl (.lst (bs.map V.ref));refine q l bs gs mk ws _ (k3.trans gl.keeps) (t3.same gl) ?_ bE (Tb.same gl) pm up Mk TT;cases y:noT H l with
   |none=>rfl
   |some o=>
    have z:=k3 _ _ y;rw[hl]at z;cases z
 have go:∀(N G:Ad) (ct:Vl) (B:Hp) (ai:AV),H2 T=some (.tbl ai)->KeepsBut T H2 B->B T=some (.tbl (kg (#[152,61,152,110]:Pos) G))->B G=some (j4 G sH)->∀(d:Arguments) (C:Expr) (g:Scope) (pm:Vl) (I:Ad),B N=some (hX N (fJ sH d C g wW I pm (.ref G) ct))->
   ∀O,B I=none->(FnOk P w K mg base bZ 5 N (fJ sH d C g wW I pm (.ref G) ct) [tR,"number"] (de (Same (bx B I (eY I lm O))) (gU us n) mk.length (j5 mk)))->Binds K (fJ sH d C g wW I pm (.ref G) ct) [tR,"number"] []->
   cA P w K mg base [.ref st,nv mk.length,.ref N,.non] (bx B I (eY I lm O)) (λr H4=>H4 I=some (eY I lm O)/\iP [r] (drop H4 I) Q) E0:=λN G ct B ai aj kb h1 h2 d C g pm I h3 O Y hF hB=>by
  have J:=kb.keeps aj;have v:=bP Y (eY I lm O);refine#[st,N,_,_,List.range us.length,mk.length,gU us n,j5 mk,zZ,v _ _ (J _ _ (nU e2)),v _ _ h3,E1 nd uU,λx hx l hl=>Fz n5 uU hx ?_,Ir n5,(),hF,hB,λD ws as H4 g4 W nw TT=>#[g4 _ _ bE,ah _ D ws as (λb o hb=>?_) (T2.but hq aj (λb o nb hb=>?_) (.inr #[G,?_,?_])) #[W.len,?_,λj a r e1 e2=>?_] TT]]
  .rw[cW,bC hl];exact mU _ (ga hl)
  .have z:=((g1.trans g2).keeps.trans J) b o hb;rw[dm (cQ z Y)];exact g4 _ _ (v _ _ z)
  .have z:=kb b o nb hb;rw[dm (cQ z Y)];exact g4 _ _ (v _ _ z)
  .rw[dm (cQ h1 Y)];exact g4 _ _ (v _ _ h1)
  .rw[dm (cQ h2 Y)];exact g4 _ _ (v _ _ h2)
  .rw[dm (nE W.dict (g4 _ _ bE))];exact W.dict
  .have z:=W.list j a r e1 e2;rw[dm (nE z (g4 _ _ bE))];exact z
 rcases T2 _ hq with u|⟨G,u,aa⟩
 .refine .inl #[u,λN G ct ae aa ne=>#[lm,zZ,λO Y=>?_]];obtain⟨J,ap,ak⟩:=IE (#[152,61,152,110]:Pos) sH u ae aa ne _;have v:=bP Y (eY (s.heap.objs.size+1) lm O);have al:=J.keeps u;obtain⟨F1,F2⟩:=Ml zZ jM (v _ _ (al _ _ (nU L))) ((qW ab al).same v) mU few (v _ _ bE) bE (v _ _ ak);exact go N G ct _ _ u J ap ak _ _ _ _ _ bE O Y F1 F2
 .refine .inr #[G,u,aa,λN ct ae=>#[lm,zZ,λO Y=>?_]];have J:=λlo=>bP ae lo;have v:=bP Y (eY (s.heap.objs.size+1) lm O);obtain⟨F1,F2⟩:=Ml zZ jM (v _ _ (J _ _ _ L)) ((ab.same (J _)).same v) mU few (v _ _ bE) bE (v _ _ (J _ _ _ aa));exact go N G ct _ _ u (λb o _ hb=>J _ _ _ hb) (J _ _ _ u) (J _ _ _ aa) _ _ _ _ _ bE O Y F1 F2
theorem Qe{a told:gW}(o:Ord d a told):(∀c∈told,c∈a)/\told.Nodup:=by
 induction o with
 |nil=>exact#[λ_ h=>h,List.nodup_nil]
 | @cons a told s h r f=>
  obtain⟨b,g⟩:=f;refine#[λc i=>?_,lQ.mpr #[λm=>?_,g]]
  .rcases db.mp i with e|e
   .rw[e];exact(cL.mp<|List.mem_of_head? h).1
   .exact(cL.mp<|b c e).1
  .have:=ik (cL.mp<|b s m).2;exact this rfl
theorem HG{a told:gW}(o:Ord b a told):∀c∈a,c∈told:=by
 induction o with
 |nil=>exact λ_ h=>h
 | @cons a told s h r d=>
  intro c f;by_cases e:c=s
  .rw[e];exact cJ ..
  .exact dS _<|d c<|cL.mpr #[f,cK e]
theorem OQ(g:FamOf b n a):(cb b (big a)).Pairwise λc d=>gt gl (c.headD []) (d.headD [])=true:=by
 unfold cb;rw[yI];refine Ho ?_<|pD (vU.trans vU) g.up;intro x y i j h;have f:∀z,z∈(big a).filter (λx=>(cr b (big a) x).head? ==some x)->(cr b (big a) z).headD []=z:=λz k=>by
  rw[List.headD_eq_head?_getD,(eq_of_beq (cL.mp k).2)];rfl
 rw[f x i,f y j];exact h
theorem C7(M:Mach H m ts n){x y:bw}(a:x∈cZ n)(h:dN ts x y=true):y.length<=x.length:=by
 obtain⟨word,hw,rfl⟩:=bO.mp h;have z:=xo (GQ<|nG M a hw) λr b=>by
  obtain⟨c,d,e⟩:=(mN M a hw).mp b;exact bY.mpr #[c,d,e]
 rw[bA]at z;exact z
theorem QB(h:gt gl x y=true):y.length<=x.length:=by
 unfold gt wj gl at h;split at h
 .lia
 .have:=ik h;lia
theorem Pc(h:gt gl x y=true)(e:x.length=y.length):dF y x=false:=by
 cases z:dF y x with
 |false=>rfl
 | true=>
  have b:gt gl y x=true:=by
   unfold gt wj gl;rw[wB<|by rw[e]];exact z
  have a:=(oy gl [x,y]).trans _ _ _ h b;rw[(oy gl [x,y]).irr]at a;cases a
theorem MP{b:Type}{R:b->b->Prop}{a:List b}{s d:b}(up:a.Pairwise R)(h:a.head?=some s)(c:d∈a):d=s\/R s d:=by
 cases a with
 |nil=>cases h
 |cons x a=>
  injection h with h
  subst h
  rcases db.mp c with e|e
  .exact .inl e
  .exact .inr<|(yo.mp up).1 d e
structure Due(ts:LN)(rest:gW)(c:LN):Prop where
 most:∀d∈rest,(d.headD []).length<=(c.headD []).length
 free:∀d∈rest,d≠c->dN ts (d.headD []) (c.headD [])=false
 first:∀d∈rest,(d.headD []).length=(c.headD []).length->(∀e∈rest,e≠d->(e.headD []).length=(d.headD []).length->dN ts (e.headD []) (d.headD [])=false)->dF (d.headD []) (c.headD [])=false
theorem TF(un:xa i g)(up:g.Pairwise λc d=>gt gl (c.headD []) (d.headD [])=true)(w:∀c∈g,∀d∈g,dN i (c.headD []) (d.headD [])=true->(d.headD []).length<=(c.headD []).length)(h:(g.filter λc=> !cD i g c).head?=some s):Due i g s:=by
 obtain⟨E,fs⟩:=cL.mp (List.mem_of_head? h);have free:∀{c:LN},c∈g->(∀e∈g,e≠c->dN i (e.headD []) (c.headD [])=false)->c∈g.filter λc=> !cD i g c:=λ{c} A f=>by
  refine cL.mpr #[A,?_];rw[Bool.not_eq_true',cD,DP];intro e j;by_cases z:e=c
  .rw[eU (λk=>k z),Et];decide
  .rw[f e j z,Bool.and_false];decide
 have o:=pD (vU (p:=λc=> !cD i g c)) up;have most:∀d∈g,(d.headD []).length<=(s.headD []).length:=λd n=>by
  by_cases lt:(d.headD []).length<=(s.headD []).length
  .exact lt
  obtain⟨t,ht,x⟩:=G3 (ts:=i) (cs:=g.filter λe=>decide ((d.headD []).length<=(e.headD []).length)) (λa B b C=>un a (cL.mp B).1 b (cL.mp C).1) _ d (cL.mpr #[n,cK (bR _)]) (bR _);obtain⟨y,u⟩:=cL.mp ht;have v:=free y λe j q=>by
   cases r:dN i (e.headD []) (t.headD [])with
   |false=>rfl
   |true=>
    have l:=w e j t y r;have m:e∈g.filter λe=>decide ((d.headD []).length<=(e.headD []).length):=cL.mpr #[j,cK ()]
    rw[cD,DP]at x;exact wC (by rw[cK q,r];rfl) (x e m)
  rcases MP o h v with z|z
  .rw[<-z];exact (ik u)
  .have:=QB z;lia
 refine#[most,λd n q=>?_,λd n D f=>?_]
 .rw[Bool.not_eq_true',cD,DP]at fs;have z:=fs d n;rw[cK q,zS]at z;exact pK.mpr z
 .have fd:d∈g.filter λc=> !cD i g c:=free n λe j q=>by
   cases r:dN i (e.headD []) (d.headD [])with
   |false=>rfl
   |true=>
    have l:=w e j d n r;have G:=most e j;have z:=f e j q ();rw[r]at z;cases z
  rcases MP o h fd with z|z
  .rw[z];exact pz _
  .exact Pc z D.symm
theorem N1{g told:gW}(o:Ord j g told)(un:xa j g)(up:g.Pairwise λc d=>gt gl (c.headD []) (d.headD [])=true)(n:∀c∈g,∀d∈g,dN j (c.headD []) (d.headD [])=true->(d.headD []).length<=(c.headD []).length):∀(k:Nat) (c:LN),told[k]?=some c->Due j (told.drop k) c:=by
 induction o with
 |nil=>exact λk c e=>by simp at e
 | @cons g told s h r p=>
  intro k c e;cases k with
  |zero=>
   injection e with e
   subst e;have d:=TF un up n h;have mem:∀d,d∈s::told↔d∈g:=λd=>#[(Qe (Ord.cons h r)).1 d,HG (Ord.cons h r) d]
   rw[Ai];exact#[λx i=>d.most x ((mem x).mp i),λx i=>d.free x ((mem x).mp i),λx i q f=>d.first x ((mem x).mp i) q λe t=>f e ((mem e).mpr t)]
  |succ k=>
   have u:told[k]?=some c:=by simpa using e
   rw[List.drop_succ_cons];exact p (λa l b m=>un a (cL.mp l).1 b (cL.mp m).1) (pD vU up) (λa l b m=>n a (cL.mp l).1 b (cL.mp m).1) k c u
theorem JT(M:Mach H m ts n)(a:FamOf ts n d){c:LN}(b:c∈cb ts (big d)){x:bw}(e:x∈c):x.length=(c.headD []).length:=by
 obtain⟨_,_,f,call⟩:=fv b;obtain⟨g,h,i⟩:=call x e;have j:=C7 M (a.inU M (cL.mp f).1)<|bO.mpr h;have k:=C7 M (a.inU M (cL.mp g).1)<|bO.mpr i;lia
theorem OW{x t:bw}(c:x∈cZ n)(ht:t∈cZ n)(s:sub t x=true)(d:t≠x):t.length<x.length:=by
 have f:∃r∈x,r∉t:=by
  apply AZ;intro no;refine d<|KJ ht c s<|bU.mpr λr a=>?_;apply AZ;exact λz=>no #[r,a,z]
 obtain⟨r,a,g⟩:=f;have z:=xo (GQ ht) λy b=>(B0 λ(e:y=r)=>g<|e▸b).mpr<|bU.mp s y b;rw[GI a]at z;have:=C1 a;lia
theorem KN{x:bw}(i:x∈big d):∃c∈cb ts (big d),x∈c:=by
 have self:=GD (ts:=ts) i;cases e:cr ts (big d) x with
 |nil=>rw[e]at self;cases self
 | cons y rest=>
  have j:y∈cr ts (big d) x:=by rw[e];exact cJ ..
  obtain⟨k,f⟩:=cL.mp j;rw[mO]at f;have g:=bO.mp f.1;have h:=bO.mp f.2;have same:cr ts (big d) y=cr ts (big d) x:=by
   refine xg λz _=>?_;rw[kq,mO,mO,bO,bO,bO,bO];exact#[λ⟨a,b⟩=>#[g.trans a,b.trans h],λ⟨a,b⟩=>#[h.trans a,b.trans g]]
  refine#[cr ts (big d) y,bY.mpr #[y,cL.mpr #[k,?_],zZ],by rw[same];exact self];rw[same,e];simp
theorem Q7(M:Mach H m e n)(b:FamOf e n a)(f:LvP e a c j d){k:Nat}{x l:bw}(o:c[k]?=some x)(p:d[k]?=some l)(y):y∈(j.map λu=>cu (bH e) u l)↔y∈gO a x:=by
 obtain⟨w,h⟩:=f.bij M b o p;obtain⟨_,_,q,call⟩:=fv f.cls;have s:=b.inU M (cL.mp (call x<|bX o).1).1;constructor
 .intro g;obtain⟨u,i,rfl⟩:=bY.mp g;exact yV M b (b.inU M (cL.mp q).1) h (by rw[<-f.tl];exact i)
 .intro g;have z:=yV M b s h.symm g;rw[<-f.tl]at z;obtain⟨t,A,v,_⟩:=(oD M b).mp g;exact bY.mpr #[_,z,h.symm.back M (b.inU M t) v]
theorem UO{s c f t:LN}(M:Mach H m d n)(y:FamOf d n s)(J:LvP d s c f t){k k' l:Nat}{x q A:bw}(ex:c[k]?=some x)(ew:t[k]?=some q)(ll:l<d.length)(ey:c[k']?=some (bH d x l))(L:i9 d f q A l o):o.Perm (List.range f.length):=by
 obtain⟨_,_,cx,call⟩:=fv J.cls;obtain⟨p,E⟩:=J.bij M y ex ew;obtain⟨xb,N,aa⟩:=call x (bX ex);obtain⟨yb,ae,O⟩:=call _ (bX ey);have fU:=y.inU M (cL.mp cx).1;obtain⟨p2,b2⟩:=IQ M (w:=[l]) (y.inU M (cL.mp xb).1) (λz hz=>by rw[cf.mp hz];exact ll) zZ (O.trans N);have Q:=t0 M y (c.headD []);rw[<-J.tl]at Q;have T:f.Nodup:=Q.up.imp λ{a b} z e=>by
  subst e;rw[Lm]at z;cases z
 obtain⟨lj,L⟩:=L;have back:∀u∈f,cu (bH d) (cu (bH d) (bH d (cu (bH d) u q) l) p2) p=u:=λu hu=>by
  obtain⟨h1,h2,h3⟩:=Q.mem u hu;have U:=y.inU M h1;have s1:sub (cu (bH d) u q) x=true:=by
   have z:=Bs M U fU E.lw h3;rw[E.to]at z;exact z
  have z:cu (bH d) (bH d (cu (bH d) u q) l) p2=cu (bH d) u q:=b2.back M (nG M U E.lw) s1;rw[z];exact E.back M U h3
 have r:∀i,i<o.length->∃u g,f[i]?=some u/\o[i]?=some g/\g<f.length/\∃B,f[g]?=some B/\cu (bH d) B A=bH d (cu (bH d) u q) l:=λi G=>by
  obtain⟨u,C⟩:∃u,f[i]?=some u:=#[_,bC ()];obtain⟨g,D⟩:∃g,o[i]?=some g:=#[_,bC G];obtain⟨B,I,Y⟩:=L i u g C D;exact#[u,g,C,D,(bN.mp I).1,B,I,Y]
 have nd:o.Nodup:=by
  rw[ES,oV];intro i j G hj ij e;obtain⟨u,a,C,ea,_,B,I,Y⟩:=r i G;obtain⟨v,b,ev,eb,_,v',g1,g2⟩:=r j hj;rw[bC G]at ea;rw[bC hj]at eb;have ab:a=b:=by
   have z2:=ge eb;rw[<-(ge ea),<-z2];exact e
  subst ab;rw[I]at g1;cases g1;have uv:u=v:=by rw[<-back u (bX C),<-back v (bX ev),<-Y,<-g2]
  subst uv;have:=(iA () T).mp (C.trans ev.symm);lia
 have sb:∀a∈o,a<f.length:=λa ha=>by
  obtain⟨i,ei⟩:=fM.mp ha;obtain⟨_,g,_,D,lt,_⟩:=r i (bN.mp ei).1;rw[ei]at D;cases D;exact lt
 refine(List.perm_ext_iff_of_nodup nd List.nodup_range).mpr λa=>#[λh=>fm.mpr (sb a h),λh=>?_];by_cases z:a∈o
 .exact z
 .have le:=xo nd λb hb=>(B0 λ(e:b=a)=>z (by rw[<-e];exact hb)).mpr (fm.mpr (sb b hb));rw[GI h,mw]at le;have:=fm.mp h;lia
theorem LvH.keeps{c f d:LN}(h:LvH H a c f d)(g:Keeps H e):LvH e a c f d:=by
 obtain⟨s,t,v,bs,ds,i,j,l,m,n,o,p,q,r⟩:=h;exact#[s,t,v,bs,ds,i,g _ _<|nU j,g _ _<|nU l,qW m g,g _ _<|nU n,qW o g,g _ _<|nU p,q,λk b u w x=>g _ _<|nU<|r k b u w x]
theorem IR{H c:Hp}(g:Keeps H c)(n:noT H l=none):Keeps H (bx c l o):=λb u a=>by
 rw[bI (λz=>by rw[z,n]at a;cases a)];exact g b u a
inductive Gen (S:bw->Prop) (N:Nat):bw->Prop
 |base:Gen S N (List.range N)
 |step {x m:bw}:Gen S N x->S m->Gen S N (dz x m)
theorem RZ:∀v x,(∀i∈v,i<a.length)->Gen (· ∈a) N x->Gen (· ∈a) N (cu (j5 a) x v):=by
 intro v
 induction v with
 |nil=>exact λx _ h=>h
 |cons i v d=>
  intro x b h;have c:=b i<|cJ ..;refine d (j5 a x i) (λl e=>b l<|dS _ e) ?_;show Gen _ _<|dz x<|a.getD i [];rw[cW,bC c];exact .step h<|ga c
theorem Uo(T:Told (j5 a) a.length (List.range N) e)(t):t∈e.map (·.1)↔Gen (· ∈a) N t:=by
 constructor
 .intro h;obtain⟨p,b,rfl⟩:=bY.mp h;obtain⟨c,d⟩:=T.run p b;rw[<-d];exact RZ p.2 _ c .base
 .intro h
  induction h with
  |base=>exact bY.mpr #[_,bX T.head,zZ]
  | @step x m _ j k=>
   obtain⟨i,f⟩:=uj j;obtain⟨p,b,rfl⟩:=bY.mp k;obtain⟨c,d⟩:=T.run p b;obtain⟨u,g,_⟩:=T.least _ (p.2++[i]) zZ λx n=>(cF.mp n).elim (c x) λz=>by rw[cf.mp z];exact ((bN.mp f).1)
   have o:cu (j5 a) (List.range N) (p.2++[i])=dz p.1 m:=by
    have q:j5 a p.1 i=dz p.1 m:=by
     show dz _ (a.getD i [])=_;rw[cW,f];rfl
    rw[<-q,<-d];unfold cu;rw[oJ];rfl
   rw[o]at g;exact bY.mpr #[_,g,zZ]
theorem O8(h:∀t,S t↔a t)(t):Gen S N t↔Gen a N t:=by
 rw[(funext λt=>propext<|h t)]
def uw(d c g a:LN)(t:bw):Prop:=∃(k l e:Nat) (x f b:bw),c[k]?=some x/\a[k]?=some f/\l<d.length/\c[e]?=some (bH d x l)/\a[e]?=some b/\i9 d g f b l t
theorem Q5{d c f a g:LN}(M:Mach H m b n)(h:FamOf b n d)(i:LvP b d c f a)(Mk:Makers b c f a g)(t:bw):t∈g↔uw b c f a t:=by
 refine#[Mk.mem t,?_];rintro⟨k,l,C,x,p,q,r,s,u,e,j,v⟩;obtain⟨D,w,E,y,z,o,A⟩:=Mk.all k l x p r s u<|bX e;have B:=(iA (bN.mp e).1<|i.nd h).mp<|e.trans z.symm;subst B;rw[j]at o;cases o;rw[Iu M h i e j v A];exact y
theorem QX(h:∀r∈x,r<N):dz x (List.range N)=x:=by
 unfold dz;have:x.map (λr=>(List.range N).getD r 0)=x.map id:=mI λr a=>by
  rw[cW,n9<|h r a];rfl
 rw[this,Dc]
theorem Q1(h:t.length=N):dz (List.range N) t=t:=by
 subst h;refine nq λj=>?_;unfold dz;rw[bT];by_cases z:j<t.length
 .rw[n9 z,bC z];show some (t.getD j 0)=_;rw[cW,bC z];rfl
 .rw[iJ (by simp;lia),List.getElem?_eq_none ()];rfl
theorem Bb{t:bw}(h:t.Perm (List.range N)):t.length=N/\∀r∈t,r<N:=#[by rw[h.length_eq,mw],λr a=>fm.mp<|h.mem_iff.mp a]
theorem U4(a:∀m,S m->m.Perm (List.range N))(h:Gen S N t):t.Perm (List.range N):=by
 induction h with
 |base=>exact List.Perm.refl _
 | @step x m _ b c=>
  exact (c.map λr=>m.getD r 0).trans<|(List.Perm.of_eq<|Q1 (Bb<|a m b).1).trans<|a m b
theorem M9:∀n k g,g.Perm (List.range' k n)->gq g (List.range' k n)=none\/gq g (List.range' k n)=some false
 |0,k,g,h=>by
  rw[h.eq_nil];exact .inl rfl
 |n+1,k,[],h=>wC h.length_eq<|by simp
 | n+1,k,a::g,h=>by
  rw[List.range'_succ]at h|-;show(if a=k then gq g (List.range' (k+1) n)else some<|decide<|a<k)=none\/(if a=k then gq g (List.range' (k+1) n)else some<|decide<|a<k)=some false;by_cases e:a=k
  .subst e;rw[wB zZ];exact M9 n (a+1) g<|List.perm_cons a |>.mp h
  .rw[wA e];refine .inr<|cH some<|eU ?_
   rcases db.mp (h.mem_iff.mp<|cJ ..) with z|z
   .exact wC z e
   .have:=(List.mem_range'_1.mp z).1;lia
theorem Ti{a:LN}(pm:∀t∈a,t.Perm (List.range N))(up:a.Pairwise λx y=>dF x y=true)(h:List.range N∈a):a[0]?=some (List.range N):=by
 cases a with
 |nil=>cases h
 | cons g a=>
  rcases db.mp h with e|e
  .rw[e];rfl
  .have z:=(yo.mp up).1 _ e;have p:=pm g<|cJ ..;rw[List.range_eq_range']at p z;have b:=p.length_eq;unfold dF at z
   rcases M9 N 0 g p with y|y
   .rw[y]at z;have:=ik z;lia
   .rw[y]at z;cases z
theorem Hl:∀{a:TW},(a.map (·.1)).Nodup->(x,u)∈a->(x,v)∈a->u=v
 | [],_,h,_=>nomatch h
 | p::a,nd,d,b=>by
  obtain⟨c,e⟩:=lQ.mp nd
  rcases db.mp d with e1|e1
  .rcases db.mp b with e2|e2
   .rw[<-e1]at e2;injection e2 with _ e2
    exact e2.symm
   .exact wC (bY.mpr #[_,e2,by rw[<-e1]]) c
  .rcases db.mp b with e2|e2
   .exact wC (bY.mpr #[_,e1,by rw[<-e2]]) c
   .exact Hl e e1 e2
def Wds(b c a:LN):Prop:=a.length=c.length/\∃d,Told (bH b) b.length (c.headD []) d/\∀(k:Nat) (x e:bw),c[k]?=some x->a[k]?=some e->(x,e)∈d
theorem Wds.uniq(h:Wds i c e)(n:Wds i c d):e=d:=by
 obtain⟨r,s,T,a⟩:=h;obtain⟨t,o,p,b⟩:=n;cases T.uniq p;refine nq λk=>?_;by_cases q:k<c.length
 .obtain⟨g,j⟩:∃g,e[k]?=some g:=#[_,bC ()];obtain⟨f,l⟩:∃f,d[k]?=some f:=#[_,bC ()];have m:=bC q;rw[j,l,Hl T.keys (a k _ g m j)<|b k _ f m l]
 .rw[iJ (),iJ ()]
theorem Ord.uniq{c told a:gW}(h:Ord b c told)(d:Ord b c a):told=a:=by
 induction h generalizing a with
 |nil=>
  cases d with
  |nil=>rfl
  |cons h r=>cases h
 | cons h r f=>
  cases d with
  |nil=>cases h
  |cons e g=>
   rw[h]at e;cases e;rw[f g]
theorem Pz{d c:LN}(i:FamOf g n d)(h:c∈cb g (big d)):c.Nodup:=by
 have f:d.Nodup:=i.up.imp λ{a b} z e=>by
  subst e;rw[(oy gl d).irr]at z;cases z
 rw[(fv h).2.1];exact(f.filter _).filter _
theorem LevAt.lvw(h:LevAt H l p d (big d) E a c)(G:c∈cb p (big d)):∃e,LvH H a c (gO d (c.headD [])) e/\LvP p d c (gO d (c.headD [])) e/\Wds p c e:=by
 obtain⟨s,t,v,bs,I,u,i,y,J,h2,h3,h4,h5,L,M,N,O,w,Q,T,U,g,Y,z⟩:=h;obtain⟨e,A,B⟩:=FG (P:=λk f=>∃x b,c[k]?=some x/\u[k]?=some b/\(x,f)∈y.2.1/\H b=some (.lst<|f.map nv)) λk hk=>by
  obtain⟨x,C⟩:∃x,c[k]?=some x:=#[_,bC hk];obtain⟨b,D⟩:∃b,u[k]?=some b:=#[_,bC ()];obtain⟨f,q,r⟩:=z k x b C D;exact#[f,x,b,C,D,q,r]
 have j:∀k x f,c[k]?=some x->e[k]?=some f->(x,f)∈y.2.1:=λk x f m o=>by
  obtain⟨x',b',q,_,z3,_⟩:=B k f o;rw[m]at q;cases q;exact z3
 refine#[e,#[s,t,v,bs,I,u,J,L,M,N,O,w,(),λk b f m o=>?_],#[G,zZ,A,λk x f m o=>g.run _<|j k x f m o],A,y.2.1,g,j];obtain⟨x',b',_,r,_,z4⟩:=B k f o;rw[m]at r;cases r;exact z4
def qh(d c e a:LN):Prop:=∀(k l f:Nat) (x g b t:bw),c[k]?=some x->a[k]?=some g->l<d.length->c[f]?=some (bH d x l)->a[f]?=some b->i9 d e g b l t->t=List.range e.length
theorem Su(M:Mach H m d n)(u:FamOf d n e)(v:LvP d e c g a)(Mk:Makers d c g a s):(∀t∈s,t=List.range g.length)↔qh d c g a:=by
 constructor
 .intro h k l w x j f t o p q b i r;obtain⟨G,z,A,B,C,y,D⟩:=Mk.all k l x j o p q<|bX b;have E:=(iA (bN.mp b).1<|v.nd u).mp<|b.trans C.symm;subst E;rw[i]at y;cases y;rw[Iu M u v b i r D];exact h A B
 .intro h t ht;obtain⟨k,l,w,x,j,f,o,p,q,b,i,r⟩:=Mk.mem t ht;exact h k l w x j f t o p q b i r
theorem Ms(h:t.length=N):dz (List.range N) t=t:=by
 subst h;refine nq λj=>?_;unfold dz;rw[bT];by_cases z:j<t.length
 .rw[n9 z,bC z];show some (t.getD j 0)=_;rw[cW,bC z];rfl
 .rw[iJ (by simp;lia),List.getElem?_eq_none ()];rfl
theorem TM{d f:LN}(len:∀t∈d,t.length=N)(pm:f.Perm (j.map (·.1)))(T:Told (j5 d) d.length (List.range N) j):(f=[List.range N]↔ ∀t∈d,t=List.range N)/\(f.length=1↔ ∀t∈d,t=List.range N):=by
 have mem:List.range N∈f:=pm.mem_iff.mpr<|bY.mpr #[_,bX T.head,zZ];have one:f.length=1->f=[List.range N]:=λh=>by
  match f,h with
  | [g],_=>rw[cf.mp mem]
 have a:f=[List.range N]->∀t∈d,t=List.range N:=λh t ht=>by
  obtain⟨i,k⟩:=uj ht;have o:cu (j5 d) (List.range N) [i]=t:=by
   show dz (List.range N) (d.getD i [])=t;rw[cW,k];exact Ms<|len t ht
  obtain⟨u,q,_⟩:=T.least _ [i] zZ λl s=>by rw[cf.mp s];exact ((bN.mp k).1)
  have z:=pm.mem_iff.mpr<|bY.mpr #[_,q,zZ];rw[h,o]at z;exact cf.mp z
 have b:(∀t∈d,t=List.range N)->f=[List.range N]:=λh=>by
  have all:∀w,(∀l∈w,l<d.length)->cu (j5 d) (List.range N) w=List.range N:=λw=>by
   induction w with
   |nil=>exact λ_=>rfl
   | cons l w v=>
    intro hw;have m:=hw l<|cJ ..;have e:j5 d (List.range N) l=List.range N:=by
     show dz (List.range N) (d.getD l [])=_;rw[cW,bC m]
     rw[h _<|ga m];exact Ms<|mw
    show cu (j5 d) (j5 d (List.range N) l) w=_;rw[e];exact v λx y=>hw x<|dS _ y
  have c:∀g∈f,g=List.range N:=λg A=>by
   obtain⟨p,B,rfl⟩:=bY.mp<|pm.mem_iff.mp A;obtain⟨C,D⟩:=T.run p B;rw[<-D];exact all p.2 C
  have nd:=pm.nodup_iff.mpr T.keys
  match f,mem,c,nd with
  | [g],_,c,_=>rw[c g<|cJ ..]
  |g::E::r,_,c,nd=>
   have H:=c E<|dS _<|cJ ..;exact wC (db.mpr<|.inl<|(c g<|cJ ..).trans H.symm) (lQ.mp nd).1
 exact#[#[a,b],λh=>a<|one h,λh=>by rw[b h];rfl]
inductive iZ(j:List V)(H:Hp)(Q:VK)(g:XK):Prop|mk:∀m a f n e c h d,j=[.ref m,.ref a]->Mach H m f n->FamOf f n e->LvH H a c h d->LvP f e c h d->Tabs H->(∀b i,Keeps H i->Tabs i->(b=true↔qh f c h d)->Q (.bl b) i)->iZ j H Q g
theorem SU(F:Fun K "rests" "rests" Fl f fd)(J:cn P w K mg base sW 13 [sA,sG] gD)(L:cn P w K mg base wY 1 [sB] dL)(N:mg "len"=none):FnOk P w K mg base bZ 15 f fd [sA,sG] iZ:=by
 refine F.ok O7<|λO A j s H vs Q E o h=>?_
 obtain⟨m,a,T,n,r,c,e,v,rfl,M,y,D,B,hT,q⟩:=h;refine#[_,(bM<|cg<|mK (DR o.units) (ck J o.m zZ<|b8<|bB (pv 0) (bB (pv 1) bW zZ) zZ) (gw<|bG (ck L o.m zZ<|bG (cX eR zZ N dW<|bG (b7 cO (pv 1) bL<|λ_ _=>rfl) bF) bF) bF)<|dC _),?_];obtain⟨s',Y,v',bs,ds,cs,h1,h2,h3,h4,h5,_⟩:=id D;obtain⟨_⟩:=B.inU M y;refine#[_,zZ,_,zZ,m,a,T,n,r,c,e,v,zZ,M,y,D,B,hT,λl bs gs mk ws H1 C T1 nl el Tb pm up Mk TT=>?_];have lm:∀t∈mk,t.length=e.length:=λt ht=>by
  obtain⟨k,l,k',x,wd,aa,e1,G,e3,e4,e5,e6⟩:=Mk.mem t ht;exact e6.1
 obtain⟨gr,_⟩:=TM lm pm TT;refine#[_,zZ,a,_,_,_,zZ,zZ,V2<|C _ _<|nU h1,zZ,Y,_,zZ,.inl<|V1<|C _ _<|nU h4,?_]
 rw[bA,h5.len];refine#[e.length,zZ,(),λst H2 g G=>#[by show 1<=sizeLine;decide,λp hp=>?_]];have d:=bP hp<|.lst [.ref st];refine#[l,p,1,_,_,zZ,zZ,Jt ((g.trans d) _ _ el)<|Tb.same<|g.trans d,Jt (bs:=[st]) (us:=[List.range e.length]) bE #[zZ,λi b u I z2=>?_],by decide,λb hb=>q b _ ((C.trans g.keeps).trans d.keeps) ((T1.same g).same d) ?_]
 .cases i with
  |zero=>
   cases I;cases z2;exact d _ _ G
  |succ i=>cases I
 .rw[<-Su M y B Mk,<-gr,hb];exact#[λz=>Go z,λz=>by rw[z]]
inductive i0(g:List V)(H:Hp)(Q:VK)(d:XK):Prop|mk:∀m a k e n c h b (f:bw),g=[.ref m,.ref a,nv k]->Mach H m e n->LvH H a c h b->c≠[]->b[k]?=some f->c.headD []∈cZ n->(∀l∈f,l<e.length)->(yj H (((c.headD []).map λr=>dA e r f).map nv) Q)->i0 g H Q d
theorem Vd(F:Fun K "carry" "carry" DT f fd)(G:cn P w K mg base "led" 1 [sA,tQ,sT] (mE K))(I:mg "tuple"=none):FnOk P w K mg base bZ 3 f fd [sA,sG,"k"] i0:=by
 refine F.ok Ro<|λJ A o s H vs Q E z h=>?_
 obtain⟨m,a,k,i,n,c,us,L,b,rfl,M,O,cne,B,C,t,q⟩:=h;have hu:=z.units;obtain⟨T,t',U,bs,ds,Y,D,h2,h3,h4,h5,h6,h7,h8⟩:=id O;have lk:=(bN.mp B).1;obtain⟨b0,u,d,m0⟩:=y9 h3 cne;obtain⟨j,g⟩:∃j,Y[k]?=some j:=#[_,bC ()];have x:=h8 k j b g B;have l5:=cz (oI M.n5 C) M.n5;refine#[_,(bM<|cg<|gE nL zZ I lL<|bG (gN (CompSc.to (N:=[sA,sG,"k"]) (osc:=bQ DT) {}) zZ zZ (pY<|b7 dD (b7 cO (pv 1) bL<|λ_ _=>rfl) bL<|λ_ _=>rfl) (λ_ _ _ _=>fK)<|λ_ _ _ _=>(ck G z.m zZ<|b8<|bB (pv 1) (bB (pv 0) (bB (b7 (IxR.k mQ dD zZ) (b7 (IxR.k oh cO zZ) (pv 2) bL<|λ_ _=>rfl) (pv 3)<|λ_ _=>rfl) bW zZ) zZ) zZ)) bF),#[_,zZ,a,_,_,_,zZ,zZ,V2 D,zZ,T,_,_,_,zZ,zZ,V1 h2,u,b0,zZ,#[_,V2 d],t9 (f:=λv=>match v with|.int r=>nv (dA i r.toNat b)|v=>v) (by rw[bA];exact small ()) (V2 d) (λv Q hv q=>?_)<|λl hl=>?_]]
 .obtain⟨r,y,rfl⟩:=bY.mp hv;exact#[_,zZ,_,zZ,_,zZ,a,_,_,_,zZ,zZ,V2 D,zZ,_,zZ,U,_,_,_,zZ,zZ,V1 h6,fE (by rw[bT,g];rfl),m,j,i,n,r,b,zZ,M,(bD.mp C).2 r y,V1 x,t,q]
 .have e:((c.headD []).map nv).map (λv=>match v with|.int r=>nv (dA i r.toNat b)|v=>v)=((c.headD []).map λr=>dA i r b).map nv:=by
   rw[eM,eM];rfl
  rw[e];refine#[l,_,zZ,.inl #[V1 bE,λp hp=>q p _ ((bP hl _).trans<|bP hp _) bE]]
theorem Pa(M:Mach H m a n)(T:Told (bH a) a.length x b)(c:x∈cZ n):b.length<=32:=by
 rw[<-bA];refine cz (m9 T.keys λy d=>?_)<|C6 n;obtain⟨p,e,rfl⟩:=bY.mp d;obtain⟨g,h⟩:=T.run p e;rw[<-h];exact nG M c g
noncomputable def mV(a:LN)(x w:bw):bw:=x.map λr=>dA a r w
noncomputable def me(a:LN)(x:bw)(l:Nat):bw:=dz x (a.getD l [])
theorem U9{x w:bw}:me a (mV a x w) l=mV a x (w++[l]):=by
 unfold me dz mV;rw[eM];exact mI λr _=>(K' a r w l).symm
theorem Lj:∀v w,cu (me a) (mV a x w) v=mV a x (w++v)
 | [],w=>by rw[iw];rfl
 |l::v,w=>by
  show cu (me a) (me a (mV a x w) l) v=_;rw[U9,Lj v<|w++[l],dR];rfl
def ry(d c e a:LN)(k l:Nat):Prop:=∃(f:Nat) (x g b t:bw),c[k]?=some x/\a[k]?=some g/\l<d.length/\c[f]?=some (bH d x l)/\a[f]?=some b/\i9 d e g b l t/\t≠List.range e.length
def Fst(b c d a:LN)(k l:Nat):Prop:=ry b c d a k l/\∀i j,(i<k\/i=k/\j<l)-> ¬ry b c d a i j
theorem Fst.uniq{k l d f:Nat}(h:Fst g c i e k l)(j:Fst g c i e d f):k=d/\l=f:=by
 have a:=λz=>j.2 k l z h.1;have b:=λz=>h.2 d f z j.1;lia
theorem fQ:qh p c q b↔ ∀k l,¬ry p c q b k l:=by
 constructor
 .rintro h k l ⟨d,x,e,a,t,f,g,i,j,m,n,o⟩;exact o<|h k l d x e a t f g i j m n
 .intro h k l d x e a t f g i j m n;exact AZ λo=>h k l #[d,x,e,a,t,f,g,i,j,m,n,o]
def AbW(d c a:LN)(k l:Nat)(v:bw):Prop:=∃(x e:bw) (f:Nat) (b:bw) (g:TW) (p:bw),c[k]?=some x/\a[k]?=some e/\c[f]?=some (bH d x l)/\a[f]?=some b/\Told (me d) d.length (mV d (c.headD []) b) g/\(c.headD [],p)∈g/\v=e++[l]++p
theorem AbW.uniq(nd:c.Nodup)(h:AbW b c a k l v)(n:AbW b c a k l d):v=d:=by
 obtain⟨x,D,E,o,G,p,q,r,e,s,f,t,rfl⟩:=h;obtain⟨H,u,w,g,y,I,i,j,z,m,A,B,rfl⟩:=n;rw[q]at i;cases i;rw[r]at j;cases j;have C:=(iA (bN.mp e).1 nd).mp<|e.trans z.symm;subst C;rw[s]at m;cases m;cases f.uniq A;rw[Hl f.keys t B]
def Abt(d b:LN)(told:gW):Option (bw×bw)->Prop
 |none=>∀c∈told,∃a,LvP d b c (gO b (c.headD [])) a/\Wds d c a/\∀k l,¬ry d c (gO b (c.headD [])) a k l
 |some r=>∃(i:Nat) (c a:LN) (k l:Nat),told[i]?=some c/\Wds d c a/\Fst d c (gO b (c.headD [])) a k l/\AbW d c a k l r.1/\r.2=c.headD []/\∀j (f e:LN),j<i->told[j]?=some f->Wds d f e->∀k l,¬ry d f (gO b (f.headD [])) e k l
theorem Abt.uniq(nd:∀c∈told,c.Nodup)(h:Abt v e told r)(o:Abt v e told m):r=m:=by
 cases r with
 | none=>
  cases m with
  |none=>rfl
  |some q=>
   obtain⟨i,c,g,k,l,d,W,f,_⟩:=o;obtain⟨_,_,p,no⟩:=h c<|bX d;cases p.uniq W;exact wC f.1<|no k l
 | some q=>
  obtain⟨i,c,g,k,l,d,W,f,a,x,no⟩:=h;cases m with
  |none=>
   obtain⟨_,_,p,no⟩:=o c<|bX d;cases p.uniq W;exact wC f.1<|no k l
  | some A=>
   obtain⟨n,B,j,C,D,b,w,y,E,s,t⟩:=o;have G:i=n:=by
    have M:=λz=>t i c g z d W k l f.1;have N:=λz=>no n B j z b w C D y.1;lia
   subst G;rw[d]at b;cases b;cases W.uniq w;obtain⟨rfl,rfl⟩:=f.uniq y;have u:=a.uniq (nd c<|bX d) E;obtain⟨H,I⟩:=q;obtain⟨J,L⟩:=A;have u:H=J:=u;have x:I=c.headD []:=x;have s:L=c.headD []:=s;rw[u,x,s]
def AbM(b:LN)(n:Nat)(r:Option (bw×bw)):Prop:=∃a told,FamOf b n a/\Ord b (cb b (big a)) told/\(∀c∈told,c∈cb b (big a))/\Abt b a told r
theorem AbM.uniq{f:LN}(h:AbM f n r)(l:AbM f n g):r=g:=by
 obtain⟨m,told,i,o,sub,a⟩:=h;obtain⟨j,b,d,e,k,p⟩:=l;cases i.uniq d;cases o.uniq e;exact a.uniq (λc q=>Pz i<|sub c q) p
theorem Gi:(dv[2]'(by decide))∈dv:=ga _
inductive i6(i:List V)(H:Hp)(Q:VK)(h:XK):Prop|mk:∀m a e n f c g b,i=[.ref m,.ref a]->Mach H m e n->FamOf e n f->LvH H a c g b->LvP e f c g b->((∀d,Same H d->(∀k l,¬ry e c g b k l)->Q .non d))->(∀k l p d,Same H d->d p=some (.tup [nv k,nv l])->Fst e c g b k l->Q (.ref p) d)->i6 i H Q h
inductive fc(h:List V)(H:Hp)(Q:VK)(g:XK):Prop|mk:∀m a k d n e c i b (j:bw),h=[.ref m,.ref a,nv k]->Mach H m d n->FamOf d n e->LvH H a c i b->LvP d e c i b->b[k]?=some j->Tabs H->(∀r p l f,Keeps H f->Tabs f->Told (me d) d.length (mV d (c.headD []) j) l->(c.headD [],p)∈l->p.length<=4000->f r=some (.lst (p.map nv))->Q (.ref r) f)->fc h H Q g
def EF(H a:Hp):Option (bw×bw)->V->Prop
 |none,v=>v=.non
 |some r,v=>∃p l b,v=.ref p/\a p=some (.tup [.ref l,.ref b])/\a l=some (.lst (r.1.map nv))/\a b=some (.tup (r.2.map nv))/\noT H l=none/\r.1.length<=9000/\r.2.length<=5
inductive gB(c:List V)(H:Hp)(Q:VK)(b:XK):Prop|mk:∀m d n,c=[.ref m]->Mach H m d n->Tabs H->(∀v r a,Keeps H a->Tabs a->AbM d n r->EF H a r v->Q v a)->gB c H Q b
theorem JX(a:n<=5)(b:k<=5):(gG n k).length<=4000:=by
 rw[HC];exact cz (Nat.pow_le_pow_left a _)<|cz (Nat.pow_le_pow_right (by decide) b)<|by decide
theorem JZ(M:Mach H m a n)(d:y∈gG n k)(e:l<a.length):me a y l∈gG n k:=by
 obtain⟨f,g⟩:=ce.mp d;refine ce.mpr #[by unfold me dz;rw[List.length_map,f],λz b=>?_];obtain⟨c,h,rfl⟩:=bY.mp b;exact m8 M [l] c (g c h) λz b=>by rw[cf.mp b];exact e
theorem N7(F:Fun K wZ wZ Gb f fd)(jV:cn P w K mg base wY 1 [sB] dL)(jK:cn P w K mg base tX 9 [sA,sG,"k",sK] eB)(jA:mg "len"=none)(jD:mg "range"=none):FnOk P w K mg base bZ 11 f fd [sA,sG] i6:=by
 refine F.ok kJ<|λai A aa s H vs Q E hr h=>?_
 obtain⟨m,a,o,n,ab,c,C,g,rfl,M,J,lv,D,q1,q2⟩:=h;refine#[_,(bK (cj (i:=2) kJ.nd zZ Z'<|ck jV hr.m zZ<|bG (cX eR zZ jA dW<|bG (b7 cO (pv 1) bL<|λ_ _=>rfl) bF) bF)<|bK (fA fi zZ (j8 zZ jD<|bG (cX eR zZ jA dW<|bG (b7 cO (pv 1) bL<|λ_ _=>rfl) bF) bF) (dG (i:=3) kJ.nd zZ Z')<|bM<|fA fi zZ (j8 zZ jD<|bG (cX eR zZ jA dW<|bG (pv 0) bF) bF) (dG (i:=4) kJ.nd zZ Z')<|bK (cj (i:=5) kJ.nd zZ Z'<|ck jK hr.m zZ<|b8<|bB (pv 0) (bB (pv 1) (bB (pv 3) (bB (pv 4) bW zZ) zZ) zZ) zZ)<|bM<|di (PW.pt<|yZ (eG HN (pv 5) n'<|dC _)<|yK<|eG (At hr.units) (pv 5) (pv 2)<|dC _) (bM<|cg<|jo<|b8<|bB (pv 3) (bB (pv 4) bW zZ) zZ) dh)<|bM<|cg n'),?_];obtain⟨s',t',v',bs,ds,cs,h1,h2,h3,h4,h5,h6,h7,h8⟩:=id lv;have t1:=M.some1;have t4:=M.few;obtain⟨rs,hm,ae,_⟩:=M.refs;have l5:=h5.len;obtain⟨uU,few⟩:=D.inU M J;have aj:c.length<=32:=by
  rw[(fv D.cls).2.1];exact cz (jm _ _)<|cz (jm _ _)<|J.few M
 refine#[_,zZ,a,_,_,_,zZ,zZ,V2 h1,zZ,t',_,zZ,.inl<|V1 h4,?_]
 try dsimp only
 rw[bA,l5];refine#[C.length,zZ,(),λst H0 g0 e0=>?_]
 let Rs:Nat->Nat->Prop:=λk l=>∀i j,(i<k\/i=k/\j<l)-> ¬ry o c C g i j
 let Pk:Nat->L2.St->Hp->Prop:=λk q H'=>Same H0 H'/\Rs k 0/\∃o3 r u,q=[some<|.ref m,some<|.ref a,some<|.ref st,o3,r,u]
 refine#[_,zZ,a,_,_,_,zZ,zZ,V2<|g0 _ _ h1,zZ,s',_,zZ,.inl<|V1<|g0 _ _ h2,(c.length:Int),by rw[bA,h3.len],(),(),nS Pk #[Same.refl _,λi j L=>by lia,none,none,none,zZ] (λk q H1 hk p=>?_)<|λq H1 p=>?_]
 .obtain⟨g1,R1,o3,r,u,rfl⟩:=p;have N:k<c.length:=by simpa using hk
  have zk:V.int ((0:Int)+((k:Nat):Int))=nv k:=by show V.int (0+(k:Int))=V.int (k:Int);rw[td]
  rw[zk];obtain⟨O,ew⟩:∃O,g[k]?=some O:=#[_,bC (by rw[D.len];exact N)];obtain⟨x,ex⟩:∃x,c[k]?=some x:=#[_,bC N]
  let Pl:Nat->L2.St->Hp->Prop:=λl q H'=>Same H0 H'/\Rs k l/\∃r u,q=[some<|.ref m,some<|.ref a,some (.ref st),some (nv k),r,u]
  refine#[_,zZ,m,_,zZ,.inr (V2 ((g0.trans g1) _ _ hm)),(o.length:Int),by rw[bA,ae],(),(),nS Pl #[g1,R1,_,_,zZ] (λl q H2 hl p=>?_) (λq H2 p=>?_)]
  .obtain⟨G,R2,r,u,rfl⟩:=p;have T:l<o.length:=by simpa using hl
   have zl:V.int ((0:Int)+((l:Nat):Int))=nv l:=by show V.int (0+(l:Int))=V.int (l:Int);rw[td]
   rw[zl];have v:=g0.trans G;have more: ¬ry o c C g k l->Rs k (l+1):=λno i j L=>by
    by_cases z:i=k/\j=l
    .obtain⟨rfl,rfl⟩:=z;exact no
    .exact R2 i j ()
   refine#[_,zZ,_,zZ,_,zZ,_,zZ,m,a,k,l,o,n,ab,c,C,g,x,O,zZ,M.same v,J,lv.same v,D,ex,ew,T,λmy H3 U=>?_,λk' af ey y tp js H3 U ag tb=>?_]
   .refine#[_,zZ,zZ,_,zZ,cR (cR #[G.trans U,more ?_,_,_,zZ])];rintro⟨I,x',d,ah,t,B,_,_,Y,_⟩;rw[ex]at B;cases B;exact my (bX Y)
   .refine#[_,zZ,zZ,_,zZ,dP ?_];have same:∀t:bw,(∃(I:Nat) (d:bw),c[I]?=some (bH o x l)/\g[I]?=some d/\i9 o C O d l t)->t=js:=λt ⟨I,d,Y,e5,e6⟩=>by
     have ek:=(iA (bN.mp ey).1 (D.nd J)).mp (ey.trans Y.symm);subst ek;rw[y]at e5;cases e5;exact Iu M J D ey y e6 tb
    refine#[_,zZ,_,zZ,tp,st,0,_,_,zZ,zZ,iD (V2 ag),iD (V2 ((G.trans U) _ _ e0)),by decide,λb hb=>#[_,zZ,?_]];cases b with
    | true=>
     have e:js=List.range C.length:=by
      have z:=hb.mp rfl;injection z with z
      exact px.mp (cH Dt.lst z)
     refine cR #[G.trans U,more ?_,_,_,zZ];rintro⟨I,x',ak,d,t,B,e2,_,Y,e5,e6,ne⟩;rw[ex]at B;cases B;rw[ew]at e2;cases e2;exact ne (by rw[same t #[I,d,Y,e5,e6]];exact e)
    |false=>
     refine dP #[_,zZ,_,zZ,by show 2<=sizeLine;decide,λp hp=>q2 k l p _ ((v.trans U).trans (bP hp _)) bE #[#[k',x,O,af,js,ex,ew,T,ey,y,tb,λe=>?_],R2]];have z:=hb.mpr (by rw[e]);cases z
  .obtain⟨G,R2,r,u,rfl⟩:=p;have el:(o.length:Int).toNat=o.length:=hY _;rw[el]at R2;refine#[G,λi j L=>?_,_,_,_,zZ];by_cases z:i<k\/i=k/\j<o.length
   .exact R2 i j z
   .have ei:i=k:=by lia
    subst ei;rintro⟨_,_,_,_,_,_,_,e3,_⟩;lia
 .obtain⟨g1,R1,o3,r,u,rfl⟩:=p;have el:(c.length:Int).toNat=c.length:=hY _;rw[el]at R1;refine q1 _ (g0.trans g1) λk l z=>R1 k l (.inl ?_) z;obtain⟨_,_,_,_,_,B,_⟩:=z;exact(bN.mp B).1
theorem Jd{rest:List Stmt}(e:gK ot= .Assign B (.Call Y [a1,a2,.Lambda a d b lp] kw cp) rp::rest)(jM:cn P w K mg base wI 1 [tT,sY] cY) (N5:N<=5) (M:Mach i m u n) (h1:i v=some (hX v (fJ sD a d b sA c pm (.ref f) z))) (O:i c=some (eY c m L)) (h3:i f=some (j4 f sD)):
  FnOk P w K mg base bZ 5 v (fJ sD a d b sA c pm (.ref f) z) [sB,sK] (de (Same i) (gG n N) u.length (me u))/\Binds K (fJ sD a d b sA c pm (.ref f) z) [sB,sK] []:=by
 cases e;refine#[EI (m:=m) (oc:=L) #[zZ,zZ,zZ,by decide+kernel,by decide+kernel,zZ,by decide+kernel] (λT H Q E h=>?_) (λT H Q E h=>?_)<|λA C s H T Q E hr h=>?_,.all λus D=>match us,D with| [_,_],_=>rfl]
 .obtain⟨t,x,l,rfl,_⟩:=h;rfl
 .obtain⟨t,x,l,rfl,g,_⟩:=h;exact#[g _ _ h1,g _ _ O,g _ _ h3]
 .obtain⟨t,x,l,rfl,g,ht,hx,D,q⟩:=h;refine#[_,(ck jM hr.m zZ<|b8<|bB (pv 0) (bB (b7 cO (pv 2) (pv 1)<|λ_ _=>rfl) bW zZ) zZ),?_];obtain⟨x1,x2⟩:=ce.mp hx;have G:=g _ _ O;have I:(L2.drop H c) t=some (.tup<|x.map nv):=by rw[dm<|nE ht G];exact ht
  obtain⟨rs,r,b1,b2,b3,b4,b5,b6⟩:=((M.same g).drop G).at D;refine#[_,zZ,_,zZ,_,zZ,m,_,_,_,zZ,zZ,V2 b1,b3,t,r,x,u.getD l [],zZ,I,b4,λy j=>?_,(),λp H3 g3 U free=>q p _ (λy o J=>?_) ?_]
  .rw[b5];exact x2 y j
  .by_cases j:y=c
   .subst j;rw[G]at J;cases J;exact bE
   .rw[bI j];exact g3 _ _ (by rw[dm j];exact J)
  .rw[bI<|cQ U free];exact U
theorem NC{T st m c:Ad}{R:V->Hp->Prop}{f:Scope}(e:gK ot= .Assign aa (.Call fx [a1,a2,.Lambda d g f lp] kw cp) rp::ab)(jM:cn P w K mg base wI 1 [tT,sY] cY) (hq:((sD:Str),(#[165,60,165,112]:Pos),T)∈dv) (H:Mach v m y n) (ae:v st=some (.tup (Q.map nv))) (xU:Q∈gG n N) (N5:N<=5) (hT:Tabs v) (I:σ[0]?=some (some (.ref m)))(rest:∀D U as Y,Keeps v Y->Tabs Y->WordsAt Y D U as->Told (me y) y.length Q U->R (.ref D) Y):
  lO (zi T sD d g f sA c pm (#[165,60,165,112]:Pos)) lG σ v λxs G=>∃m1,σ[0]?=some (some (.ref m1))/\∀i,G c=none->cA P w K mg base ((.ref st:: .int (y.length:Int)::xs)++[.non]) (bx G c (eY c m1 i)) (λr H3=>H3 c=some (eY c m1 i)/\R r (drop H3 c)) E0:=by
 have t4:=H.few;have go:∀q k A B J,v T=some (.tbl J)->KeepsBut T v B->B T=some (.tbl<|kg (#[165,60,165,112]:Pos) k)->B k=some (j4 k sD)->B q=some (hX q<|fJ sD d g f sA c pm (.ref k) A)->∀i,B c=none->
   (FnOk P w K mg base bZ 5 q (fJ sD d g f sA c pm (.ref k) A) [sB,sK]<|de (Same<|bx B c<|eY c m i) (gG n N) y.length<|me y)->Binds K (fJ sD d g f sA c pm (.ref k) A) [sB,sK] []->
   cA P w K mg base [.ref st,nv y.length,.ref q,.non] (bx B c<|eY c m i) (λr G=>G c=some (eY c m i)/\R r (L2.drop G c)) E0:=λq k A B J L kb h1 h2 h3 i s hF hB=>by
  have t:=kb.keeps L;have p:=bP s<|eY c m i;refine#[st,q,_,_,Q,y.length,gG n N,me y,zZ,p _ _<|t _ _<|nU ae,p _ _ h3,xU,λx hx l hl=>JZ H hx hl,JX H.n5 N5,(),hF,hB,λD U as G C W nw TT=>#[C _ _ bE,rest D U as _ (λb o M=>?_) (hT.but hq L (λb o nb M=>?_)<|.inr #[k,?_,?_]) #[W.len,?_,λj a r e1 e2=>?_] TT]]
  .have z:=t b o M;rw[dm<|cQ z s];exact C _ _<|p _ _ z
  .have z:=kb b o nb M;rw[dm<|cQ z s];exact C _ _<|p _ _ z
  .rw[dm<|cQ h1 s];exact C _ _<|p _ _ h1
  .rw[dm<|cQ h2 s];exact C _ _<|p _ _ h2
  .rw[dm<|nE W.dict<|C _ _ bE];exact W.dict
  .have z:=W.list j a r e1 e2;rw[dm<|nE z<|C _ _ bE];exact z
 rcases hT _ hq with h|⟨k,h,u⟩
 .refine .inl #[h,λq k A E u ne=>#[m,I,λi s=>?_]];obtain⟨t,af,O⟩:=IE (#[165,60,165,112]:Pos) sD h E u ne<|hX q<|fJ sD d g f sA c pm (.ref k) A;have p:=bP s<|eY c m i;obtain⟨F1,F2⟩:=Jd e jM N5 ((H.keeps<|t.keeps h).same p) (p _ _ bE) bE<|p _ _ O;exact go q k A _ _ h t af O bE i s F1 F2
 .refine .inr #[k,h,u,λq A E=>#[m,I,λi s=>?_]];have t:=λlo=>bP E lo;have p:=bP s<|eY c m i;obtain⟨F1,F2⟩:=Jd e jM N5 ((H.same<|t _).same p) (p _ _ bE) bE<|p _ _<|t _ _ _ u;exact go q k A _ _ h (λb o _ M=>t _ _ _ M) (t _ _ _ h) (t _ _ _ u) bE i s F1 F2
theorem Sa{cd T:Ad}(F:DefAt K tG ot f fd .none (.ref cd))(hC:W.CodeHd base cd T)(bm:pi mg base)(hq:((sD:Str),(#[165,60,165,112]:Pos),T)∈dv)(vT:cn P w K mg base "carry" 3 [sA,sG,"k"] i0)(jM:cn P w K mg base wI 1 [tT,sY] cY)(kE:Bh P w K mg base tL 8 ["start",xS,wG,wT] (cA P w K mg base) [.non]) (jA:mg "len"=none):FnOk P w K mg base bZ 13 f fd [sA,sG,"m"] fc:=by
 refine F.fnOk vC (λvs H Q E h=>?_)<|λA I s H vs Q E h d=>?_
 .obtain⟨m,a,k,o,n,J,c,us,y,t,rfl,_⟩:=h;rfl
 obtain⟨m,a,k,o,n,J,c,us,y,t,rfl,M,ff,lv,B,G,hT,q⟩:=h;refine#[_,?_,(bK (cj (i:=3) vC.nd zZ Z'<|Fy kE d.m zZ (j:=0) zZ zZ zZ zZ<|b8<|bB (ck vT d.m zZ<|b8<|bB (pv 0) (bB (pv 1) (bB (pv 2) bW zZ) zZ) zZ) (bB (cX eR zZ jA dW<|bG (pv 0) bF) (bB (E2 (qual:=sD) zZ hC bm (λ_ _ _ _ _=>rfl) zZ zZ) bW zZ) zZ) zZ)<|bM<|cg<|oK (gJ d) (pv 3) (b7 dD (b7 cO (pv 1) bL<|λ_ _=>rfl) bL<|λ_ _=>rfl)<|λ_ _=>rfl)];obtain⟨s',t',v',bs,ds,cs,h1,h2,C,h4,h5,h6,h7,h8⟩:=id lv;have cne:=(fv B.cls).1;have N:c.headD []∈cZ n:=ff.inU M (cL.mp (fv B.cls).2.2.1).1;have O:=M.n5;have x5:=cz (oI O N) O;have lk:k<c.length:=by rw[<-B.len];exact(bN.mp G).1
 have ex:=bC lk;have go:=B.go k _ t ex G;obtain⟨p0,bj⟩:=B.bij M ff ex G;refine#[_,zZ,_,zZ,_,zZ,m,a,k,o,n,c,us,y,t,zZ,M,lv,cne,G,N,go.1,λst H0 g0 e0=>?_];have M0:=M.same g0;obtain⟨rs,hm,Y,_⟩:=M0.refs;refine#[_,zZ,m,_,zZ,.inr<|V2 hm,?_]
 try dsimp only
 rw[bA,Y];obtain⟨b0,aa,ab,m0⟩:=y9 C cne;have xU:mV o (c.headD []) t∈gG n (c.headD []).length:=ce.mpr #[bA _,λr d=>by
  obtain⟨r0,h0,rfl⟩:=bY.mp d;exact m8 M t r0 ((bD.mp N).2 r0 h0) go.1]
 refine NC (R:=λr H3=>gi 3 r _ H3 _) zZ jM hq M0 e0 xU x5 (hT.same g0) zZ λD v as H1 k1 T1 W TT=>?_;have TT:Told (me o) o.length (mV o (c.headD []) t) v:=TT;have b:=g0.keeps.trans k1;obtain⟨p,hp⟩:∃p,(c.headD [],p)∈v:=by
  obtain⟨u,C,_⟩:=TT.least _ p0 zZ bj.lp;rw[Lj]at C;have e:mV o (c.headD []) (t++p0)=c.headD []:=by
   unfold mV;refine(mI (g:=id) λr d=>?_).trans<|Dc _;rw[Ee];exact bj.here r d
  rw[e]at C;exact#[u,C]
 obtain⟨r,v1,v2⟩:=W.word TT.keys hp;have inU:∀z∈v,z.1∈gG n (c.headD []).length:=λz hz=>by
  obtain⟨r1,r2⟩:=TT.run z hz;rw[<-r2];exact wr xU (λx hx l hl=>JZ M hx hl) z.2 r1
 have few:v.length<=4000:=by
  rw[<-bA (f:=(·.1)) (as:=v)];refine cz (m9 TT.keys (U:=gG n (c.headD []).length) λx hx=>?_)<|JX O x5;obtain⟨z,hz,rfl⟩:=bY.mp hx;exact inU z hz
 have dg:DGet H1 D (.ref b0) (some<|.ref r):=v1▸DGet.t W.dict (by rw[jI];exact b _ _<|nU ab);refine#[_,zZ,_,zZ,a,_,_,_,zZ,zZ,V2<|b _ _<|nU h1,zZ,s',_,_,_,zZ,zZ,V1<|b _ _<|nU h2,aa,D,_,zZ,dg,?_];exact q r p v H1 b T1 TT hp (by have:=TT.short _ hp;have:p.length<v.length:=this;lia) v2
theorem Vn(F:Fun K tK tK El f fd)(qV:cn P w K mg base "levels" 18 [sA] (fB T (#[78,40,78,93]:Pos)))(vV:cn P w K mg base "rests" 15 [sA,sG] iZ)(qP:cn P w K mg base wZ 11 [sA,sG] i6)(jH:cn P w K mg base tY 3 [sA,sB,sT] (cG K))(rS:cn P w K mg base tG 13 [sA,sG,"m"] fc):FnOk P w K mg base bZ 20 f fd [sA] gB:=by
 refine F.ok uK<|λaK A ax s H vs Q E hr h=>?_
 obtain⟨m,Y,n,rfl,M,hT,q⟩:=h;have hu:=hr.units;refine#[_,(bK (vw (CompSc.to (N:=[sA,tO,sG,wS,"m"]) (osc:=bQ El) (vs:=[sG]) {}) zZ zZ uK.nd (j:=1) zZ zZ (fq<|ck qV hr.m zZ<|bG (pv 0) bF) (λ_ _ _ _=>yu<|iC<|iI<|ck vV hr.m zZ<|b8<|bB (pv 1) (bB (pv 0) bW zZ) zZ)<|λ_ _ _ _=>(pv 0))<|bK (di (iC<|B4 (pv 1)<|λ_=>rfl) (bM<|cg n') dh)<|bK (cj (i:=2) uK.nd zZ Z'<|b7 dD (pv 1) bL<|λ_ _=>rfl)<|bK (cj (i:=3) uK.nd zZ Z'<|ck qP hr.m zZ<|b8<|bB (pv 0) (bB (pv 2) bW zZ) zZ)<|bK (cj (i:=4) uK.nd zZ Z'<|hO iM zT BE (Do hu) (b7 cO (pv 2) bL<|λ_ _=>rfl)<|bG (ck jH hr.m zZ<|b8<|bB (pv 0) (bB (b7 dD (b7 cO (pv 2) bL<|λ_ _=>rfl) (b7 cO (pv 3) bL<|λ_ _=>rfl)<|λ_ _=>rfl) (bB (gw<|bG (b7 cO (pv 3) bL<|λ_ _=>rfl) bF) bW zZ) zZ) zZ) bF)<|bM<|cg<|jo<|b8<|bB (cw DV (cw DV (b7 dD (b7 cO (pv 2) bL<|λ_ _=>rfl) (b7 cO (pv 3) bL<|λ_ _=>rfl)<|λ_ _=>rfl)<|gw<|bG (b7 cO (pv 3) bL<|λ_ _=>rfl) bF)<|ck rS hr.m zZ<|b8<|bB (pv 0) (bB (pv 2) (bB (pv 4) bW zZ) zZ) zZ) (bB (b7 dD (b7 cO (pv 2) bL<|λ_ _=>rfl) bL<|λ_ _=>rfl) bW zZ) zZ),?_];refine#[_,zZ,m,Y,n,zZ,M,hT,λl as told G ys H2 k2 T2 nl el ff od sub aL Lv nw ap aM=>?_];have M2:=M.keeps k2;have la:=Lv.len
 let d:Nat->Prop:=λj=>∀c a,told[j]?=some c->Wds Y c a->qh Y c (gO G<|c.headD []) a
 refine#[l,zZ,#[_,V1 el],je (xs:=as.map .ref) (λi J H'=>Keeps H2 H'/\Tabs H'/\J.length<=i/\((J=[]/\∀j,j<i->d j)\/∃(L:Nat) (g:Ad),L<i/\as[L]?=some g/\J.head?=some (.ref g)/\ ¬d L/\∀j,j<L->d j)) (by rw[bA,cq];lia) #[Keeps.refl _,T2,bR _,.inl #[zZ,λj h=>wC h<|sj _]] (λi J H' _ p=>?_) (λi v J H' hv p=>?_)<|λJ H3 p tl ay=>?_]
 .exact#[V1 (p.1 _ _ (nU el)),p.2.2.1]
 .obtain⟨k3,T3,le,st⟩:=p;rw[bT]at hv;obtain⟨lv,af,rfl⟩:=c9.mp hv;have li:=(bN.mp af).1;obtain⟨c,ec⟩:∃c,told[i]?=some c:=#[_,bC ()];obtain⟨a,ag,lp,W⟩:=(Lv.is i lv c af ec).lvw (sub c (bX ec));refine#[iE,?_];refine#[_,zZ,_,zZ,m,lv,Y,n,G,c,_,a,zZ,M2.keeps k3,ff,LvH.keeps ag k3,lp,T3,λb H4 k4 T4 hb=>#[_,zZ,?_]];have k34:=k3.trans k4;have ra:d i↔b=true:=#[λh=>hb.mpr (h c a ec W),λh c' O e' W'=>by
   rw[ec]at e';cases e';cases W.uniq W';exact hb.mp h]
  cases b with
  | true=>
   refine cR #[k34,T4,(),?_]
   rcases st with⟨rfl,h⟩|⟨L,g,h1,h2,h3,h4,h5⟩
   .refine .inl #[zZ,λj hj=>?_];by_cases z:j=i
    .rw[z];exact ra.mpr rfl
    .exact h j ()
   .exact .inr #[L,g,(),h2,h3,h4,h5]
  |false=>
   refine dP #[_,zZ,k34,T4,by rw[cC,qb];lia,.inr ?_]
   rcases st with⟨rfl,h⟩|⟨L,g,h1,h2,h3,h4,h5⟩
   .exact#[i,lv,(),af,zZ,(λz=>nomatch(ra.mp z)),h]
   .exact#[L,g,(),h2,by rw[List.head?_append,h3];rfl,h4,h5]
 .obtain⟨k3,T3,le,st⟩:=p;have kt:=bP ay (.lst J);have aa:bx H3 tl (.lst J) tl=some (.lst J):=bE;have k4:=k3.trans kt.keeps;have T4:=T3.same kt;generalize bx H3 tl (.lst J)=H4 at kt aa k4 T4|-
  rcases st with⟨rfl,h⟩|⟨L,g,h1,h2,h3,h4,h5⟩
  .refine#[_,zZ,_,.inl #[_,V1 aa,zZ],dP ?_];refine q .non none _ (k2.trans k4) T4 #[G,told,ff,od,sub,λc hc=>?_] rfl;obtain⟨j,ej⟩:=uj hc;have lj:=(bN.mp ej).1;obtain⟨g,ea⟩:∃g,as[j]?=some g:=#[_,bC ()];obtain⟨a,_,lp,W⟩:=(Lv.is j g c ea ej).lvw (sub c hc);exact#[a,lp,W,fQ.mp (h j (by rw[bA,la];exact lj) c a ej W)]
  obtain⟨U,rfl⟩:∃U,J=.ref g::U:=by
   cases J with
   |nil=>cases h3
   |cons z U=>
    cases h3;exact#[U,zZ]
  refine#[_,zZ,_,.inl #[_,V1 aa,zZ],cR ?_];have az:fL (V.ref g::U) ((0:Nat):Int)=some (.ref g):=fE rfl;refine#[_,zZ,tl,_,_,_,zZ,zZ,V1 aa,az,?_];rw[bA]at h1;obtain⟨c,ec⟩:∃c,told[L]?=some c:=#[_,bC ()];obtain⟨a,ag,lp,W⟩:=(Lv.is L g c h2 ec).lvw (sub c (bX ec));have ai:=LvH.keeps ag k4;have M4:=M2.keeps k4;refine#[_,zZ,_,zZ,m,g,Y,n,G,c,_,a,zZ,M4,ff,ai,lp,λH5 g5 no=>?_,λk B p H5 g5 ep fs=>?_]
  .refine wC (λc' O e' W'=>?_) h4;rw[ec]at e';cases e';cases W.uniq W';exact fQ.mpr no
  obtain⟨k',x,C,ak,t,ex,ew,aA,ey,al,tb,ne⟩:=id fs.1;have M5:=M4.same g5;have am:=ai.same g5;obtain⟨s',t',v',bs,ds,cs,e1,e2,e3,e4,e5,e6,e7,e8⟩:=id am;have lb:=e3.len;have cne:=(fv lp.cls).1;have fU:c.headD []∈cZ n:=ff.inU M (cL.mp (fv lp.cls).2.2.1).1;have n5:=M.n5;have hx:x∈cZ n:=by
   have z:=lp.go k x C ex ew;rw[<-z.2];exact nG M fU z.1
  obtain⟨x1,x2⟩:=bD.mp hx;obtain⟨b,eb⟩:∃b,bs[k]?=some b:=#[_,bC (by rw[lb];exact(bN.mp ex).1)];have hb:=e3.is k b x eb ex;have no:∀i:Nat,i<k'->c[i]? ≠some (bH Y x B):=λi hi e=>by
   have:=(iA (bN.mp ey).1 (lp.nd ff)).mp (ey.trans e.symm);lia
  refine#[_,zZ,g,_,_,_,zZ,zZ,V2 e1,zZ,.inl #[zZ,_,V1 e2],_,zZ,_,zZ,g,_,_,_,zZ,zZ,V2 e1,zZ,_,zZ,p,_,_,_,zZ,zZ,V2 ep,zZ,s',_,_,_,zZ,zZ,V1 e2,fE (by rw[bT,eb];rfl),_,zZ,p,_,_,_,zZ,zZ,V2 ep,zZ,by show 1<=sizeLine;decide,λwl aB=>?_];have kw:=bP aB (.lst [nv B]);refine#[m,b,wl,Y,n,x,[B],zZ,M5.same kw,V2 (kw _ _ hb),by rw[<-x1];exact KD x,x2,V1 bE,λz hz=>by rw[cf.mp hz];exact aA,λth H6 g6 ah=>?_];have D:=kw.trans g6;have ah:H6 th=some (.tup ((bH Y x B).map nv)):=ah;generalize bx H5 wl (.lst [nv B])=Hw at g6 kw;refine#[s',_,1,.tup (hE (bH Y x B)),c.map λu=>Dt.tup (hE u),_,k',zZ,zZ,V1 (D _ _ e2),by rw[bA,bA,lb],iD (V2 ah),BD (e3.same D),by decide,ez.mpr ey,λi hi e=>no i hi (ez.mp e),?_];obtain⟨wb,an⟩:∃wb,cs[k]?=some wb:=#[_,bC (by rw[e7];exact(bN.mp ew).1)];have aC:=e8 k wb C an ew;obtain⟨b0,aD,aE,m0⟩:=y9 e3 cne;have lw:C.length<=32:=by
   obtain⟨_,ws,TT,aF⟩:=W;have z1:=TT.short _ (aF k x C ex ew);have z1:C.length<ws.length:=z1;have z2:=Pa M TT fU;lia
  have ao:=D _ _ ep;refine#[_,zZ,g,_,_,_,zZ,zZ,V2 (D _ _ e1),zZ,_,zZ,p,_,_,_,zZ,zZ,V2 ao,zZ,v',_,_,_,zZ,zZ,V1 (D _ _ e6),fE (by rw[bT,an];rfl),_,zZ,p,_,_,_,zZ,zZ,V2 ao,zZ,by show 1<=sizeLine;decide,λl1 aG=>?_];have k1:=bP aG (.lst [nv B]);refine#[wb,l1,C.map nv,[nv B],zZ,zZ,V1 (k1 _ _ (D _ _ aC)),V1 bE,by rw[bA,qb,cq];lia,λl2 aH=>?_];have aq:=bP aH (.lst (C.map nv++[nv B]));have ar:bx (bx H6 l1 (.lst [nv B])) l2 (.lst (C.map nv++[nv B])) l2=some (.lst (C.map nv++[nv B])):=bE;have I:=D.trans (k1.trans aq);generalize bx (bx H6 l1 (.lst [nv B])) l2 (.lst (C.map nv++[nv B]))=H7 at aq ar I|-;refine#[_,zZ,_,zZ,_,zZ,m,g,k',Y,n,G,c,_,a,ak,zZ,M5.same I,ff,am.same I,lp,al,(T4.same g5).same I,λr p' ws H8 k8 T8 TT hp aN er=>?_];have aI:=k8 _ _ (nU ar);refine#[l2,r,C.map nv++[nv B],p'.map nv,zZ,zZ,V1 aI,V1 er,by rw[cC,bA,qb,bA,cq];lia,λl3 au=>?_];have av:=bP au (.lst (C.map nv++[nv B]++p'.map nv));have ab:Keeps H5 (bx H8 l3 (.lst (C.map nv++[nv B]++p'.map nv))):=(I.keeps.trans k8).trans av.keeps;refine#[_,zZ,g,_,_,_,zZ,zZ,V2 (ab _ _ (nU e1)),zZ,s',_,_,_,zZ,zZ,V1 (ab _ _ (nU e2)),aD,by show 2<=sizeLine;decide,λpt aJ=>?_];have ae:=bP aJ (.tup [.ref l3,.ref b0]);have aw:Keeps H H5:=(k2.trans k4).trans g5.keeps;refine q (.ref pt) (some (C++[B]++p',c.headD [])) _ ((aw.trans ab).trans ae.keeps) ((T8.same av).same ae) #[G,told,ff,od,sub,L,c,a,k,B,ec,W,fs,#[x,C,k',ak,ws,p',ex,ew,ey,al,TT,hp,zZ],zZ,λj c' O hj ej Wj=>fQ.mp (h5 j hj c' O ej Wj)] #[pt,l3,b0,zZ,bE,?_,ae _ _ (ab _ _ (nU aE)),?_,?_,cz (oI n5 fU) n5]
  .show _=some (HO.lst ((C++[B]++p').map nv));rw[c7,c7];exact ae _ _ bE
  .cases y:L2.noT H l3 with
   |none=>rfl
   |some o=>
    have z:=((aw.trans I.keeps).trans k8) _ _ y;rw[au]at z;cases z
  .show(C++[B]++p').length<=9000;rw[cC,cC,qb];lia
structure Lv where
 c:LN
 us:LN
 wds:LN
 gs:LN
structure GrpOf(ts c us wds gs:LN):Prop where
 up:gs.Pairwise λx y=>dF x y=true
 mem:∀t,t∈gs↔Gen (uw ts c us wds) us.length t
theorem GrpOf.uniq{d c e a f b:LN}(h:GrpOf d c e a f)(g:GrpOf d c e a b):f=b:=Hy pz CV h.up g.up λt=>(h.mem t).trans (g.mem t).symm
theorem PP{d c e a f g:LN}(M:Mach H m b n)(i:FamOf b n d)(j:LvP b d c e a)(pm:g.Perm (h.map (·.1)))(up:g.Pairwise (λx y=>dF x y=true))(Mk:Makers b c e a f)(TT:Told (j5 f) f.length (List.range e.length) h):GrpOf b c e a g:=
 #[up,λt=>by rw[pm.mem_iff,Uo TT,O8<|Q5 M i j Mk]]
structure LvOk(ts fam:LN)(L:Lv):Prop where
 p:LvP ts fam L.c L.us L.wds
 w:Wds ts L.c L.wds
 g:GrpOf ts L.c L.us L.wds L.gs
theorem LvOk.uniq(h:LvOk ts a L)(d:LvOk ts a b)(e:L.c=b.c):L=b:=by
 obtain⟨_⟩:=L;obtain⟨_⟩:=b;cases e;cases (h.p.tl.trans d.p.tl.symm);cases h.w.uniq d.w;cases h.g.uniq d.g;rfl
structure RowOf(ts:LN)(n:Nat)(fam:LN)(Ls:List Lv):Prop where
 ff:FamOf ts n fam
 od:Ord ts (cb ts (big fam)) (Ls.map (·.c))
 few:Ls.length<=32
 ok:∀L∈Ls,LvOk ts fam L
theorem RowOf.uniq(h:RowOf j n c d)(g:RowOf j n a b):c=a/\d=b:=by
 cases h.ff.uniq g.ff;refine#[zZ,?_];have e:=h.od.uniq g.od;have len:d.length=b.length:=by rw[<-bA,e,bA]
 refine D9 len λi k m=>(h.ok _<|ga k).uniq (g.ok _<|ga m) ?_;simpa[k,m]using (cH (λl=>l[i]?) e)
theorem LvOk.isPm(M:Mach H m ts n)(a:FamOf ts n c)(ok:LvOk ts c L):∀t,uw ts L.c L.us L.wds t->t.Perm (List.range L.us.length):=λ_ ⟨_,_,_,_,_,_,b,d,e,f,_,g⟩=>UO M a ok.p b d e f g
theorem LvOk.pm(M:Mach H m ts n)(a:FamOf ts n c)(ok:LvOk ts c L){t:bw}(h:t∈L.gs):t.Perm (List.range L.us.length):=U4 (ok.isPm M a)<|(ok.g.mem t).mp h
theorem LvOk.inG(M:Mach H m ts n)(a:FamOf ts n c)(ok:LvOk ts c L){t:bw}(h:t∈L.gs):t∈gU L.us n:=by
 have b:=(ok.p.inU M a).1
 induction ((ok.g.mem t).mp h) with
 |base=>exact E1 (w9 M a ok.p) b
 |step d e f=>
  obtain⟨k,l,s,x,u,g,i,j,o,p,q,r⟩:=e;exact Fz M.n5 b (f<|(ok.g.mem _).mpr d)<|L6 M a ok.p i j o p q r
theorem LvOk.nd(ok:LvOk ts c L):L.gs.Nodup:=ok.g.up.imp λ{a b} z e=>by
 subst e;rw[pz]at z;cases z
theorem LvOk.few(M:Mach H m ts n)(a:FamOf ts n c)(ok:LvOk ts c L):L.gs.length<=4000:=cz (m9 ok.nd λ_ ht=>ok.inG M a ht)<|Ir M.n5
theorem LvOk.first(M:Mach H m ts n)(a:FamOf ts n c)(ok:LvOk ts c L):L.gs[0]?=some (List.range L.us.length):=Ti (λ_ ht=>ok.pm M a ht) ok.g.up<|(ok.g.mem _).mpr .base
noncomputable def ft(a:LN)(b:As):List (List cE×V):=a4v (a.map λx=>(x,[])) b
theorem Mt(h:b.length=a.length):(ft a b).length=a.length:=by
 unfold ft a4v;rw[CY,bA,h,ye]
theorem La(h:c.length=b.length)(d:x∉b):jz (ft b c) (nk x) (.ref a)=ft (b++[x]) (c++[a]):=by
 unfold ft;rw[HH _ (we (by rw[Bq];exact d)),c7];exact(FS (p:=(x,[])) (by rw[bA,h])).symm
theorem Vp{b:LN}{c:As}{x:bw}{a:Ad}{k:Nat}(nd:b.Nodup)(d:b[k]?=some x)(e:c[k]?=some a):iq (ft b c) (nk x)=some (.ref a):=DO (p:=(x,[])) (by rw[Bq];exact nd) (by rw[bT,d];rfl) e
theorem SQ(h:x∉a):iq (ft a b) (nk x)=none:=we (by rw[Bq];exact h)
theorem xf{D b a:Ad}{c:LN}{d:As}{x:bw}{k:Nat}(nd:c.Nodup)(e:H D=some (.dT (ft c d)))(f:H b=some (.tup (x.map nv)))(g:c[k]?=some x)(h:d[k]?=some a):DGet H D (.ref b) (some (.ref a)):=
 .inr #[_,nk x,b,.inl e,zZ,by rw[jI];exact f,(Vp nd g h).symm]
theorem D5{x:bw}(d:H D=some (.dT (ft a c)))(e:H b=some (.tup (x.map nv)))(h:x∉a):DGet H D (.ref b) none:=
 .inr #[_,nk x,b,.inl d,zZ,by rw[jI];exact e,(SQ h).symm]
noncomputable def tl(a b:LN)(c:bw):LN:=b.map λu=>cu (bH a) u c
noncomputable def TiledAs(H:Hp)(e f b:LN)(g:As):Prop:=∀(k:Nat) (c:bw) (a:Ad),b[k]?=some c->g[k]?=some a->∃d,H a=some (.lst (d.map .ref))/\TupsAt H d (tl e f c)
def TiledAt(H:Hp)(t:Ad)(d c e a:LN):Prop:=∃b,H t=some (.dT (ft c b))/\b.length=c.length/\TiledAs H d e a b
noncomputable def TurnL(H:Hp)(b c h d:LN)(x i:bw)(e:List V):Prop:=e.length=b.length/\∀l v,e[l]?=some v->(bH b x l∉c/\v=.non)\/∃(p:Ad) (f:bw) (g:Nat) (a:bw),v=.ref p/\H p=some (.tup (f.map nv))/\c[g]?=some (bH b x l)/\d[g]?=some a/\i9 b h i a l f
noncomputable def TurnsAs(H:Hp)(f c g b:LN)(h:As):Prop:=∀(k:Nat) (x d:bw) (a:Ad),c[k]?=some x->b[k]?=some d->h[k]?=some a->∃e,H a=some (.lst e)/\TurnL H f c g b x d e
def TurnsAt(H:Hp)(t:Ad)(d c e a:LN):Prop:=∃b,H t=some (.dT (ft c b))/\b.length=c.length/\TurnsAs H d c e a b
noncomputable def Stays(f:HO->Bool)(H a:Hp):Prop:=∀b o,f o=false->H b=some o->a b=some o
noncomputable def BH:HO->Bool
 |.tbl _=>true
 |_=>false
noncomputable def G0:HO->Bool
 |.tbl _=>true
 |.dT _=>true
 |_=>false
noncomputable def wx:HO->Bool
 |.ins _ _ _=>true
 |_=>false
noncomputable def Hz:HO->Bool
 |.lst _=>true
 |_=>false
abbrev zd:=Stays G0
abbrev ug:=Stays Hz
theorem Stays.a{f:HO->Bool}(g:Stays f H H')(h:H b=some o)(d:f o=false:=by rfl):H' b=some o:=g b o d h
theorem nz(h:H a=some o)(d:BH o=false:=by rfl):noT H a=some o:=ss h λb e=>by subst e;cases d
theorem E3{H a:Hp}(g:Keeps H a):Stays BH H a:=λb o d h=>g b o<|nz h d
theorem pF(g:Same H a):zd H a:=λb o _ h=>g b o h
theorem Stays.off{a:List (List cE×V)}(h:H D=some (.dT a)):zd H (bx H D o):=λb u n c=>by
 rw[bI (j6 c h λe=>by rw[e]at n;cases n)];exact c
theorem Stays.offL(h:H D=some (.lst c)):ug H (bx H D o):=λb u n a=>by
 rw[bI (j6 a h λe=>by rw[e]at n;cases n)];exact a
theorem Stays.offI(h:H D=some (.ins C d fs)):Stays wx H (bx H D o):=λb u n a=>by
 rw[bI (j6 a h λe=>by rw[e]at n;cases n)];exact a
section
variable{f:HO->Bool}
theorem Stays.tups(g:Stays f H m)(T:TupsAt H bs j)(a:∀c,f (.tup c)=false:=by intro;rfl):TupsAt m bs j:=#[T.len,λi b u d e=>g _ _ (a _)<|T.is i b u d e]
theorem TiledAs.lts(h:TiledAs H n j d c)(g:Stays f H m)(e:∀b,f (.lst b)=false:=by intro;rfl)(i:∀b,f (.tup b)=false:=by intro;rfl):TiledAs m n j d c:=λk l a o p=>let⟨q,r,s⟩:=h k l a o p;#[q,g _ _ (e _) r,g.tups s i]
theorem TurnL.lts(h:TurnL H n c j d x b i)(g:Stays f H m)(k:∀o,f (.tup o)=false:=by intro;rfl):TurnL m n c j d x b i:=#[h.1,λl v e=>(h.2 l v e).imp id λ⟨p,q,r,a,s,t,u⟩=>#[p,q,r,a,s,g _ _ (k _) t,u]]
theorem TurnsAs.lts(h:TurnsAs H n c j d e)(g:Stays f H m)(i:∀b,f (.lst b)=false:=by intro;rfl)(l:∀b,f (.tup b)=false:=by intro;rfl):TurnsAs m n c j d e:=λk x o a p q r=>let⟨s,t,u⟩:=h k x o a p q r;#[s,g _ _ (i _) t,u.lts g l]
theorem TiledAt.keeps(h:TiledAt H t n c j d)(g:Keeps H m):TiledAt m t n c j d:=let⟨a,b,e,f⟩:=h;#[a,g _ _<|nz b,e,f.lts<|E3 g]
theorem TurnsAt.keeps(h:TurnsAt H t n c j d)(g:Keeps H m):TurnsAt m t n c j d:=let⟨a,b,e,f⟩:=h;#[a,g _ _<|nz b,e,f.lts<|E3 g]
end
noncomputable def zc(m g t u:Ad)(k:Nat):List (Str×V):=[(sA,.ref m),(sI,.ref g),(sJ,.ref t),(sR,.ref u),(sO,nv k)]
theorem zF:(zc m g t u k).lookup (sA:Str)=some (.ref m):=by kernel_rfl
theorem wq:(zc m g t u k).lookup (sI:Str)=some (.ref g):=by kernel_rfl
theorem pq:(zc m g t u k).lookup (sJ:Str)=some (.ref t):=by kernel_rfl
theorem BN:(zc m g t u k).lookup (sR:Str)=some (.ref u):=by kernel_rfl
theorem BQ:(zc m g t u k).lookup (sO:Str)=some (nv k):=by kernel_rfl
def StepAt(C:Ad)(H:Hp)(q m:Ad)(a:LN)(L:Lv):Prop:=∃c g t u b,H q=some (.ins C c (zc m g t u L.us.length))/\H g=some (.lst (b.map .ref))/\TupsAt H b L.gs/\TiledAt H t a L.c L.us L.wds/\TurnsAt H u a L.c L.us L.wds
theorem StepAt.keeps(h:StepAt C H q m b L)(k:Keeps H a):StepAt C a q m b L:=
 let⟨c,g,t,u,d,e,f,i,j,l⟩:=h;#[c,g,t,u,d,k _ _<|nz e,k _ _<|nz f,qW i k,j.keeps k,l.keeps k]
structure StepsAt(C:Ad)(H:Hp)(qs:As)(m:Ad)(ts:LN)(Ls:List Lv):Prop where
 len:qs.length=Ls.length
 is:∀(i:Nat) (q:Ad) L,qs[i]?=some q->Ls[i]?=some L->StepAt C H q m ts L
theorem StepsAt.keeps(h:StepsAt C H b m c d)(k:Keeps H a):StepsAt C a b m c d:=#[h.len,λi q L e f=>(h.is i q L e f).keeps k]
noncomputable def uo(r s:Ad):List (Str×V):=[(sB,.ref r),(sZ,.ref s)]
theorem Dx:(uo r s).lookup (sB:Str)=some (.ref r):=by kernel_rfl
theorem yy:(uo r s).lookup (sZ:Str)=some (.ref s):=by kernel_rfl
def RowAt(b CR:Ad)(H:Hp)(p m:Ad)(c:LN)(n:Nat)(d:List Lv):Prop:=∃e r s a,H p=some (.ins CR e (uo r s))/\H r=some (.tup ((List.range n).map nv))/\H s=some (.lst (a.map .ref))/\StepsAt b H a m c d
theorem RowAt.keeps{a CR:Ad}(h:RowAt a CR H p m c n d)(k:Keeps H b):RowAt a CR b p m c n d:=
 let⟨e,r,s,f,g,i,j,l⟩:=h;#[e,r,s,f,k _ _<|nz g,k _ _<|nz i,k _ _<|nz j,l.keeps k]
inductive gL(C:Ad)(j:List V)(H:Hp)(Q:VK)(i:XK):Prop|mk:∀d p l m a e n f c g b,j=[.ref p,.ref m,.ref a]->Same d H->d p=none->H p=some (.ins C l [])->Mach d m e n->FamOf e n f->LvH d a c g b->LvP e f c g b->Tabs d->(∀k h,Keeps d h->Tabs h->GrpOf e c g b k->StepAt C h p m e #[c,g,b,k]->Q .non h)->gL C j H Q i
inductive eK(f CR:Ad)(g:List V)(H:Hp)(Q:VK)(c:XK):Prop|mk:∀a p i m d n,g=[.ref p,.ref m]->Same a H->a p=none->H p=some (.ins CR i [])->Mach a m d n->Tabs a->(∀e h b,Keeps a b->Tabs b->RowOf d n e h->RowAt f CR b p m d n h->Q .non b)->eK f CR g H Q c
theorem Tabs.offI(t:Tabs H)(h:H p=some (.ins C a fs)):Tabs (bx H p o):=λq d=>by
 have k:∀{b} {u},u≠ .ins C a fs->H b=some u->bx H p o b=some u:=λn c=>by
  rw[bI<|j6 c h n];exact c
 rcases t q d with t|⟨f,g,i⟩
 .exact .inl<|k (λe=>nomatch e) t
 .exact .inr #[f,k (λe=>nomatch e) g,k (λe=>nomatch e) i]
theorem Tabs.offD(t:Tabs H)(h:H D=some (.dT a)):Tabs (bx H D o):=t.most λb u n _ c=>by
 rw[bI<|j6 c h λe=>n _ e];exact c
theorem vv{H a:Hp}(g:Keeps H a)(n:H l=none):Keeps H (bx a l o):=IR g<|Jy n
theorem Ki{H a:Hp}(g:Keeps H a)(n:a l=none):noT H l=none:=by
 cases y:noT H l with
 |none=>rfl
 |some o=>
  rw[g _ _ y]at n;cases n
theorem StepAt.off(h:StepAt C H q m b L)(c:H p=some (.ins i d fs))(n:fs.length≠5):StepAt C (bx H p o) q m b L:=by
 obtain⟨j,g,t,u,k,f,l,r,⟨s,v,w,x⟩,a,y,z,A⟩:=h;have lo:Stays wx H (bx H p o):=Stays.offI c;refine#[j,g,t,u,k,?_,lo.a l,lo.tups r,#[s,lo.a v,w,x.lts lo],a,lo.a y,z,A.lts lo];rw[bI (j6 f c λe=>by injection e with _ _ e;exact n (by rw[<-e];rfl))];exact f
theorem vq{b:Type}{P:Nat->b->Prop}{a:List b}{x:b}(h:∀k y,a[k]?=some y->P k y)(c:P a.length x)(k)(y)(e:(a++[x])[k]?=some y):P k y:=by
 by_cases d:k<a.length
 .rw[dO d]at e;exact h k y e
 .have lk:=(bN.mp e).1;rw[cC,qb]at lk;have f:k=a.length:=by lia
  subst f;rw[dQ (bR _),mT]at e;cases e;exact c
theorem Tr(F:Fun K tS "LevelParts.__init__" Ej f fd)(P3:OwnC K C [sA,sI,sJ,sR,sO])(jW:cn P w K mg base sW 13 [sA,sG] gD)(jN:cn P w K mg base wL 7 [sA,sG,"k"] eQ)(jK:cn P w K mg base tX 9 [sA,sG,"k",sK] eB)(kR:mg "enumerate"=none)(jD:mg "range"=none)(jA:mg "len"=none):FnOk P w K mg base bZ 15 f fd [sC,sA,sG] (gL C):=by
 refine F.ok qF<|λaX A aN s H vs Q E hr h=>?_
 obtain⟨H0,p,d,m,a,I,n,aw,c,Y,y,rfl,g0,np,hp,M,ff,lv,lp,hT,q⟩:=h;have hu:=hr.units;have ax:=gJ hr;obtain⟨s',t',v',bs,ds,cs,h1,h2,h3,h4,h5,h6,h7,h8⟩:=id lv;have lb:=h3.len;have l5:=h5.len;obtain⟨uU,few⟩:=lp.inU M ff;obtain⟨rs,hm,aO,_⟩:=M.refs;have t4:=M.few;have nd:=lp.nd ff;have aY:c.length<=32:=by
  rw[(fv lp.cls).2.1];exact cz (jm _ _)<|cz (jm _ _)<|ff.few M
 refine#[_,(bK (mY (pv 0) (pv 1) zZ)<|bK (mY (pv 0) (ck jW hr.m zZ<|b8<|bB (pv 1) (bB (pv 2) bW zZ) zZ) zZ)<|bK (mY (pv 0) Ey zZ)<|bK (mY (pv 0) Ey zZ)<|bK (fA fi zZ (KA zZ kR<|bG (b7 cO (pv 2) bL<|λ_ _=>rfl) bF) (wm zZ<|lA (dG (i:=3) qF.nd zZ Z0)<|lA (dG (i:=4) qF.nd zZ Z') ua)<|bK (z9 ax (dJ (pv 0) zZ) (pv 4) (ck jN hr.m zZ<|b8<|bB (pv 1) (bB (pv 2) (bB (pv 3) bW zZ) zZ) zZ) zZ)<|bM<|z9 ax (dJ (pv 0) zZ) (pv 4) (gN (CompSc.to (N:=[sC,sA,sG,"k",sB]) (osc:=bQ Ej) (vs:=[sK]) {}) zZ zZ (j8 zZ jD<|bG (cX eR zZ jA dW<|bG (pv 1) bF) bF) (λ_ _ _ _=>fK)<|λ_ _ _ _=>(ck jK hr.m zZ<|b8<|bB (pv 2) (bB (pv 3) (bB (pv 4) (bB (pv 0) bW zZ) zZ) zZ) zZ)) zZ)<|bM<|mY (pv 0) (cX eR zZ jA dW<|bG (b7 cO (pv 2) bL<|λ_ _=>rfl) bF) zZ),?_];refine#[_,zZ,_,zZ,p,C,d,_,zZ,hp,P3.cl,P3.no,by show 0<1000;decide,?_];have g1:Same H0 (bx H p<|.ins C d<|cP sA (.ref m) []):=gh g0 np;have p1:bx H p (.ins C d<|cP sA (.ref m) []) p=some (.ins C d<|cP sA (.ref m) []):=bE;generalize bx H p (.ins C d<|cP sA (.ref m) [])=H1 at g1 p1|-;refine#[_,zZ,_,zZ,m,a,I,n,aw,c,Y,y,zZ,M.same g1,ff,lv.same g1,lp,hT.same g1,λg gr gs mk ws H2 k2 T2 ng eg Tg pm up Mk TT=>?_];have G:=PP M ff lp pm up Mk TT;have p2:=k2 _ _<|nz p1;refine#[_,zZ,p,C,d,_,zZ,p2,P3.cl,P3.no,by show 1<1000;decide,?_];have gp:g≠p:=nE eg p2;have k3:Keeps H0 (bx H2 p<|.ins C d<|cP sI (.ref g)<|cP sA (.ref m) []):=vv (g1.keeps.trans k2) np;have T3:Tabs (bx H2 p<|.ins C d<|cP sI (.ref g)<|cP sA (.ref m) []):=T2.offI p2;have p3:bx H2 p (.ins C d<|cP sI (.ref g)<|cP sA (.ref m) []) p=some (.ins C d [(sA,.ref m),(sI,.ref g)]):=by rw[bE];exact cH (λl=>some<|HO.ins C d l)<|by kernel_rfl
 have an:bx H2 p (.ins C d<|cP sI (.ref g)<|cP sA (.ref m) []) g=some (.lst<|gr.map .ref):=by rw[bI gp];exact eg
 have ao:TupsAt (bx H2 p<|.ins C d<|cP sI (.ref g)<|cP sA (.ref m) []) gr gs:=re Tg p2 λ_ e=>nomatch e;generalize bx H2 p (.ins C d<|cP sI (.ref g)<|cP sA (.ref m) [])=H3 at k3 T3 p3 an ao|-;intro t ht;have J:=bP ht<|.dT [];have ay:p≠t:=cQ p3 ht;have aP:=Ki k3 ht;refine#[_,zZ,p,C,d,_,zZ,J _ _ p3,P3.cl,P3.no,by show 2<1000;decide,?_];have k4:Keeps H0 (bx (bx H3 t<|.dT []) p<|.ins C d<|cP sJ (.ref t) [(sA,.ref m),(sI,.ref g)]):=vv (k3.trans J.keeps) np;have T4:Tabs (bx (bx H3 t<|.dT []) p<|.ins C d<|cP sJ (.ref t) [(sA,.ref m),(sI,.ref g)]):=(T3.same J).offI<|J _ _ p3;have p4:bx (bx H3 t<|.dT []) p (.ins C d<|cP sJ (.ref t) [(sA,.ref m),(sI,.ref g)]) p=some (.ins C d [(sA,.ref m),(sI,.ref g),(sJ,.ref t)]):=by rw[bE];exact cH (λl=>some<|HO.ins C d l)<|by kernel_rfl
 have ap:bx (bx H3 t<|.dT []) p (.ins C d<|cP sJ (.ref t) [(sA,.ref m),(sI,.ref g)]) g=some (.lst<|gr.map .ref):=by rw[bI gp];exact J _ _ an
 have aq:TupsAt (bx (bx H3 t<|.dT []) p<|.ins C d<|cP sJ (.ref t) [(sA,.ref m),(sI,.ref g)]) gr gs:=re (ao.same J) (J _ _ p3) λ_ e=>nomatch e;have aj:bx (bx H3 t<|.dT []) p (.ins C d<|cP sJ (.ref t) [(sA,.ref m),(sI,.ref g)]) t=some (.dT []):=by rw[bI ay.symm];exact bE
 generalize bx (bx H3 t<|.dT []) p (.ins C d<|cP sJ (.ref t) [(sA,.ref m),(sI,.ref g)])=H4 at k4 T4 p4 ap aq aj|-;clear k3 T3 p3 an ao J ht k2 T2 p2 eg Tg g1 p1 g0 hp;intro u af;have J:=bP af<|.dT [];have aQ:p≠u:=cQ p4 af;have az:t≠u:=cQ aj af;refine#[_,zZ,p,C,d,_,zZ,J _ _ p4,P3.cl,P3.no,by show 3<1000;decide,?_];have k5:Keeps H0 (bx (bx H4 u<|.dT []) p<|.ins C d<|cP sR (.ref u) [(sA,.ref m),(sI,.ref g),(sJ,.ref t)]):=vv (k4.trans J.keeps) np;have T5:Tabs (bx (bx H4 u<|.dT []) p<|.ins C d<|cP sR (.ref u) [(sA,.ref m),(sI,.ref g),(sJ,.ref t)]):=(T4.same J).offI<|J _ _ p4;have p5:bx (bx H4 u<|.dT []) p (.ins C d<|cP sR (.ref u) [(sA,.ref m),(sI,.ref g),(sJ,.ref t)]) p=some (.ins C d [(sA,.ref m),(sI,.ref g),(sJ,.ref t),(sR,.ref u)]):=by rw[bE];exact cH (λl=>some<|HO.ins C d l)<|by kernel_rfl
 have aA:bx (bx H4 u<|.dT []) p (.ins C d<|cP sR (.ref u) [(sA,.ref m),(sI,.ref g),(sJ,.ref t)]) g=some (.lst<|gr.map .ref):=by rw[bI gp];exact J _ _ ap
 have aB:TupsAt (bx (bx H4 u<|.dT []) p<|.ins C d<|cP sR (.ref u) [(sA,.ref m),(sI,.ref g),(sJ,.ref t)]) gr gs:=re (aq.same J) (J _ _ p4) λ_ e=>nomatch e;have aC:bx (bx H4 u<|.dT []) p (.ins C d<|cP sR (.ref u) [(sA,.ref m),(sI,.ref g),(sJ,.ref t)]) t=some (.dT []):=by rw[bI ay.symm];exact J _ _ aj
 have aD:bx (bx H4 u (.dT [])) p (.ins C d (cP sR (.ref u) [(sA,.ref m),(sI,.ref g),(sJ,.ref t)])) u=some (.dT []):=by rw[bI aQ.symm];exact bE
 have aR:=Ki k4 af;generalize bx (bx H4 u (.dT [])) p (.ins C d (cP sR (.ref u) [(sA,.ref m),(sI,.ref g),(sJ,.ref t)]))=H5 at k5 T5 p5 aA aB aC aD|-;clear k4 T4 p4 ap aq aj J af
 let Pv:Nat->L2.St->Hp->Prop:=λi σ B=>Keeps H0 B/\Tabs B/\B p=some (.ins C d [(sA,.ref m),(sI,.ref g),(sJ,.ref t),(sR,.ref u)])/\B g=some (.lst (gr.map .ref))/\TupsAt B gr gs/\(∃z,B t=some (.dT (ft (c.take i) z))/\z.length=i/\TiledAs B I Y y z)/\(∃z,B u=some (.dT (ft (c.take i) z))/\z.length=i/\TurnsAs B I c Y y z)/\∃o3 o4,σ=[some (.ref p),some (.ref m),some (.ref a),o3,o4]
 have L:=λ{B:Hp} (k:Keeps H0 B)=>E3 k;refine#[_,zZ,a,_,_,_,zZ,zZ,V2 ((L k5).a h1),zZ,s',_,zZ,V1 ((L k5).a h2),LQ (xs:=bs.map .ref) Pv #[k5,T5,p5,aA,aB,#[[],aC,zZ,λk D a _ e=>by simp at e],#[[],aD,zZ,λk x D a _ _ e=>by simp at e],_,_,zZ] (λi σ B _ p=>V1 ((L p.1).a h2)) (λi Tp v σ H6 hv nT pv=>?_) (λσ H6 pv=>?_)]
 .obtain⟨k6,T6,p6,ar,au,⟨z,ab,la,ta⟩,⟨O,ag,ae,tb⟩,o3,o4,rfl⟩:=pv;rw[bT]at hv;obtain⟨b,eb,rfl⟩:=c9.mp hv;have li:=(bN.mp eb).1;obtain⟨x,ex⟩:∃x,c[i]?=some x:=#[_,bC ()];obtain⟨D,ew⟩:∃D,y[i]?=some D:=#[_,bC (by rw[lp.len];lia)];have aS:=(lp.go i x D ex ew).1;have tk:c.take (i+1)=c.take i++[x]:=by rw[gj,ex];rfl
  have xn:x∉c.take i:=λh=>by
   obtain⟨j,ej⟩:=fM.mp h;have lj:=(bN.mp ej).1;rw[fe]at lj;rw[CA ()]at ej;have:=(iA () nd).mp (ej.trans ex.symm)
   lia
  have lt:(c.take i).length=i:=by rw[fe];lia
  have kT:=bP nT (.tup [.int (i:Nat),.ref b]);have eT:bx H6 Tp (.tup [.int (i:Nat),.ref b]) Tp=some (.tup [.int (i:Nat),.ref b]):=bE;generalize bx H6 Tp (.tup [.int (i:Nat),.ref b])=H7 at kT eT|-;have k7:=k6.trans kT.keeps;refine#[Tp,_,zZ,V2 eT,zZ,_,_,zZ,_,_,zZ,zZ,?_];refine#[_,zZ,_,zZ,_,zZ,m,a,i,I,n,c,Y,y,D,zZ,M.keeps k7,LvH.keeps lv k7,ew,uU,few,aS,λl es H8 g8 el aE=>?_];have T:=kT.trans g8;have k8:=k6.trans T.keeps;have aF:=(L k8).a (h3.is i b x eb ex);refine#[_,zZ,p,C,d,_,_,zZ,T _ _ p6,P3.cl,P3.no,(by kernel_rfl),_,zZ,t,_,zZ,DPut.t (T _ _ ab) (by rw[jI];exact aF) (by rw[Mt (),cq];lia),?_];rw[La () xn,<-tk];have ak:=T _ _ ab;have lo:zd H6 (bx H8 t (.dT (ft (c.take (i+1)) (z++[l])))):=λb o n hb=>Stays.off ak b o n (T _ _ hb);have av:zd H8 (bx H8 t (.dT (ft (c.take (i+1)) (z++[l])))):=Stays.off ak;have k9:Keeps H0 (bx H8 t (.dT (ft (c.take (i+1)) (z++[l])))):=IR k8 aP;have T9:Tabs (bx H8 t (.dT (ft (c.take (i+1)) (z++[l])))):=(T6.same T).offD ak;have aG:bx H8 t (.dT (ft (c.take (i+1)) (z++[l]))) t=some (.dT (ft (c.take (i+1)) (z++[l]))):=bE;have aH:bx H8 t (.dT (ft (c.take (i+1)) (z++[l]))) u=some (.dT (ft (c.take i) O)):=by rw[bI az.symm];exact T _ _ ag
  have aI:TiledAs (bx H8 t (.dT (ft (c.take (i+1)) (z++[l])))) I Y y (z++[l]):=λk r a' e1 e2=>vq (P:=λk a=>∀D,y[k]?=some D->∃es,bx H8 t (.dT (ft (c.take (i+1)) (z++[l]))) a=some (.lst (es.map .ref))/\TupsAt (bx H8 t (.dT (ft (c.take (i+1)) (z++[l])))) es (tl I Y D)) (λk a e D e'=>(ta.lts lo) k D a e' e) (λr e=>by
   rw[la,ew]at e;cases e;exact#[es,av.a el,av.tups aE]) k a' e2 r e1
  have p9:=lo.a p6;have aJ:=lo.a ar;have aK:=lo.tups au;have aL:=tb.lts lo;generalize bx H8 t (.dT (ft (c.take (i+1)) (z++[l])))=H9 at k9 T9 aG aH aI p9 aJ aK aL|-;clear lo av T g8 k8 aF ak kT eT k7 el aE;refine#[_,zZ,m,_,zZ,.inr (V2 ((L k9).a hm)),(I.length:Int),by rw[bA,aO],(),(),D' (λj ys B=>Same H9 B/\ys.length=j/\∀(l:Nat) (v:V),ys[l]?=some v->(bH I x l∉c/\v=.non)\/∃(p:Ad) (js:bw) (k':Nat) (r:bw),v=.ref p/\B p=some (.tup (js.map nv))/\c[k']?=some (bH I x l)/\y[k']?=some r/\i9 I Y D r l js) (by rw[hY];exact small ()) #[Same.refl _,zZ,λl v e=>by simp at e] (λj ys B _ pv=>Nat.le_of_eq pv.2.1) (λj ys B hj pv=>?_) (λys B pv sg aT=>?_)]
  .obtain⟨g,ly,al⟩:=pv;have e0:V.int (0+(j:Int))=nv j:=by show V.int (0+(j:Int))=V.int (j:Int);rw[td]
   have aU:j<I.length:=by simpa using hj
   rw[e0];have ah:=k9.trans g.keeps;refine#[iE,jc #[_,zZ,_,zZ,_,zZ,_,zZ,m,a,i,j,I,n,aw,c,Y,y,x,D,zZ,M.keeps ah,ff,LvH.keeps lv ah,lp,ex,ew,aU,λno H2 g2=>?_,λk' r ey aV pp js H2 g2 ep aW=>?_]]
   .refine#[g.trans g2,by rw[cC,ly];rfl,λl v e=>vq (P:=λl v=>(bH I x l∉c/\v=V.non)\/∃(p:Ad) (js:bw) (k':Nat) (r:bw),v=.ref p/\H2 p=some (.tup (js.map nv))/\c[k']?=some (bH I x l)/\y[k']?=some r/\i9 I Y D r l js) (λl v e=>(al l v e).imp id λ⟨p,js,k',r,z1,z2,z3⟩=>#[p,js,k',r,z1,g2 _ _ z2,z3]) (.inl #[by rw[ly];exact no,zZ]) l v e]
   .refine#[g.trans g2,by rw[cC,ly];rfl,λl v e=>vq (P:=λl v=>(bH I x l∉c/\v=V.non)\/∃(p:Ad) (js:bw) (k':Nat) (r:bw),v=.ref p/\H2 p=some (.tup (js.map nv))/\c[k']?=some (bH I x l)/\y[k']?=some r/\i9 I Y D r l js) (λl v e=>(al l v e).imp id λ⟨p,js,k',r,z1,z2,z3⟩=>#[p,js,k',r,z1,g2 _ _ z2,z3]) (.inr #[pp,js,k',r,zZ,ep,by rw[ly];exact ey,aV,by rw[ly];exact aW]) l v e]
  .obtain⟨g,ly,al⟩:=pv;rw[hY]at ly;have ks:=bP aT (.lst ys);have es:bx B sg (.lst ys) sg=some (.lst ys):=bE;have U:=g.trans ks;have TL:TurnL (bx B sg (.lst ys)) I c Y y x D ys:=TurnL.lts #[ly,al] (pF ks);generalize bx B sg (.lst ys)=ai at ks es U TL|-;have ah:=k9.trans U.keeps;have aM:=(L ah).a (h3.is i b x eb ex);have aa:=U _ _ aH;refine#[_,zZ,p,C,d,_,_,zZ,U _ _ p9,P3.cl,P3.no,(by kernel_rfl),_,zZ,u,_,zZ,DPut.t aa (by rw[jI];exact aM) (by rw[Mt (),cq];lia),?_];rw[La () xn,<-tk];have lo:zd H9 (bx ai u (.dT (ft (c.take (i+1)) (O++[sg])))):=λb o n hb=>Stays.off aa b o n (U _ _ hb)
   have am:zd ai (bx ai u (.dT (ft (c.take (i+1)) (O++[sg])))):=Stays.off aa;refine#[IR ah aR,(T9.same U).offD aa,lo.a p9,lo.a aJ,lo.tups aK,#[z++[l],by rw[bI az];exact U _ _ aG,by rw[cC,la];rfl,aI.lts lo],#[O++[sg],bE,by rw[cC,ae];rfl,λk x' r a' e1 e2 e3=>?_],_,_,zZ];refine vq (P:=λk a=>∀x D,c[k]?=some x->y[k]?=some D->∃vs,bx ai u (.dT (ft (c.take (i+1)) (O++[sg]))) a=some (.lst vs)/\TurnL (bx ai u (.dT (ft (c.take (i+1)) (O++[sg])))) I c Y y x D vs) (λk a e x D e1 e2=>(aL.lts lo) k x D a e1 e2 e) (λx' r e1 e2=>?_) k a' e3 x' r e1 e2;rw[ae,ex]at e1;rw[ae,ew]at e2;cases e1;cases e2;exact#[ys,am.a es,TL.lts am]
 .obtain⟨k6,T6,p6,ar,au,⟨z,ab,la,ta⟩,⟨O,ag,ae,tb⟩,o3,o4,rfl⟩:=pv;rw[bA,lb]at ab ag la ae;rw[fF]at ab ag;refine#[_,zZ,a,_,_,_,zZ,zZ,V2 ((L k6).a h1),zZ,t',_,zZ,.inl (V1 ((L k6).a h4)),_,zZ,p,C,d,_,zZ,p6,P3.cl,P3.no,by show 4<1000;decide,?_];rw[show((ds.map V.ref).length)=Y.length by rw[bA,l5]];have lo:Stays wx H6 (bx H6 p (.ins C d (cP sO (nv Y.length) [(sA,.ref m),(sI,.ref g),(sJ,.ref t),(sR,.ref u)]))):=Stays.offI p6;refine q gs _ (vv k6 np) (T6.offI p6) G #[d,g,t,u,gr,?_,lo.a ar,lo.tups au,#[z,lo.a ab,la,ta.lts lo],O,lo.a ag,ae,tb.lts lo];rw[bE];exact cH (λl=>some (HO.ins C d l)) (by kernel_rfl)
theorem NW{I CR T:Ad}(F:Fun K tS "Row.__init__" Dq f fd)(V0:OwnC K CR [sB,sZ])(rH:xr P w K mg base "LevelParts" I 15 [sC,sA,sG] (gL I))(qV:cn P w K mg base "levels" 18 [sA] (fB T (#[78,40,78,93]:Pos)))(jV:cn P w K mg base wY 1 [sB] dL)(jA:mg "len"=none):FnOk P w K mg base bZ 20 f fd [sC,sA] (eK I CR):=by
 refine F.ok S5<|λar A ag s H O Q E U h=>?_
 obtain⟨H0,p,g,m,Y,n,rfl,g0,np,hp,M,hT,q⟩:=h;have hu:=U.units;have au:=gJ U;obtain⟨rs,r0,hm,av,ah,ai,aj,_⟩:=M.at (l:=0) M.some1;have n5:=M.n5;refine#[_,(bK (mY (pv 0) (ck jV U.m zZ<|bG (cX eR zZ jA dW<|bG (b7 cO (pv 1) bL<|λ_ _=>rfl) bF) bF) zZ)<|bM<|mY (pv 0) (gN (CompSc.to (N:=[sC,sA]) (osc:=bQ Dq) (vs:=[sG]) {}) zZ zZ (fq<|ck qV U.m zZ<|bG (pv 1) bF) (λ_ _ _ _=>fK)<|λ_ _ _ _=>(zO rH U.m zZ<|b8<|bB (pv 2) (bB (pv 0) bW zZ) zZ)) zZ),?_];refine#[_,zZ,m,_,_,_,zZ,zZ,V2<|g0 _ _ hm,ah,r0,_,zZ,.inr<|V2<|g0 _ _ ai,?_]
 try dsimp only
 rw[bA,aj];refine#[n,zZ,(),λr H1 g1 er=>?_];have p1:=g1 _ _ hp;refine#[_,zZ,p,CR,g,_,zZ,p1,V0.cl,V0.no,by show 0<1000;decide,?_];have g2:Same H0 (bx H1 p<|.ins CR g<|cP sB (.ref r) []):=gh (g0.trans g1) np;have p2:bx H1 p (.ins CR g<|cP sB (.ref r) []) p=some (.ins CR g [(sB,.ref r)]):=bE;have aa:bx H1 p (.ins CR g<|cP sB (.ref r) []) r=some (.tup<|(List.range n).map nv):=by rw[bI (nE p1 er).symm];exact er
 generalize bx H1 p (.ins CR g<|cP sB (.ref r) [])=H2 at g2 p2 aa|-;clear g1 er p1 g0 hp;refine#[_,zZ,m,Y,n,zZ,M.same g2,hT.same g2,λl as told a ys H3 k3 T3 nl el ff od sub al LL nw ap aw=>?_];have ab:=g2.keeps.trans k3;have la:=LL.len;refine#[l,zZ,#[_,V1 el],je (xs:=as.map .ref) (λi O d=>Keeps H3 d/\Tabs d/\∃(k:As) (t:List Lv),O=k.map V.ref/\t.length=i/\t.map (·.c)=told.take i/\(∀L∈t,LvOk Y a L)/\StepsAt I d k m Y t) (by rw[bA];exact small ()) #[Keeps.refl _,T3,[],[],zZ,zZ,zZ,(λL h=>nomatch h),zZ,λi q L e=>by simp at e] (λi O d _ pv=>?_) (λi v O d hv pv=>?_)<|λO d pv sg am=>?_]
 .obtain⟨y,_,k,t,rfl,J,_,_,S⟩:=pv;exact#[V1<|y _ _<|nz el,by rw[bA,S.len,J];exact bR _]
 .obtain⟨y,T4,k,t,rfl,J,eL,B,S⟩:=pv;rw[bT]at hv;obtain⟨lv,ae,rfl⟩:=c9.mp hv;have li:=(bN.mp ae).1;obtain⟨c,ec⟩:∃c,told[i]?=some c:=#[_,bC ()];obtain⟨C,an,lp,wd⟩:=(LL.is i lv c ae ec).lvw<|sub c<|bX ec;refine#[iE,jc #[_,zZ,_,zZ,λx D nx aq ax=>?_]];have gx:Same d (bx (bx d D<|.own x) x<|.ins I D []):=λb o hb=>by
   rw[bI<|cQ hb nx,bI<|cQ hb aq];exact hb
  refine#[d,x,D,m,lv,Y,n,a,c,_,C,zZ,gx,nx,bE,M.keeps<|ab.trans y,ff,LvH.keeps an y,lp,T4,λgs H5 k5 T5 G St=>#[zZ,y.trans k5,T5,k++[x],t++[#[c,gO a<|c.headD [],C,gs]],by rw[c7];rfl,by rw[cC,J];rfl,?_,λL hL=>?_,#[by rw[cC,cC,S.len];rfl,λj q' L e1 u=>?_]]]
  .rw[c7,eL,gj,ec];rfl
  .rcases cF.mp hL with z|z
   .exact B L z
   .rw[cf.mp z];exact#[lp,wd,G]
  .refine vq (P:=λj q=>∀L,(t++[#[c,gO a<|c.headD [],C,gs]])[j]?=some L->StepAt I H5 q m Y L) (λj q e L u=>?_) (λL u=>?_) j q' e1 L u
   .rw[dO (by rw[<-S.len];exact ((bN.mp e).1))]at u;exact(S.is j q L e u).keeps k5
   .rw[S.len,dQ<|bR _,mT]at u;cases u;exact St
 .obtain⟨y,T4,k,t,rfl,J,eL,B,S⟩:=pv;rw[bA]at J eL;rw[la,fF]at eL;have ks:=bP am<|.lst<|k.map V.ref;have af:=(k3.trans y).trans ks.keeps;have p5:=af _ _<|nz p2;refine#[_,zZ,p,CR,g,_,zZ,p5,V0.cl,V0.no,by show 1<1000;decide,?_];have lo:Stays wx (bx d sg<|.lst<|k.map V.ref) (bx (bx d sg<|.lst<|k.map V.ref) p<|.ins CR g<|cP sZ (.ref sg) [(sB,.ref r)]):=Stays.offI p5;refine q a t _ (vv ((ab.trans y).trans ks.keeps) np) ((T4.same ks).offI p5) #[ff,by rw[eL];exact od,by rw[J,la];exact al,B] #[g,r,sg,k,?_,lo.a<|af _ _<|nz aa,lo.a bE,S.len,λi q' L e1 u=>((S.is i q' L e1 u).keeps ks.keeps).off p5 (by show ¬1=5;decide)];rw[bE];exact cH (λl=>some<|HO.ins CR g l)<|by kernel_rfl
noncomputable def kh(k:Nat)(L:Lv):List (Bool×Nat×Nat):=(if 1<L.gs.length then[(true,k,L.gs.length)]else[])++[(false,k,L.us.length)]
noncomputable def ki(a:List Lv):Nat->List (Bool×Nat×Nat)
 |0=>[]
 |i+1=>ki a i++(match a[i]? with|some L=>kh i L|none=>[])
noncomputable def gu(a:List Lv):List (Bool×Nat×Nat):=ki a a.length
theorem Vh(k)(L):(kh k L).length<=2:=by
 unfold kh;by_cases h:1<L.gs.length
 .rw[wB h];exact bR 2
 .rw[wA h];exact rh 1
theorem DW(a):∀i,(ki a i).length<=2 * i
 |0=>bR _
 | i+1=>by
  have z:=DW a i;unfold ki;rw[cC];cases e:a[i]? with
  |none=>
   simp;lia
  |some L=>
   have y:=Vh i L;lia
theorem Bx(e:a[i]?=some L):ki a (i+1)=ki a i++kh i L:=by
 show ki a i++_=_;rw[e]
noncomputable def tr:Bool->Str
 |true=>tR
 |false=>"bring"
structure PartsAt(H:Hp)(as:As)(ps:List (Bool×Nat×Nat)):Prop where
 len:as.length=ps.length
 is:∀(i:Nat) (a:Ad) p,as[i]?=some a->ps[i]?=some p->H a=some (.tup [.str (tr p.1),nv p.2.1,nv p.2.2])
theorem PartsAt.st{f:HO->Bool}(h:PartsAt H c d)(g:Stays f H b)(e:∀xs,f (.tup xs)=false:=by intro;rfl):PartsAt b c d:=#[h.len,λi a p j k=>g _ _ (e _)<|h.is i a p j k]
theorem PartsAt.snoc(h:PartsAt H j g)(e:H a=some (.tup [.str (tr p.1),nv p.2.1,nv p.2.2])):PartsAt H (j++[a]) (g++[p]):=by
 refine#[by rw[cC,cC,h.len];rfl,λi d b f c=>vq (P:=λi d=>∀b,(g++[p])[i]?=some b->H d=some (.tup [.str<|tr b.1,nv b.2.1,nv b.2.2])) (λi d f b c=>?_) (λb c=>?_) i d f b c]
 .rw[dO (by rw[<-h.len];exact(bN.mp f).1)]at c;exact h.is i d b f c
 .rw[h.len,dQ<|bR _,mT]at c;cases c;exact e
inductive ju(C:Ad)(b:List V)(H:Hp)(Q:VK)(a:XK):Prop|mk:∀q m c L,b=[.ref q]->StepAt C H q m c L->Q (.bl (decide (1<L.gs.length))) H->ju C b H Q a
theorem UQ(F:Fun K wV "LevelParts.is_turning" Hu f fd)(P3:OwnC K C [sA,sI,sJ,sR,sO])(b:mg "len"=none):FnOk P w K mg base bZ 1 f fd [sC] (ju C):=by
 refine F.ok Pq<|λc A a s H n Q E o h=>?_
 obtain⟨q,m,p,L,rfl,⟨d,g,t,u,e,i,j,l,_⟩,k⟩:=h;refine#[_,(bM<|cg<|mK Co (cX eR zZ b dW<|bG (dJ (pv 0) zZ) bF) bL<|dC _),#[_,zZ,q,C,d,_,_,zZ,i,P3.cl,P3.no,wq,g,_,zZ,.inl<|V1 j,_,_,zZ,zZ,?_]];rw[bA,l.len,show decide ((1:Int)<((L.gs.length:Nat):Int))=decide (1<L.gs.length)from decide_eq_decide.mpr ()];exact k
inductive gy(d CR:Ad)(e:List V)(H:Hp)(Q:VK)(b:XK):Prop|mk:∀p m g n c,e=[.ref p]->RowAt d CR H p m g n c->c.length<=32->(∀l f a,Same H a->H l=none->a l=some (.lst (f.map .ref))->PartsAt a f (gu c)->Q (.ref l) a)->gy d CR e H Q b
theorem Rg{G CR:Ad}(F:Fun K tM "Row.parts" Gf f fd)(P3:OwnC K G [sA,sI,sJ,sR,sO])(V0:OwnC K CR [sB,sZ])(jC:fh P w K mg base G wV 1 [sC] (ju G))(kR:mg "enumerate"=none)(jA:mg "len"=none):FnOk P w K mg base bZ 3 f fd [sC] (gy G CR):=by
 refine F.ok rB (λab A aa s H vs Q E hr h=>?_)
 obtain⟨p,m,ts,n,O,rfl,⟨dx,r,st,qs,h1,h2,h3,S⟩,few,q⟩:=h;have hu:=hr.units;refine#[_,(bK (cj (i:=1) rB.nd zZ Z' (gw bF)) (bK (fA fi zZ (KA zZ kR (bG (dJ (pv 0) zZ) bF)) (wm zZ (lA (dG (i:=2) rB.nd zZ Z') (lA (dG (i:=3) rB.nd zZ Z') ua))) (bK (vy (di (iI (xm (pv 3) P3.cl jC hr.m)) (bM (iR (hO iM lW lF lJ (pv 1) (bG (jo (b8 (bB dM (bB (pv 2) (bB (cX eR zZ jA dW (bG (dJ (pv 3) zZ) bF)) bW zZ) zZ) zZ))) bF)))) dh)) (bM (iR (hO iM lW lF lJ (pv 1) (bG (jo (b8 (bB dM (bB (pv 2) (bB (dJ (pv 3) zZ) bW zZ) zZ) zZ))) bF)))))) (bM (cg (pv 1))))),?_];refine#[by show 0<=sizeLine;decide,λl o=>?_];have k0:=bP o (.lst []);have lq:=S.len
 let Pv:Nat->L2.St->Hp->Prop:=λi T d=>Same H d/\∃(x:As) (o2 o3:Option V),d l=some (.lst (x.map .ref))/\PartsAt d x (ki O i)/\T=[some (.ref p),some (.ref l),o2,o3]
 refine#[_,zZ,p,CR,dx,_,_,zZ,k0 _ _ h1,V0.cl,V0.no,yy,st,_,zZ,V1 (k0 _ _ h3),LQ (xs:=qs.map .ref) Pv #[k0,[],_,_,bE,#[zZ,λi a p e=>by simp at e],zZ] (λi T d _ p=>V1 (p.1 _ _ h3)) (λi U v T Y hv nT pv=>?_) (λT Y pv=>?_)]
 .obtain⟨g1,x,o2,o3,ef,j,rfl⟩:=pv;rw[bT]at hv;obtain⟨b,eb,rfl⟩:=c9.mp hv;have li:=(bN.mp eb).1;obtain⟨L,eL⟩:∃L,O[i]?=some L:=#[_,bC ()];have I:=bP nT (.tup [.int (i:Nat),.ref b]);have eT:bx Y U (.tup [.int (i:Nat),.ref b]) U=some (.tup [.int (i:Nat),.ref b]):=bE;generalize bx Y U (.tup [.int (i:Nat),.ref b])=H2 at I eT|-;have g2:=g1.trans I;have SA:=(S.is i b L eb eL).keeps g2.keeps;obtain⟨y,g,t,u,gr,s1,s2,s3,s4⟩:=id SA;refine#[U,_,zZ,V2 eT,zZ,_,_,zZ,_,_,zZ,zZ,?_];have J:=I _ _ ef;have lz:=DW O i;have la:=j.len;have ae:∀{d:Hp},Same H2 d->d l=some (.lst (x.map .ref)):=λg=>g _ _ J;refine#[λM d=>Same H d/\∃k,d l=some (.lst (k.map .ref))/\PartsAt d k (ki O i++(if 1<L.gs.length then[(true,i,L.gs.length)]else[]))/\M=[some (.ref p),some (.ref l),some (nv i),some (.ref b)],#[_,zZ,b,y,_,zZ,s1,(by kernel_rfl),b,m,ts,L,zZ,SA,_,zZ,mL (λc=>?_) (λc=>?_)],λM d z=>?_]
  .have c1:1<L.gs.length:=ik c;refine#[_,zZ,.inl #[zZ,_,V1 J],_,zZ,_,zZ,b,G,y,_,_,zZ,s1,P3.cl,P3.no,wq,g,_,zZ,.inl (V1 s2),by show 3<=sizeLine;decide,λB D=>?_];rw[show(gr.map V.ref).length=L.gs.length by rw[bA,s3.len]];have C:=bP D (.tup [.str tR,nv i,nv L.gs.length]);refine#[l,_,_,zZ,zZ,C _ _ J,by rw[bA,cq];lia,?_];have lo:ug (bx H2 B (.tup [.str tR,nv i,nv L.gs.length])) (bx (bx H2 B (.tup [.str tR,nv i,nv L.gs.length])) l (.lst (x.map V.ref++[.ref B]))):=Stays.offL (C _ _ J);rw[wB c1];exact#[gh (g2.trans C) o,x++[B],by rw[bE,c7];rfl,((j.st (pF (I.trans C))).st lo).snoc (lo.a bE),zZ]
  .have c1: ¬1<L.gs.length:=D8 (pK.mpr c);rw[wA c1,iw];exact#[g2,x,J,j.st (pF I),zZ]
  .obtain⟨g3,k,f3,N,rfl⟩:=z;obtain⟨y,g,t,u,gr,s1,s2,s3,s4⟩:=(S.is i b L eb eL).keeps g3.keeps;have af:k.length<=2 * i+2:=by
    rw[N.len,cC];have:(if 1<L.gs.length then[(true,i,L.gs.length)]else[]).length<=2:=by
     by_cases h:1<L.gs.length
     .rw[wB h];exact rh 1
     .rw[wA h];exact iK 2
    lia
   refine#[_,zZ,.inl #[zZ,_,V1 f3],_,zZ,_,zZ,b,G,y,_,_,zZ,s1,P3.cl,P3.no,BQ,by show 3<=sizeLine;decide,λB D=>?_];have C:=bP D (.tup [.str "bring",nv i,nv L.us.length]);refine#[l,_,_,zZ,zZ,C _ _ f3,by rw[bA,cq];lia,?_];have lo:ug (bx d B (.tup [.str "bring",nv i,nv L.us.length])) (bx (bx d B (.tup [.str "bring",nv i,nv L.us.length])) l (.lst (k.map V.ref++[.ref B]))):=Stays.offL (C _ _ f3);refine#[gh (g3.trans C) o,k++[B],_,_,by rw[bE,c7];rfl,?_,zZ];rw[Bx eL];unfold kh;rw[<-dR];exact((N.st (pF C)).st lo).snoc (lo.a bE)
 .obtain⟨g1,x,o2,o3,ef,j,rfl⟩:=pv;rw[bA,lq]at j;exact#[_,zZ,q l x Y g1 o ef j]
noncomputable def io(a:List Lv)(i:Nat):Nat:=(ki a i).length
noncomputable def jj(b:List Lv)(a:bw)(i:Nat)(L:Lv):Nat×Nat:=if 1<L.gs.length then(a.getD (io b i) 0,a.getD (io b i+1) 0)else(0,a.getD (io b i) 0)
noncomputable def oY(b:List Lv)(a:bw):Nat->List (Nat×Nat)
 |0=>[]
 |i+1=>oY b a i++(match b[i]? with|some L=>[jj b a i L]|none=>[])
noncomputable def mM(b:List Lv)(a:bw):List (Nat×Nat):=oY b a b.length
structure RowIn(Ls:List Lv)(row:bw):Prop where
 len:row.length=(gu Ls).length
 lt:∀(j:Nat) p r,(gu Ls)[j]?=some p->row[j]?=some r->r<p.2.2
theorem GW(e:b[i]?=some L):oY b a (i+1)=oY b a i++[jj b a i L]:=by
 show oY b a i++_=_;rw[e]
theorem oA:∀{i},i<=a.length->(oY a row i).length=i
 |0,_=>rfl
 |i+1,h=>by
  rw[GW<|bC h,cC,oA<|eZ h];rfl
theorem yQ{b:Type}{t:Nat->List b}(h:∀i,∃r,t (i+1)=t i++r):∀{i j},i<=j->∃r,t j=t i++r
 |i,0,a=>#[[],by rw[Nat.le_zero.mp a,iw]]
 | i,j+1,a=>by
  by_cases e:i=j+1
  .exact#[[],by rw[e,iw]]
  .obtain⟨r,z⟩:=yQ h (show i<=j by lia);obtain⟨c,d⟩:=h j;exact#[r++c,by rw[d,z,dR]]
theorem JB(a)(h:i<=j):∃r,ki a j=ki a i++r:=yQ (λi=>#[_,zZ]) h
theorem Ud(b)(a)(h:i<=j):∃r,oY b a j=oY b a i++r:=yQ (λi=>#[_,zZ]) h
theorem Ig(e:a[i]?=some L):io a (i+1)=io a i+(if 1<L.gs.length then 2 else 1):=by
 unfold io;rw[Bx e,cC];unfold kh;by_cases h:1<L.gs.length
 .rw[wB h,wB h];rfl
 .rw[wA h,wA h];rfl
theorem GL(e:a[i]?=some L):(mM a row)[i]?=some (jj a row i L):=by
 have b:=(bN.mp e).1;obtain⟨r,z⟩:=Ud a row<|b;unfold mM;rw[z,GW e,dR,dQ (by rw[oA<|eZ b];exact bR _),oA<|eZ b,mT];rfl
theorem He(e:a[i]?=some L)(b:(kh i L)[j]?=some p):(gu a)[io a i+j]?=some p:=by
 obtain⟨r,z⟩:=JB a<|((bN.mp e).1);unfold gu io;rw[z,Bx e,dR,dQ<|nQ _ _,yO,dO (bN.mp b).1];exact b
theorem Lc(e:a[i]?=some L):io a i+(if 1<L.gs.length then 1 else 0)<(gu a).length:=by
 obtain⟨r,z⟩:=JB a<|((bN.mp e).1);have y:=Ig e;unfold gu;rw[z,cC];unfold io at y|-;by_cases h:1<L.gs.length
 .rw[wB h]at y|-;lia
 .rw[wA h]at y|-;lia
structure PairOk(L:Lv)(p:Nat×Nat):Prop where
 g:p.1<L.gs.length
 t:p.2<L.us.length
theorem cB{a:bw}(h:j<a.length):a[j]?=some (a.getD j 0):=by rw[cW,bC h];rfl
theorem RowIn.pair(R:RowIn b a)(e:b[i]?=some L)(g0:0<L.gs.length):PairOk L (jj b a i L):=by
 have z:=Lc e;have len:=R.len;unfold jj;by_cases h:1<L.gs.length
 .rw[wB h]at z|-;have c:(kh i L)[0]?=some (true,i,L.gs.length):=by unfold kh;rw[wB h];rfl
  have d:(kh i L)[1]?=some (false,i,L.us.length):=by unfold kh;rw[wB h];rfl
  exact#[R.lt _ _ _ (He e c)<|cB (),R.lt _ _ _ (He e d)<|cB ()]
 .rw[wA h]at z|-;have c:(kh i L)[0]?=some (false,i,L.us.length):=by unfold kh;rw[wA h];rfl
  exact#[g0,R.lt _ _ _ (He e c)<|cB ()]
noncomputable def ke(L:Lv)(p:Nat×Nat):Nat:=(L.gs.getD p.1 []).getD p.2 0
noncomputable def eW(ts:LN)(L:Lv)(here:bw)(p:Nat×Nat):bw:=if here∈L.c then(tl ts L.us (L.wds.getD (dB L.c here) [])).getD (ke L p) []else here
noncomputable def gk(a:LN)(n:Nat)(b:List Lv)(prs:List (Nat×Nat)):Nat->List Nat
 |0=>List.range n
 |i+1=>match b[i]?,prs[i]? with
  |some L,some p=>eW a L (gk a n b prs i) p
  |_,_=>gk a n b prs i
theorem BB(c:b[i]?=some L)(d:prs[i]?=some p):gk a n b prs (i+1)=eW a L (gk a n b prs i) p:=by
 show(match b[i]?,prs[i]? with|some L,some p=>eW a L (gk a n b prs i) p|_,_=>gk a n b prs i)=_;rw[c,d]
noncomputable def v4(c:LN)(n:Nat)(a:List Lv)(b:bw):Nat:=(gk c n a (mM a b) a.length).headD 0
structure WOk(L:Lv)(p:Nat×Nat):Prop where
 nd:L.c.Nodup
 wl:L.wds.length=L.c.length
 g1:p.1<L.gs.length
 g2:p.2<(L.gs.getD p.1 []).length
 g3:ke L p<L.us.length
theorem LvOk.g0(M:Mach H m ts n)(b:FamOf ts n a)(ok:LvOk ts a L):0<L.gs.length:=(bN.mp<|ok.first M b).1
theorem gP{a:LN}(h:k<a.length):a[k]?=some (a.getD k []):=by rw[cW,bC h];rfl
theorem LvOk.wok(M:Mach H m ts n)(b:FamOf ts n a)(ok:LvOk ts a L){p:Nat×Nat}(po:PairOk L p):WOk L p:=by
 have pm:=ok.pm M b<|bX<|gP po.g;have l:(L.gs.getD p.1 []).length=L.us.length:=by rw[pm.length_eq,mw]
 refine#[ok.p.nd b,ok.p.len,po.g,by rw[l];exact po.t,(fm.mp<|pm.mem_iff.mp<|bX<|cB (by rw[l];exact po.t))]
theorem LvOk.wthn_in(M:Mach H m ts n)(c:FamOf ts n a)(ok:LvOk ts a L){here:bw}(d:here∈L.c){p:Nat×Nat}(po:PairOk L p):eW ts L here p∈gO a here:=by
 have w:=ok.wok M c po;obtain⟨l,e⟩:=j7 d;unfold eW tl;rw[wB d,cW,bT];have f:=gP w.g3;rw[f];obtain⟨b,i⟩:=ok.p.bij M c e<|gP (by rw[w.wl];exact l);have g:=bX f;rw[ok.p.tl]at g;have:=yV M c (c.inU M (cL.mp (fv ok.p.cls).2.2.1).1) i g;rw[<-ok.p.tl]at this;exact this
theorem LvOk.wthn_fam(M:Mach H m ts n)(b:FamOf ts n a)(ok:LvOk ts a L){here:bw}(c:here∈a){p:Nat×Nat}(po:PairOk L p):eW ts L here p∈a:=by
 by_cases h:here∈L.c
 .exact((oD M b).mp<|ok.wthn_in M b h po).1
 .unfold eW;rw[wA h];exact c
theorem zX(b:FamOf ts n a):List.range n∈a:=(b.mem _).mpr<|.inl #[[],(λ_ h=>nomatch h),zZ]
theorem Jl(M:Mach H m ts n)(b:FamOf ts n a){x:bw}(h:x∈a):x≠[]:=by
 rcases (b.mem x).mp h with z|⟨r,_,rfl⟩
 .exact Ob M z
 .exact λe=>nomatch e
theorem Mp(M:Mach H m ts n)(R:RowOf ts n a b)(po:∀(i:Nat) L p,b[i]?=some L->prs[i]?=some p->PairOk L p):∀i,gk ts n b prs i∈a
 |0=>zX R.ff
 | i+1=>by
  have d:=Mp M R po i;cases c:b[i]? with
  |none=>
   show(match b[i]?,prs[i]? with|some L,some p=>eW ts L (gk ts n b prs i) p|_,_=>gk ts n b prs i)∈a;rw[c];exact d
  | some L=>
   cases e:prs[i]? with
   |none=>
    show(match b[i]?,prs[i]? with|some L,some p=>eW ts L (gk ts n b prs i) p|_,_=>gk ts n b prs i)∈a;rw[c,e];exact d
   |some p=>
    rw[BB c e];exact(R.ok L<|bX c).wthn_fam M R.ff d<|po i L p c e
theorem RowIn.po(M:Mach H m ts n)(R:RowOf ts n a c)(f:RowIn c b)(i:Nat)(L)(p:Nat×Nat)(d:c[i]?=some L)(e:(mM c b)[i]?=some p):PairOk L p:=by
 rw[GL d]at e;cases e;exact f.pair d<|(R.ok L<|bX d).g0 M R.ff
inductive eA(C:Ad)(c:List V)(H:Hp)(Q:VK)(b:XK):Prop|mk:∀q h d m e L here p,c=[.ref q,.ref h,.ref d]->StepAt C H q m e L->H h=some (.tup (here.map nv))->H d=some (.tup [nv p.1,nv p.2])->WOk L p->(∀a,H a=some (.tup ((eW e L here p).map nv))->Q (.ref a) H)->eA C c H Q b
theorem Qp(F:Fun K wQ "LevelParts.within" HZ f fd)(P3:OwnC K C [sA,sI,sJ,sR,sO]):FnOk P w K mg base bZ 1 f fd [sC,sQ,tW] (eA C):=by
 refine F.ok Px<|λY A x s H vs Q E B h=>?_
 obtain⟨q,h,D,m,G,L,here,p,rfl,⟨l,g,t,u,gr,n,h2,I,⟨as,J,t2,t3⟩,_⟩,y,M,a,k⟩:=h;have hu:=B.units;have d:=gJ B;refine#[_,(bK (di (vd<|Fv d (pv 1)<|dJ (pv 0) zZ) (bM<|cg<|pv 1) dh)<|bM<|cg<|b7 dD (oK d (dJ (pv 0) zZ) (pv 1)<|λ_ _=>rfl) (b7 cO (b7 dD (dJ (pv 0) zZ) (b7 cO (pv 2) bL<|λ_ _=>rfl)<|λ_ _=>rfl) (b7 cO (pv 2) bL<|λ_ _=>rfl)<|λ_ _=>rfl)<|λ_ _=>rfl),?_];by_cases c:here∈L.c
 .obtain⟨li,ei⟩:=j7 c;obtain⟨b,N⟩:∃b,as[dB L.c here]?=some b:=#[_,bC ()];obtain⟨es,e1,O⟩:=t3 _ _ _ (gP (by rw[a.wl];exact li)) N;have o:=xf a.nd J y ei N;obtain⟨e,i⟩:∃e,gr[p.1]?=some e:=#[_,bC (by rw[I.len];exact a.g1)];have T:(tl G L.us<|L.wds.getD (dB L.c here) [])[ke L p]?=some (eW G L here p):=by
   unfold eW;rw[wB c];exact gP (by unfold tl;rw[List.length_map];exact a.g3)
  obtain⟨r,U⟩:∃r,es[ke L p]?=some r:=#[_,bC (by rw[O.len];exact(bN.mp T).1)];refine#[_,zZ,_,zZ,q,C,l,_,_,zZ,n,P3.cl,P3.no,pq,t,_,zZ,o,_,zZ,cR ?_];refine#[_,zZ,q,C,l,_,_,zZ,n,P3.cl,P3.no,pq,_,zZ,t,_,zZ,o,_,zZ,q,C,l,_,_,zZ,n,P3.cl,P3.no,wq,_,zZ,D,_,_,_,zZ,zZ,V2 M,zZ,g,_,_,_,zZ,zZ,V1 h2,fE (by rw[bT,i];rfl),_,zZ,D,_,_,_,zZ,zZ,V2 M,zZ,e,_,_,_,zZ,zZ,V2<|I.is p.1 e _ i<|gP a.g1,sv a.g2,b,_,_,_,zZ,zZ,V1 e1,fE (j:=ke L p) (by rw[bT,U];rfl),?_];exact k r<|O.is _ r _ U T
 .refine#[_,zZ,_,zZ,q,C,l,_,_,zZ,n,P3.cl,P3.no,pq,t,_,zZ,(D5 J y c),_,zZ,dP ?_];refine#[_,zZ,k h ?_];unfold eW;rw[wA c];exact y
structure PairsAt(H:Hp)(as:As)(ps:List (Nat×Nat)):Prop where
 len:as.length=ps.length
 is:∀(i:Nat) (a:Ad) p,as[i]?=some a->ps[i]?=some p->H a=some (.tup [nv p.1,nv p.2])
theorem PairsAt.st{f:HO->Bool}(h:PairsAt H c d)(g:Stays f H b)(e:∀xs,f (.tup xs)=false:=by intro;rfl):PairsAt b c d:=#[h.len,λi a p j k=>g _ _ (e _)<|h.is i a p j k]
theorem PairsAt.snoc(h:PairsAt H j g)(e:H a=some (.tup [nv p.1,nv p.2])):PairsAt H (j++[a]) (g++[p]):=by
 refine#[by rw[cC,cC,h.len];rfl,λi d b f c=>vq (P:=λi d=>∀b,(g++[p])[i]?=some b->H d=some (.tup [nv b.1,nv b.2])) (λi d f b c=>?_) (λb c=>?_) i d f b c]
 .rw[dO (by rw[<-h.len];exact(bN.mp f).1)]at c;exact h.is i d b f c
 .rw[h.len,dQ<|bR _,mT]at c;cases c;exact e
inductive fG(e CR:Ad)(f:List V)(H:Hp)(Q:VK)(d:XK):Prop|mk:∀p g m i n b a,f=[.ref p,.ref g]->RowAt e CR H p m i n b->b.length<=32->H g=some (.tup (a.map nv))->a.length=(gu b).length->(∀l h c,Same H c->H l=none->c l=some (.lst (h.map .ref))->PairsAt c h (mM b a)->Q (.ref l) c)->fG e CR f H Q d
inductive lH(f CR:Ad)(g:List V)(H:Hp)(Q:VK)(d:XK):Prop|mk:∀p h m b n e c a,g=[.ref p,.ref h]->RowAt f CR H p m b n c->Mach H m b n->RowOf b n e c->H h=some (.tup (a.map nv))->RowIn c a->(∀i,Same H i->Q (nv (v4 b n c a)) i)->lH f CR g H Q d
theorem OP{M CR:Ad}(F:Fun K "paired" "Row.paired" Ih f fd)(P3:OwnC K M [sA,sI,sJ,sR,sO])(V0:OwnC K CR [sB,sZ])(jC:fh P w K mg base M wV 1 [sC] (ju M)):FnOk P w K mg base bZ 3 f fd [sC,sM] (fG M CR):=by
 refine F.ok jU (λag A aa s H vs Q E hr h=>?_)
 obtain⟨p,N,m,ts,n,j,d,rfl,⟨dx,r,st,qs,h1,h2,h3,S⟩,few,D,lr,q⟩:=h;have hu:=hr.units;refine#[_,(bK (cj (i:=2) jU.nd zZ Z' (gw bF)) (bK (cj (i:=3) jU.nd zZ Z' bL) (bK (fA fi zZ (fq (dJ (pv 0) zZ)) (dG (i:=4) jU.nd zZ Z') (bK (cj (i:=5) jU.nd zZ Z' bL) (bK (vy (di (iI (xm (pv 4) P3.cl jC hr.m)) (bK (cj (i:=5) jU.nd zZ Z' (b7 cO (pv 1) (pv 3) (λ_ _=>rfl))) (bM (KI (i:=3) jU.nd zZ Z' bL Jr))) dh)) (bK (iR (hO iM lW lF lJ (pv 2) (bG (jo (b8 (bB (pv 5) (bB (b7 cO (pv 1) (pv 3) (λ_ _=>rfl)) bW zZ) zZ))) bF))) (bM (KI (i:=3) jU.nd zZ Z' bL Jr)))))) (bM (cg (pv 2)))))),?_];refine#[by show 0<=sizeLine;decide,λB x=>?_];have k0:=bP x (.lst []);have lq:=S.len
 let Pv:Nat->L2.St->Hp->Prop:=λi O o=>Same H o/\∃(y:As) (o4 o5:Option V),o B=some (.lst (y.map .ref))/\PairsAt o y (oY j d i)/\O=[some (.ref p),some (.ref N),some (.ref B),some (nv (io j i)),o4,o5]
 refine#[_,zZ,p,CR,dx,_,_,zZ,k0 _ _ h1,V0.cl,V0.no,yy,st,zZ,#[_,V1 (k0 _ _ h3)],oX (xs:=qs.map .ref) Pv #[k0,[],_,_,bE,#[zZ,λi a p e=>by simp at e],zZ] (λi O o _ p=>V1 (p.1 _ _ h3)) (λi v O H1 hv pv=>?_) (λO H1 pv=>?_)]
 .obtain⟨C,y,o4,o5,G,l,rfl⟩:=pv;rw[bT]at hv;obtain⟨b,eb,rfl⟩:=c9.mp hv;have li:=(bN.mp eb).1;obtain⟨L,T⟩:∃L,j[i]?=some L:=#[_,bC ()];have SA:=(S.is i b L eb T).keeps C.keeps;obtain⟨ab,g,t,u,gr,s1,s2,s3,s4⟩:=id SA;have pl:=Lc T;have pn:=Ig T;have la:=l.len;rw[oA ()]at la;refine#[λI o=>o=H1/\I=[some (.ref p),some (.ref N),some (.ref B),some (nv (io j i+if 1<L.gs.length then 1 else 0)),some (.ref b),some (nv (jj j d i L).1)],#[_,zZ,b,ab,_,zZ,s1,(by kernel_rfl),b,m,ts,L,zZ,SA,_,zZ,mL (λc=>?_) (λc=>?_)],λI o z=>?_]
  .have J:=ik c;rw[wB J]at pl|-;refine#[_,zZ,_,zZ,N,_,_,_,zZ,zZ,V2 (C _ _ D),sv (k:=io j i) (),?_];unfold jj;rw[wB J];exact#[_,zZ,_,_,zZ,zZ,zZ,zZ]
  .have J:=D8 (pK.mpr c);rw[wA J]at pl|-;unfold jj;rw[wA J];exact#[zZ,zZ]
  .obtain⟨rfl,rfl⟩:=z;have ae:io j i+(if 1<L.gs.length then 1 else 0)<d.length:=by rw[lr];exact pl
   refine#[_,zZ,.inl #[zZ,_,V1 G],_,zZ,_,zZ,_,zZ,N,_,_,_,zZ,zZ,V2 (C _ _ D),sv ae,by show 2<=sizeLine;decide,λU af=>?_];have e2:(jj j d i L).2=d.getD (io j i+if 1<L.gs.length then 1 else 0) 0:=by
    unfold jj;by_cases c:1<L.gs.length
    .rw[wB c,wB c]
    .rw[wA c,wA c];rfl
   rw[<-e2];have Y:=bP af (.tup [nv (jj j d i L).1,nv (jj j d i L).2]);refine#[B,_,_,zZ,zZ,Y _ _ G,by rw[bA,cq];lia,_,zZ,_,_,zZ,zZ,?_];have lo:ug (bx o U (.tup [nv (jj j d i L).1,nv (jj j d i L).2])) (bx (bx o U (.tup [nv (jj j d i L).1,nv (jj j d i L).2])) B (.lst (y.map V.ref++[.ref U]))):=Stays.offL (Y _ _ G);refine#[gh (C.trans Y) x,y++[U],some (.ref b),some (nv (jj j d i L).1),by rw[bE,c7];rfl,?_,?_]
   .rw[GW T];exact((l.st (pF Y)).st lo).snoc (lo.a bE)
   .rw[pn];by_cases c:1<L.gs.length
    .rw[wB c,wB c];rfl
    .rw[wA c,wA c];rfl
 .obtain⟨C,y,o4,o5,G,l,rfl⟩:=pv;rw[bA,lq]at l;exact#[_,zZ,q B y H1 C x G l]
theorem Rb{o CR:Ad}(F:Fun K "told" "Row.told" Ff f fd)(P3:OwnC K o [sA,sI,sJ,sR,sO])(V0:OwnC K CR [sB,sZ])(jF:fh P w K mg base o wQ 1 [sC,sQ,tW] (eA o))(kG:fh P w K mg base CR "paired" 3 [sC,sM] (fG o CR))(uN:mg "zip"=none):FnOk P w K mg base bZ 5 f fd [sC,sM] (lH o CR):=by
 refine F.ok qT (λae A N s H vs Q E O h=>?_)
 obtain⟨p,ra,m,C,n,af,c,d,rfl,RA,M,R,T,ri,q⟩:=h;have hu:=O.units;obtain⟨U,r,st,qs,Y,h2,h3,S⟩:=id RA;have lq:=S.len;have po:=ri.po M R;refine#[_,(bK (cj (i:=2) qT.nd zZ Z' (dJ (pv 0) zZ)) (bK (fA fi zZ (HX zZ uN (b8 (bB (dJ (pv 0) zZ) (bB (gF (pv 0) V0.cl kG O.m (bG (pv 1) bF)) bW zZ) zZ))) (wm zZ (lA (dG (i:=3) qT.nd zZ Z') (lA (dG (i:=4) qT.nd zZ Z') ua))) (bM (cj (i:=2) qT.nd zZ Z' (gF (pv 3) P3.cl jF O.m (b8 (bB (pv 2) (bB (pv 4) bW zZ) zZ)))))) (bM (cg (b7 cO (pv 2) bL (λ_ _=>rfl)))))),?_];refine#[_,zZ,p,CR,U,_,_,zZ,Y,V0.cl,V0.no,Dx,?_];refine#[_,zZ,p,CR,U,_,_,zZ,Y,V0.cl,V0.no,yy,_,zZ,p,U,_,zZ,Y,(by kernel_rfl),_,zZ,p,ra,m,C,n,c,d,zZ,RA,R.few,T,ri.len,λl as H1 z nl el PA=>?_];have lp:as.length=c.length:=by rw[PA.len];exact oA (bR _)
 let Pv:Nat->L2.St->Hp->Prop:=λi D H'=>Same H1 H'/\∃(h:Ad) (o3 o4:Option V),H' h=some (.tup ((gk C n c (mM c d) i).map nv))/\D=[some (.ref p),some (.ref ra),some (.ref h),o3,o4]
 refine#[st,l,_,_,zZ,V1 (z _ _ h3),V1 el,Fs (ys:=as.map .ref) Pv #[Same.refl _,r,_,_,z _ _ h2,zZ] (λi D H' p=>#[V1 (p.1 _ _ (z _ _ h3)),V1 (p.1 _ _ el)]) (λi x y G D I hx hy nT pv=>?_) (λD I pv=>?_)]
 .obtain⟨g2,h,o3,o4,J,rfl⟩:=pv;rw[bT]at hx hy;obtain⟨b,eb,rfl⟩:=c9.mp hx;obtain⟨k,aa,rfl⟩:=c9.mp hy;have li:=(bN.mp eb).1;obtain⟨L,B⟩:∃L,c[i]?=some L:=#[_,bC ()];have ep:=GL (row:=d) B;have kT:=bP nT (.tup [.ref b,.ref k]);have eT:bx I G (.tup [.ref b,.ref k]) G=some (.tup [.ref b,.ref k]):=bE;generalize bx I G (.tup [.ref b,.ref k])=H3 at kT eT|-;have g3:=g2.trans kT;have SA:=(S.is i b L eb B).keeps (z.trans g3).keeps;obtain⟨ab,g,t,u,gr,s1,s2⟩:=id SA;refine#[G,_,zZ,V2 eT,zZ,_,_,zZ,_,_,zZ,zZ,?_];refine#[_,zZ,b,ab,_,zZ,s1,(by kernel_rfl),_,zZ,_,zZ,b,h,k,m,C,L,_,_,zZ,SA,kT _ _ J,g3 _ _ (PA.is i k _ aa ep),(R.ok L (bX B)).wok M R.ff (po i L _ B ep),λa ea=>?_];exact#[g3,a,_,_,by rw[BB B ep];exact ea,zZ]
 .obtain⟨g2,h,o3,o4,J,rfl⟩:=pv;have lm:min (qs.map V.ref).length (as.map V.ref).length=c.length:=by rw[bA,bA,lq,lp,ye]
  rw[lm]at J;refine#[_,zZ,h,_,_,_,zZ,zZ,V2 J,?_,q I (z.trans g2)];unfold v4;cases e:gk C n c (mM c d) c.length with
  |nil=>exact wC e (Jl M R.ff (Mp M R po c.length))
  |cons x xs=>exact(fE (j:=0) (v:=nv x) rfl:fL ((x::xs).map nv) ((0:Nat):Int)=some (nv x))
def tq(a:List Lv)(i:Nat)(x:bw):Prop:=∀j L,j<i->a[j]?=some L->x∉L.c
section
variable{b:List Lv}
theorem RowOf.due(M:Mach H m ts n)(R:RowOf ts n a b)(e:b[i]?=some L):Due ts ((b.map (·.c)).drop i) L.c:=by
 refine N1 R.od (J4 ts _) (OQ R.ff) (λc f d g r=>C7 M (R.ff.inU M (cL.mp (fv f).2.2.1).1) r) i L.c (by rw[bT,e];rfl)
theorem RowOf.in_drop(h:i<=j)(e:b[j]?=some L):L.c∈(b.map (·.c)).drop i:=by
 refine bX (i:=j-i) ?_;rw[xw,bT,show i+(j-i)=j by lia,e];rfl
theorem RowOf.len_le(M:Mach H m ts n)(R:RowOf ts n a b){i j:Nat}(h:i<=j)(e:b[i]?=some L)(d:b[j]?=some c){x y:bw}(f:x∈L.c)(g:y∈c.c):y.length<=x.length:=by
 rw[JT M R.ff (R.ok L<|bX e).p.cls f,JT M R.ff (R.ok c<|bX d).p.cls g];exact(R.due M e).most _<|RowOf.in_drop h d
theorem Mv(M:Mach H m ts n)(R:RowOf ts n a b)(e:b[i]?=some L){here:bw}(h:here∈a)(k:tq b i here)(po:PairOk L p):tq b (i+1) (eW ts L here p):=by
 by_cases c:here∈L.c
 .obtain⟨l,o,q,_⟩:=(oD M R.ff).mp<|(R.ok L<|bX e).wthn_in M R.ff c po;have lt:=OW (R.ff.inU M h) (R.ff.inU M l) q o;intro j g r d f;have:=R.len_le M (show j<=i by lia) d e f c;lia
 .have s:eW ts L here p=here:=by unfold eW;rw[wA c]
  rw[s];intro j g r d f;by_cases z:j=i
  .subst z;rw[e]at d;cases d;exact c f
  .exact k j g () d f
theorem Jp(M:Mach H m ts n)(R:RowOf ts n a b){x:bw}(d:x∈a)(f:tq b b.length x):∃r,x=[r]/\r<n:=by
 have i: ¬1<x.length:=λh=>by
  obtain⟨c,k,l⟩:=KN<|cL.mpr #[d,cK h];obtain⟨L,o,rfl⟩:=bY.mp<|HG R.od c k;obtain⟨j,e⟩:=fM.mp o;exact f j L (bN.mp e).1 e l
 cases x with
 |nil=>exact wC zZ<|Jl M R.ff d
 |cons r p=>
  cases p with
  |nil=>exact#[r,zZ,(bD.mp<|R.ff.inU M d).2 r<|cJ ..]
  |cons y q=>exact wC (by simp) i
noncomputable def dY(ts:LN)(L:Lv)(here:bw):LN:=tl ts L.us (L.wds.getD (dB L.c here) [])
theorem LvOk.tls_iff(M:Mach H m ts n)(b:FamOf ts n a)(ok:LvOk ts a L){here:bw}(c:here∈L.c)(y:bw):y∈dY ts L here↔y∈gO a here:=by
 obtain⟨d,e⟩:=j7 c;exact Q7 M b ok.p e (gP (by rw[ok.p.len];exact d)) y
theorem D7(c:here∈L.c)(p:Nat×Nat):eW ts L here p=(dY ts L here).getD (ke L p) []:=by
 unfold eW;rw[wB c];rfl
theorem yR:(dY ts L here).length=L.us.length:=by unfold dY tl;rw[List.length_map]
noncomputable def iQ(b:LN)(a:bw):Nat:=(b.map (sub a)).idxOf true
theorem HR{b:LN}(h:∃t∈b,sub a t=true):true∈b.map (sub a)/\iQ b a<b.length/\sub a (b.getD (iQ b a) [])=true:=by
 obtain⟨t,ht,st⟩:=h;have e:=bY.mpr #[t,ht,st];have c:iQ b a<(b.map (sub a)).length:=yW.mpr e;have d:iQ b a<b.length:=by rw[bA]at c;exact c
 have z:(b.map (sub a))[iQ b a]?=some true:=by rw[bC c];exact cH some (AC c)
 refine#[e,d,?_];rw[bT,bC d]at z;rw[cW,bC d];exact ge z
theorem LvOk.has_tile(M:Mach H m ts n)(b:FamOf ts n a)(ok:LvOk ts a L){here u:bw}(c:here∈L.c)(d:u∈a)(e:u≠here)(s:sub u here=true):∃t∈dY ts L here,sub u t=true:=by
 obtain⟨t,ht,st⟩:=(t0 M b here).all u d e s;exact#[t,(ok.tls_iff M b c t).mpr ht,st]
theorem LvOk.big_len(ok:LvOk ts a L){here:bw}(c:here∈L.c):1<here.length/\here∈a:=by
 obtain⟨b,d⟩:=cL.mp ((fv ok.p.cls).2.2.2 here c).1;exact#[ik d,b]
theorem LvOk.tile0(M:Mach H m ts n)(b:FamOf ts n a)(ok:LvOk ts a L)(h:j<L.us.length):ke L (0,j)=j:=by
 unfold ke;rw[cW (l:=L.gs),ok.first M b];show(List.range L.us.length).getD j 0=j;rw[cW,n9 h];rfl
end
structure Al(ps:List (Bool×Nat×Nat))(rs:bw):Prop where
 len:rs.length=ps.length
 lt:∀(j:Nat) p r,ps[j]?=some p->rs[j]?=some r->r<p.2.2
theorem Al.app{f a:List (Bool×Nat×Nat)}(h:Al f g)(i:Al a b):Al (f++a) (g++b):=by
 refine#[by rw[cC,cC,h.len,i.len],λj p r d e=>?_];by_cases c:j<f.length
 .rw[dO c]at d;rw[dO (by rw[h.len];exact c)]at e;exact h.lt j p r d e
 .rw[dQ ()]at d;rw[dQ (by rw[h.len];lia),h.len]at e;exact i.lt _ p r d e
theorem Al.one(h:r<p.2.2):Al [p] [r]:=#[zZ,λj c d a b=>by
 cases j with
 |zero=>cases a;cases b;exact h
 |succ j=>cases a]
noncomputable def sf(L:Lv)(p:Nat×Nat):bw:=(if 1<L.gs.length then[p.1]else[])++[p.2]
noncomputable def mj(a:List Lv)(prs:List (Nat×Nat)):Nat->List Nat
 |0=>[]
 |i+1=>mj a prs i++(match a[i]?,prs[i]? with|some L,some p=>sf L p|_,_=>[])
noncomputable def rz(a:List Lv)(prs:List (Nat×Nat)):bw:=mj a prs a.length
theorem Dy(b:a[i]?=some L)(c:prs[i]?=some p):mj a prs (i+1)=mj a prs i++sf L p:=by
 show mj a prs i++_=_;rw[b,c]
theorem NZ(po:PairOk L p):Al (kh i L) (sf L p):=by
 refine Al.app ?_<|Al.one po.t;by_cases c:1<L.gs.length
 .rw[wB c,wB c];exact Al.one po.g
 .rw[wA c,wA c];exact#[zZ,λj p r e=>by simp at e]
theorem JJ(d:prs.length=a.length)(po:∀(i:Nat) L p,a[i]?=some L->prs[i]?=some p->PairOk L p):∀i,i<=a.length->Al (ki a i) (mj a prs i)
 |0,_=>#[zZ,λj p r e=>by simp[ki]at e]
 |i+1,h=>by
  have b:=bC<|h;have c:=bC (show i<prs.length by lia);rw[Bx b,Dy b c];exact(JJ d po i<|eZ h).app<|NZ<|po i _ _ b c
theorem Nx(b:prs.length=a.length)(po:∀(i:Nat) L p,a[i]?=some L->prs[i]?=some p->PairOk L p):RowIn a (rz a prs):=let z:=JJ b po a.length<|bR _;#[z.len,z.lt]
theorem L5(d:prs.length=a.length):∀i,i<=a.length->(mj a prs i).length=io a i
 |0,_=>rfl
 | i+1,h=>by
  have b:=bC<|h;rw[Dy b<|bC<|show i<prs.length by lia,cC,L5 d i<|eZ h,Ig b];unfold sf;by_cases c:1<(a[i]'h).gs.length
  .rw[wB c,wB c];rfl
  .rw[wA c,wA c];rfl
theorem Rh(j:prs.length=a.length)(l:∀(i:Nat) L p,a[i]?=some L->prs[i]?=some p-> ¬1<L.gs.length->p.1=0):mM a (rz a prs)=prs:=by
 refine nq λi=>?_;by_cases e:i<a.length
 .have f:=bC e;have g:=bC (show i<prs.length by lia);rw[GL f,g];obtain⟨r,z⟩:=yQ (t:=mj a prs) (λi=>#[_,zZ])<|e;have m:=L5 j i<|eZ e;have b:∀k,(rz a prs).getD (io a i+k) 0=((sf a[i] (prs[i]'())++r)[k]?).getD 0:=λk=>by
   unfold rz;rw[z,Dy f g,dR,cW,dQ (),m,yO]
  unfold jj;by_cases c:1<(a[i]'e).gs.length
  .have d:=b 0;have h:=b 1;unfold sf at d h;rw[wB c]at d h|-;rw[show io a i=io a i+0 from rfl,d,h];rfl
  .have d:=b 0;unfold sf at d;rw[wA c]at d|-;rw[show io a i=io a i+0 from rfl,d];exact cH some<|Prod.ext (l i _ _ f g c).symm zZ
 .have n:(mM a<|rz a prs).length=a.length:=oA<|bR _;rw[iJ (),iJ ()]
theorem Fn(M:Mach H m a n){x:bw}(h:x∈cZ n):x.length<=5:=cz (oI M.n5 h) M.n5
inductive gI(C:Ad)(d:List V)(H:Hp)(Q:VK)(b:XK):Prop|mk:∀q h e m c L (here a:bw),d=[.ref q,.ref h,.ref e]->StepAt C H q m c L->H h=some (.tup (here.map nv))->H e=some (.tup (a.map nv))->here∈L.c->L.c.Nodup->L.wds.length=L.c.length->L.us.length<=32->a.length<=5->(∃t∈dY c L here,sub a t=true)->(∀f,Same H f->Q (nv (iQ (dY c L here) a)) f)->gI C d H Q b
inductive dH(d CR:Ad)(e:List V)(H:Hp)(Q:VK)(b:XK):Prop|mk:∀p l m f g n a prs,e=[.ref p,.ref l]->RowAt d CR H p m g n a->a.length<=32->H l=some (.lst (f.map .ref))->PairsAt H f prs->prs.length=a.length->(∀t c,Same H c->c t=some (.tup ((rz a prs).map nv))->Q (.ref t) c)->dH d CR e H Q b
theorem S1(F:Fun K yG "LevelParts.least_tile" DF f fd)(P3:OwnC K C [sA,sI,sJ,sR,sO])(T:cn P w K mg base xW 1 [tT,sY] jq):FnOk P w K mg base bZ 3 f fd [sC,sQ,sB] (gI C):=by
 refine F.ok Sc (λU A o s H vs Q E r h=>?_)
 obtain⟨q,h,Y,m,j,L,here,a,rfl,⟨dx,g,t,u,gr,h1,h2,h3,⟨as,t1,t2,t3⟩,_⟩,hh,x,c,nd,wl,few,r5,ex,k⟩:=h;have hu:=r.units;refine#[_,(bM (cg (hO iM zT BE Pu (gN (CompSc.to (N:=[sC,sQ,sB]) (osc:=bQ DF) (vs:=[xT]) {}) zZ zZ (fq (oK (gJ r) (dJ (pv 0) zZ) (pv 1) (λ_ _=>rfl))) (λ_ _ _ _=>fK) (λ_ _ _ _=>(ck T r.m zZ (b8 (bB (pv 3) (bB (pv 0) bW zZ) zZ))))) (bG wn bF)))),?_];obtain⟨li,ei⟩:=j7 c;obtain⟨b,B⟩:∃b,as[dB L.c here]?=some b:=#[_,bC ()];obtain⟨D,G,I⟩:=t3 _ _ _ (gP (by rw[wl];exact li)) B;have le:=I.len;have lt:(dY j L here).length=L.us.length:=yR;have e:D.length=L.us.length:=by rw[le];exact lt
 refine#[_,zZ,q,C,dx,_,_,zZ,h1,P3.cl,P3.no,pq,_,zZ,t,_,zZ,(xf nd t1 hh ei B),b,zZ,#[_,V1 G],je (xs:=D.map .ref) (λi l n=>Same H n/\l=(((dY j L here).take i).map (sub a)).map V.bl) (by rw[bA];exact small ()) #[Same.refl _,zZ] (λi l n _ p=>?_) (λi v l n J p=>?_) (λl n p sg z=>?_)]
 .obtain⟨g,rfl⟩:=p;refine#[V1 (g _ _ G),?_];rw[bA,bA,fe];exact zo _ _
 .obtain⟨g,rfl⟩:=p;rw[bT]at J;obtain⟨d,M,rfl⟩:=c9.mp J;obtain⟨u,O⟩:∃u,(dY j L here)[i]?=some u:=#[_,bC (by rw[lt,<-e];exact(bN.mp M).1)];refine#[iE,jc #[_,zZ,_,zZ,Y,d,a,u,zZ,g _ _ x,g _ _ (I.is i d u M O),r5,λH2 g2=>#[g.trans g2,?_]]];rw[gj,O,c7,c7];rfl
 .obtain⟨g,rfl⟩:=p;rw[bA,e,<-lt,fF];obtain⟨m1,_,_⟩:=HR ex;refine#[.inl #[zZ,_,V1 bE],sg,_,zZ,zZ,V1 bE,m1,k _ (g.trans (bP z (.lst (((dY j L here).map (sub a)).map V.bl))))]
theorem N3{G CR:Ad}(F:Fun K "unpaired" "Row.unpaired" IF f fd)(P3:OwnC K G [sA,sI,sJ,sR,sO])(V0:OwnC K CR [sB,sZ])(jC:fh P w K mg base G wV 1 [sC] (ju G))(uN:mg "zip"=none)(jE:mg "tuple"=none):FnOk P w K mg base bZ 3 f fd [sC,wF] (dH G CR):=by
 refine F.ok qJ (λae A T s H vs Q E hr h=>?_)
 obtain⟨p,l,m,as,ts,n,e,prs,rfl,⟨dx,r,st,qs,h1,h2,h3,S⟩,few,el,PA,lp,q⟩:=h;have hu:=hr.units;have lq:=S.len;have la:=PA.len;refine#[_,(bK (cj (i:=2) qJ.nd zZ Z' (gw bF)) (bK (fA fi zZ (HX zZ uN (b8 (bB (dJ (pv 0) zZ) (bB (pv 1) bW zZ) zZ))) (wm zZ (lA (dG (i:=3) qJ.nd zZ Z') (lA (dG (i:=4) qJ.nd zZ Z') ua))) (bK (vy (di (iI (xm (pv 3) P3.cl jC hr.m)) (bM (iR (hO iM lW lF lJ (pv 2) (bG (b7 cO (pv 4) bL (λ_ _=>rfl)) bF)))) dh)) (bM (iR (hO iM lW lF lJ (pv 2) (bG (b7 cO (pv 4) bL (λ_ _=>rfl)) bF)))))) (bM (cg (gE nL zZ jE lL (bG (pv 2) bF)))))),?_];refine#[by decide,λj k=>?_];have I:=bP k (.lst [])
 let Pv:Nat->L2.St->Hp->Prop:=λi J o=>Same H o/\∃(U Y:Option V),o j=some (.lst ((mj e prs i).map nv))/\(mj e prs i).length<=2 * i/\J=[some (.ref p),some (.ref l),some (.ref j),U,Y]
 refine#[_,zZ,p,CR,dx,_,_,zZ,I _ _ h1,V0.cl,V0.no,yy,_,zZ,st,l,_,_,zZ,V1 (I _ _ h3),V1 (I _ _ el),Fs (xs:=qs.map .ref) (ys:=as.map .ref) Pv #[I,_,_,bE,bR _,zZ] (λi J o p=>#[V1 (p.1 _ _ h3),V1 (p.1 _ _ el)]) (λi x y M J H1 hx hy nT pv=>?_) (λJ H1 pv=>?_)]
 .obtain⟨g1,U,Y,N,l2,rfl⟩:=pv;rw[bT]at hx hy;obtain⟨b,eb,rfl⟩:=c9.mp hx;obtain⟨a,B,rfl⟩:=c9.mp hy;have li:=(bN.mp eb).1;obtain⟨L,eL⟩:∃L,e[i]?=some L:=#[_,bC ()];obtain⟨d,v⟩:∃d,prs[i]?=some d:=#[_,bC ()];have kT:=bP nT (.tup [.ref b,.ref a]);have eT:bx H1 M (.tup [.ref b,.ref a]) M=some (.tup [.ref b,.ref a]):=bE;generalize bx H1 M (.tup [.ref b,.ref a])=H2 at kT eT|-;have O:=g1.trans kT;have f2:=kT _ _ N;have SA:=(S.is i b L eb eL).keeps O.keeps;obtain⟨aa,g,t,u,gr,s1,s2⟩:=id SA;have ab:=O _ _ (PA.is i a d B v);refine#[M,_,zZ,V2 eT,zZ,_,_,zZ,_,_,zZ,zZ,?_];refine#[λC o=>Same H o/\o j=some (.lst ((mj e prs i++(if 1<L.gs.length then[d.1]else[])).map nv))/\C=[some (.ref p),some (.ref l),some (.ref j),some (.ref b),some (.ref a)],#[_,zZ,b,aa,_,zZ,s1,(by kernel_rfl),b,m,ts,L,zZ,SA,_,zZ,mL (λc=>?_) (λc=>?_)],λC o z=>?_]
  .have c1:=ik c;rw[wB c1];refine#[_,zZ,.inl #[zZ,_,V1 f2],_,zZ,a,_,_,_,zZ,zZ,V2 ab,zZ,j,_,_,zZ,zZ,f2,by rw[bA,cq];lia,?_];exact#[gh O k,by rw[bE,c7];rfl,zZ]
  .have c1:=D8 (pK.mpr c);rw[wA c1,iw];exact#[O,f2,zZ]
  .obtain⟨g3,f3,rfl⟩:=z;have D:=g3 _ _ (PA.is i a d B v);have l3:(mj e prs i++(if 1<L.gs.length then[d.1]else[])).length<=2 * i+1:=by
    rw[cC];by_cases h:1<L.gs.length
    .rw[wB h];exact Nat.add_le_add_right l2 1
    .rw[wA h];exact cz l2 (rh _)
   refine#[_,zZ,.inl #[zZ,_,V1 f3],_,zZ,a,_,_,_,zZ,zZ,V2 D,zZ,j,_,_,zZ,zZ,f3,by rw[bA,cq];lia,?_];have eu:mj e prs (i+1)=mj e prs i++(if 1<L.gs.length then[d.1]else[])++[d.2]:=by rw[Dy eL v,dR];rfl
   refine#[gh g3 k,_,_,by rw[bE,eu,c7 (l₂:=[d.2])];rfl,?_,zZ];rw[eu,cC];exact cz (Nat.add_le_add_right l3 1) ()
 .obtain⟨g1,U,Y,N,l2,rfl⟩:=pv;have lm:min (qs.map V.ref).length (as.map V.ref).length=e.length:=by rw[bA,bA,lq,la,lp,ye]
  rw[lm]at N;refine#[_,zZ,j,_,zZ,.inl #[V1 N,λt ht=>?_]];exact q t _ (g1.trans (bP ht _)) bE
noncomputable def jf(a:LN)(L:Lv)(here:bw)(l:Nat):bw:=(dY a L here).map λu=>dB (dY a L (bH a here l)) (bH a u l)
noncomputable def fS(b:LN)(L:Lv)(here a:bw)(l:Nat):bw×Option Nat:=
 if a∈L.c then(if here∈L.c/\bH b here l=a then(jf b L here l,none)else(List.range L.us.length,some (iQ (dY b L a) (bH b here l))))else(List.range L.us.length,none)
noncomputable def yx(L:Lv)(d:bw×Option Nat)(a:Nat):Nat:=L.gs.idxOf (dz (L.gs.getD a []) d.1)
noncomputable def KH(L:Lv)(d:bw×Option Nat)(a b:Nat):Nat:=match d.2 with
 |none=>b
 |some j=>(L.gs.getD a []).idxOf j
noncomputable def mR(L:Lv)(d:bw×Option Nat)(p:Nat×Nat):Nat×Nat:=(yx L d p.1,KH L d p.1 p.2)
section
variable{ts:LN}{f:List Lv}{L:Lv}
theorem Ec(a:l<ts.length):∀z∈[l],z<ts.length:=λz b=>by rw[cf.mp b];exact a
theorem LvOk.tls_nd(M:Mach H m ts n)(f:FamOf ts n d)(ok:LvOk ts d L){here:bw}(c:here∈L.c):(dY ts L here).Nodup:=by
 obtain⟨j,k⟩:=j7 c;obtain⟨p,g⟩:=ok.p.bij M f k<|gP (by rw[ok.p.len];exact j);unfold dY tl;rw[List.Nodup,yI];refine Ho (λ{a b} h i l e=>l ?_)<|w9 M f ok.p;rw[ok.p.tl]at h i;obtain⟨o,_,q,_⟩:=(oD M f).mp h;obtain⟨r,_,s,_⟩:=(oD M f).mp i;rw[<-g.back M (f.inU M o) q,<-g.back M (f.inU M r) s,e]
theorem z5{j:Nat}{u:bw}(e:L.us[j]?=some u):(dY ts L here)[j]?=some (cu (bH ts) u (L.wds.getD (dB L.c here) [])):=by
 unfold dY tl;rw[bT,e];rfl
theorem LvOk.trn_eq(M:Mach H m ts n)(e:FamOf ts n d)(ok:LvOk ts d L)(f:bH ts here l∈L.c)(g:i9 ts L.us (L.wds.getD (dB L.c here) []) (L.wds.getD (dB L.c (bH ts here l)) []) l a):a=jf ts L here l:=by
 obtain⟨p,h⟩:=g;refine nq λj=>?_;by_cases i:j<L.us.length
 .have b:=bC i;have c:=bC (show j<a.length by lia);obtain⟨q,k,o⟩:=h j _ _ b c;unfold jf;rw[bT,z5 b,c];exact cH some (CT (ok.tls_nd M e f)<|by rw[z5 k,o]).symm
 .have r:(jf ts L here l).length=L.us.length:=by unfold jf;rw[List.length_map,yR]
  rw[iJ (),iJ ()]
theorem LvOk.trn_by(M:Mach H m ts n)(e:FamOf ts n d)(ok:LvOk ts d L){here:bw}(f:l<ts.length)(g:here∈L.c)(h:bH ts here l∈L.c):i9 ts L.us (L.wds.getD (dB L.c here) []) (L.wds.getD (dB L.c (bH ts here l)) []) l (jf ts L here l):=by
 obtain⟨i,k⟩:=j7 g;obtain⟨o,p⟩:=j7 h;have r:=gP (show dB L.c (bH ts here l)<L.wds.length by rw[ok.p.len];exact o);refine#[by unfold jf;rw[List.length_map,yR],λj u s c a=>?_];unfold jf at a;rw[bT,z5 c]at a;have a:dB (dY ts L<|bH ts here l) (bH ts (cu (bH ts) u<|L.wds.getD (dB L.c here) []) l)=s:=ge a;have t:bH ts (cu (bH ts) u<|L.wds.getD (dB L.c here) []) l∈dY ts L (bH ts here l):=Ma M e ok.p k (gP (show dB L.c here<L.wds.length by rw[ok.p.len];exact i)) f p r<|bX c;obtain⟨y,b⟩:=j7 t;rw[a]at b;unfold dY tl at b;rw[bT]at b;obtain⟨v,w,x⟩:=c9.mp b;exact#[v,w,x]
theorem LvOk.trn_gs(M:Mach H m ts n)(e:FamOf ts n d)(ok:LvOk ts d L){here:bw}(a:l<ts.length)(b:here∈L.c)(c:bH ts here l∈L.c){g:bw}(f:g∈L.gs):dz g (jf ts L here l)∈L.gs:=by
 obtain⟨h,i⟩:=j7 b;obtain⟨j,k⟩:=j7 c;exact(ok.g.mem _).mpr<|.step ((ok.g.mem g).mp f) #[_,l,_,here,_,_,i,gP (by rw[ok.p.len];exact h),a,k,gP (by rw[ok.p.len];exact j),ok.trn_by M e a b c]
theorem KZ(M:Mach H m ts n)(a:FamOf ts n d){x:bw}(b:x∈d)(c:l<ts.length):bH ts x l∈d:=GX M a b<|Ec c
theorem F3{a:LN}{g:bw}(h:g∈a):a.idxOf g<a.length/\a.getD (a.idxOf g) []=g:=by
 have l:=yW.mpr h;refine#[l,?_];rw[cW,bC l];exact AC l
theorem Sv{a:bw}(h:g∈a):a.idxOf g<a.length/\a.getD (a.idxOf g) 0=g:=by
 have l:=yW.mpr h;refine#[l,?_];rw[cW,bC l];exact AC l
theorem LvOk.still(M:Mach H m ts n)(b:FamOf ts n d)(ok:LvOk ts d L)(h:a<L.gs.length):dz (L.gs.getD a []) (List.range L.us.length)=L.gs.getD a []:=QX λr c=>fm.mp<|(ok.pm M b<|bX<|gP h).mem_iff.mp c
theorem LvOk.idx_still(M:Mach H m ts n)(b:FamOf ts n d)(ok:LvOk ts d L)(h:a<L.gs.length):L.gs.idxOf (dz (L.gs.getD a []) (List.range L.us.length))=a:=by
 rw[ok.still M b h];obtain⟨l,e⟩:=F3 (bX (gP h));exact(iA l ok.nd).mp ((gP l).trans (by rw[e];exact(gP h).symm))
theorem ON(M:Mach H m ts n)(R:RowOf ts n d f)(e:f[i]?=some L){here:bw}(r:l<ts.length)(h:here∈d)(s:tq f i here)(k:bH ts here l∈L.c):here∈L.c:=by
 have ok:=R.ok L<|bX e;have o:Rch ts here (bH ts here l):=#[[l],Ec r,zZ];have x:=C7 M (R.ff.inU M h)<|bO.mpr o;have y:=(ok.big_len k).1;obtain⟨t,a,b⟩:=KN<|cL.mpr #[h,cK<|show 1<here.length by lia];obtain⟨c,u,rfl⟩:=bY.mp<|HG R.od t a;obtain⟨j,p⟩:=fM.mp u;by_cases g:j<i
 .exact wC b<|s j c g p
 .by_cases q:c.c=L.c
  .rw[<-q];exact b
  .have z:=(R.due M e).free c.c (RowOf.in_drop () p) q;have w:=((fv ok.p.cls).2.2.2 _ k).2.2;rw[bO.mpr<|((((fv a).2.2.2 here b).2.1).trans o).trans w]at z;cases z
theorem Nw(M:Mach H m ts n)(R:RowOf ts n d f)(e:f[i]?=some L){here a:bw}(b:l<ts.length)(c:here∈d)(h:tq f i here)(s:sub (bH ts here l) a=true)(g:a∈L.c)(no: ¬(here∈L.c/\bH ts here l=a)):∃t∈dY ts L a,sub (bH ts here l) t=true:=by
 refine(R.ok L (bX e)).has_tile M R.ff g (KZ M R.ff c b) (λz=>no #[(ON M R e b c h (by rw[z];exact g)),z]) s
theorem LvOk.wthn_sub(M:Mach H m ts n)(a:FamOf ts n d)(ok:LvOk ts d L){p:Nat×Nat}(po:PairOk L p):sub (eW ts L here p) here=true:=by
 by_cases c:here∈L.c
 .exact((oD M a).mp<|ok.wthn_in M a c po).2.2.1
 .unfold eW;rw[wA c];exact bU.mpr λr b=>b
theorem EG(M:Mach H m ts n)(R:RowOf ts n d f)(e:f[i]?=some L){here a:bw}(po:PairOk L p)(o:l<ts.length)(t:here∈d)(C:tq f i here)(tf:a∈d)(s:sub (bH ts here l) a=true):
  PairOk L (mR L (fS ts L here a l) p)/\sub (bH ts (eW ts L here p) l) (eW ts L a (mR L (fS ts L here a l) p))=true/\dz (L.gs.getD p.1 []) (fS ts L here a l).1∈L.gs/\(∀j,(fS ts L here a l).2=some j->j∈L.gs.getD p.1 []):=by
 have ok:=R.ok L (bX e);have mg:=bX (gP po.g);have pm:=ok.pm M R.ff mg;have gl:(L.gs.getD p.1 []).length=L.us.length:=by rw[pm.length_eq,mw]
 have mono:=Bs M (R.ff.inU M (ok.wthn_fam M R.ff t po)) (R.ff.inU M t) (Ec o) (ok.wthn_sub M R.ff po);by_cases b:a∈L.c
 .by_cases c:here∈L.c/\bH ts here l=a
  .obtain⟨c,u⟩:=c;have h:fS ts L here a l=(jf ts L here l,none):=by unfold fS;rw[wB b,wB #[c,u]]
   rw[h];have k:bH ts here l∈L.c:=by rw[u];exact b
   have v:=ok.trn_gs M R.ff o c k mg;obtain⟨G,I⟩:=F3 v;refine#[#[G,po.t],?_,v,λj z=>nomatch z];have g:ke L (mR L (jf ts L here l,none) p)=(jf ts L here l).getD (ke L p) 0:=by
    show(L.gs.getD (L.gs.idxOf (dz (L.gs.getD p.1 []) (jf ts L here l))) []).getD p.2 0=_;rw[I];unfold dz;rw[cW,bT,cB (by rw[gl];exact po.t)];rfl
   have w:=ok.wok M R.ff po;obtain⟨J,N⟩:=ok.trn_by M R.ff o c k;have x:=gP w.g3;obtain⟨Q,T,U⟩:=N _ _ _ x (cB (by rw[J];exact w.g3));have Y:eW ts L here p=cu (bH ts) (L.us.getD (ke L p) []) (L.wds.getD (dB L.c here) []):=by rw[D7 c,cW,z5 x];rfl
   have a2:eW ts L a (mR L (jf ts L here l,none) p)=cu (bH ts) Q (L.wds.getD (dB L.c (bH ts here l)) []):=by rw[D7 b,g,cW,z5 T,u];rfl
   rw[Y,a2,U];exact bU.mpr λr hr=>hr
  .have h:fS ts L here a l=(List.range L.us.length,some (iQ (dY ts L a) (bH ts here l))):=by unfold fS;rw[wB b,wA c]
   rw[h];obtain⟨_,y,st⟩:=HR (Nw M R e o t C s b c);rw[yR]at y;have A:=pm.mem_iff.mpr (fm.mpr y);obtain⟨B,j2⟩:=Sv A;have q:yx L (List.range L.us.length,some (iQ (dY ts L a) (bH ts here l))) p.1=p.1:=ok.idx_still M R.ff po.g;refine#[#[by show yx L _ p.1<_;rw[q];exact po.g,by rw[gl]at B;exact B],?_,by rw[ok.still M R.ff po.g];exact mg,λj z=>by cases z;exact A];have g:ke L (mR L (List.range L.us.length,some (iQ (dY ts L a) (bH ts here l))) p)=iQ (dY ts L a) (bH ts here l):=by
    show(L.gs.getD (yx L _ p.1) []).getD ((L.gs.getD p.1 []).idxOf _) 0=_;rw[q,j2]
   rw[D7 b,g];exact Hn mono st
 .have h:fS ts L here a l=(List.range L.us.length,none):=by unfold fS;rw[wA b]
  rw[h];have en:mR L (List.range L.us.length,none) p=p:=Prod.ext (ok.idx_still M R.ff po.g) rfl;rw[en];refine#[po,?_,by rw[ok.still M R.ff po.g];exact mg,λj z=>nomatch z];have ew:eW ts L a p=a:=by unfold eW;rw[wA b]
  rw[ew];exact Hn mono s
end
noncomputable def lC(a:LN)(n:Nat)(b:List Lv)(prs:List (Nat×Nat))(l:Nat):Nat->List Nat
 |0=>List.range n
 |i+1=>match b[i]?,prs[i]? with
  |some L,some p=>eW a L (lC a n b prs l i) (mR L (fS a L (gk a n b prs i) (lC a n b prs l i) l) p)
  |_,_=>lC a n b prs l i
noncomputable def mH(a:LN)(n:Nat)(b:List Lv)(prs:List (Nat×Nat))(l:Nat):Nat->List (Nat×Nat)
 |0=>[]
 |i+1=>mH a n b prs l i++(match b[i]?,prs[i]? with
  |some L,some p=>[mR L (fS a L (gk a n b prs i) (lC a n b prs l i) l) p]
  |_,_=>[])
noncomputable def y4(c:LN)(n:Nat)(a:List Lv)(b:bw)(l:Nat):bw:=rz a (mH c n a (mM a b) l a.length)
theorem G8(a:Ls[i]?=some L)(b:prs[i]?=some p):lC ts n Ls prs l (i+1)=eW ts L (lC ts n Ls prs l i) (mR L (fS ts L (gk ts n Ls prs i) (lC ts n Ls prs l i) l) p):=by
 show(match Ls[i]?,prs[i]? with|some L,some p=>_|_,_=>_)=_;rw[a,b]
theorem E5(a:Ls[i]?=some L)(b:prs[i]?=some p):mH ts n Ls prs l (i+1)=mH ts n Ls prs l i++[mR L (fS ts L (gk ts n Ls prs i) (lC ts n Ls prs l i) l) p]:=by
 show mH ts n Ls prs l i++_=_;rw[a,b]
theorem vm(a:prs.length=Ls.length):∀{i},i<=Ls.length->(mH ts n Ls prs l i).length=i
 |0,_=>rfl
 |i+1,h=>by
  rw[E5 (bC h)<|bC<|show i<prs.length by lia,cC,vm a<|eZ h];rfl
theorem JO(b:prs.length=Ls.length)(c:Ls[i]?=some L)(d:prs[i]?=some p):(mH ts n Ls prs l Ls.length)[i]?=some (mR L (fS ts L (gk ts n Ls prs i) (lC ts n Ls prs l i) l) p):=by
 have a:=(bN.mp c).1;obtain⟨r,z⟩:=yQ (t:=mH ts n Ls prs l) (λi=>#[_,zZ])<|a;rw[z,E5 c d,dR,dQ (by rw[vm b<|eZ a];exact bR _),vm b<|eZ a,mT];rfl
structure Both(ts fam:LN)(Ls:List Lv)(l i:Nat)(here there:bw):Prop where
 hf:here∈fam
 hp:tq Ls i here
 tf:there∈fam
 tp:tq Ls i there
 s:sub (bH ts here l) there=true
theorem DH(M:Mach H m ts n)(R:RowOf ts n fam Ls)(k:prs.length=Ls.length)(po:∀(i:Nat) L p,Ls[i]?=some L->prs[i]?=some p->PairOk L p)(c:l<ts.length):∀i,i<=Ls.length->Both ts fam Ls l i (gk ts n Ls prs i) (lC ts n Ls prs l i)
 |0,_=>by
  refine#[zX R.ff,λj L d=>wC d<|sj j,zX R.ff,λj L d=>wC d<|sj j,(bU.mpr λr o=>fm.mpr<|(bD.mp<|R.ff.inU M<|KZ M R.ff (zX R.ff) c).2 r o)]
 |i+1,h=>by
  have b:=DH M R k po c i<|eZ h;have a:=bC<|h;have e:=bC (show i<prs.length by lia);have f:=po i _ _ a e;obtain⟨g,q,_⟩:=EG M R a f c b.hf b.hp b.tf b.s;have ok:=R.ok _<|bX a;rw[BB a e,G8 a e];exact#[ok.wthn_fam M R.ff b.hf f,Mv M R a b.hf b.hp f,ok.wthn_fam M R.ff b.tf g,Mv M R a b.tf b.tp g,q]
theorem IZ(M:Mach H m ts n)(R:RowOf ts n fam Ls)(c:prs.length=Ls.length)(po:∀(i:Nat) L p,Ls[i]?=some L->prs[i]?=some p->PairOk L p)(d:l<ts.length)(i:Nat)(L)(q:Nat×Nat)(a:Ls[i]?=some L)(e:(mH ts n Ls prs l Ls.length)[i]?=some q):PairOk L q:=by
 have g:=(bN.mp a).1;have f:=bC (show i<prs.length by lia);rw[JO c a f]at e;cases e;have b:=DH M R c po d i<|eZ g;exact(EG M R a (po i _ _ a f) d b.hf b.hp b.tf b.s).1
theorem Bv(M:Mach H m ts n)(R:RowOf ts n fam Ls)(a:prs.length=Ls.length)(po:∀(i:Nat) L p,Ls[i]?=some L->prs[i]?=some p->PairOk L p)(b:l<ts.length)(i:Nat)(L)(q:Nat×Nat)(d:Ls[i]?=some L)(e:(mH ts n Ls prs l Ls.length)[i]?=some q)(c: ¬1<L.gs.length):q.1=0:=by
 have:=(IZ M R a po b i L q d e).g;lia
theorem Q'(M:Mach H m ts n)(R:RowOf ts n fam Ls)(b:RowIn Ls a)(c:l<ts.length):RowIn Ls (y4 ts n Ls a l):=Nx (vm (oA<|bR _)<|bR _)<|IZ M R (oA<|bR _) (b.po M R) c
theorem LU(b:prs.length=Ls.length):∀i,i<=Ls.length->gk ts n Ls (mH ts n Ls prs l Ls.length) i=lC ts n Ls prs l i
 |0,_=>rfl
 |i+1,h=>by
  have a:=bC<|h;have c:=bC (show i<prs.length by lia);rw[BB a<|JO b a c,LU b i<|eZ h,G8 a c]
theorem Se(M:Mach H m ts n)(R:RowOf ts n fam Ls)(g:RowIn Ls a)(d:l<ts.length):v4 ts n Ls a<n/\v4 ts n Ls (y4 ts n Ls a l)=(ts.getD l []).getD (v4 ts n Ls a) 0:=by
 have c:(mM Ls a).length=Ls.length:=oA<|bR _;have po:=g.po M R;have b:=DH M R c po d Ls.length<|bR _;unfold v4 y4;rw[Rh (vm c<|bR _)<|Bv M R c po d,LU c _<|bR _];obtain⟨r,h,i⟩:=Jp M R b.hf b.hp;obtain⟨o,e,j⟩:=Jp M R b.tf b.tp;have s:=b.s;rw[h,e]at s|-;refine#[i,?_];obtain⟨_,_,_,_,_,_,p,k⟩:=M.at d;have f:(ts.getD l []).getD r 0<5:=gn (xj k ()) M.n5;have mem:(ts.getD l []).getD r 0∈bH ts [r] l:=iX.mpr #[f,bY.mpr #[r,cf.mpr zZ,zZ]];exact(cf.mp<|bU.mp s _ mem).symm
noncomputable def zN(x:bw):Zs:=x.map λr=>((r:Nat):Int)
theorem On:i∈zN x↔ ∃r∈x,((r:Nat):Int)=i:=bY
theorem um:((r:Nat):Int)∈zN x↔r∈x:=by
 rw[On];exact#[λ⟨a,h,e⟩=>by rwa[<-Bo e],λh=>#[r,h,zZ]]
theorem Mi:∀{x},(zN x).idxOf ((r:Nat):Int)=x.idxOf r
 | []=>rfl
 | a::x=>by
  show(((a:Nat):Int)::zN x).idxOf ((r:Nat):Int)=_;rw[List.idxOf_cons,List.idxOf_cons,Mi];have e:(((a:Nat):Int)==((r:Nat):Int))=(a==r):=by grind
  rw[e]
def DeedAt(H:Hp)(r:Ad)(d:bw×Option Nat):Prop:=∃a v,H r=some (.tup [.ref a,v])/\H a=some (.tup (d.1.map nv))/\v=(match d.2 with|none=> .non|some j=>nv j)
theorem DeedAt.same(h:DeedAt H r d)(g:Same H b):DeedAt b r d:=let⟨a,v,c,e,f⟩:=h;#[a,v,g _ _ c,g _ _ e,f]
inductive lU(C:Ad)(K:V3)(f:List V)(H:Hp)(Q:VK)(d:XK):Prop|mk:∀q h t m b n c L (here a:bw) l,f=[.ref q,.ref h,.ref t,nv l]->StepAt C H q m b L->Mach H m b n->FamOf b n c->LvOk b c L->H h=some (.tup (here.map nv))->H t=some (.tup (a.map nv))->here∈c->l<b.length->((a∈L.c-> ¬(here∈L.c/\bH b here l=a)->∃t∈dY b L a,sub (bH b here l) t=true))->(∀r e,Same H e->DeedAt e r (fS b L here a l)->Q (.ref r) e)->lU C K f H Q d
inductive fY(C:Ad)(c:List V)(H:Hp)(Q:VK)(b:XK):Prop|mk:∀q e m g L d a,c=[.ref q,.ref e,nv a]->StepAt C H q m g L->DeedAt H e d->a<L.gs.length->(∀x∈L.gs.getD a [],x<d.1.length)->(L.gs.getD a []).length<=1000->dz (L.gs.getD a []) d.1∈L.gs->(∀f,Same H f->Q (nv (yx L d a)) f)->fY C c H Q b
inductive f9(C:Ad)(e:List V)(H:Hp)(Q:VK)(c:XK):Prop|mk:∀q f m g L d a b,e=[.ref q,.ref f,nv a,nv b]->StepAt C H q m g L->DeedAt H f d->a<L.gs.length->((∀j,d.2=some j->j∈L.gs.getD a []))->Q (nv (KH L d a b)) H->f9 C e H Q c
inductive iU(C:Ad)(c:List V)(H:Hp)(Q:VK)(a:XK):Prop|mk:∀q e f m g L d p,c=[.ref q,.ref e,.ref f]->StepAt C H q m g L->DeedAt H e d->H f=some (.tup [nv p.1,nv p.2])->p.1<L.gs.length->(∀x∈L.gs.getD p.1 [],x<d.1.length)->(L.gs.getD p.1 []).length<=1000->dz (L.gs.getD p.1 []) d.1∈L.gs->((∀j,d.2=some j->j∈L.gs.getD p.1 []))->(∀t b,Same H b->b t=some (.tup [nv (mR L d p).1,nv (mR L d p).2])->Q (.ref t) b)->iU C c H Q a
theorem O3{a:LN}{g:bw}:∀i,i<a.idxOf g->a[i]? ≠some g:=λi b e=>by
 have y:=GO b;obtain⟨d,c⟩:=bN.mp e;rw[c,wD]at y;cases y
theorem Tv(F:Fun K "deed_of" "LevelParts.deed_of" HU f fd)(P3:OwnC K C [sA,sI,sJ,sR,sO])(jH:cn P w K mg base tY 3 [sA,sB,sT] (cG K))(jG:fh P w K mg base C yG 3 [sC,sQ,sB] (gI C)):FnOk P w K mg base bZ 5 f fd [sC,sQ,xZ,sK] (lU C K):=by
 refine F.ok kL<|λal A aa s H vs Q E hr h=>?_
 obtain⟨q,h,th,m,d,n,am,L,here,a,l,rfl,SA,M,J,ok,hh,ht,hf,hl,ext,k⟩:=h;have B:=gJ hr;obtain⟨x,g,t,u,gr,y,h2,h3,⟨as,t1,t2,t3⟩,ab,u1,u2,u3⟩:=id SA;have nd:=ok.p.nd J;have e0:=ok.first M J;obtain⟨g0,N⟩:∃g0,gr[0]?=some g0:=#[_,bC (by rw[h3.len];exact(bN.mp e0).1)];have D:=h3.is 0 g0 _ N e0;have hU:=J.inU M hf;have x5:=Fn M hU;have xn:=(bD.mp hU).2;refine#[_,(bK (cj (i:=4) kL.nd zZ Z'<|b7 dD (dJ (pv 0) zZ) bL<|λ_ _=>rfl)<|bK (di (vd<|Fv B (pv 2)<|dJ (pv 0) zZ) (bM<|cg<|jo<|b8<|bB (pv 4) (bB n' bW zZ) zZ) dh)<|bK (cj (i:=5) kL.nd zZ Z'<|ck jH hr.m zZ<|b8<|bB (dJ (pv 0) zZ) (bB (pv 1) (bB (gw<|bG (pv 3) bF) bW zZ) zZ) zZ)<|bK (di (PW.pt<|yZ (vd<|zp B (pv 1)<|dJ (pv 0) zZ)<|yK<|eG (DR hr.units) (pv 5) (pv 2)<|dC _) (bM<|cg<|jo<|b8<|bB (b7 dD (oK B (dJ (pv 0) zZ) (pv 1)<|λ_ _=>rfl) (pv 3)<|λ_ _=>rfl) (bB n' bW zZ) zZ) dh)<|bM<|cg<|jo<|b8<|bB (pv 4) (bB (gF (pv 0) P3.cl jG hr.m<|b8<|bB (pv 2) (bB (pv 5) bW zZ) zZ) bW zZ) zZ),?_];refine#[_,zZ,q,C,x,_,_,zZ,y,P3.cl,P3.no,wq,g,_,_,_,zZ,zZ,V1 h2,(fE (j:=0) (v:= .ref g0) (by rw[bT,N];rfl):fL _ ((0:Nat):Int)=_),?_];by_cases o:a∈L.c
 .obtain⟨li,ei⟩:=j7 o;obtain⟨b,eb⟩:∃b,as[dB L.c a]?=some b:=#[_,bC ()];refine#[_,zZ,_,zZ,q,C,x,_,_,zZ,y,P3.cl,P3.no,pq,t,_,zZ,xf nd t1 ht ei eb,_,zZ,cR ?_];refine#[_,zZ,q,C,x,_,_,zZ,y,P3.cl,P3.no,zF,_,zZ,_,zZ,by show 1<=sizeLine;decide,λp1 ae=>?_];have kp:=bP ae<|.lst [nv l];refine#[m,h,p1,d,n,here,[l],zZ,M.same kp,V2<|kp _ _ hh,x5,xn,V1 bE,Ec hl,λen H2 O e2=>?_];have c:=kp.trans O;have G:=e2;clear e2 O kp;by_cases T:here∈L.c
  .obtain⟨lh,eh⟩:=j7 T;obtain⟨bh,af⟩:∃b,as[dB L.c here]?=some b:=#[_,bC ()];refine#[_,zZ,_,zZ,q,C,x,_,_,zZ,c _ _ y,P3.cl,P3.no,pq,t,_,zZ,xf nd (c _ _ t1) (c _ _ hh) eh af,_,zZ,dP ?_];refine#[_,zZ,_,zZ,en,th,0,_,_,zZ,zZ,iD<|V2 G,iD<|V2<|c _ _ ht,by decide,λcc hc=>#[_,zZ,?_]];have ag:cc=decide (bH d here l=a):=by
    rw[kq,Ap,<-cM];exact hc
   subst ag;by_cases I:bH d here l=a
   .rw[cK I];refine dP ?_;obtain⟨b2,U⟩:∃b,ab[dB L.c here]?=some b:=#[_,bC ()];obtain⟨vs,v1,v2,v3⟩:=u3 _ _ _ _ eh (gP (show dB L.c here<L.wds.length by rw[ok.p.len];exact lh)) U;obtain⟨v,ev⟩:∃v,vs[l]?=some v:=#[_,bC ()]
    rcases v3 l v ev with⟨no,_⟩|⟨pj,js,k',ah,rfl,ep,ek,ai,tb⟩
    .exact wC (by rw[I];exact o) no
    have aj:=(CT nd ek).symm;subst aj;have ak:ah=L.wds.getD (dB L.c<|bH d here l) []:=by rw[cW,ai];rfl
    subst ak;have ej:=ok.trn_eq M J (by rw[I];exact o) tb;subst ej;refine#[_,zZ,q,C,x,_,_,zZ,c _ _ y,P3.cl,P3.no,BN,_,zZ,u,_,zZ,xf nd (c _ _ u1) (c _ _ hh) eh U,_,zZ,b2,_,_,_,zZ,zZ,V1<|c _ _ v1,fE ev,by show 2<=sizeLine;decide,λr e=>?_];have p:=bP e<|.tup [.ref pj,.non];refine k r _ (c.trans p) #[pj,.non,bE,?_,?_]
    .rw[p _ _<|c _ _ ep];unfold fS;rw[wB o,wB #[T,I]]
    .unfold fS;rw[wB o,wB #[T,I]]
   .rw[eU I];refine cR ?_;have no: ¬(here∈L.c/\bH d here l=a):=λz=>I z.2
    have ed:fS d L here a l=(List.range L.us.length,some<|iQ (dY d L a)<|bH d here l):=by unfold fS;rw[wB o,wA no]
    refine#[_,zZ,_,zZ,q,x,_,zZ,c _ _ y,(by kernel_rfl),_,zZ,_,zZ,q,th,en,m,d,L,a,bH d here l,zZ,SA.keeps c.keeps,c _ _ ht,G,o,nd,ok.p.len,(ok.p.inU M J).2,Fn M<|BL M hU hl,ext o no,λH3 Y=>#[by show 2<=sizeLine;decide,λr e=>?_]];have p:=bP e<|.tup [.ref g0,nv<|iQ (dY d L a)<|bH d here l];rw[ed]at k;exact k r _ ((c.trans Y).trans p) #[g0,_,bE,p _ _<|(c.trans Y) _ _ D,zZ]
  .refine#[_,zZ,_,zZ,q,C,x,_,_,zZ,c _ _ y,P3.cl,P3.no,pq,t,_,zZ,D5 (c _ _ t1) (c _ _ hh) T,_,zZ,cR<|cR ?_]
   .have no: ¬(here∈L.c/\bH d here l=a):=λz=>T z.1;have ed:fS d L here a l=(List.range L.us.length,some<|iQ (dY d L a)<|bH d here l):=by unfold fS;rw[wB o,wA no]
    refine#[_,zZ,_,zZ,q,x,_,zZ,c _ _ y,(by kernel_rfl),_,zZ,_,zZ,q,th,en,m,d,L,a,bH d here l,zZ,SA.keeps c.keeps,c _ _ ht,G,o,nd,ok.p.len,(ok.p.inU M J).2,Fn M<|BL M hU hl,ext o no,λH3 Y=>#[by show 2<=sizeLine;decide,λr e=>?_]];have p:=bP e<|.tup [.ref g0,nv<|iQ (dY d L a)<|bH d here l];rw[ed]at k;exact k r _ ((c.trans Y).trans p) #[g0,_,bE,p _ _<|(c.trans Y) _ _ D,zZ]
 .refine#[_,zZ,_,zZ,q,C,x,_,_,zZ,y,P3.cl,P3.no,pq,t,_,zZ,D5 t1 ht o,_,zZ,dP ?_];refine#[_,zZ,by show 2<=sizeLine;decide,λr e=>?_];have p:=bP e<|.tup [.ref g0,.non];refine k r _ p #[g0,.non,bE,?_,?_]
  .rw[p _ _ D];unfold fS;rw[wA o]
  .unfold fS;rw[wA o]
theorem Q9(F:Fun K "turned" "LevelParts.turned" F9 f fd)(P3:OwnC K C [sA,sI,sJ,sR,sO])(I:cn P w K mg base wI 1 [tT,sY] cY):FnOk P w K mg base bZ 3 f fd [sC,wH,tO] (fY C):=by
 refine F.ok OM<|λJ A n s H vs Q E y h=>?_
 obtain⟨q,M,m,ts,L,d,a,rfl,⟨z,g,t,u,N,B,o,l,_⟩,⟨O,v,T,U,_⟩,D,lt,Y,mem,k⟩:=h;obtain⟨b,c⟩:∃b,N[a]?=some b:=#[_,bC (by rw[l.len];exact D)];have p:=l.is a b _ c<|gP D;refine#[_,(bM<|cg<|hO iM zT BE (Do y.units) (dJ (pv 0) zZ)<|bG (ck I y.m zZ<|b8<|bB (b7 dD (dJ (pv 0) zZ) (pv 2)<|λ_ _=>rfl) (bB (b7 cO (pv 1) bL<|λ_ _=>rfl) bW zZ) zZ) bF),?_];refine#[_,zZ,q,C,z,_,_,zZ,B,P3.cl,P3.no,wq,.inl #[zZ,_,V1 o],_,zZ,q,C,z,_,_,zZ,B,P3.cl,P3.no,wq,_,zZ,g,_,_,_,zZ,zZ,V1 o,fE (by rw[bT,c];rfl),_,zZ,M,_,_,_,zZ,zZ,V2 T,zZ,b,O,_,_,zZ,p,U,lt,Y,λr H2 x e2=>?_];obtain⟨G,_⟩:=F3 mem;refine#[g,_,1,.tup<|hE<|dz (L.gs.getD a []) d.1,L.gs.map λu=>Dt.tup<|hE u,_,L.gs.idxOf<|dz (L.gs.getD a []) d.1,zZ,zZ,V1<|x _ _ o,by rw[bA,bA,l.len],iD<|V2 e2,BD<|l.same x,by decide,ez.mpr (by rw[bC G];exact cH some<|AC G),λi hi e=>O3 i hi<|ez.mp e,(k H2 x)]
theorem SO(F:Fun K "brought" "LevelParts.brought" IC f fd)(P3:OwnC K C [sA,sI,sJ,sR,sO]):FnOk P w K mg base bZ 1 f fd [sC,wH,tO,"bringing"] (f9 C):=by
 refine F.ok RI<|λx A l s H M Q E y h=>?_
 obtain⟨q,n,m,N,L,⟨O,z⟩,a,b,rfl,⟨B,g,t,u,D,G,I,p,_⟩,⟨T,v,o,U,rfl⟩,r,mem,k⟩:=h;have Y:=y.units;obtain⟨c,d⟩:∃c,D[a]?=some c:=#[_,bC (by rw[p.len];exact r)];have e:=p.is a c _ d<|gP r;refine#[_,(bK (di (eG Hx (b7 cO (pv 1) bL<|λ_ _=>rfl) n'<|dC _) (bM<|cg<|pv 3) dh)<|bM<|cg<|Kt PySem.F.slot_tuple_index PySem.F.type_tuple_index OK (b7 dD (dJ (pv 0) zZ) (pv 2)<|λ_ _=>rfl)<|bG (b7 cO (pv 1) bL<|λ_ _=>rfl) bF),?_];cases z with
 |none=>
  exact#[_,zZ,n,_,_,_,zZ,zZ,V2 o,zZ,zZ,_,zZ,dP #[_,zZ,k]]
 |some j=>
  refine#[_,zZ,n,_,_,_,zZ,zZ,V2 o,zZ,zZ,_,zZ,cR ?_];refine#[_,zZ,q,C,B,_,_,zZ,G,P3.cl,P3.no,wq,_,zZ,g,_,_,_,zZ,zZ,V1 I,fE (by rw[bT,d];rfl),?_];have J:(L.gs.getD a []).map nv=(zN<|L.gs.getD a []).map V.int:=by unfold zN;rw[List.map_map];rfl
  have i:=e;rw[J]at i;refine#[#[c,_,zZ,e],_,zZ,n,_,_,_,zZ,zZ,V2 o,zZ,c,zN<|L.gs.getD a [],_,zZ,zZ,V2 i,um.mpr<|mem j zZ,?_];rw[Mi];exact k
theorem UN(F:Fun K "pair_behind" "LevelParts.pair_behind" FW f fd)(P3:OwnC K C [sA,sI,sJ,sR,sO])(B:fh P w K mg base C "turned" 3 [sC,wH,tO] (fY C))(D:fh P w K mg base C "brought" 1 [sC,wH,tO,"bringing"] (f9 C)):FnOk P w K mg base bZ 5 f fd [sC,wH,tW] (iU C):=by
 refine F.ok UM<|λG A b s H M Q E l h=>?_
 obtain⟨q,n,c,m,o,L,d,p,rfl,e,v,i,x,lt,I,mem,J,k⟩:=h;obtain⟨y,g,t,u,N,z,_⟩:=id e;refine#[_,(bM<|cg<|jo<|b8<|bB (gF (pv 0) P3.cl B l.m<|b8<|bB (pv 1) (bB (b7 cO (pv 2) bL<|λ_ _=>rfl) bW zZ) zZ) (bB (gF (pv 0) P3.cl D l.m<|b8<|bB (pv 1) (bB (b7 cO (pv 2) bL<|λ_ _=>rfl) (bB (b7 cO (pv 2) bL<|λ_ _=>rfl) bW zZ) zZ) zZ) bW zZ) zZ),#[_,zZ,q,y,_,zZ,z,(by kernel_rfl),_,zZ,_,zZ,c,_,_,_,zZ,zZ,V2 i,zZ,q,n,m,o,L,d,p.1,zZ,e,v,x,lt,I,mem,λO a=>?_]];refine#[_,zZ,q,y,_,zZ,a _ _ z,(by kernel_rfl),_,zZ,_,zZ,c,_,_,_,zZ,zZ,V2<|a _ _ i,zZ,_,zZ,c,_,_,_,zZ,zZ,V2<|a _ _ i,zZ,q,n,m,o,L,d,p.1,p.2,zZ,e.keeps a.keeps,v.same a,x,J,by show 2<=sizeLine;decide,λr j=>k r _ (a.trans<|bP j _) bE]
inductive hG(f CR:Ad)(g:List V)(H:Hp)(Q:VK)(d:XK):Prop|mk:∀p l m j b n e a prs lt k,g=[.ref p,.ref l,nv lt]->RowAt f CR H p m b n a->Mach H m b n->RowOf b n e a->H l=some (.lst (j.map .ref))->PairsAt H j (prs.take k)->prs.length=a.length->k<=a.length->((∀(i:Nat) L p,a[i]?=some L->prs[i]?=some p->PairOk L p))->lt<b.length->(∀r h t o q c,Same H c->c r=some (.tup [.ref h,.ref t,.ref o])->c h=some (.tup ((gk b n a prs k).map nv))->c t=some (.tup ((lC b n a prs lt k).map nv))->c o=some (.lst (q.map .ref))->PairsAt c q (mH b n a prs lt k)->Q (.ref r) c)->hG f CR g H Q d
inductive ja(g CR:Ad)(h:List V)(H:Hp)(Q:VK)(d:XK):Prop|mk:∀p i m b n e c a lt,h=[.ref p,.ref i,nv lt]->RowAt g CR H p m b n c->Mach H m b n->RowOf b n e c->H i=some (.tup (a.map nv))->RowIn c a->lt<b.length->(∀t f,Same H f->f t=some (.tup ((y4 b n c a lt).map nv))->Q (.ref t) f)->ja g CR h H Q d
theorem Sd{C CR:Ad}(F:Fun K "walked" "Row.walked" IH f fd)(P3:OwnC K C [sA,sI,sJ,sR,sO])(V0:OwnC K CR [sB,sZ])(jY:fh P w K mg base C "deed_of" 5 [sC,sQ,xZ,sK] (lU C K))(jQ:fh P w K mg base C "pair_behind" 5 [sC,wH,tW] (iU C))(jF:fh P w K mg base C wQ 1 [sC,sQ,tW] (eA C))(uN:mg "zip"=none):FnOk P w K mg base bZ 7 f fd [sC,wF,sK] (hG C CR):=by
 refine F.ok jO<|λao A ai s H vs Q E hr h=>?_
 obtain⟨p,l,m,as,c,n,aj,D,prs,lt,k,rfl,RA,M,R,el,PA,hl,kl,po,ll,q⟩:=h;have hu:=hr.units;obtain⟨dx,r,st,qs,h1,h2,h3,S⟩:=id RA;have ap:=R.few;have la:as.length=k:=by rw[PA.len,fe];lia
 refine#[_,(bK (cj (i:=3) jO.nd zZ Z'<|dJ (pv 0) zZ)<|bK (cj (i:=4) jO.nd zZ Z'<|dJ (pv 0) zZ)<|bK (cj (i:=5) jO.nd zZ Z'<|gw bF)<|bK (fA fi zZ (HX zZ uN<|b8<|bB (dJ (pv 0) zZ) (bB (pv 1) bW zZ) zZ) (wm zZ<|lA (dG (i:=6) jO.nd zZ Z')<|lA (dG (i:=7) jO.nd zZ Z') ua)<|bK (cj (i:=8) jO.nd zZ Z'<|gF (pv 6) P3.cl jQ hr.m<|b8<|bB (gF (pv 6) P3.cl jY hr.m<|b8<|bB (pv 3) (bB (pv 4) (bB (pv 2) bW zZ) zZ) zZ) (bB (pv 7) bW zZ) zZ)<|bK (cj (i:=3) jO.nd zZ Z'<|gF (pv 6) P3.cl jF hr.m<|b8<|bB (pv 3) (bB (pv 7) bW zZ) zZ)<|bK (cj (i:=4) jO.nd zZ Z'<|gF (pv 6) P3.cl jF hr.m<|b8<|bB (pv 4) (bB (pv 8) bW zZ) zZ)<|bM<|iR<|hO iM lW lF lJ (pv 5)<|bG (pv 8) bF)<|bM<|cg<|jo<|b8<|bB (pv 3) (bB (pv 4) (bB (pv 5) bW zZ) zZ) zZ),?_];refine#[_,zZ,p,CR,dx,_,_,zZ,h1,V0.cl,V0.no,Dx,?_];refine#[_,zZ,p,CR,dx,_,_,zZ,h1,V0.cl,V0.no,Dx,?_];refine#[by show 0<=sizeLine;decide,λT aa=>?_];have U:=bP aa<|.lst []
 let Pv:Nat->L2.St->Hp->Prop:=λi σ Y=>Same H Y/\∃(h t:Ad) (N:As) (o6 o7 o8:Option V),Y h=some (.tup<|(gk c n D prs i).map nv)/\Y t=some (.tup<|(lC c n D prs lt i).map nv)/\Y T=some (.lst<|N.map .ref)/\PairsAt Y N (mH c n D prs lt i)/\σ=[some<|.ref p,some<|.ref l,some<|nv lt,some<|.ref h,some<|.ref t,some<|.ref T,o6,o7,o8]
 refine#[_,zZ,p,CR,dx,_,_,zZ,U _ _ h1,V0.cl,V0.no,yy,_,zZ,st,l,_,_,zZ,V1<|U _ _ h3,V1<|U _ _ el,Fs (xs:=qs.map .ref) (ys:=as.map .ref) Pv #[U,r,r,[],_,_,_,U _ _ h2,U _ _ h2,bE,#[zZ,λi a p e=>by simp at e],zZ] (λi σ Y p=>#[V1<|p.1 _ _ h3,V1<|p.1 _ _ el]) (λi x y Tp σ H1 hx hy nT pv=>?_)<|λσ H1 pv=>?_]
 .obtain⟨g1,h,t,N,o6,o7,o8,eh,et,ef,d,rfl⟩:=pv;rw[bT]at hx hy;obtain⟨b,eb,rfl⟩:=c9.mp hx;obtain⟨G,ab,rfl⟩:=c9.mp hy;have li:=(bN.mp eb).1;have lk:=(bN.mp ab).1;obtain⟨L,I⟩:∃L,D[i]?=some L:=#[_,bC ()];obtain⟨o,j⟩:∃o,prs[i]?=some o:=#[_,bC ()];have ok:=R.ok L<|bX I;have J:=DH M R hl po ll i ();have pk:=po i L o I j;obtain⟨n1,n2,n3,n4⟩:=EG M R I pk ll J.hf J.hp J.tf J.s;have le:=d.len;rw[vm hl ()]at le;have kT:=bP nT<|.tup [.ref b,.ref G];have eT:bx H1 Tp (.tup [.ref b,.ref G]) Tp=some (.tup [.ref b,.ref G]):=bE;generalize bx H1 Tp (.tup [.ref b,.ref G])=H2 at kT eT|-;have g2:=g1.trans kT;have SA:=(S.is i b L eb I).keeps g2.keeps;obtain⟨v,g,tt,u,gr,s1,_⟩:=id SA;have ae:H G=some (.tup [nv o.1,nv o.2]):=PA.is i G o ab (by rw[CA ()];exact j);have pm:=ok.pm M R.ff<|bX<|gP pk.g;have gl:(L.gs.getD o.1 []).length=L.us.length:=by rw[pm.length_eq,mw]
  have few:=(ok.p.inU M R.ff).2;refine#[Tp,_,zZ,V2 eT,zZ,_,_,zZ,_,_,zZ,zZ,?_];refine#[_,zZ,b,v,_,zZ,s1,(by kernel_rfl),_,zZ,b,v,_,zZ,s1,(by kernel_rfl),_,zZ,_,zZ,_,zZ,b,h,t,m,c,n,aj,L,_,_,lt,zZ,SA,M.same g2,R.ff,ok,kT _ _ eh,kT _ _ et,J.hf,ll,λct no=>Nw M R I ll J.hf J.hp J.s ct no,λda H3 z DA=>?_];have g3:=kT.trans z;have ak:=g1.trans g3;have af:=SA.keeps z.keeps;have dl:∀x∈L.gs.getD o.1 [],x<(fS c L (gk c n D prs i) (lC c n D prs lt i) lt).1.length:=λx hx=>by
   have xl:x<L.us.length:=fm.mp<|pm.mem_iff.mp hx;have ed:(fS c L (gk c n D prs i) (lC c n D prs lt i) lt).1.length=L.us.length:=by
    unfold fS;split
    .split
     .show(jf _ _ _ _).length=_;unfold jf;rw[bA,yR]
     .exact mw
    .exact mw
   rw[ed];exact xl
  refine#[_,zZ,b,da,G,m,c,L,_,o,zZ,af,DA,ak _ _ ae,pk.g,dl,(),n3,n4,λen H4 B e4=>?_];have g4:=g3.trans B;have ag:=g1.trans g4;have ah:=af.keeps B.keeps;refine#[_,zZ,b,v,_,zZ,(z.trans B) _ _ s1,(by kernel_rfl),_,zZ,_,zZ,b,h,G,m,c,L,_,o,zZ,ah,g4 _ _ eh,ag _ _ ae,ok.wok M R.ff pk,λh' al=>?_];refine#[_,zZ,b,v,_,zZ,(z.trans B) _ _ s1,(by kernel_rfl),_,zZ,_,zZ,b,t,en,m,c,L,_,_,zZ,ah,g4 _ _ et,e4,ok.wok M R.ff n1,λt' am=>?_];have O:=g4 _ _ ef;refine#[_,zZ,.inl #[zZ,_,V1 O],_,zZ,T,_,_,zZ,zZ,O,by rw[bA,cq];lia,?_];have lo:ug H4 (bx H4 T<|.lst<|N.map V.ref++[.ref en]):=Stays.offL O;refine#[gh ag aa,h',t',N++[en],_,_,_,?_,?_,by rw[bE,c7];rfl,?_,zZ]
  .rw[BB I j];exact lo.a al
  .rw[G8 I j];exact lo.a am
  .rw[E5 I j];exact((d.st<|pF g4).st lo).snoc<|lo.a e4
 .obtain⟨g1,h,t,N,o6,o7,o8,eh,et,ef,d,rfl⟩:=pv;have lm:min (qs.map V.ref).length (as.map V.ref).length=k:=by rw[bA,bA,S.len,la];lia
  rw[lm]at eh et d;refine#[_,zZ,_,zZ,_,zZ,by show 3<=sizeLine;decide,λrr an=>?_];have kr:=bP an<|.tup [.ref h,.ref t,.ref T];exact q rr h t T N _ (g1.trans kr) bE (kr _ _ eh) (kr _ _ et) (kr _ _ ef)<|d.st<|pF kr
theorem UY{c CR:Ad}(F:Fun K "moved" "Row.moved" GZ f fd)(V0:OwnC K CR [sB,sZ])(B:fh P w K mg base CR "paired" 3 [sC,sM] (fG c CR))(C:fh P w K mg base CR "walked" 7 [sC,wF,sK] (hG c CR))(D:fh P w K mg base CR "unpaired" 3 [sC,wF] (dH c CR)):FnOk P w K mg base bZ 9 f fd [sC,sM,sK] (ja c CR):=by
 refine F.ok Sg<|λG A g s H vs Q E i h=>?_
 obtain⟨p,I,m,j,n,k,a,b,lt,rfl,d,M,R,o,y,J,q⟩:=h;obtain⟨u,r,st,qs,v,_⟩:=id d;have x:(mM a b).length=a.length:=oA<|bR _;refine#[_,(bM<|cg<|gF (pv 0) V0.cl D i.m<|bG (b7 cO (gF (pv 0) V0.cl C i.m<|b8<|bB (gF (pv 0) V0.cl B i.m<|bG (pv 1) bF) (bB (pv 2) bW zZ) zZ) bL<|λ_ _=>rfl) bF),#[_,zZ,p,u,_,zZ,v,(by kernel_rfl),_,zZ,p,u,_,zZ,v,(by kernel_rfl),_,zZ,p,u,_,zZ,v,(by kernel_rfl),_,zZ,p,I,m,j,n,a,b,zZ,d,R.few,o,y.len,λl L H1 e nl N PA=>?_]];refine#[_,zZ,p,l,m,L,j,n,k,a,mM a b,lt,a.length,zZ,d.keeps e.keeps,M.same e,R,N,by rw[<-x,fF];exact PA,x,bR _,y.po M R,J,λO h t T U H2 z Y eh et ef PE=>#[O,_,_,_,zZ,zZ,V2 Y,zZ,p,T,m,U,j,n,a,_,zZ,d.keeps (e.trans z).keeps,R.few,ef,PE,vm x<|bR _,λtt H3 g3 e3=>?_]];exact q tt H3 ((e.trans z).trans g3) e3
theorem SqL.keeps(h:SqL K H a xs)(g:Keeps H b):SqL K b a xs:=by
 rcases h with(h|⟨o,h⟩)|h
 .exact .inl<|.inl<|g _ _<|nU h
 .exact .inl<|.inr #[o,g _ _<|nU h]
 .exact .inr h
noncomputable def nK(a:LN)(L:Lv)(here:bw)(room:Nat):Nat×Nat:=if here∈L.c then(0,iQ (dY a L here) [room])else(0,0)
noncomputable def iG(a:LN)(n:Nat)(b:List Lv)(room:Nat):Nat->List Nat
 |0=>List.range n
 |i+1=>match b[i]? with
  |some L=>eW a L (iG a n b room i) (nK a L (iG a n b room i) room)
  |none=>iG a n b room i
theorem Ix(e:b[i]?=some L):iG a n b room (i+1)=eW a L (iG a n b room i) (nK a L (iG a n b room i) room):=by
 show(match b[i]? with|some L=>_|none=>_)=_;rw[e]
noncomputable def oW(a:LN)(n:Nat)(b:List Lv)(room:Nat):Nat->List (Nat×Nat)
 |0=>[]
 |i+1=>oW a n b room i++(match b[i]? with|some L=>[nK a L (iG a n b room i) room]|none=>[])
theorem CC(e:b[i]?=some L):oW a n b room (i+1)=oW a n b room i++[nK a L (iG a n b room i) room]:=by
 show oW a n b room i++_=_;rw[e]
theorem xv:∀{i},i<=a.length->(oW b n a room i).length=i
 |0,_=>rfl
 |i+1,h=>by
  rw[CC<|bC h,cC,xv<|eZ h];rfl
theorem NB(e:a[i]?=some L):(oW b n a room a.length)[i]?=some (nK b L (iG b n a room i) room):=by
 have c:=(bN.mp e).1;obtain⟨r,z⟩:=yQ (t:=oW b n a room) (λi=>#[_,zZ])<|c;rw[z,CC e,dR,dQ (by rw[xv<|eZ c];exact bR _),xv<|eZ c,mT];rfl
noncomputable def uy(b:LN)(n:Nat)(a:List Lv)(room:Nat):bw:=rz a (oW b n a room a.length)
theorem LvOk.rof(M:Mach H m ts n)(b:FamOf ts n a)(ok:LvOk ts a L){here:bw}(d:room∈here)(i:here∈a):PairOk L (nK ts L here room)/\room∈eW ts L here (nK ts L here room)/\(here∈L.c->∃t∈dY ts L here,sub [room] t=true):=by
 have g0:=ok.g0 M b;have k:=(bD.mp<|b.inU M i).2 room d;unfold nK;by_cases c:here∈L.c
 .rw[wB c];have l:[room]≠here:=λe=>by
   have:=(ok.big_len c).1;rw[<-e]at this;exact wC this<|ni 1
  have g:=ok.has_tile M b c ((b.mem _).mpr<|.inr #[room,k,zZ]) l (bU.mpr λr h=>by rw[cf.mp h];exact d);obtain⟨_,f,s⟩:=HR g;rw[yR]at f;refine#[#[g0,f],?_,λ_=>g];rw[D7 c,ok.tile0 M b f];exact bU.mp s room<|cf.mpr zZ
 .rw[wA c];refine#[#[g0,(Np M b ok.p)],?_,λh=>wC h c];unfold eW;rw[wA c];exact d
theorem G2(M:Mach H m ts n)(R:RowOf ts n a b)(d:room<n):∀i,room∈iG ts n b room i/\iG ts n b room i∈a
 |0=>#[fm.mpr d,zX R.ff]
 | i+1=>by
  obtain⟨f,c⟩:=G2 M R d i;cases e:b[i]? with
  | none=>
   have z:iG ts n b room (i+1)=iG ts n b room i:=by
    show(match b[i]? with|some L=>_|none=>_)=_;rw[e]
   rw[z];exact#[f,c]
  |some L=>
   have ok:=R.ok L<|bX e;obtain⟨g,h,_⟩:=ok.rof M R.ff f c;rw[Ix e];exact#[h,ok.wthn_fam M R.ff c g]
theorem RT(M:Mach H m ts n)(R:RowOf ts n a b)(f:room<n)(i:Nat)(L)(p:Nat×Nat)(d:b[i]?=some L)(e:(oW ts n b room b.length)[i]?=some p):PairOk L p/\p.1=0:=by
 rw[NB d]at e;cases e;obtain⟨g,h⟩:=G2 M R f i;refine#[((R.ok L<|bX d).rof M R.ff g h).1,?_];unfold nK;by_cases c:iG ts n b room i∈L.c
 .rw[wB c]
 .rw[wA c]
theorem Js(M:Mach H m ts n)(R:RowOf ts n a b)(c:room<n):RowIn b (uy ts n b room):=Nx (xv<|bR _) λi L p d e=>(RT M R c i L p d e).1
inductive jd(f CR:Ad)(g:List V)(H:Hp)(Q:VK)(b:XK):Prop|mk:∀p m a n c d room,g=[.ref p,nv room]->RowAt f CR H p m a n d->Mach H m a n->RowOf a n c d->room<n->(∀t e,Same H e->e t=some (.tup ((uy a n d room).map nv))->Q (.ref t) e)->jd f CR g H Q b
theorem Ps{B CR:Ad}(F:Fun K "row_of" "Row.row_of" E8 f fd)(P3:OwnC K B [sA,sI,sJ,sR,sO])(V0:OwnC K CR [sB,sZ])(jG:fh P w K mg base B yG 3 [sC,sQ,sB] (gI B))(jF:fh P w K mg base B wQ 1 [sC,sQ,tW] (eA B))(jT:fh P w K mg base CR "unpaired" 3 [sC,wF] (dH B CR)):FnOk P w K mg base bZ 5 f fd [sC,tQ] (jd B CR):=by
 refine F.ok qG<|λai A aa s H vs Q E hr h=>?_
 obtain⟨p,m,o,n,aj,C,room,rfl,RA,M,R,ab,q⟩:=h;have hu:=hr.units;obtain⟨dx,r,st,qs,h1,h2,h3,S⟩:=id RA;have lq:=S.len;have ak:=R.few;refine#[_,(bK (cj (i:=2) qG.nd zZ Z'<|dJ (pv 0) zZ)<|bK (cj (i:=3) qG.nd zZ Z'<|gw bF)<|bK (fA fi zZ (fq<|dJ (pv 0) zZ) (dG (i:=4) qG.nd zZ Z')<|bK (cj (i:=5) qG.nd zZ Z'<|jo<|b8<|bB bL (bB (Ow (vd<|zp (gJ hr) (pv 2)<|dJ (pv 4) zZ) (gF (pv 4) P3.cl jG hr.m<|b8<|bB (pv 2) (bB (jo<|bG (pv 1) bF) bW zZ) zZ) bL) bW zZ) zZ)<|bK (cj (i:=2) qG.nd zZ Z'<|gF (pv 4) P3.cl jF hr.m<|b8<|bB (pv 2) (bB (pv 5) bW zZ) zZ)<|bM<|iR<|hO iM lW lF lJ (pv 3)<|bG (pv 5) bF)<|bM<|cg<|gF (pv 0) V0.cl jT hr.m<|bG (pv 3) bF),?_];refine#[_,zZ,p,CR,dx,_,_,zZ,h1,V0.cl,V0.no,Dx,?_];refine#[by show 0<=sizeLine;decide,λG I=>?_];have k0:=bP I<|.lst []
 let Pv:Nat->L2.St->Hp->Prop:=λi σ H'=>Same H H'/\∃(h:Ad) (D:As) (o4 o5:Option V),H' h=some (.tup<|(iG o n C room i).map nv)/\H' G=some (.lst<|D.map .ref)/\PairsAt H' D (oW o n C room i)/\σ=[some<|.ref p,some<|nv room,some<|.ref h,some<|.ref G,o4,o5]
 refine#[_,zZ,p,CR,dx,_,_,zZ,k0 _ _ h1,V0.cl,V0.no,yy,st,zZ,#[_,V1<|k0 _ _ h3],oX (xs:=qs.map .ref) Pv #[k0,r,[],_,_,k0 _ _ h2,bE,#[zZ,λi a p e=>by simp at e],zZ] (λi σ H' _ p=>V1<|p.1 _ _ h3) (λi v σ H1 hv pv=>?_)<|λσ H1 pv=>?_]
 .obtain⟨J,h,D,o4,o5,eh,ef,x,rfl⟩:=pv;rw[bT]at hv;obtain⟨b,eb,rfl⟩:=c9.mp hv;have li:=(bN.mp eb).1;obtain⟨L,eL⟩:∃L,C[i]?=some L:=#[_,bC ()];have ok:=R.ok L<|bX eL;obtain⟨i1,i2⟩:=G2 M R ab i;obtain⟨po,_,ext⟩:=ok.rof M R.ff i1 i2;have SA:=(S.is i b L eb eL).keeps J.keeps;obtain⟨z,g,t,u,gr,s1,s2,s3,⟨af,t1,t2,t3⟩,_⟩:=id SA;have la:=x.len;rw[xv ()]at la;have nd:=ok.p.nd R.ff;obtain⟨d,j⟩:∃d,d=nK o L (iG o n C room i) room:=#[_,zZ];rw[<-j]at po;have wk:=ok.wok M R.ff po;by_cases c:iG o n C room i∈L.c
  .have dg:∃a,DGet H1 t (.ref h) (some<|.ref a):=by
    obtain⟨l1,l2⟩:=j7 c;obtain⟨a,ea⟩:∃a,af[dB L.c<|iG o n C room i]?=some a:=#[_,bC ()];exact#[a,xf nd t1 eh l2 ea]
   obtain⟨a,dg⟩:=dg;refine#[_,zZ,_,zZ,b,B,z,_,_,zZ,s1,P3.cl,P3.no,pq,t,_,zZ,dg,_,zZ,dP ?_];refine#[_,zZ,b,z,_,zZ,s1,(by kernel_rfl),_,zZ,_,zZ,by show 1<=sizeLine;decide,λsg ag=>?_];have k1:=bP ag<|.tup [nv room];refine#[b,h,sg,m,o,L,_,[room],zZ,SA.keeps k1.keeps,k1 _ _ eh,bE,c,nd,ok.p.len,(ok.p.inU M R.ff).2,by show 1<=5;decide,ext c,λH2 ah=>?_];have g2:=k1.trans ah;have N:d=(0,iQ (dY o L<|iG o n C room i) [room]):=by rw[j];unfold nK;rw[wB c]
   refine#[by show 2<=sizeLine;decide,λy O=>?_];have kp:=bP O<|.tup [nv d.1,nv d.2];have T:bx H2 y (.tup [nv d.1,nv d.2]) y=some (.tup [nv d.1,nv d.2]):=bE;have k:=g2.trans kp;rw[show(HO.tup [V.int 0,nv<|iQ (dY o L<|iG o n C room i) [room]])=HO.tup [nv d.1,nv d.2] by rw[N];rfl];generalize bx H2 y (.tup [nv d.1,nv d.2])=H3 at kp T k|-;have U:=SA.keeps k.keeps;refine#[_,zZ,b,z,_,zZ,k _ _ s1,(by kernel_rfl),_,zZ,_,zZ,b,h,y,m,o,L,_,d,zZ,U,k _ _ eh,T,wk,λa' Y=>?_];have l:=k _ _ ef;refine#[_,zZ,.inl #[zZ,_,V1 l],_,zZ,G,_,_,zZ,zZ,l,by rw[bA,cq];lia,?_];have lo:ug H3 (bx H3 G<|.lst<|D.map V.ref++[.ref y]):=Stays.offL l;refine#[gh (J.trans k) I,a',D++[y],_,_,?_,by rw[bE,c7];rfl,?_,zZ]
   .rw[Ix eL,<-j];exact lo.a Y
   .rw[CC eL,<-j];exact((x.st<|pF k).st lo).snoc<|lo.a T
  .refine#[_,zZ,_,zZ,b,B,z,_,_,zZ,s1,P3.cl,P3.no,pq,t,_,zZ,D5 t1 eh c,_,zZ,cR ?_];have g2:Same H1 H1:=Same.refl _;have N:d=(0,0):=by rw[j];unfold nK;rw[wA c]
   refine#[by show 2<=sizeLine;decide,λy O=>?_];have kp:=bP O<|.tup [nv d.1,nv d.2];have T:bx H1 y (.tup [nv d.1,nv d.2]) y=some (.tup [nv d.1,nv d.2]):=bE;have k:=g2.trans kp;rw[show(HO.tup [V.int 0,V.int 0])=HO.tup [nv d.1,nv d.2] by rw[N];rfl];generalize bx H1 y (.tup [nv d.1,nv d.2])=H3 at kp T k|-;refine#[_,zZ,b,z,_,zZ,k _ _ s1,(by kernel_rfl),_,zZ,_,zZ,b,h,y,m,o,L,_,d,zZ,(SA.keeps k.keeps),k _ _ eh,T,wk,λa' Y=>?_];have l:=k _ _ ef;refine#[_,zZ,.inl #[zZ,_,V1 l],_,zZ,G,_,_,zZ,zZ,l,by rw[bA,cq];lia,?_];have lo:ug H3 (bx H3 G<|.lst<|D.map V.ref++[.ref y]):=Stays.offL l;refine#[gh (J.trans k) I,a',D++[y],_,_,?_,by rw[bE,c7];rfl,?_,zZ]
   .rw[Ix eL,<-j];exact lo.a Y
   .rw[CC eL,<-j];exact((x.st<|pF k).st lo).snoc<|lo.a T
 .obtain⟨J,h,D,o4,o5,eh,ef,x,rfl⟩:=pv;rw[bA,lq]at x;refine#[_,zZ,p,dx,_,zZ,J _ _ h1,(by kernel_rfl),_,zZ,p,G,m,D,o,n,C,_,zZ,RA.keeps J.keeps,R.few,ef,x,xv<|bR _,λt H2 g2 e2=>?_];exact q t H2 (J.trans g2) e2
theorem df{k:Nat}(h:0<k):∃r,V.int (c%(k:Int))=nv r/\r<k:=by
 have b:=Hv c (show(0:Int)<((k:Nat):Int) by lia);exact#[(c%(k:Int)).toNat,by show V.int _=V.int _;rw[Int.toNat_of_nonneg<|IK c<|show((k:Nat):Int)≠0 by lia],()]
noncomputable def mh(b:LN)(n:Nat)(c:List Lv)(a word:bw):bw:=word.foldl (y4 b n c) a
theorem Ce(M:Mach H m b n)(R:RowOf b n d c):∀{word a},(∀l∈word,l<b.length)->RowIn c a->RowIn c (mh b n c a word)
 | [],_,_,h=>h
 |l::word,_,e,h=>Ce M R (word:=word) (λx f=>e x<|dS _ f)<|Q' M R h<|e l<|cJ ..
theorem Rv:mh b n c a (word++[l])=y4 b n c (mh b n c a word) l:=by
 unfold mh;rw[oJ];rfl
inductive lT(g CR:Ad)(K:V3)(h:List V)(H:Hp)(Q:VK)(d:XK):Prop|mk:∀p i j m b n e c a word,h=[.ref p,.ref i,.ref j]->RowAt g CR H p m b n c->Mach H m b n->RowOf b n e c->H i=some (.tup (a.map nv))->RowIn c a->H j=some (.lst (word.map nv))->(∀l∈word,l<b.length)->(∀t f,Same H f->f t=some (.tup ((mh b n c a word).map nv))->Q (.ref t) f)->lT g CR K h H Q d
theorem Oe{B CR:Ad}(F:Fun K "gone" "Row.gone" EX f fd)(V0:OwnC K CR [sB,sZ])(O:fh P w K mg base CR "moved" 9 [sC,sM,sK] (ja B CR)):FnOk P w K mg base bZ 11 f fd [sC,sM,sT] (lT B CR K):=by
 refine F.ok uP<|λT A g s H vs Q E U h=>?_
 obtain⟨p,Y,C,m,j,n,k,o,b,word,rfl,D,M,R,u,ri,c,G,q⟩:=h;obtain⟨dx,r,st,qs,h1,_⟩:=id D;refine#[_,(bK (fA fi zZ (fq<|pv 2) (dG (i:=3) uP.nd zZ Z')<|bM<|cj (i:=1) uP.nd zZ Z'<|gF (pv 0) V0.cl O U.m<|b8<|bB (pv 1) (bB (pv 3) bW zZ) zZ)<|bM<|cg<|pv 1),?_]
 let Pv:Nat->L2.St->Hp->Prop:=λi d y=>Same H y/\∃t z,y t=some (.tup<|(mh j n o b<|word.take i).map nv)/\d=[some<|.ref p,some<|.ref t,some<|.ref C,z]
 refine#[_,zZ,C,zZ,#[_,V1 c],oX Pv #[Same.refl _,Y,_,u,zZ] (λi d y _ p=>V1<|p.1 _ _ c) (λi v d I J pv=>?_)<|λd I pv=>?_]
 .obtain⟨a,t,z,e,rfl⟩:=pv;rw[bT]at J;obtain⟨l,L,rfl⟩:=c9.mp J;refine#[_,zZ,p,dx,_,zZ,a _ _ h1,(by kernel_rfl),_,zZ,_,zZ,p,t,m,j,n,k,o,_,l,zZ,D.keeps a.keeps,M.same a,R,e,(Ce M R (λx hx=>G x<|qr hx) ri (word:=word.take i)),G l<|bX L,λN H2 g2 e2=>#[a.trans g2,N,_,?_,zZ]];rw[gj,L];show H2 N=some (.tup<|(mh j n o b<|word.take i++[l]).map nv);rw[Rv];exact e2
 .obtain⟨a,t,z,e,rfl⟩:=pv;rw[bA,fF]at e;exact#[_,zZ,q t I a e]
theorem cT:Same (drop H a) H:=λb o c=>by
 by_cases e:b=a
 .subst e;rw[oG]at c;cases c
 .rw[dm e]at c;exact c
theorem xh(g:Same H d):Same (drop H a) (drop d a):=λb o c=>by
 by_cases e:b=a
 .subst e;rw[oG]at c;cases c
 .rw[dm e]at c|-;exact g _ _ c
theorem vr:drop (bx H a o) a=drop H a:=by
 funext b
 by_cases e:b=a
 .subst e;rw[oG,oG]
 .rw[dm e,dm e,bI e]
noncomputable def ky(a b c d:Ad):List (Str×V):=[(sS,.ref a),(sA,.ref b),(sM,.ref c),(sQ,.ref d)]
theorem IM:(ky d b c a).lookup (sS:Str)=some (.ref d):=by kernel_rfl
theorem QV:(ky d b c a).lookup (sA:Str)=some (.ref b):=by kernel_rfl
theorem F7:(ky d b c a).lookup (sM:Str)=some (.ref c):=by kernel_rfl
theorem MN:(ky d b c a).lookup (sQ:Str)=some (.ref a):=by kernel_rfl
theorem Stays.offD(h:H p=some (.ins C d fs)):Stays wx H (drop H p):=λb u n a=>by
 rw[dm (j6 a h λe=>by rw[e]at n;cases n)];exact a
theorem L'{l f:List (Str×V)}(g:k≠(sS:Str)):HO.ins C d ((k,v)::l)≠ .ins a b ((sS,c)::f):=by grind
theorem RowAt.offH{e CR:Ad}(h:RowAt e CR H f m j n k)(a:H p=some (.ins C d ((sS,v)::l))):RowAt e CR (drop H p) f m j n k:=by
 obtain⟨b,r,s,x,o,y,z,S⟩:=h;have lo:=Stays.offD a;refine#[b,r,s,x,?_,lo.a y,lo.a z,S.len,λi q L A B=>?_]
 .rw[dm<|j6 o a<|L'<|by decide+kernel];exact o
 .obtain⟨b,g,t,u,D,w,E,G,⟨I,J,M,N⟩,c,O,Q,T⟩:=S.is i q L A B;refine#[b,g,t,u,D,?_,lo.a E,lo.tups G,#[I,lo.a J,M,N.lts lo],c,lo.a O,Q,T.lts lo];rw[dm<|j6 w a<|L'<|by decide+kernel];exact w
theorem Mach.lts{f:HO->Bool}(M:Mach H m b n)(g:Stays f H a)(c:∀d,f (.tup d)=false:=by intro;rfl):Mach a m b n:=
 #[let⟨e,h,j,k⟩:=M.refs;#[e,g _ _ (c _) h,j,λi r t l o=>g _ _ (c _)<|k i r t l o],M.some1,M.few,M.n1,M.n5,M.each]
def HallIn(g h CR:Ad)(H:Hp)(p:Ad)(i:Ss)(c:LN)(n:Nat)(j:List Lv)(a:bw):Prop:=
 ∃k d b e f,H p=some (.ins g k (ky d b e f))/\drop H p d=some (.tup (i.map V.str))/\Mach (drop H p) b c n/\RowAt h CR (drop H p) e b c n j/\drop H p f=some (.tup (a.map nv))
theorem HallIn.same{c e CR:Ad}{H f:Hp}(h:HallIn c e CR H p i j n k b)(g:Same H f):HallIn c e CR f p i j n k b:=by
 obtain⟨l,m,o,q,r,s,t,u,v,w⟩:=h;have d:=xh (a:=p) g;exact#[l,m,o,q,r,g _ _ s,d _ _ t,u.same d,v.keeps d.keeps,d _ _ w]
noncomputable def tc(k:Nat):Str:=Str.ofString (toString (k:Int))
theorem Cj(h:k<10000):(tc k).length<=4:=by
 unfold tc;rw[ofString_len];show(Nat.repr k).length<=4;rw[Nat.repr_eq_ofList_toDigits,String.length_ofList];exact(Nat.length_toDigits_le_iff (by decide)<|by decide).mpr ()
noncomputable def D4(a:Ss):Str:=if a=[]then "none" else Txt.join #[#v[32]] a
noncomputable def lX(p:Bool×Nat×Nat):Str:=tr p.1++Str.ofString "/"++tc p.2.2
noncomputable def CZ(a:List Lv):Str:=D4 ((gu a).map lX)
noncomputable def iS(k:Nat):Str:=Str.ofString " "++tc k
noncomputable def Dg(a:Ss):Option (bw×bw)->Str
 |none=>"none"
 |some r=>Txt.join #[#v[32]] (r.1.map λi=>a.getD i #[#v[]])++Str.ofString ":"++Txt.join #[#v[]] (r.2.map iS)
theorem x9:Str.ofString " "=(#[#v[32]]:Str):=by decide+kernel
def M8(a:Ss):Prop:=(∃y b,a=Str.ofString "go"::y::b)\/a=[tM]\/a=[tK]
inductive gT(b:List V)(H:Hp)(Q:VK)(a:XK):Prop|mk:∀l c,b=[.ref l]->H l=some (.lst (c.map V.str))->M8 c->(∀d,Same H d->Q (.bl true) d)->gT b H Q a
inductive fO(b:List V)(H:Hp)(Q:VK)(a:XK):Prop|mk:∀z,b=[.str z]->z.length<=1000->(∀l,H l=none->Q (.ref l) (bx H l (.lst ((Txt.split z #[#v[32]]).map V.str))))->fO b H Q a
inductive gR(c:List V)(H:Hp)(Q:VK)(b:XK):Prop|mk:∀l a,c=[.ref l]->H l=some (.lst (a.map V.str))->a.length<=100->(∀y∈a,y.length<=20)->Q (.str (D4 a)) H->gR c H Q b
theorem Te(F:Fun K "is_told" "is_told" Gh f fd)(c:mg "len"=none):FnOk P w K mg base bZ 1 f fd [sN] gT:=by
 refine F.ok NL (λm A d s H u Q E n h=>?_)
 obtain⟨l,g,rfl,b,hw,q⟩:=h;have v:=n.units;refine#[_,(zx (nN (oP (di (eG iH (b7 dD (pv 0) bL (λ_ _=>rfl)) dM (dC _)) (bM (cg (mK Co (cX eR zZ c dW (bG (pv 0) bF)) bL (dC _)))) dh)) (nN (oP (di (eG iH (b7 dD (pv 0) bL (λ_ _=>rfl)) dM (dC _)) (bM (cg (mK iH (cX eR zZ c dW (bG (pv 0) bF)) bL (dC _)))) dh)) (xq (C2 (ku (tz (mK Ks (b7 dD (pv 0) bL (λ_ _=>rfl)) (jo (b8 (bB dM (bB dM (bB dM bW zZ) zZ) zZ))) (by with_unfolding_all rfl)) (rq (mK iH (cX eR zZ c dW (bG (pv 0) bF)) bL (dC _)))))))))),?_];have a:∀{y} {i},g=y::i->fL (g.map V.str) 0=some (.str y):=λe=>by subst e;exact fE rfl
 rcases hw with⟨y,i,e⟩|hw
 .refine#[_,zZ,l,_,_,_,zZ,zZ,V1 b,a e,zZ,_,zZ,?_]
  try dsimp only
  rw[cK zZ];refine dP #[_,zZ,l,_,zZ,.inl (V1 b),_,_,zZ,zZ,?_]
  try dsimp only
  rw[cK (by rw[e,bA,i3,i3];lia)];exact q _ (Same.refl _)
 .obtain⟨y,e,o,p,r⟩:∃y,g=[y]/\decide (V.str y=V.str (Str.ofString "go"))=false/\decide (V.str y=V.str (Str.ofString "at"))=false/\uh (V.str y) [V.str sM,V.str tM,V.str tK]=true:=by
   rcases hw with e|e
   .exact#[_,e,by decide+kernel,by decide+kernel,by decide+kernel]
   .exact#[_,e,by decide+kernel,by decide+kernel,by decide+kernel]
  refine#[_,zZ,l,_,_,_,zZ,zZ,V1 b,a e,zZ,_,zZ,?_]
  try dsimp only
  rw[o];refine cR #[_,zZ,l,_,_,_,zZ,zZ,V1 b,a e,zZ,_,zZ,?_]
  try dsimp only
  rw[p];refine cR #[_,zZ,l,_,_,_,zZ,zZ,V1 b,a e,by decide,λt ht=>?_];have k:=bP ht (.tup [V.str sM,V.str tM,V.str tK]);refine#[t,_,zZ,.inr (V2 bE),zZ,zZ,_,zZ,?_]
  try dsimp only
  rw[r];refine dP #[_,zZ,l,_,zZ,.inl (V1 (k _ _ b)),zZ,?_]
  try dsimp only
  rw[cK (by rw[e];rfl)];exact q _ k
theorem QK(F:Fun K "words_of" "words_of" GV f fd)(b:mg "isinstance"=none)(c:mg "str"=none):FnOk P w K mg base bZ 1 f fd [sM] fO:=by
 refine F.ok Qi<|λd A a s H i Q E e h=>?_
 obtain⟨z,rfl,j,q⟩:=h;have k:=e.units;refine#[_,(bK (di (iC<|iI<|cX qp zZ b pH<|b8<|bB (pv 0) (bB (qq zZ c tv) bW zZ) zZ) (bM<|cg<|gw<|bG dM bF) dh)<|bM<|cg<|hO pS PySem.F.slot_str_split PySem.F.type_str_split J3 (pv 0)<|bG dM bF),#[_,zZ,_,_,_,_,zZ,.str z,Db,_,zZ,cR ?_]];refine#[_,zZ,zZ,z,Str.ofString " ",zZ,zZ,by decide+kernel,by rw[cq];lia,λp g=>?_];rw[x9];exact q p g
theorem OZ(F:Fun K "joined" "joined" FE f fd):FnOk P w K mg base bZ 1 f fd [sN] gR:=by
 refine F.ok O'<|λd A b s H j Q E g h=>?_
 obtain⟨l,a,rfl,c,m,i,q⟩:=h;have n:=g.units;refine#[_,(zx<|nN (oP<|di (iC<|B4 (pv 0)<|λ_=>rfl) (bM<|cg dM) dh)<|xq<|C2<|vz pS yP yq xx (ku dM)<|u8 (ku<|pv 0) bW zZ),#[_,zZ,!(a.map V.str).isEmpty,.inl #[_,V1 c,zZ],?_]];by_cases e:a=[]
 .subst e;exact dP q
 rw[show(!((a.map V.str).isEmpty))=true by cases a with|nil=>exact wC rfl e|cons _ _=>rfl];refine cR #[zZ,_,zZ,Str.ofString " ",l,a,zZ,zZ,V1 c,by decide+kernel,?_,?_]
 .have:=oC i;lia
 .unfold D4 at q;rw[wA e]at q;rw[x9];exact q
theorem NK{a:Ss}(h:z∈a):uh (.str z) (a.map V.str)=true:=by
 unfold uh;rw[AL,Ab];exact#[z,h,by exact wD z]
theorem Ox(a:Ss):(a.map V.str).all jh=true:=by
 rw[ww,pb];exact λ_ _=>rfl
theorem Ay(h:d<10000):((d:Nat):Int).natAbs.log2<1920:=by
 rw[Int.natAbs_natCast];by_cases z:d=0
 .subst z;decide
 .have:d.log2<14:=(Nat.log2_lt z).mpr ();lia
inductive fj(d e CR:Ad)(f:List V)(H:Hp)(Q:VK)(a:XK):Prop|mk:∀p z b g n h c,f=[.ref p,.str z]->HallIn d e CR H p b g n h c->z∈b->Q (nv (b.idxOf z)) H->fj d e CR f H Q a
inductive vj(e f CR:Ad)(k:List V)(H:Hp)(Q:VK)(g:XK):Prop|mk:∀p l d b n h c a word,k=[.ref p,.ref l]->HallIn e f CR H p d b n c a->d.Nodup->d.length=b.length->RowOf b n h c->RowIn c a->(H l=some (.lst ((word.map λi=>d.getD i #[#v[]]).map V.str)))->word.length<=100->(∀i∈word,i<b.length)->(∀j,Same (drop H p) (drop j p)->HallIn e f CR j p d b n c (mh b n c a word)->Q (.str (tc (v4 b n c (mh b n c a word)))) j)->vj e f CR k H Q g
theorem Re{b e CR:Ad}(F:Fun K "letter_of" "Hall.letter_of" Fx f fd)(V':OwnC K b [sS,sA,sM,sQ])(_:OwnC K e [sA,sI,sJ,sR,sO])(_:OwnC K CR [sB,sZ]):FnOk P w K mg base bZ 1 f fd [sC,xV] (fj b e CR):=by
 refine F.ok QM<|λl A c s H u Q E m h=>?_
 obtain⟨p,z,g,v,n,x,o,rfl,r,i,q⟩:=h;obtain⟨j,d,y,B,C,k,t,_⟩:=id r;have J:=m.units;refine#[_,(bK (di (eG Uf (pv 1) (dJ (pv 0) zZ)<|by with_unfolding_all rfl) (bM nh) dh)<|bM<|cg<|Kt PySem.F.slot_tuple_index PySem.F.type_tuple_index TN (dJ (pv 0) zZ)<|bG (pv 1) bF),?_];have a:=cT _ _ t;refine#[_,zZ,_,zZ,p,b,j,_,_,zZ,k,V'.cl,V'.no,IM,d,_,zZ,.inr<|V2 a,zZ,Ox g,_,zZ,?_]
 rw[NK i];exact cR #[_,zZ,p,b,j,_,_,zZ,k,V'.cl,V'.no,IM,#[d,_,zZ,a],_,zZ,d,g,z,zZ,zZ,V2 a,i,q]
theorem xO{b B CR:Ad}(F:Fun K "go" "Hall.go" Ek f fd)(V':OwnC K b [sS,sA,sM,sQ])(V0:OwnC K CR [sB,sZ])(qI:fh P w K mg base b "letter_of" 1 [sC,xV] (fj b B CR))(uF:fh P w K mg base CR "gone" 11 [sC,sM,sT] (lT B CR K))(uG:fh P w K mg base CR "told" 5 [sC,sM] (lH B CR))(kH:mg "str"=none):FnOk P w K mg base bZ 13 f fd [sC,sS] (vj b B CR):=by
 refine F.ok xC (λae A aa s H vs Q E C h=>?_)
 obtain⟨p,l,e,o,n,D,u,g,word,rfl,HI,nd,el,R,ri,hl,w1,T,q⟩:=h;obtain⟨c,m,k,d,he,h1,h2,x,U,h5⟩:=id HI;have hu:=C.units;have af:=gJ C;refine#[_,(bK (vw (CompSc.to (N:=[sC,sS,sT]) (osc:=bQ Ek) (vs:=[xV]) {}) zZ zZ xC.nd (j:=2) zZ zZ (fq (pv 1)) (λ_ _ _ _=>fK) (λ_ _ _ _=>(gF (pv 1) V'.cl qI C.m (bG (pv 0) bF)))) (bK (mY (pv 0) (gF (dJ (pv 0) zZ) V0.cl uF C.m (b8 (bB (dJ (pv 0) zZ) (bB (pv 2) bW zZ) zZ))) zZ) (bM (cg (gE DG zZ kH tv (bG (gF (dJ (pv 0) zZ) V0.cl uG C.m (bG (dJ (pv 0) zZ) bF)) bF)))))),?_];have ix:∀i∈word,e.idxOf (e.getD i #[#v[]])=i:=λi G=>by
  have I:i<e.length:=by rw[el];exact T i G
  rw[cW,bC I];exact nd.idxOf_getElem i I
 refine#[_,zZ,l,zZ,#[_,V1 hl],Fj (f:=λv=>match v with|.str z=>nv (e.idxOf z)|v=>v) (by rw[bA,bA];exact small ()) (V1 hl) (λv Q hv q=>?_) (λwo ab=>?_)]
 .obtain⟨z,hz,rfl⟩:=bY.mp hv;obtain⟨i,G,rfl⟩:=bY.mp hz;have I:i<e.length:=by rw[el];exact T i G
  have mi:e.getD i #[#v[]]∈e:=by rw[cW,bC I];exact ga I
  exact#[_,zZ,p,c,_,zZ,h1,(by kernel_rfl),_,zZ,p,_,e,o,n,u,g,zZ,HI,mi,q]
 have ew:((word.map λi=>e.getD i #[#v[]]).map V.str).map (λv=>match v with|.str z=>nv (e.idxOf z)|v=>v)=word.map nv:=by
  rw[eM,eM];exact mI λi G=>cH nv (ix i G)
 rw[ew];have kw:=bP ab (.lst (word.map nv));have p1:=kw _ _ h1;obtain⟨J,r,st,qs,r1,r2⟩:=id U;have Y:Same (L2.drop H p) (bx H wo (.lst (word.map nv))):=cT.trans kw;refine#[_,zZ,p,b,c,_,_,zZ,p1,V'.cl,V'.no,F7,d,J,_,zZ,Y _ _ r1,(by kernel_rfl),_,zZ,p,b,c,_,_,zZ,p1,V'.cl,V'.no,MN,_,zZ,d,he,wo,k,o,n,D,u,g,word,zZ,U.keeps Y.keeps,x.same Y,R,Y _ _ h5,ri,bE,T,λt L g2 et=>?_];have p2:=g2 _ _ p1;refine#[_,zZ,p,b,c,_,zZ,p2,V'.cl,V'.no,by show 4<1000;decide,?_];have eF:cP sQ (.ref t) (ky m k d he)=ky m k d t:=by kernel_rfl
 rw[eF];have y:Same (L2.drop H p) (L2.drop (bx L p (.ins b c (ky m k d t))) p):=by rw[vr];exact (xh (a:=p) kw).trans (xh g2)
 have dt:L2.drop (bx L p (.ins b c (ky m k d t))) p t=some (.tup ((mh o n u g word).map nv)):=by rw[vr,dm (nE et p2)];exact et
 have M:HallIn b B CR (bx L p (.ins b c (ky m k d t))) p e o n u (mh o n u g word):=#[c,m,k,d,t,bE,y _ _ h2,x.same y,U.keeps y.keeps,dt];have p3:bx L p (.ins b c (ky m k d t)) p=some (.ins b c (ky m k d t)):=bE;generalize bx L p (.ins b c (ky m k d t))=H3 at y dt M p3|-;have g3:Same (drop H3 p) H3:=cT;have k3:=y.trans g3;have O:=Ce x R T ri;have tl:=(Se x R O x.some1).1;have n5:=x.n5;refine#[_,zZ,p,b,c,_,_,zZ,p3,V'.cl,V'.no,F7,d,J,_,zZ,k3 _ _ r1,(by kernel_rfl),_,zZ,p,b,c,_,_,zZ,p3,V'.cl,V'.no,MN,d,t,k,o,n,D,u,mh o n u g word,zZ,U.keeps k3.keeps,x.same k3,R,g3 _ _ dt,O,λH4 g4=>#[_,zZ,Ay (),?_]];exact q H4 (y.trans (xh g4)) (M.same g4)
noncomputable def EA(a:Ss)(word:bw):Str:=Txt.join #[#v[32]] (Str.ofString "go"::word.map λi=>a.getD i #[#v[]])
theorem MW{ps:Ss}(a:ps≠[])(h:∀p∈ps,32∉p.cps.toList)(b:∀p∈ps,p.length<=8)(few:ps.length<=101):Txt.split (Txt.join #[#v[32]] ps) #[#v[32]]=ps/\(Txt.join #[#v[32]] ps).length<=1000:=by
 refine#[LS a h,?_];rw[eq_of_beq<|Er _ _];have z:=HY #[#v[32]] ps;have y:=oC b;have e:(#[#v[32]]:Str).length=1:=rfl;rw[e]at z;lia
theorem AN(h:NameOk x):32∉x.cps.toList/\x.length<=8:=#[λz=>by
 have:=h.small 32 z;unfold v9 at this;lia,by rw[iL];exact h.few]
theorem E4(v)(a):t6 (v::a) (some 1) none=a:=by
 unfold t6;rw[show(1:Int)=((1:Nat):Int)from rfl,HT.sIx_none,HT.sIx_nat,uu<|by simp];show(List.drop 0 a).take _=_;rw[Ai];exact yh<|by simp
theorem Lx(M:Mach H m d n)(R:RowOf d n a b):∀i,i<=b.length->∀p∈ki b i,p.2.2<=4000
 |0,_,p,h=>nomatch h
 | i+1,c,p,h=>by
  have e:=bC<|c;rw[Bx e]at h
  rcases cF.mp h with h|h
  .exact Lx M R i (eZ c) p h
  .have ok:=R.ok _<|bX e;have u:(b[i]'c).us.length<=4000:=by
    refine cz (m9 (w9 M R.ff ok.p) λu f=>?_)<|cz (R.ff.few M) (by decide);rw[ok.p.tl]at f;exact((oD M R.ff).mp f).1
   unfold kh at h;split at h
   .rcases db.mp h with rfl|h
    .exact (ok.few M R.ff)
    .rw[cf.mp h];exact u
   .rw[cf.mp h];exact u
theorem Kz{a:L2.St}:b7i (none::none::none::a) (x::y::z::a):=λi v e=>by
 match i,e with
 |0,e=>cases e
 |1,e=>cases e
 |2,e=>cases e
 |_+3,e=>exact e
theorem Kl{p q r f:Pos}(S:CompScope X [x,y,z] a)(g:X.calm=true)(b:a.names.lookup x=some .local)(c:a.names.lookup y=some .local)(d:a.names.lookup z=some .local):
  ∀C s H e,PG (gf X [x,y,z] a C s H e) (.Tuple [.Name x p,.Name y q,.Name z r] k f) (pM X.K 3 (gQ (gi 0) (gQ (gi 1) (gQ (gi 2) vp)))):=λC s H e=>
 wm g<|lA (dG S.nd zZ (.inl<|nC b)<|.inr<|nC b)<|lA (dG S.nd zZ (.inl<|nC c)<|.inr<|nC c)<|lA (dG S.nd zZ (.inl<|nC d)<|.inr<|nC d) ua
theorem JI(M:Mach H m d n)(h:AbM d n (some r)):(∀l∈r.1,l<d.length)/\r.1≠[]/\∀k∈r.2,k<n:=by
 obtain⟨j,told,o,E,b,i,c,q,k,l,s,⟨G,I,T,a⟩,f,⟨x,t,J,u,L,p,v,w,N,O,y,A,B⟩,C,_⟩:=h;obtain⟨_,_,_,_,_,_,_,D,_⟩:=f.1;rw[B,C];refine#[λz g=>?_,λe=>?_,λz g=>?_]
 .rcases cF.mp g with h|h
  .rcases cF.mp h with h|h
   .exact(T.run _<|a k x t v w).1 z h
   .rw[cf.mp h];exact D
  .exact(y.run _ A).1 z h
 .simp at e
 .exact(bD.mp<|o.inU M (cL.mp (fv<|b c<|bX s).2.2.1).1).2 z g
theorem Cd(x):Str.empty++x=x:=mW (by rw[fP];rfl)
theorem hZ(x y:Str):(x++y).length=x.length+y.length:=by rw[iL,fP,cC,<-iL,<-iL]
theorem LW{a:Ss}(b:sep.length<=1)(h:∀p∈a,p.length<=k):(Txt.join sep a).length<=a.length * k+a.length:=by
 rw[eq_of_beq<|Er _ _];have z:=HY sep a;have y:=oC h;have:a.length * sep.length<=a.length * 1:=Nat.mul_le_mul_left _ b;lia
theorem Nm(M:Mach H m c n)(R:RowOf c n a d)(e:q∈gu d):(lX q).length<=10/\(tr q.1).length<=5/\q.2.2<10000:=by
 have z:=Lx M R _ (bR _) q e;have f:=Cj (show q.2.2<10000 by lia);have g:(Str.ofString "/").length=1:=by decide+kernel
 have h:(tr q.1).length<=5:=by
  have:∀b,(tr b).length<=5:=by decide+kernel
  exact this _
 unfold lX;rw[hZ,hZ];lia
inductive i8(f g CR:Ad)(h:List V)(H:Hp)(Q:VK)(b:XK):Prop|mk:∀p a c n i d,h=[.ref p]->HallIn f g CR H p a c n i d->a.length=c.length->(∀x∈a,NameOk x)->Tabs H->(∀r e,Keeps H e->Tabs e->AbM c n r->Q (.str (Dg a r)) e)->i8 f g CR h H Q b
theorem U8{e Y CR:Ad}(F:Fun K "shown_about" "Hall.shown_about" zV f fd)(V':OwnC K e [sS,sA,sM,sQ])(_:OwnC K Y [sA,sI,sJ,sR,sO])(_:OwnC K CR [sB,sZ])(rX:cn P w K mg base tK 20 [sA] gB):FnOk P w K mg base bZ 22 f fd [sC] (i8 e Y CR):=by
 refine F.ok kA<|λaa A j s H vs Q E m h=>?_
 obtain⟨p,a,ts,n,Ls,ab,rfl,HI,el,o,hT,q⟩:=h;obtain⟨dx,na,ma,ro,he,h1,h2,u,h4,h5⟩:=id HI;have hu:=m.units;have ae:=gJ m;refine#[_,(zx<|nN (oP<|cj (i:=1) kA.nd zZ Z'<|ck rX m.m zZ<|bG (dJ (pv 0) zZ) bF)<|nN (oP<|di (eG Hx (pv 1) n'<|dC _) (bM<|cg dM) dh)<|nN (JQ (i:=2) kA.nd zZ Z' (vz pS yP yq xx (ku dM)<|u8 (ku<|gN (CompSc.to (N:=[sC,wS,sT,sB]) (osc:=bQ zV) (vs:=[sK]) {}) zZ zZ (fq<|b7 cO (pv 1) bL<|λ_ _=>rfl) (λ_ _ _ _=>fK)<|λ_ _ _ _=>(b7 (IxR.k (K:=K) oh cO zZ) (UW (K:=K) (pv 1) zZ zZ) (pv 0)<|λ_ _=>rfl)) bW zZ) zZ<|by first|exact .inl rfl|exact .inr rfl|assumption)<|nN (JQ (i:=3) kA.nd zZ Z' (vz pS yP yq xx (ku dM)<|u8 (ku<|gN (CompSc.to (N:=[sC,wS,sT,sB]) (osc:=bQ zV) (vs:=[tQ]) {}) zZ zZ (pY<|b7 cO (pv 1) bL<|λ_ _=>rfl) (λ_ _ _ _=>fK)<|λ_ _ _ _=>(EN<|GH<|Ku (pv 0) F0)) bW zZ) zZ<|by first|exact .inl rfl|exact .inr rfl|assumption)<|xq<|oP<|cg<|EN<|E7 (pv 2)<|GH<|E7 (pv 3) F0),?_];have k0:Same (L2.drop H p) H:=cT;refine#[_,zZ,p,e,dx,_,_,zZ,h1,V'.cl,V'.no,QV,ma,ts,n,zZ,u.same k0,hT,λv r H1 g T1 x AA=>?_];cases r with
 |none=>
  cases(show v=.non from AA);exact#[_,zZ,zZ,_,zZ,dP<|q none H1 g T1 x]
 | some r=>
  obtain⟨t,l,b,rfl,e1,e2,e3,_,l9,l5⟩:=AA;obtain⟨f1,f2,B⟩:=JI u x;have n5:=u.n5;have p1:=g _ _<|nz h1;have C:=g _ _<|nz<|k0 _ _ h2;have xi:∀i,i<ts.length->a[i]?=some (a.getD i #[#v[]]):=λi c=>by
   have ix:i<a.length:=by lia
   rw[cW,bC ix];rfl
  have x8:∀y∈r.1.map (λi=>a.getD i #[#v[]]),y.length<=8:=λy D=>by
   obtain⟨i,c,rfl⟩:=bY.mp D;exact(AN (o _ (bX (xi i (f1 i c))))).2
  have r5:∀k,k<n->(iS k).length<=5:=λk G=>by
   have z:(Str.ofString " ").length=1:=by decide+kernel
   have:=Cj (show k<10000 by lia);unfold iS;rw[hZ];lia
  refine#[_,zZ,zZ,_,zZ,cR #[zZ,_,zZ,t,_,_,_,zZ,zZ,V2 e1,zZ,l,zZ,#[_,V1 e2],Fj (f:=λv=>match v with|.int i=>V.str (a.getD i.toNat #[#v[]])|v=>v) (by rw[bA,cq];lia) (V1 e2) (λv Q I q=>?_) (λjl J=>?_)]]
  .obtain⟨i,c,rfl⟩:=bY.mp I;exact#[_,zZ,p,e,dx,_,_,zZ,p1,V'.cl,V'.no,IM,_,zZ,na,_,_,_,zZ,zZ,V2 C,fE (by rw[bT,xi i (f1 i c)];rfl),q]
  rw[show(r.1.map nv).map (λv=>match v with|.int i=>V.str (a.getD i.toNat #[#v[]])|v=>v)=(r.1.map λi=>a.getD i #[#v[]]).map V.str by rw[eM,eM];rfl];have L:=bP J (.lst ((r.1.map λi=>a.getD i #[#v[]]).map V.str));have M:=L _ _ e1;have d:=L _ _ e3;have w8:=oC x8;have lw:=LW (sep:=#[#v[32]]) (by decide+kernel) x8;rw[bA]at w8 lw;refine#[Str.ofString " ",jl,_,zZ,zZ,V1 bE,by decide+kernel,by rw[bA];lia,?_];rw[x9];generalize O:Txt.join #[#v[32]] (r.1.map λi=>a.getD i #[#v[]])=wt at lw;refine#[zZ,_,zZ,t,_,_,_,zZ,zZ,V2 M,zZ,b,zZ,#[_,V2 d],t9 (f:=λv=>match v with|.int i=>V.str (iS i.toNat)|v=>v) (by rw[bA,cq];lia) (V2 d) (λv Q I q=>?_) (λml T=>?_)]
  .obtain⟨k,G,rfl⟩:=bY.mp I;have z:=r5 k (B k G);have kn:=B k G;have e0:Str.empty++(#[#v[32]]:Str)++Str.ofString (toString ((k:Nat):Int))=iS k:=by rw[Cd,<-x9];rfl
   exact#[by rw[Cd];exact small (by decide+kernel),_,zZ,_,zZ,Ay (),by rw[e0];exact small (),by rw[e0];exact#[small (),q]]
  rw[show(r.2.map nv).map (λv=>match v with|.int i=>V.str (iS i.toNat)|v=>v)=(r.2.map iS).map V.str by rw[eM,eM];rfl];have x5:∀y∈r.2.map iS,y.length<=5:=λy D=>by
   obtain⟨i,c,rfl⟩:=bY.mp D;exact r5 i (B i c)
  have w5:=oC x5;have lr:=LW (sep:=#[#v[]]) (by decide+kernel) x5;rw[bA]at w5 lr;refine#[Str.ofString "",ml,_,zZ,zZ,V1 bE,by decide+kernel,by rw[bA];lia,?_];rw[show Str.ofString ""=(#[#v[]]:Str) by decide+kernel];have U:(Str.ofString ":").length=1:=by decide+kernel
  have k4:=L.trans (bP T (.lst ((r.2.map iS).map V.str)));have fin:Q (.str (wt++Str.ofString ":"++Txt.join #[#v[]] (r.2.map iS))) (bx (bx H1 jl (.lst ((r.1.map λi=>a.getD i #[#v[]]).map V.str))) ml (.lst ((r.2.map iS).map V.str))):=by
   rw[<-O];exact q (some r) _ (g.trans k4.keeps) (T1.same k4) x
  exact#[_,zZ,wt,zZ,by rw[cq];lia,by rw[Cd,cq];lia,by rw[Cd];exact#[by rw[hZ,U,cq];lia,_,zZ,_,zZ,by rw[cq];lia,by rw[hZ,hZ,U,cq];lia,by rw[hZ,hZ,U,cq];lia,fin]]
inductive mv(f g CR:Ad)(k:List V)(H:Hp)(Q:VK)(h:XK):Prop|mk:∀p z b c n j e d,k=[.ref p,.str z]->HallIn f g CR H p b c n e d->b.Nodup->b.length=c.length->(∀x∈b,NameOk x)->RowOf c n j e->RowIn e d->Tabs H->(((z=tM/\∀a,Same H a->Q (.str (CZ e)) a)\/(z=tK/\∀r a,Keeps H a->Tabs a->AbM c n r->Q (.str (Dg b r)) a)\/∃word,z=EA b word/\word≠[]/\word.length<=100/\(∀i∈word,i<c.length)/\∀y a,Same (drop H p) (drop a p)->HallIn f g CR a p b c n e (mh c n e d word)->Q y a))->mv f g CR k H Q h
theorem O1{t L CR:Ad}(F:Fun K "say" "Hall.say" BK f fd)(V':OwnC K t [sS,sA,sM,sQ])(V0:OwnC K CR [sB,sZ])(uH:cn P w K mg base "words_of" 1 [sM] fO)(uW:cn P w K mg base "is_told" 1 [sN] gT)(vF:cn P w K mg base "joined" 1 [sN] gR)(uX:fh P w K mg base t "go" 13 [sC,sS] (vj t L CR))(kU:fh P w K mg base CR tM 3 [sC] (gy L CR))(kO:fh P w K mg base t "shown_about" 22 [sC] (i8 t L CR)):FnOk P w K mg base bZ 24 f fd [sC,sM] (mv t L CR):=by
 refine F.ok vK<|λam A aa s H vs Q E u h=>?_
 obtain⟨p,z,o,C,n,ab,g,D,rfl,HI,nd,el,M,R,ri,hT,h⟩:=h;obtain⟨dx,na,ma,ro,he,O,h2,h3,h4,h5⟩:=id HI;have hu:=u.units;have an:=gJ u;refine#[_,(bK (cj (i:=2) vK.nd zZ Z'<|ck uH u.m zZ<|bG (pv 1) bF)<|bK (di (iC<|iI<|ck uW u.m zZ<|bG (pv 2) bF) (bM nh) dh)<|bK (di (eG iH (b7 dD (pv 2) bL<|λ_ _=>rfl) dM<|dC _) (bM<|cg<|gF (pv 0) V'.cl uX u.m<|bG (GU Ny (pv 2) (Cz bL) Mr) bF) dh)<|bK (di (eG iH (b7 dD (pv 2) bL<|λ_ _=>rfl) dM<|dC _) (bM nh) dh)<|bK (di (eG iH (b7 dD (pv 2) bL<|λ_ _=>rfl) dM<|dC _) (bM nh) dh)<|bK (di (eG iH (b7 dD (pv 2) bL<|λ_ _=>rfl) dM<|dC _) (bM<|cg<|ck vF u.m zZ<|bG (BJ (CompSc.to (N:=[sC,sM,sN]) (osc:=bQ BK) (vs:=[sT,sG,"many"]) {}) zZ (fq<|xm (dJ (pv 0) zZ) V0.cl kU u.m) (Kl (CompSc.to (N:=[sC,sM,sN]) (osc:=bQ BK) (vs:=[sT,sG,"many"]) {}) zZ zZ zZ zZ) (λ_ _ _ _=>fK)<|λ_ _ _ _=>(EN<|E7 (pv 0)<|GH<|Ku (pv 2) F0)) bF) dh)<|bM (cg (xm (pv 0) V'.cl kO u.m))),?_];have one:∀y:Str,32∉y.cps.toList->y.length<=8->Txt.split y #[#v[32]]=[y]/\y.length<=1000:=λy O h2=>by
  have e:Txt.join #[#v[32]] [y]=y:=mW (by rw[rN];rfl);obtain⟨m,I⟩:=MW (ps:=[y]) (λz=>nomatch z) (λp hp=>by rw[cf.mp hp];exact O) (λp hp=>by rw[cf.mp hp];exact h2) (by show 1<=101;decide);rw[e]at m;exact#[m,()]
 have ae:∃k,Txt.split z #[#v[32]]=k/\M8 k/\z.length<=1000/\((k=[tM]/\∀d,Same H d->Q (.str (CZ g)) d)\/(k=[tK]/\∀r d,Keeps H d->Tabs d->AbM C n r->Q (.str (Dg o r)) d)\/∃word:bw,k=Str.ofString "go"::(word.map λi=>o.getD i #[#v[]])/\word.length<=100/\(∀i∈word,i<C.length)/\∀y d,Same (L2.drop H p) (L2.drop d p)->HallIn t L CR d p o C n g (mh C n g D word)->Q y d):=by
  rcases h with⟨rfl,q⟩|⟨rfl,q⟩|⟨word,rfl,ne,w1,wl,q⟩
  .obtain⟨m,I⟩:=one tM (by decide+kernel) (by decide+kernel);exact#[_,m,.inr (.inl zZ),I,.inl #[zZ,q]]
  .obtain⟨m,I⟩:=one tK (by decide+kernel) (by decide+kernel);exact#[_,m,.inr (.inr zZ),I,.inr (.inl #[zZ,q])]
  .have nx:∀y∈word.map (λi=>o.getD i #[#v[]]),NameOk y:=λy G=>by
    obtain⟨i,hi,rfl⟩:=bY.mp G;have li:i<o.length:=by rw[el];exact wl i hi
    rw[cW,bC li];exact M _ (ga li)
   have T:32∉(Str.ofString "go").cps.toList/\(Str.ofString "go").length<=8:=by decide+kernel
   obtain⟨m,I⟩:=MW (ps:=Str.ofString "go"::word.map λi=>o.getD i #[#v[]]) (λz=>nomatch z) (λy G=>(db.mp G).elim (λe=>by rw[e];exact T.1) λh=>(AN (nx y h)).1) (λy G=>(db.mp G).elim (λe=>by rw[e];exact T.2) λh=>(AN (nx y h)).2) (by rw[i3,bA];lia);refine#[_,m,.inl ?_,I,.inr (.inr #[word,zZ,w1,wl,q])];cases word with
   |nil=>exact wC zZ ne
   |cons a r=>exact#[_,_,zZ]
 obtain⟨k,af,tw,zl,cs⟩:=ae;refine#[_,zZ,z,zZ,zl,λl hl=>?_];rw[af];have kl:=bP hl (.lst (k.map V.str));refine#[_,zZ,l,k,zZ,bE,tw,λH2 g2=>#[_,zZ,cR ?_]];have gl:=kl.trans g2;have b:H2 l=some (.lst (k.map V.str)):=g2 _ _ bE;have c:∀{y:Str} {J:Ss},k=y::J->fL (k.map V.str) 0=some (.str y):=λe=>by subst e;exact fE (j:=0) rfl
 rcases cs with⟨e,q⟩|⟨e,q⟩|⟨word,e,w1,wl,q⟩
 .refine#[_,zZ,l,_,_,_,zZ,zZ,V1 b,c e,zZ,_,zZ,?_]
  try dsimp only
  rw[show decide (V.str tM=V.str (Str.ofString "go"))=false by decide+kernel];refine cR #[_,zZ,l,_,_,_,zZ,zZ,V1 b,c e,zZ,_,zZ,?_]
  try dsimp only
  rw[show decide (V.str tM=V.str (Str.ofString "at"))=false by decide+kernel];refine cR #[_,zZ,l,_,_,_,zZ,zZ,V1 b,c e,zZ,_,zZ,?_]
  try dsimp only
  rw[show decide (V.str tM=V.str sM)=false by decide+kernel];refine cR #[_,zZ,l,_,_,_,zZ,zZ,V1 b,c e,zZ,_,zZ,?_]
  try dsimp only
  rw[cK zZ];have k2:Same (L2.drop H p) H2:=cT.trans gl;obtain⟨ag,r',st,qs,r1,r2⟩:=id h4;have lz:(gu g).length<=2 * g.length:=DW g g.length;have ah:=R.few;have x:=λq hq=>Nm h3 R (q:=q) hq;refine dP #[_,zZ,p,t,dx,_,_,zZ,gl _ _ O,V'.cl,V'.no,F7,ro,ag,_,zZ,k2 _ _ r1,(by kernel_rfl),ro,ma,C,n,g,zZ,h4.keeps k2.keeps,ah,λpl as H3 g3 ao U PA=>?_];have la:=PA.len;refine#[pl,zZ,#[_,V1 U],je (xs:=as.map V.ref) (λi J d=>d=H3/\J=(((gu g).take i).map lX).map V.str) (small (by rw[bA];lia)) #[zZ,zZ] (λi J d hi p=>?_) (λi v J d hv p=>?_) (λJ H4 p jl ai=>?_)]
  .obtain⟨rfl,rfl⟩:=p;exact#[V1 U,by rw[bA,bA,fe];exact zo ..]
  .obtain⟨rfl,rfl⟩:=p;rw[bT]at hv;obtain⟨pa,Y,rfl⟩:=c9.mp hv;have ip:=(bN.mp Y).1;have eq:=bC (show i<(gu g).length by lia);have m:=PA.is i pa _ Y eq;obtain⟨aj,a5,a4⟩:=x _ (bX eq);have B:=cz aj (show 10<=1000 by decide);have s1:(Str.ofString "/").length=1:=by decide+kernel
   refine#[pa,_,zZ,V2 m,zZ,_,_,zZ,_,_,zZ,_,_,zZ,zZ,Kz,jc #[_,zZ,_,zZ,small (),by rw[Cd];exact small (),?_]];rw[Cd];refine#[small (by rw[hZ];lia),_,zZ,_,zZ,Ay a4,small B,small B,zZ,?_];rw[gj,eq,c7,c7];rfl
  obtain⟨rfl,rfl⟩:=p;rw[bA,la,fF];exact#[jl,_,zZ,bE,by rw[bA];lia,λy G=>by
   obtain⟨q,hq,rfl⟩:=bY.mp G;exact cz (x q hq).1 (by decide),q _ ((gl.trans g3).trans (bP ai _))]
 .refine#[_,zZ,l,_,_,_,zZ,zZ,V1 b,c e,zZ,_,zZ,?_]
  try dsimp only
  rw[show decide (V.str tK=V.str (Str.ofString "go"))=false by decide+kernel];refine cR #[_,zZ,l,_,_,_,zZ,zZ,V1 b,c e,zZ,_,zZ,?_]
  try dsimp only
  rw[show decide (V.str tK=V.str (Str.ofString "at"))=false by decide+kernel];refine cR #[_,zZ,l,_,_,_,zZ,zZ,V1 b,c e,zZ,_,zZ,?_]
  try dsimp only
  rw[show decide (V.str tK=V.str sM)=false by decide+kernel];refine cR #[_,zZ,l,_,_,_,zZ,zZ,V1 b,c e,zZ,_,zZ,?_]
  try dsimp only
  rw[show decide (V.str tK=V.str tM)=false by decide+kernel];exact cR #[_,zZ,p,dx,_,zZ,gl _ _ O,(by kernel_rfl),p,o,C,n,g,D,zZ,HI.same gl,el,M,hT.same gl,λr d k' T' AM=>q r d (gl.keeps.trans k') T' AM]
 .refine#[_,zZ,l,_,_,_,zZ,zZ,V1 b,c e,zZ,_,zZ,?_]
  try dsimp only
  rw[cK zZ];refine dP #[_,zZ,p,dx,_,zZ,gl _ _ O,(by kernel_rfl),_,zZ,_,zZ,l,_,zZ,V1 b,λsl ak=>?_];rw[e,hI,E4];have ks:=bP ak (.lst ((word.map λi=>o.getD i #[#v[]]).map V.str));exact#[p,sl,o,C,n,ab,g,D,word,zZ,HI.same (gl.trans ks),nd,el,R,ri,bE,w1,wl,λd d' al=>q _ d ((xh (gl.trans ks)).trans d') al]
noncomputable def pc(a:Ad):List (Str×V):=[(sS,.ref a)]
noncomputable def pO(a b:Ad):List (Str×V):=[(sS,.ref a),(sA,.ref b)]
noncomputable def pA(a b c:Ad):List (Str×V):=[(sS,.ref a),(sA,.ref b),(sM,.ref c)]
theorem FP:cP sS (.ref a) []=pc a:=by kernel_rfl
theorem FN:cP sA (.ref b) (pc a)=pO a b:=by kernel_rfl
theorem Ha:cP sM (.ref c) (pO a b)=pA a b c:=by kernel_rfl
theorem Ie:cP sQ (.ref d) (pA a b c)=ky a b c d:=by kernel_rfl
theorem Rt:(pO a b).lookup (sA:Str)=some (.ref b):=by kernel_rfl
theorem Sz:(pA a b c).lookup (sM:Str)=some (.ref c):=by kernel_rfl
inductive e9(d i CR:Ad)(j:List V)(H:Hp)(Q:VK)(e:XK):Prop|mk:∀b p k f a n,j=[.ref p,.str (uz f a)]->Same b H->b p=none->H p=some (.ins d k [])->Fit f a n->Tabs b->(∀g h c,Keeps b c->Tabs c->RowOf a n g h->HallIn d i CR c p f a n h (uy a n h 0)->Q .non c)->e9 d i CR j H Q e
theorem Tj{a L CR:Ad}(F:Fun K tS "Hall.__init__" EZ f fd)(V':OwnC K a [sS,sA,sM,sQ])(V0:OwnC K CR [sB,sZ])(xH:cn P w K mg base "read" 9 [sV] lR)(vO:xr P w K mg base "Row" CR 20 [sC,sA] (eK L CR))(rK:fh P w K mg base CR "row_of" 5 [sC,tQ] (jd L CR)):FnOk P w K mg base bZ 22 f fd [sC,sV] (e9 a L CR):=by
 refine F.ok vE<|λaf A M s H vs Q E u h=>?_
 obtain⟨H0,p,c,xs,z,n,rfl,g0,B,hp,N,hT,q⟩:=h;have hu:=u.units;have ag:=gJ u;refine#[_,(bK (cj (i:=2) vE.nd zZ Z'<|ck xH u.m zZ<|bG (pv 1) bF)<|bK (mY (pv 0) (b7 cO (pv 2) bL<|λ_ _=>rfl) zZ)<|bK (mY (pv 0) (b7 cO (pv 2) bL<|λ_ _=>rfl) zZ)<|bK (mY (pv 0) (zO vO u.m zZ<|bG (dJ (pv 0) zZ) bF) zZ)<|bM<|mY (pv 0) (gF (dJ (pv 0) zZ) V0.cl rK u.m<|bG bL bF) zZ),?_];refine#[_,zZ,xs,z,n,zZ,N,λC j O RD=>?_];obtain⟨d,e,T,e2,M1⟩:=RD.here;have D:=O _ _ hp;refine#[_,zZ,C,_,_,_,zZ,zZ,V2 T,zZ,_,zZ,p,a,c,_,zZ,D,V'.cl,V'.no,by show 0<1000;decide,?_];rw[FP];have eb:bx j p (.ins a c<|pc d) C=some (.tup [.ref d,.ref e]):=by rw[bI<|nE T D];exact T
 have p2:bx j p (.ins a c<|pc d) p=some (.ins a c<|pc d):=bE;refine#[_,zZ,C,_,_,_,zZ,zZ,V2 eb,zZ,_,zZ,p,a,c,_,zZ,p2,V'.cl,V'.no,by show 1<1000;decide,?_];rw[FN];have g3:Same H0 (bx (bx j p<|.ins a c<|pc d) p<|.ins a c<|pO d e):=gh (gh (g0.trans O) B) B;have lo:=Stays.offD D;have d3:drop (bx (bx j p<|.ins a c<|pc d) p<|.ins a c<|pO d e) p=drop j p:=by rw[vr,vr]
 have T3:Tabs (bx (bx j p<|.ins a c<|pc d) p<|.ins a c<|pO d e):=(((hT.same g0).same O).offI D).offI p2;have U:bx (bx j p<|.ins a c<|pc d) p (.ins a c<|pO d e) p=some (.ins a c<|pO d e):=bE;generalize bx (bx j p<|.ins a c<|pc d) p (.ins a c<|pO d e)=v at g3 d3 T3 U|-;have k3:Same (drop j p) v:=by rw[<-d3];exact cT
 have Y:Mach v e z n:=(M1.lts lo).same k3;refine#[_,zZ,p,a,c,_,_,zZ,U,V'.cl,V'.no,Rt,λg k nx aa ah=>?_];have gx:Same v (bx (bx v k<|.own g) g<|.ins CR k []):=λb o hb=>by
  rw[bI<|cQ hb nx,bI<|cQ hb aa];exact hb
 refine#[v,g,k,e,z,n,zZ,gx,nx,bE,Y,T3,λx Ls l G T5 R RA=>#[zZ,?_]];have I:=G _ _<|nz U;refine#[_,zZ,p,a,c,_,zZ,I,V'.cl,V'.no,by show 2<1000;decide,?_];rw[Ha];have y:=Stays.offD I;have m:=RA.offH I;have Md:=(Y.keeps G).lts y;have ab:=y.a<|G _ _<|nz<|k3 _ _<|lo.a e2;have d6:drop (bx l p<|.ins a c<|pA d e g) p=drop l p:=vr;have p6:bx l p (.ins a c<|pA d e g) p=some (.ins a c<|pA d e g):=bE;have K6:Keeps H0 (bx l p<|.ins a c<|pA d e g):=vv (g3.keeps.trans G) B;have T6:=T5.offI (o:= .ins a c<|pA d e g) I;generalize bx l p (.ins a c<|pA d e g)=H6 at d6 p6 K6 T6|-;have k6:Same (drop l p) H6:=by rw[<-d6];exact cT
 obtain⟨ae,r,st,qs,r1,r2⟩:=id m;have n1:=Y.n1;refine#[_,zZ,p,a,c,_,_,zZ,p6,V'.cl,V'.no,Sz,g,ae,_,zZ,k6 _ _ r1,(by kernel_rfl),g,e,z,n,x,Ls,0,zZ,m.keeps k6.keeps,Md.same k6,R,(),λt H7 J et=>?_];have p7:=J _ _ p6;refine#[_,zZ,p,a,c,_,zZ,p7,V'.cl,V'.no,by show 3<1000;decide,?_];rw[Ie];have tp:t≠p:=nE et p7;have d8:Same (drop l p) (drop (bx H7 p<|.ins a c<|ky d e g t) p):=by rw[vr,<-d6];exact xh J
 exact q x Ls _ (vv (K6.trans J.keeps) B) ((T6.same J).offI p7) R #[c,d,e,g,t,bE,d8 _ _ ab,Md.same d8,m.keeps d8.keeps,by rw[vr,dm tp];exact et]
inductive fW(d:List V)(H:Hp)(Q:VK)(b:XK):Prop|mk:∀e m a g c n,d=[.ref e,.ref m]->H e=some (.lst ((a++g).map V.str))->Mach H m c n->a.length=c.length->(∀x∈a,NameOk x)->(∀f,Same H f->Q (.str (uz a c)) f)->fW d H Q b
inductive gY(d:List V)(H:Hp)(Q:VK)(a:XK):Prop|mk:∀m e n,d=[.ref m]->Mach H m e n->Tabs H->(∀b f c,Keeps H c->Tabs c->RowOf e n b f->Q (.str (CZ f)) c)->gY d H Q a
inductive gS(e:List V)(H:Hp)(Q:VK)(b:XK):Prop|mk:∀f m a g c n,e=[.ref f,.ref m]->H f=some (.lst ((a++g).map V.str))->Mach H m c n->a.length=c.length->(∀x∈a,NameOk x)->Tabs H->(∀r d,Keeps H d->Tabs d->AbM c n r->Q (.str (Dg a r)) d)->gS e H Q b
theorem PZ(y)(c):Txt.slice (y++(#[#v[c]]:Str)) none (some (-1))=y:=by
 have a:(y++(#[#v[c]]:Str)).length=y.length+1:=hZ y #[#v[c]];have e:Txt.slice (y++(#[#v[c]]:Str)) none (some<|-1)=_:=StrLaws.sliceText_to_neg (by decide) (by rw[a];lia);rw[e,a,fP];refine mW ?_;rw[Ai,show(-1+((y.length+1:Nat):Int)-0).toNat=y.cps.toList.length by rw[iL];lia];exact List.take_left' rfl
noncomputable def v7(ws:Ss):Str:=ws.foldl (λa x=>a++x++(#[#v[32]]:Str)) #[#v[]]
theorem MQ:∀(ws:Ss) a,(ws.foldl (λa x=>a++x++(#[#v[32]]:Str)) a).cps.toList=a.cps.toList++ws.flatMap λx=>x.cps.toList++[32]
 | [],a=>by rw[List.flatMap_nil,iw];rfl
 |x::ws,a=>by
  rw[Ck,MQ ws,fP,fP,FD];simp
theorem Jb:∀{ws:LN},ws≠[]->jl [32] ws++[32]=ws.flatMap λx=>x++[32]
 | [],h=>wC zZ h
 | [x],_=>by simp[jl]
 |x::y::r,_=>by
  rw[FD,<-(Jb (ws:=y::r)<|λe=>nomatch e)];simp[jl]
theorem Op{ws:Ss}(a:ws≠[]):v7 ws=Txt.join #[#v[32]] ws++(#[#v[32]]:Str):=by
 refine mW ?_;unfold v7;rw[MQ,fP,rN];rw[(Jb (ws:=ws.map λx=>x.cps.toList) λe=>a<|x4.mp e),List.flatMap_map];rfl
theorem Ph(a:Ss)(x:Str):Txt.join #[#v[]] (a++[x])=Txt.join #[#v[]] a++x:=by
 refine mW ?_;rw[fP,rN,rN];rw[CU,CU];simp
theorem K9(x y z:Str):x++y++z=x++(y++z):=mW<|by rw[fP,fP,fP,fP,dR]
theorem RY(F:Fun K xP xP Du f fd)(jD:mg "range"=none)(jA:mg "len"=none)(kH:mg "str"=none):FnOk P w K mg base bZ 1 f fd [sL,sF] fW:=by
 refine F.ok qZ<|λaa A D s H vs Q E hr h=>?_
 obtain⟨na,m,c,zs,a,n,rfl,en,M,el,ok,q⟩:=h;refine#[_,(zx<|nN (oP<|cj (i:=2) qZ.nd zZ Z'<|gw bF)<|nN (oP<|fA fi zZ (j8 zZ jD<|bG (cX eR zZ jA dW<|bG (pv 1) bF) bF) (dG (i:=3) qZ.nd zZ Z')<|QSs.pss<|xq<|P5<|vz iM lW lF lJ (ku<|pv 2)<|u8 (BM mG (ku<|cw mG (b7 dD (pv 0) (pv 3)<|λ_ _=>rfl) dM)<|vz pS yP yq xx (ku dM)<|u8 (ku<|gN (CompSc.to (N:=[sL,sF,"_law_lines",tH]) (osc:=bQ Du) (vs:=["_law_room"]) {}) zZ zZ (pY<|b7 cO (pv 1) (pv 3)<|λ_ _=>rfl) (λ_ _ _ _=>fK)<|λ_ _ _ _=>(cw mG dM<|gE DG zZ kH tv<|bG (pv 0) bF)) bW zZ) bW zZ)<|xq<|C2<|vz pS yP yq xx (ku dM)<|u8 (ku<|pv 2) bW zZ),?_];have G:Str.ofString "\n"=(#[#v[10]]:Str):=by decide+kernel
 have sp:Str.ofString " "=(#[#v[32]]:Str):=by decide+kernel
 have co:Str.ofString ":"=(#[#v[58]]:Str):=by decide+kernel
 have lg:∀d:Fin 10,((d.1:Nat):Int).natAbs.log2<1920:=by decide+kernel
 obtain⟨r,h1,h2,h3⟩:=M.refs;have few:=M.few;have n5:=M.n5;have t5:∀t∈a,t.length<=5:=λt ht=>by rw[(M.each t ht).1];exact n5
 refine#[by show 0<=sizeLine;decide,λe u=>?_];have I:=bP u<|.lst [];have x:bx H e (.lst []) e=some (.lst []):=bE;generalize bx H e (.lst [])=H1 at I x|-
 let Pv:Nat->L2.St->Hp->Prop:=λi J H'=>Same H H'/\H' e=some (.lst<|((iT c a).take i).map V.str)/\∃o,J=[some<|.ref na,some<|.ref m,some<|.ref e,o]
 refine#[_,zZ,m,_,zZ,.inr<|V2<|I _ _ h1,((a.length:Nat):Int),(by rw[bA,h2]),(),(),nS Pv #[I,x,none,zZ] (λi J H2 hi p=>?_)<|λJ H2 p=>?_]
 .obtain⟨g,b,o,rfl⟩:=p;have L:i<a.length:=by simpa using hi
  have C:i<c.length:=by lia
  have ir:i<r.length:=by lia
  have z:=h3 i r[i] a[i] (bC ir)<|bC L;obtain⟨e1,e2⟩:=M.each a[i]<|ga L;have j:∀d∈a[i],d<10:=λd B=>by have:=e2 d B;lia
  have e0:(0+(i:Int))=((i:Nat):Int):=by lia
  have lx:(c[i]).length<=8:=by rw[iL];exact (ok c[i]<|ga C).few
  have lf:(ig a[i]).length=2 * (a[i]).length:=by rw[iL,qc,Aa]
  have T:fL ((c++zs).map V.str) (0+(i:Int))=some (.str c[i]):=by rw[e0];exact fE (by rw[bT,dO C,bC C];rfl)
  have U:fL (r.map V.ref) (0+(i:Int))=some (.ref r[i]):=by rw[e0];exact fE (by rw[bT,bC ir];rfl)
  have Y:(Str.ofString ":").length=1:=by decide+kernel
  refine#[_,zZ,.inl #[zZ,_,V1 b],_,zZ,_,zZ,na,_,_,_,zZ,zZ,V1<|g _ _ en,T,_,_,zZ,zZ,small (by rw[Y];lia),zZ,_,zZ,_,zZ,m,_,_,_,zZ,zZ,V2<|g _ _ h1,U,r[i],zZ,#[_,V2<|g _ _ z],t9 (f:=Km) (small (by rw[bA];lia)) (V2<|g _ _ z) (λv Q hv q=>?_)<|λp hp=>?_]
  .obtain⟨d,B,rfl⟩:=bY.mp hv;have ed:Str.ofString " "++Str.ofString (toString (d:Int))=(#[#v[32,48+d]]:Str):=by rw[Lz<|j d B,sp];rfl
   refine#[_,zZ,(d:Int),zZ,lg #[d,j d B],_,_,zZ,zZ,?_,?_]
   .rw[show((toString (d:Int):String):Str)=Str.ofString (toString (d:Int))from rfl,Lz<|j d B];exact small (by show(Str.ofString " ").length+1<=1000;decide+kernel)
   .rw[show((toString (d:Int):String):Str)=Str.ofString (toString (d:Int))from rfl,ed];exact q
  .have em:((a[i]).map nv).map Km=((a[i]).map λd=>(#[#v[32,48+d]]:Str)).map V.str:=by
    rw[eM,eM];refine mI λd _=>?_;show V.str #[#v[32,48+(d:Int).toNat]]=_;rw[hY];rfl
   rw[em];have kp:=bP hp<|.lst<|((a[i]).map λd=>(#[#v[32,48+d]]:Str)).map V.str;refine#[_,p,_,zZ,zZ,V1 bE,by decide+kernel,?_,?_]
   .have:=oC (l:=(a[i]).map λd=>(#[#v[32,48+d]]:Str)) (k:=2) λy hy=>by
     obtain⟨d,_,rfl⟩:=bY.mp hy;exact bR 2
    rw[bA]at this|-;lia
   rw[Ui,co];have l1:(c[i]++(#[#v[58]]:Str)).length<=9:=by rw[iL,fP,cC,<-iL];show _+1<=9;lia
   refine#[_,_,zZ,zZ,small (),e,_,_,zZ,zZ,kp _ _ b,?_,gh (g.trans kp) u,?_,_,zZ]
   .rw[bA,fe,cq];lia
   .rw[bE,NN (bC C)<|bC L,c7];rfl
 .obtain⟨g,b,o,rfl⟩:=p;have e1:((a.length:Nat):Int).toNat=a.length:=hY _;rw[e1,<-C9 el,fF]at b;refine#[zZ,_,zZ,_,e,_,zZ,zZ,V1 b,by decide+kernel,?_,?_]
  .have:=oC<|LB ok t5;have:=C9 el;lia
  rw[G];exact q _ g
theorem Oc{CL CR:Ad}(F:Fun K wN wN Bp f fd)(V0:OwnC K CR [sB,sZ])(vO:xr P w K mg base "Row" CR 20 [sC,sA] (eK CL CR))(kU:fh P w K mg base CR tM 3 [sC] (gy CL CR))(kH:mg "str"=none):FnOk P w K mg base bZ 22 f fd [sF] gY:=by
 refine F.ok rP<|λab A C s H vs Q E z h=>?_
 obtain⟨m,ts,n,rfl,M,hT,q⟩:=h;have hu:=z.units;have ae:=gJ z;refine#[_,(zx<|nN (oP<|Lb (CompSc.to (N:=[sF,"_law_words"]) (osc:=bQ Bp) (vs:=["_law_word","_law_level",tZ]) {}) zZ rP.nd (j:=1) zZ zZ (fq<|xm (zO vO z.m zZ<|bG (pv 0) bF) V0.cl kU z.m) (Kl (CompSc.to (N:=[sF,"_law_words"]) (osc:=bQ Bp) (vs:=["_law_word","_law_level",tZ]) {}) zZ zZ zZ zZ) (λ_ _ _ _=>fK)<|λ_ _ _ _=>(cw mG (cw mG (pv 0) dM)<|gE DG zZ kH tv<|bG (pv 2) bF))<|nN (oP<|di (eG (Rj hu) (pv 1) (gw bF)<|dC _) (bM<|cg dM) dh)<|xq<|C2<|vz pS yP yq xx (ku dM)<|u8 (ku<|pv 1) bW zZ),?_];refine#[_,zZ,λx D nx G af=>?_];have gx:Same H (bx (bx H D<|.own x) x<|.ins CR D []):=λb o I=>by
  rw[bI<|cQ I nx,bI<|cQ I G];exact I
 refine#[H,x,D,m,ts,n,zZ,gx,nx,bE,M,hT,λJ a H1 k1 T1 R RA=>#[zZ,?_]];have L:=R.few;have lz:(gu a).length<=2 * a.length:=DW a a.length;have c:=λq O=>Nm M R (q:=q) O;obtain⟨T,r',st,qs,r1,r2⟩:=id RA;refine#[x,T,_,zZ,r1,(by kernel_rfl),x,m,ts,n,a,zZ,RA,L,λpl as H3 g3 ag r PA=>?_];have la:=PA.len;refine#[pl,zZ,#[_,V1 r],je (xs:=as.map V.ref) (λi B d=>d=H3/\B=(((gu a).take i).map lX).map V.str) (small (by rw[bA];lia)) #[zZ,zZ] (λi B d hi p=>?_) (λi v B d hv p=>?_) (λB H4 p jl U=>?_)]
 .obtain⟨rfl,rfl⟩:=p;exact#[V1 r,by rw[bA,bA,fe];exact zo ..]
 .obtain⟨rfl,rfl⟩:=p;rw[bT]at hv;obtain⟨pa,t,rfl⟩:=c9.mp hv;have ip:=(bN.mp t).1;have Y:=bC (show i<(gu a).length by lia);have z1:=PA.is i pa _ t Y;obtain⟨ah,a5,a4⟩:=c _ (bX Y);have d4:=Cj a4;have s1:(Str.ofString "/").length=1:=by decide+kernel
  refine#[pa,_,zZ,V2 z1,zZ,_,_,zZ,_,_,zZ,_,_,zZ,zZ,Kz,jc #[_,zZ,_,_,zZ,zZ,small (),_,zZ,_,zZ,Ay a4,_,_,zZ,zZ,?_,zZ,?_]]
  .show(tr _++Str.ofString "/").length+(tc _).length<=_;exact small (by rw[hZ];lia)
  .rw[gj,Y,c7,c7];rfl
 obtain⟨rfl,rfl⟩:=p;rw[bA,la,fF];have kj:=bP U (.lst (((gu a).map lX).map V.str));have g4:=g3.trans kj;have fin:=λd (g:Same (bx H4 jl (.lst (((gu a).map lX).map V.str))) d)=>q J a d (k1.trans (g4.trans g).keeps) (T1.same (g4.trans g)) R;have u:bx H4 jl (.lst (((gu a).map lX).map V.str)) jl=some (.lst (((gu a).map lX).map V.str)):=bE;refine#[_,zZ,by show 0<=sizeLine;decide,λnl aa=>?_];have kn:=bP aa (.lst []);refine#[jl,nl,_,zZ,zZ,V1 (kn _ _ u),V1 bE,_,zZ,?_];have fin:=fin _ kn;unfold CZ D4 at fin;by_cases e:(gu a).map lX=[]
 .rw[wB e]at fin;rw[show(((gu a).map lX).map V.str).isEmpty=true by rw[e];rfl];exact dP fin
 .rw[wA e]at fin;rw[show(((gu a).map lX).map V.str).isEmpty=false by cases h:(gu a).map lX with|nil=>exact wC h e|cons _ _=>rfl];refine cR #[zZ,_,zZ,Str.ofString " ",jl,_,zZ,zZ,V1 (kn _ _ u),by decide+kernel,?_,?_]
  .have:=oC (l:=(gu a).map lX) (k:=20) λy hy=>by
    obtain⟨q,O,rfl⟩:=bY.mp hy;exact cz (c q O).1 (by decide)
   rw[bA]at this|-;lia
  .rw[x9];exact fin
theorem QI(F:Fun K wO wO Fg f fd)(rX:cn P w K mg base tK 20 [sA] gB)(kH:mg "str"=none):FnOk P w K mg base bZ 22 f fd [sL,sF] gS:=by
 refine F.ok jL<|λaa A C s H vs Q E D h=>?_
 obtain⟨G,m,z,zs,I,n,rfl,en,M,el,J,hT,q⟩:=h;have hu:=D.units;have ab:=gJ D;refine#[_,(bK (cj (i:=2) jL.nd zZ Z'<|ck rX D.m zZ<|bG (pv 1) bF)<|bK (di (eG Hx (pv 2) n'<|dC _) (bM<|cg dM) dh)<|bK (cj (i:=3) jL.nd zZ Z' dM)<|bK (fA fi zZ (fq<|b7 cO (pv 2) bL<|λ_ _=>rfl) (dG (i:=4) jL.nd zZ Z')<|bM<|cj (i:=3) jL.nd zZ Z'<|cw mG (cw mG (pv 3)<|b7 dD (pv 0) (pv 4)<|λ_ _=>rfl) dM)<|bK (cj (i:=3) jL.nd zZ Z'<|cw mG (GU Sw (pv 3) Mr<|Cz<|zq zB bL) dM)<|bK (fA fi zZ (pY<|b7 cO (pv 2) bL<|λ_ _=>rfl) (dG (i:=5) jL.nd zZ Z')<|bM<|cj (i:=3) jL.nd zZ Z'<|cw mG (cw mG (pv 3) dM)<|gE DG zZ kH tv<|bG (pv 5) bF)<|bM<|cg<|pv 3),?_];refine#[_,zZ,m,I,n,zZ,M,hT,λv r H1 L T1 N AA=>?_];cases r with
 |none=>
  cases(show v=.non from AA);exact#[_,zZ,zZ,_,zZ,dP<|q none H1 L T1 N]
 | some r=>
  obtain⟨t,l,b,rfl,e1,e2,e3,_,l9,l5⟩:=AA;obtain⟨f1,f2,f3⟩:=JI M N;have n5:=M.n5;have O:=L _ _ (nz en)
  let a:Nat->Str:=λi=>z.getD i #[#v[]]
  have xi:∀i,i<I.length->z[i]?=some (a i):=λi hi=>by
   have ix:i<z.length:=by lia
   show _=some (z.getD i #[#v[]]);rw[cW,bC ix];rfl
  have x8:∀i,i<I.length->(a i).length<=8:=λi hi=>(AN (J _ (bX (xi i hi)))).2;have T:(Str.ofString " ").length=1:=by decide+kernel
  have U:(Str.ofString ":").length=1:=by decide+kernel
  let P1:Nat->L2.St->Hp->Prop:=λi c u=>u=H1/\(v7 ((r.1.take i).map a)).length<=9 * i/\∃d g,c=[some (.ref G),some (.ref m),some (.ref t),some (.str (v7 ((r.1.take i).map a))),d,g]
  refine#[_,zZ,zZ,_,zZ,cR ?_];refine#[_,zZ,t,_,_,_,zZ,zZ,V2 e1,zZ,l,zZ,#[_,V1 e2],oX (xs:=r.1.map nv) P1 #[zZ,iK _,none,none,zZ] (λi c u _ p=>by rw[p.1];exact V1 e2) (λi v c u x p=>?_) (λc u p=>?_)]
  .obtain⟨rfl,o,d,g,rfl⟩:=p;rw[bT]at x;obtain⟨k,j,rfl⟩:=c9.mp x;have il:=(bN.mp j).1;have kl:=f1 k (bX j);have y8:=x8 k kl;have y:v7 ((r.1.take (i+1)).map a)=v7 ((r.1.take i).map a)++a k++(#[#v[32]]:Str):=by
    rw[gj,j,c7];unfold v7;rw[oJ];rfl
   refine#[_,zZ,_,zZ,_,zZ,G,_,_,_,zZ,zZ,V1 O,fE (v:= .str (a k)) (by rw[bT,dO (),xi k kl];rfl),_,_,zZ,zZ,by rw[cq];lia,_,_,zZ,zZ,by rw[hZ,T,cq];lia,zZ,?_,some (nv k),g,?_]
   .rw[y,hZ,hZ];show _+_+1<=_;lia
   .rw[y,<-x9];rfl
  obtain⟨rfl,o,d,g,rfl⟩:=p;rw[bA,fF]at o|-;have ew:=Op (ws:=r.1.map a) λe=>f2 (x4.mp e);refine#[_,zZ,_,zZ, -1,zZ,_,zZ,by rw[cq];lia,?_];rw[ew,hZ]at o;rw[ew,PZ];have o:(Txt.join #[#v[32]] (r.1.map a)).length+1<=9 * r.1.length:=o;generalize Y:Txt.join #[#v[32]] (r.1.map a)=wt at o;refine#[_,_,zZ,zZ,by rw[U,cq];lia,?_]
  let P2:Nat->L2.St->Hp->Prop:=λi c B=>B=u/\(Txt.join #[#v[]] ((r.2.take i).map iS)).length<=6 * i/\∃d g,c=[some (.ref G),some (.ref m),some (.ref t),some (.str (wt++Str.ofString ":"++Txt.join #[#v[]] ((r.2.take i).map iS))),d,g]
  have e0:wt++Str.ofString ":"++Txt.join #[#v[]] []=wt++Str.ofString ":":=mW (by rw[fP,rN];exact iw _);refine#[_,zZ,t,_,_,_,zZ,zZ,V2 e1,zZ,b,zZ,#[_,V2 e3],IX (xs:=r.2.map nv) P2 #[zZ,by rw[Eo,yL];exact rg (by decide+kernel),d,g,by rw[Eo,yL,e0];rfl] (λi c B _ p=>by rw[p.1];exact V2 e3) (λi v c B x p=>?_) (λc B p=>?_)]
  .obtain⟨rfl,lc,d,g,rfl⟩:=p;rw[bT]at x;obtain⟨k,j,rfl⟩:=c9.mp x;have il:=(bN.mp j).1;have kn:=f3 k (bX j);have d4:=Cj (show k<10000 by lia);have lr:(iS k).length<=5:=by
    unfold iS;rw[hZ];lia
   have y:Txt.join #[#v[]] ((r.2.take (i+1)).map iS)=Txt.join #[#v[]] ((r.2.take i).map iS)++iS k:=by
    rw[gj,j,c7];exact Ph _ _
   refine#[_,zZ,_,_,zZ,zZ,by rw[hZ,hZ,U,T,cq];lia,_,zZ,_,zZ,Ay (),_,_,zZ,zZ,?_,zZ,?_,d,some (nv k),?_]
   .show _+(tc k).length<=_;rw[hZ,hZ,hZ,U,T,cq];lia
   .rw[y,hZ];lia
   .rw[y,<-K9,show iS k=Str.ofString " "++tc k from rfl,<-K9];rfl
  obtain⟨rfl,lc,d,g,rfl⟩:=p;rw[bA,fF];refine#[_,zZ,?_];rw[<-Y];exact q (some r) _ L T1 N
theorem PD{H c:Hp}(k:Keeps H c):Keeps (drop H a) (drop c a):=λb o d=>by
 obtain⟨z,n⟩:=xp d;by_cases e:b=a
 .subst e;rw[oG]at z;cases z
 .rw[dm e]at z|-;exact k _ _<|ss z n
theorem SqL.offD(h:SqL K H a xs)(b:H p=some (.ins C d fs)):SqL K (drop H p) a xs:=by
 have lo:=Stays.offD b
 rcases h with(h|⟨o,h⟩)|h
 .exact .inl<|.inl<|lo.a h
 .exact .inl<|.inr #[o,lo.a h]
 .exact .inr h
section
variable{e m CR:Ad}{f:LN}
theorem HallIn.keeps(h:HallIn e m CR H p j f n i b)(g:Keeps H c):HallIn e m CR c p j f n i b:=by
 obtain⟨d,l,o,q,r,s,t,u,v,w⟩:=h;have k:=PD (a:=p) g;exact#[d,l,o,q,r,g _ _<|nz s,k _ _<|nz t,u.keeps k,v.keeps k,k _ _<|nz w]
end
theorem Tabs.offH(t:Tabs H)(h:H p=some (.ins C a fs)):Tabs (drop H p):=λq b=>by
 have lo:=Stays.offD h
 rcases t q b with t|⟨c,d,e⟩
 .exact .inl<|lo.a t
 .exact .inr #[c,lo.a d,lo.a e]
theorem PB(a)(i):Str.ofString "go "++a.getD i #[#v[]]=EA a [i]:=by
 refine mW ?_;unfold EA;rw[rN,fP]
 congr 1
theorem SW(a:Zs)(lo b):∃c:Zs,t6 (a.map V.int) lo b=c.map V.int/\c.length<=a.length:=by
 refine#[(a.drop<|HT.sIx (a.map V.int).length 0 lo).take<|HT.sIx (a.map V.int).length (a.map V.int).length b-HT.sIx (a.map V.int).length 0 lo,?_,?_]
 .unfold t6;rw[List.map_take,List.map_drop]
 .rw[fe,rb];lia
inductive fR(h i CR:Ad)(j:List V)(H:Hp)(Q:VK)(d:XK):Prop|mk:∀p k m a l c n e f b,j=[.ref p,.ref k,.ref m]->HallIn h i CR H p a c n f b->H k=some (.lst ((a++l).map V.str))->Mach H m c n->a.Nodup->a.length=c.length->(∀x∈a,NameOk x)->RowOf c n e f->RowIn f b->Tabs H->(∀g,Keeps H g->Tabs g->Q (.bl true) g)->fR h i CR j H Q d
inductive jy(K:V3)(c:List V)(H:Hp)(Q:VK)(b:XK):Prop|mk:∀a (d:Zs),c=[.ref a]->SqL K H a (d.map V.int)->d.length<=63->Tabs H->(∀e,Q (.bl true) e)->jy K c H Q b
theorem NA{g y CR:Ad}(F:Fun K xQ xQ F' f fd)(V':OwnC K g [sS,sA,sM,sQ])(z:fh P w K mg base g "say" 24 [sC,sM] (mv g y CR))(N:cn P w K mg base wN 22 [sF] gY)(O:cn P w K mg base wO 22 [sL,sF] gS)(B:mg "isinstance"=none)(C:mg "str"=none):FnOk P w K mg base bZ 26 f fd [xR,sL,sF] (fR g y CR):=by
 refine F.ok rA<|λT A o s H vs Q E b h=>?_
 obtain⟨p,U,m,t,Y,j,n,c,D,d,rfl,u,en,M,nd,v,a,R,G,hT,q⟩:=h;have hu:=b.units;have aa:=gJ b;refine#[_,(bK (cj (i:=3) rA.nd zZ Z'<|gF (pv 0) V'.cl z b.m<|bG dM bF)<|bK (cj (i:=4) rA.nd zZ Z'<|gF (pv 0) V'.cl z b.m<|bG dM bF)<|bK (di (PW.pt<|zg (iC<|iI<|cX qp zZ B pH<|b8<|bB (pv 3) (bB (qq zZ C tv) bW zZ) zZ)<|yc<|iC<|iI<|cX qp zZ B pH<|b8<|bB (pv 4) (bB (qq zZ C tv) bW zZ) zZ) (bM<|cg wn) dh)<|bM<|cg<|tz (mK iH (pv 3) (ck N b.m zZ<|bG (pv 2) bF)<|dC _)<|rq<|mK iH (pv 4) (ck O b.m zZ<|b8<|bB (pv 1) (bB (pv 2) bW zZ) zZ)<|dC _),?_];obtain⟨I,_,_,_,_,J,_⟩:=id u;refine#[_,zZ,p,I,_,zZ,J,(by kernel_rfl),p,tM,t,j,n,c,D,d,zZ,u,nd,v,a,R,G,hT,.inl #[zZ,λH1 k=>#[_,zZ,p,I,_,zZ,k _ _ J,(by kernel_rfl),p,tK,t,j,n,c,D,d,zZ,u.same k,nd,v,a,R,G,hT.same k,.inr<|.inl #[zZ,λr H2 l T2 AM=>?_]]]];have l:=k.keeps.trans l;refine#[_,zZ,_,_,_,_,zZ,.str _,Db,_,zZ,cR #[_,zZ,_,_,_,_,zZ,.str _,Db,_,zZ,cR #[_,zZ,_,zZ,m,j,n,zZ,M.keeps l,T2,λL ab H3 e T3 R2=>?_]]];obtain⟨rfl,rfl⟩:=R.uniq R2;have e:=l.trans e;refine#[zZ,_,zZ,?_];rw[cK zZ];refine dP #[_,zZ,_,zZ,_,zZ,U,m,t,Y,j,n,zZ,e _ _<|nz en,M.keeps e,v,a,T3,λr2 H4 k4 T4 x=>#[zZ,?_]];cases AM.uniq x;rw[cK zZ];exact q _ (e.trans k4) T4
set_option maxHeartbeats 2000000 in
theorem S9{G CL CR:Ad}(F:Fun K "law" "law" yk f fd)(V':OwnC K G [sS,sA,sM,sQ])(qC:cn P w K mg base wX 3 [sP,yA] (fZ K))(rM:cn P w K mg base yB 1 [sX,tZ] i4)(jJ:cn P w K mg base wK 1 [sP,tH] (fH K))(qD:cn P w K mg base xP 1 [sL,sF] fW)(jZ:cn P w K mg base xQ 26 [xR,sL,sF] (fR G CL CR))(vW:xr P w K mg base "Hall" G 22 [sC,sV] (e9 G CL CR))(kP:fh P w K mg base G "say" 24 [sC,sM] (mv G CL CR))(jA:mg "len"=none):FnOk P w K mg base bZ 28 f fd [sP] (jy K):=by
 refine F.ok vD<|λaV A aF s H vs Q E j h=>?_
 obtain⟨a,ns,rfl,hS,aW,hT,q⟩:=h;have hu:=j.units;have aX:=gJ j;refine#[_,(bK (cj (i:=1) vD.nd zZ Z'<|ck qC j.m zZ<|b8<|bB (pv 0) (bB bL bW zZ) zZ)<|bK (cj (i:=2) vD.nd zZ Z'<|ck rM j.m zZ<|b8<|bB (ck jJ j.m zZ<|b8<|bB (pv 0) (bB bL bW zZ) zZ) (bB bL bW zZ) zZ)<|bK (cj (i:=3) vD.nd zZ Z'<|zO vW j.m zZ<|bG (ck qD j.m zZ<|b8<|bB (pv 2) (bB (pv 1) bW zZ) zZ) bF)<|bK (di (iC<|iI<|ck jZ j.m zZ<|b8<|bB (pv 3) (bB (pv 2) (bB (pv 1) bW zZ) zZ) zZ) (bM<|cg wn) dh)<|bK (fA fi zZ (fq<|GU Ny (pv 0) (Cz bL)<|Cz bL) (dG (i:=4) vD.nd zZ Z')<|bM<|iR<|gF (pv 3) V'.cl kP j.m<|bG (cw mG dM<|b7 dD (pv 2) (cw gM (pv 4)<|cX eR zZ jA dW<|bG (pv 1) bF)<|λ_ _=>rfl) bF)<|bK (cj (i:=5) vD.nd zZ Z'<|ck qC j.m zZ<|b8<|bB (pv 0) (bB bL bW zZ) zZ)<|bK (cj (i:=6) vD.nd zZ Z'<|zO vW j.m zZ<|bG (ck qD j.m zZ<|b8<|bB (JF (pv 2)<|zq zB bL) (bB (pv 5) bW zZ) zZ) bF)<|bK (di (iC<|iI<|ck jZ j.m zZ<|b8<|bB (pv 6) (bB (JF (pv 2)<|zq zB bL) (bB (pv 5) bW zZ) zZ) zZ) (bM<|cg wn) dh)<|bM (cg (ck jZ j.m zZ (b8 (bB (pv 3) (bB (pv 2) (bB (pv 1) bW zZ) zZ) zZ))))),?_];refine#[_,zZ,a,ns,1,zZ,by decide,hS,λm u n H1 g1 M=>?_];refine#[_,zZ,a,ns,0,zZ,by decide,g1.seq hS,λc0=>#[c0,zZ,λnl aa H2 g2 ab _ l4 ak al=>?_]];have am:=g1.trans g2;have an:∀(O:Ss) (k:Nat),O.length=4->O.Nodup->(∀x∈O,NameOk x)->k<=4->∃d zs,O=d++zs/\d.length=k/\d.Nodup/\∀x∈d,NameOk x:=λO k l4 nd ok k4=>by
  have e:O.take k++O.drop k=O:=og ..;refine#[_,_,e.symm,by rw[fe];lia,(A5.mp (e.symm▸nd)).1,λx hx=>ok x (qr hx)]
 obtain⟨d,zs,ao,el,nd,r⟩:=an aa u.length l4 ak al M.few;rw[ao]at ab;have aG:Fit d u n:=#[el,nd,r,M.some1,M.few,M.n1,M.n5,M.each];have M2:=M.same g2;refine#[_,zZ,_,zZ,nl,m,d,zs,u,n,zZ,ab,M2,el,r,λH3 g3=>λx dx nx aH aY=>?_];have gx:Same H3 (bx (bx H3 dx (.own x)) x (.ins G dx [])):=λb o hb=>by
  rw[bI (cQ hb nx),bI (cQ hb aH)];exact hb
 refine#[H3,x,dx,d,u,n,zZ,gx,nx,bE,aG,(hT.same am).same g3,λae Ls H4 k4 T4 R HI=>#[zZ,?_]];have M4:=(M2.same g3).keeps k4;have T:=k4 _ _ (nz (g3 _ _ ab));have ap:SqL K H4 a (ns.map V.int):=SqL.keeps ((am.trans g3).seq hS) k4;have n1:=M.n1;have aq:=Js M R (show 0<n by lia);refine#[_,zZ,_,zZ,_,zZ,x,nl,m,d,zs,u,n,ae,Ls,_,zZ,HI,T,M4,nd,el,r,R,aq,T4,λH5 k5 T5=>#[_,zZ,cR ?_]];refine#[_,zZ,_,zZ,_,zZ,a,_,zZ,SqL.keeps ap k5,λsl aI=>?_];obtain⟨cs,aJ,aZ⟩:=SW ns (some 10) (some 30);rw[aJ];have k6:=bP aI (.lst (cs.map V.int));have af:bx H5 sl (.lst (cs.map V.int)) sl=some (.lst (cs.map V.int)):=bE;have ag:=(HI.keeps k5).same k6;have M6:=(M4.keeps k5).same k6;have U:=k6 _ _ (k5 _ _ (nz T));have T6:=T5.same k6;have ar:=k6.seq (SqL.keeps ap k5);generalize bx H5 sl (.lst (cs.map V.int))=H6 at af ag M6 U T6 ar|-;obtain⟨a0,_,_,_,_,p6,_⟩:=id ag;have lo:=Stays.offD p6;have GM:=M6.lts lo;have Gn:=lo.a U;have GS:=SqL.offD ar p6;have GT:=T6.offH p6
 let P2:Nat->L2.St->Hp->Prop:=λi σ H'=>∃(g:bw) (o4:Option V),Same (L2.drop H6 x) (L2.drop H' x)/\HallIn G CL CR H' x d u n Ls g/\RowIn Ls g/\σ=[some (.ref a),some (.ref m),some (.ref nl),some (.ref x),o4,none,none]
 have xi:∀i,i<u.length->fL ((d++zs).map V.str) ((i:Nat):Int)=some (.str (d.getD i #[#v[]]))/\(d.getD i #[#v[]]).length<=8:=λi hi=>by
  have ix:i<d.length:=by lia
  have e:d[i]?=some (d.getD i #[#v[]]):=by rw[cW,bC ix];rfl
  exact#[fE (by rw[bT,dO ix,e];rfl),(AN (r _ (bX e))).2]
 refine#[sl,zZ,#[_,V1 af],oX (xs:=cs.map V.int) P2 #[_,none,Same.refl _,ag,aq,zZ] (λi σ H' _ p=>?_) (λi v σ H7 hv pv=>?_) (λσ H7 pv=>?_)]
 .obtain⟨g,o4,I,_⟩:=p;exact V1 (cT _ _ (I _ _ (lo.a af)))
 .obtain⟨g,o4,I,J,ri,rfl⟩:=pv;rw[bT]at hv;obtain⟨c,ec,rfl⟩:=c9.mp hv;obtain⟨aK,_,_,_,_,p7,_⟩:=id J;have Y:Same (L2.drop H6 x) H7:=I.trans cT;obtain⟨a7,a8,a1,a2,a3,a4,a5,a6⟩:=(GM.same Y).at (l:=0) M.some1;have s1:=M.some1;have aL:(Str.ofString "go ").length=3:=by decide+kernel
  refine#[_,zZ,x,aK,_,zZ,p7,(by kernel_rfl),_,zZ,_,zZ,_,zZ,m,_,zZ,.inr (V2 a1),?_]
  try dsimp only
  rw[bA,a2];obtain⟨l,ee,ll⟩:=df (c:=c) (show 0<u.length from s1);refine#[_,_,zZ,zZ,(by show(0:Int)<((u.length:Nat):Int);lia),?_]
  try dsimp only
  rw[ee];obtain⟨y1,y2⟩:=xi l ll;refine#[nl,_,_,_,zZ,zZ,V1 (Y _ _ Gn),y1,_,_,zZ,zZ,by rw[aL,cq];lia,?_];rw[PB];exact#[x,_,d,u,n,ae,Ls,g,zZ,J,nd,el,r,R,ri,GT.same Y,.inr (.inr #[[l],zZ,(λe=>nomatch e),by show 1<=100;decide,λi hi=>by rw[cf.mp hi];exact ll,λy H8 g8 aM=>#[_,_,I.trans g8,aM,Ce M R (λi hi=>by rw[cf.mp hi];exact ll) ri,zZ]])]
 obtain⟨g,o4,I,J,ri,rfl⟩:=pv;have Y:Same (L2.drop H6 x) H7:=I.trans cT;have M7:=GM.same Y;have z:=Y _ _ Gn;have T7:=GT.same Y;refine#[_,zZ,a,ns,30,zZ,by decide,Y.seq GS,λm2 B n2 H8 g8 L=>?_];have as:=L.few;have C:((d++zs).map V.str).reverse=(aa.reverse).map V.str:=by rw[<-ao,List.map_reverse]
 obtain⟨t,N,au,ah,av,D⟩:=an aa.reverse B.length (by rw[B8];exact l4) (List.pairwise_reverse.mpr (ak.imp λh=>h.symm)) (λy hy=>al y (m7.mp hy)) as;rw[au]at C;have aw:=g8 _ _ z;refine#[_,zZ,_,zZ,nl,_,zZ,zZ,V1 aw,λrl aN=>?_];rw[C];have k9:=bP aN (.lst ((t++N).map V.str));have ax:Fit t B n2:=#[ah,av,D,L.some1,L.few,L.n1,L.n5,L.each];have ay:=L.same k9;have aO:=g8.trans k9;refine#[_,zZ,rl,m2,t,N,B,n2,zZ,bE,ay,ah,D,λHA gA=>λx2 ai az aA aU=>?_];have aP:Same HA (bx (bx HA ai (.own x2)) x2 (.ins G ai [])):=λb o hb=>by
  rw[bI (cQ hb az),bI (cQ hb aA)];exact hb
 have aB:=aO.trans gA;refine#[HA,x2,ai,t,B,n2,zZ,aP,az,bE,ax,T7.same aB,λaC aQ HB kB TB R2 aR=>#[zZ,?_]];have aD:=aB.keeps.trans kB;have aS:=(ay.same gA).keeps kB;have a9:=L.n1;refine#[_,zZ,_,zZ,_,zZ,nl,_,zZ,zZ,V1 (aD _ _ (nz z)),λaT aE=>?_];rw[C];have kC:=bP aE (.lst ((t++N).map V.str));refine#[_,zZ,x2,aT,m2,t,N,B,n2,aC,aQ,_,zZ,aR.same kC,bE,aS.same kC,av,ah,D,R2,Js L R2 (show 0<n2 by lia),TB.same kC,λHD kD TD=>#[_,zZ,cR ?_]];have aj:=(aD.trans kC.keeps).trans kD;exact#[_,zZ,_,zZ,_,zZ,x,nl,m,d,zs,u,n,ae,Ls,g,zZ,J.keeps aj,aj _ _ (nz z),M7.keeps aj,nd,el,r,R,ri,TD,λHE _ _=>q HE]
theorem GJ{b:Type}{P:List b->Prop}(h:∀a,P [a]):∀c,c.length=1->P c
 | [a],_=>h a
theorem tD{c:Type}{P:List c->Prop}(h:∀a b,P [a,b]):∀d,d.length=2->P d
 | [a,b],_=>h a b
theorem yp{d:Type}{P:List d->Prop}(h:∀a b c,P [a,b,c]):∀e,e.length=3->P e
 | [a,b,c],_=>h a b c
theorem CS{e:Type}{P:List e->Prop}(h:∀a b c d,P [a,b,c,d]):∀f,f.length=4->P f
 | [a,b,c,d],_=>h a b c d
theorem EE{f:Type}{P:List f->Prop}(h:∀a b c d e,P [a,b,c,d,e]):∀g,g.length=5->P g
 | [a,b,c,d,e],_=>h a b c d e
abbrev Rw(K:V3)(x:Str)(st:Stmt)(f:Ad)(fd:Fd):Prop:=W.nsIn K mainGlobals x=some (some (.ref f))/\Fun K x x st f fd
abbrev Rx(K:V3)(x:Str)(st:Stmt):Prop:=∃f fd,Rw K x st f fd
theorem dq{st:Stmt}(P)(w)(base)(X:K.In h)(G:h.Ns mainGlobals mg)(r:Rx K x st)(o:∀{f fd},Fun K x x st f fd->FnOk P w K mg base bZ k f fd b g)(i:∀(kV c pm:Vl) (j:Option Ad) (d l:Vl) (e:Vs),e.length=b.length->bindArgs (W.fnOf x x (jv st) (gK st) (bQ st) .none kV c pm j d l) #[e,[]]=pure (b.zip e):=by first|exact λ_ _ _ _ _ _=>GJ λ_=>rfl|exact λ_ _ _ _ _ _=>tD λ_ _=>rfl|exact λ_ _ _ _ _ _=>yp λ_ _ _=>rfl|exact λ_ _ _ _ _ _=>CS λ_ _ _ _=>rfl|exact λ_ _ _ _ _ _=>EE λ_ _ _ _ _=>rfl):cn P w K mg base x k b g:=let⟨f,fd,a,F⟩:=r;#[f,fd,o F,W.mg_of X G a,F.kp,F.binds i]
abbrev gC(K:V3)(C:Ad)(m q:Str)(st:Stmt):Prop:=∃f fd,FU K C m q st f fd
theorem iV{st:Stmt}(P)(w)(mg)(base)(r:gC K C x y st)(o:∀{f fd},Fun K x y st f fd->FnOk P w K mg base bZ k f fd c h)(i:∀(kV d pm:Vl) (j:Option Ad) (e l:Vl) (g:Vs),g.length=c.length->bindArgs (W.fnOf x y (jv st) (gK st) (bQ st) .none kV d pm j e l) #[g,[]]=pure (c.zip g):=by first|exact λ_ _ _ _ _ _=>GJ λ_=>rfl|exact λ_ _ _ _ _ _=>tD λ_ _=>rfl|exact λ_ _ _ _ _ _=>yp λ_ _ _=>rfl|exact λ_ _ _ _ _ _=>CS λ_ _ _ _=>rfl|exact λ_ _ _ _ _ _=>EE λ_ _ _ _ _=>rfl):fh P w K mg base C x k c h:=let⟨f,fd,a,b,F⟩:=r;#[f,fd,o F,#[a,b,F.kp],F.binds i]
theorem GA{C:Ad}{st:Stmt}(P)(w)(base)(X:K.In h)(G:h.Ns mainGlobals mg)(n:W.nsIn K mainGlobals z=some (some (.ref C)))(m:W.makesIn K C=true)(j:W.keepIn K (.ref C)=true)(r:gC K C tS x st)(o:∀{f fd},Fun K tS x st f fd->FnOk P w K mg base bZ k f fd c i)(l:∀(kV d pm:Vl) (p:Option Ad) (e q:Vl) (g:Vs),g.length=c.length->bindArgs (W.fnOf tS x (jv st) (gK st) (bQ st) .none kV d pm p e q) #[g,[]]=pure (c.zip g):=by first|exact λ_ _ _ _ _ _=>GJ λ_=>rfl|exact λ_ _ _ _ _ _=>tD λ_ _=>rfl|exact λ_ _ _ _ _ _=>yp λ_ _ _=>rfl|exact λ_ _ _ _ _ _=>CS λ_ _ _ _=>rfl|exact λ_ _ _ _ _ _=>EE λ_ _ _ _ _=>rfl):xr P w K mg base z C k c i:=let⟨f,fd,a,b,F⟩:=r;#[f,fd,o F,#[m,a,b,j],W.mg_of X G n,F.binds l]
set_option maxHeartbeats 0 in
theorem e6z{l:W.OpenLaw}{w:World}{K:V3}{h:Heap}{mg:SV}{fa f8 y z A aH B j k m:Ad}{aI:Fd}(X:K.In h)(G:h.Ns mainGlobals mg)(aJ:mg "law"=some (.ref fa)){aK aq ar I as J au L:Option Ad} {aL av aw ax:Array (Option Vl)} {aM ay az aA C aB aC M N O Q aD T U Y aa aE ab ae af ag:Vl} {aF:Obj} {aN:Nat}(r2:Rx K "is_whole" Ft)(r3:Rx K "is_room" Gz)(r4:Rx K "is_turn" Dm)(r5:Rx K "check" Iy)(r6:Rx K "led" wp)(r7:Rx K xX Fq)(a8:W.nsIn K mainGlobals tL=some (some (.ref f8))) (l8:K.lookup f8=some #[aM,aK,.func (W.fnOf tL tL (jv qi) (gK qi) (bQ qi) (.ref B) ay az aA aq C aB),aL]) (c8:W.codeIn K C tL=true) (k8:W.keepIn K (.ref f8)=true)(lD8:K.lookup B=some aF) (qD8:aF.data=.seq ([.none]:Vs).toArray aN)(r9:Rx K "place_of" Hr)(aO:Rx K "in_order" G4)(aP:Rx K xW Dp)(aQ:Rx K tY CD)(a13:W.nsIn K mainGlobals sU=some (some (.ref y))) (l13:K.lookup y=some #[aC,ar,.func (W.fnOf sU sU (jv oF) (gK oF) (bQ oF) .none M N O I (.ref j) Q),av]) (c13:W.codeIn K (.ref j) sU=true) (k13:W.keepIn K (.ref y)=true)(hd13:W.codeHdIn K j 175=true)(aR:Rx K wY F6)(aS:Rx K wI Ch)(aT:Rx K "pictures" G6)(aU:Rx K "family" yY)(aV:Rx K yE B6)(aW:Rx K sJ A9)(aX:Rx K wU GK)(aY:Rx K yF Ct)(aZ:Rx K wR Iw)(a0:Rx K "is_led_to" C4)(a1:Rx K wM Bl)(a2:Rx K "levels" Dr)(a3:Rx K "carry" DT)(a4:Rx K "tile" GR)(a5:Rx K wL DE)(a6:Rx K tX D6)(a7:Rx K wJ FY)(a31:W.nsIn K mainGlobals sW=some (some (.ref z))) (l31:K.lookup z=some #[aD,as,.func (W.fnOf sW sW (jv oU) (gK oU) (bQ oU) .none T U Y J (.ref k) aa),aw]) (c31:W.codeIn K (.ref k) sW=true) (k31:W.keepIn K (.ref z)=true)(hd31:W.codeHdIn K k 279=true)(a9:Rx K "rests" Fl)(ba:Rx K wZ Gb)(a34:W.nsIn K mainGlobals tG=some (some (.ref A))) (l34:K.lookup A=some #[aE,au,.func (W.fnOf tG tG (jv ot) (gK ot) (bQ ot) .none ab ae af L (.ref m) ag),ax]) (c34:W.codeIn K (.ref m) tG=true) (k34:W.keepIn K (.ref A)=true)(hd34:W.codeHdIn K m 300=true)(bb:Rx K tK El)(bc:Rx K xY CQ)(bd:Rx K "is_name" GY)(be:Rx K yC Ga)(bf:Rx K "read_row" DQ)(bg:Rx K "read" qv)(bh:Rx K "is_told" Gh)(bi:Rx K "words_of" GV)(bj:Rx K "joined" FE)(bk:Rx K wK Gq)(bl:Rx K yB Dh)(bm:Rx K "_law_turn" zt)(bn:Rx K wX G9)(bo:Rx K xP Du)(bp:Rx K wN Bp)(bq:Rx K wO Fg)(br:Rx K xQ F')(aG:Rw K "law" yk aH aI){c:Tok} (n_MOST_LETTERS:W.nsIn K mainGlobals "MOST_LETTERS"=some (some (.int 4 c))){d:Tok} (n_MOST_ROOMS:W.nsIn K mainGlobals "MOST_ROOMS"=some (some (.int 5 d))){f:Tok} (n_MOST_SIGNS:W.nsIn K mainGlobals "MOST_SIGNS"=some (some (.int 8 f))){a:Tok} (n_SMALL_LETTERS:W.nsIn K mainGlobals "SMALL_LETTERS"=some (some (.str tJ a))){n:Tok} (n_FIGURES:W.nsIn K mainGlobals "FIGURES"=some (some (.str yD n))){q:Ad} (n_LevelParts:W.nsIn K mainGlobals "LevelParts"=some (some (.ref q))) (P3:OwnC K q [sA,sI,sJ,sR,sO]) (mk_LevelParts:W.makesIn K q=true) (kp_LevelParts:W.keepIn K (.ref q)=true){o:Ad} (n_Row:W.nsIn K mainGlobals "Row"=some (some (.ref o))) (V0:OwnC K o [sB,sZ]) (mk_Row:W.makesIn K o=true) (kp_Row:W.keepIn K (.ref o)=true){D:Ad} (n_Hall:W.nsIn K mainGlobals "Hall"=some (some (.ref D))) (V':OwnC K D [sS,sA,sM,sQ]) (mk_Hall:W.makesIn K D=true) (kp_Hall:W.keepIn K (.ref D)=true)(rO:gC K q tS "LevelParts.__init__" Ej)(qX:gC K q wV "LevelParts.is_turning" Hu)(rY:gC K q wQ "LevelParts.within" HZ)(qY:gC K q yG "LevelParts.least_tile" DF)(rV:gC K q "deed_of" "LevelParts.deed_of" HU)(rZ:gC K q "turned" "LevelParts.turned" F9)(rW:gC K q "brought" "LevelParts.brought" IC)(qR:gC K q "pair_behind" "LevelParts.pair_behind" FW)(vG:gC K o tS "Row.__init__" Dq)(vX:gC K o "paired" "Row.paired" Ih)(xI:gC K o "told" "Row.told" Ff)(vH:gC K o "unpaired" "Row.unpaired" IF)(vY:gC K o "row_of" "Row.row_of" E8)(vZ:gC K o "walked" "Row.walked" IH)(xD:gC K o "moved" "Row.moved" GZ)(xJ:gC K o "gone" "Row.gone" EX)(uY:gC K D "letter_of" "Hall.letter_of" Fx)(xM:gC K D "go" "Hall.go" Ek)(xE:gC K o tM "Row.parts" Gf)(uI:gC K D "shown_about" "Hall.shown_about" zV)(xK:gC K D "say" "Hall.say" BK)(uZ:gC K D tS "Hall.__init__" EZ)(ah:W.nsIn K mainGlobals "len"=some none) (p:W.nsIn K mainGlobals "sorted"=some none) (t:W.nsIn K mainGlobals "tuple"=some none) (ai:W.nsIn K mainGlobals "set"=some none) (u:W.nsIn K mainGlobals "range"=some none) (E:W.nsIn K mainGlobals "list"=some none) (aj:W.nsIn K mainGlobals "all"=some none) (ak:W.nsIn K mainGlobals "any"=some none) (i:W.nsIn K mainGlobals "enumerate"=some none) (al:W.nsIn K mainGlobals "zip"=some none) (g:W.nsIn K mainGlobals "isinstance"=some none) (am:W.nsIn K mainGlobals "int"=some none) (H:W.nsIn K mainGlobals "bool"=some none) (ao:W.nsIn K mainGlobals "str"=some none):
  ∃fd:Fd,(∀(s:Sh) (v:Vl),BindsTo s fd #[[v],[]] [(sP,v)])/\∀base:Heap,K.In base->base.Ns mainGlobals mg->pi mg base->FnOk l.prog w K mg base bZ 28 fa fd [sP] (jy K):=by
 have e:=aJ.symm.trans (oM X G aG.1);cases e;have F8:DefAt K tL qi f8 (W.fnOf tL tL (jv qi) (gK qi) (bQ qi) (.ref B) ay az aA aq C aB) (.ref B) C:=#[c8,#[_,_,_,_,_,zZ],_,_,_,l8];have bs:DefAt K sU oF y (W.fnOf sU sU (jv oF) (gK oF) (bQ oF) .none M N O I (.ref j) Q) .none (.ref j):=#[c13,#[_,_,_,_,_,zZ],_,_,_,l13];have bt:DefAt K sW oU z (W.fnOf sW sW (jv oU) (gK oU) (bQ oU) .none T U Y J (.ref k) aa) .none (.ref k):=#[c31,#[_,_,_,_,_,zZ],_,_,_,l31];have bu:DefAt K tG ot A (W.fnOf tG tG (jv ot) (gK ot) (bQ ot) .none ab ae af L (.ref m) ag) .none (.ref m):=#[c34,#[_,_,_,_,_,zZ],_,_,_,l34];have b:=l7 X G ah;have kY:=l7 X G p;have r:=l7 X G t;have vL:=l7 X G ai;have x:=l7 X G u;have uQ:=l7 X G E;have uM:=l7 X G aj;have vN:=l7 X G ak;have kR:=l7 X G i;have uN:=l7 X G al;have jB:=l7 X G g;have uL:=l7 X G am;have xF:=l7 X G H;have kH:=l7 X G ao;have qO:=oM X G n_MOST_LETTERS;have rE:=oM X G n_MOST_ROOMS;have rC:=oM X G n_MOST_SIGNS;have qL:=oM X G n_SMALL_LETTERS;have uR:=oM X G n_FIGURES;have rL:=aG.2;obtain⟨_,_,kV,dc,pm,an,cv,ct,_,rfl,_,_⟩:=id rL.ex;refine#[W.fnOf "law" "law" (jv yk) (gK yk) (bQ yk) .none kV dc pm an cv ct,λs v=> .of_eq zZ,λbase KB _ ap=>?_];have vA:=W.codeHd_of_K KB hd13;have vI:=W.codeHd_of_K KB hd31;have xA:=W.codeHd_of_K KB hd34;have jJ:=dq l.prog w base X G bk λF=>NY F b;have vM:=dq l.prog w base X G r6 λF=>PX F;have uC:=dq l.prog w base X G r9 λF=>Qz F b;have uE:=dq l.prog w base X G aO λF=>QN F uC kY;have jH:=dq l.prog w base X G aQ λF=>RO F vM r kY vL;have qK:=dq l.prog w base X G r7 λF=>Pe F b;have kE:Bh l.prog w K mg base tL _ _ _ [.non]:=#[_,_,[.none],NS (P:=l.prog) (w:=w) (base:=base) F8 qK x,oM X G a8,k8,(λs us KX hl=>by have bv:us.length=3:=(by simpa using hl);clear hl;revert us;exact yp (λ_ _ _=>BindsTo.of_defaults zZ (KX _ _ lD8) qD8 zZ zZ)),.cons zZ .nil];have jS:cn l.prog w K mg base sU _ _ _:=#[_,_,UX (P:=l.prog) (w:=w) (base:=base) bs vA ap Hh jH kE b,oM X G a13,k13,.all (tD (λ_ _=>rfl))];have jV:=dq l.prog w base X G aR λF=>NF F r x;have jM:=dq l.prog w base X G aS λF=>OT F r;have uD:=dq l.prog w base X G aT λF=>Vk F jV jS b uQ;have qU:=dq l.prog w base X G aU λF=>QW F uD uE b x;have kF:=dq l.prog w base X G aP λF=>Uh F uM;have rF:=dq l.prog w base X G aV λF=>SX F kF vN;have vS:=dq l.prog w base X G aW λF=>Tc F qU kF rF;have qM:=dq l.prog w base X G aX λF=>US F qU jS b;have rG:=dq l.prog w base X G aY λF=>UT F;have qH:=dq l.prog w base X G aZ λF=>Sr F rG;have rR:=dq l.prog w base X G a0 λF=>Qm F vN;have kZ:=dq l.prog w base X G a1 λF=>OA F rR;have qV:=dq l.prog w base X G a2 λF=>PH F qM qH kZ vS;have xG:=dq l.prog w base X G a4 λF=>UL F jH;have jN:=dq l.prog w base X G a5 λF=>Sx F xG b x;have jK:=dq l.prog w base X G a6 λF=>RQ F jH jN r;have kN:=dq l.prog w base X G a7 λF=>Oh F jK b x;have jW:cn l.prog w K mg base sW _ _ _:=#[_,_,Oi (P:=l.prog) (w:=w) (base:=base) bt vI ap IV kN jV jM kE b kY,oM X G a31,k31,.all (tD (λ_ _=>rfl))];have vV:=dq l.prog w base X G a9 λF=>SU F jW jV b;have vT:=dq l.prog w base X G a3 λF=>Vd F vM r;have qP:=dq l.prog w base X G ba λF=>N7 F jV jK b x;have rS:cn l.prog w K mg base tG _ _ _:=#[_,_,Sa (P:=l.prog) (w:=w) (base:=base) bu xA ap Gi vT jM kE b,oM X G a34,k34,.all (yp (λ_ _ _=>rfl))];have rX:=dq l.prog w base X G bb λF=>Vn F qV vV qP jH rS;have rH:=GA l.prog w base X G n_LevelParts mk_LevelParts kp_LevelParts rO λF=>Tr F P3 jW jN jK kR x b;have jC:=iV l.prog w mg base qX λF=>UQ F P3 b;have jF:=iV l.prog w mg base rY λF=>Qp F P3;have jG:=iV l.prog w mg base qY λF=>S1 F P3 kF;have jY:=iV l.prog w mg base rV λF=>Tv F P3 jH jG;have kI:=iV l.prog w mg base rZ λF=>Q9 F P3 jM;have jX:=iV l.prog w mg base rW λF=>SO F P3;have jQ:=iV l.prog w mg base qR λF=>UN F P3 kI jX;have vO:=GA l.prog w base X G n_Row mk_Row kp_Row vG λF=>NW F V0 rH qV jV b;have kG:=iV l.prog w mg base vX λF=>OP F P3 V0 jC;have uG:=iV l.prog w mg base xI λF=>Rb F P3 V0 jF kG uN;have jT:=iV l.prog w mg base vH λF=>N3 F P3 V0 jC uN r;have rK:=iV l.prog w mg base vY λF=>Ps F P3 V0 jG jF jT;have rJ:=iV l.prog w mg base vZ λF=>Sd F P3 V0 jY jQ jF uN;have rT:=iV l.prog w mg base xD λF=>UY F V0 kG rJ jT;have uA:=dq l.prog w base X G r2 λF=>Pf F jB uL xF;have uT:=dq l.prog w base X G r3 λF=>Sb F uA;have uV:=dq l.prog w base X G r4 λF=>Ou F uT jB r b uM;have vR:=dq l.prog w base X G r5 λF=>U1 F uV jB r b qO rE;have kM:=dq l.prog w base X G bc λF=>UK F uM;have uS:=dq l.prog w base X G bd λF=>P8 F kM rC qL b;have rD:=dq l.prog w base X G be λF=>R' F kM uR b;have uB:=dq l.prog w base X G bf λF=>PR F uS rD r uL;have xH:=dq l.prog w base X G bg λF=>Pr F uB vR jB kH r vL b;have rM:=dq l.prog w base X G bl λF=>Q8 F x b uL;have rQ:=dq l.prog w base X G bm λF=>TH F x r uQ;have qC:=dq l.prog w base X G bn λF=>Uk F jJ rQ x r;have qD:=dq l.prog w base X G bo λF=>RY F x b kH;have uF:=iV l.prog w mg base xJ λF=>Oe F V0 rT;have uW:=dq l.prog w base X G bh λF=>Te F b;have uH:=dq l.prog w base X G bi λF=>QK F jB kH;have vF:=dq l.prog w base X G bj λF=>OZ F;have qI:=iV l.prog w mg base uY λF=>Re F V' P3 V0;have uX:=iV l.prog w mg base xM λF=>xO F V' V0 qI uF uG kH;have kU:=iV l.prog w mg base xE λF=>Rg F P3 V0 jC kR b;have kO:=iV l.prog w mg base uI λF=>U8 F V' P3 V0 rX;have kP:=iV l.prog w mg base xK λF=>O1 F V' V0 uH uW vF uX kU kO;have vW:=GA l.prog w base X G n_Hall mk_Hall kp_Hall uZ λF=>Tj F V' V0 xH vO rK;have qA:=dq l.prog w base X G bp λF=>Oc F V0 vO kU kH;have qB:=dq l.prog w base X G bq λF=>QI F rX kH;have jZ:=dq l.prog w base X G br λF=>NA F V' kP qA qB jB kH;exact S9 (P:=l.prog) (w:=w) (base:=base) rL V' qC rM jJ qD jZ vW kP b
def tabsW:List (Str×Ad):=[(sU,175),(sW,279),(tG,300)]
theorem walk{l:PySem.W.OpenLaw}{q:Pg}{b:Ss}{m:SV->Heap->Prop}{j:World->Heap->Prop}{d:DefRec}{K:Params->V3}(o:l.most=some 63)(g:d.params.defaults=[])(p:∀(w:World) (h:Heap),j w h->(K w.params).In h) (hT:∀w:World,∀t∈tabsW,(K w.params).lookup t.2=none/\(∃c,PySem.W.tabIn (K w.params) t.1=some (c,t.2))/\∃e,(recsOf q).find? (λr=>r.name==t.1)=some e)(F:∀(w:World) (mg:SV) (fa:Ad) (h:Heap),(K w.params).In h->h.Ns mainGlobals mg->mg d.name=some (.ref fa)->
   ∃fd:Fd,(∀(s:Sh) (u:Vl),BindsTo s fd #[[u],[]] [(sP,u)])/\∀base:Heap,(K w.params).In base->base.Ns mainGlobals mg->pi mg base->FnOk l.prog w (K w.params) mg base bZ 28 fa fd [sP] (jy (K w.params))):
  PySem.W.WalkO q b m j l.row.toRowW d [] (λf v=>PySem.call f v):=
 L2.d7h (n:=63) (k:=28) (x:=sP) (tabs:=tabsW) (sp:=λw=>jy (K w.params)) o (by decide) g #[zZ,by decide,by decide] p hT F λw H a y A ht B=>#[a,y,zZ,B,A,(λq C=>by
  have z:q.2.2∈tabsW.map (·.2):=(show dv.map (·.2.2)=tabsW.map (·.2)from rfl)▸List.mem_map_of_mem C;obtain⟨t,i,e⟩:=bY.mp z;rw[<-e];exact .inl (ht t i)),λ_=>rfl]
end My
namespace PySem.W.Fast
def tw11151987710322679336:=Nat
theorem te11151987710322679336 : True := ⟨⟩
def tw11693491573460736376:=Nat
def tw16201223220663734938:=Nat
def tw13989020388664740272:=Nat
def tw4918706565145240003:=Nat
def tw5703142483866326756:=Nat
def tw3146386341829220231:=Nat
def tw15999961353357882692:=Nat
def tw12548723736898317878:=Nat
def tw10572500893140397381:=Nat
def tw5126674484477929614:=Nat
def tw3381490672183046237:=Nat
def tw18205126524280749113:=Nat
def tw6968447103237121205:=Nat
def tw8137589231885543301:=Nat
def tw9878036883277116427:=Nat
def tw8066673235590357404:=Nat
def tw1593713004263134858:=Nat
def tw7848197663868276544:=Nat
def tw15111907251845858252:=Nat
def tw7385038301927402180:=Nat
def tw11690509532833145205:=Nat
def tw15762997264961657960:=Nat
def tw10269355371239347774:=Nat
def tw4548911702128179060:=Nat
def tw2800977644653243015:=Nat
def tw5099845720316223311:=Nat
def tw976645924655196022:=Nat
def tw13510364409505418188:=Nat
def tw11939421145504605979:=Nat
def tw5620349015128852258:=Nat
def tw15391061858037232103:=Nat
def tw9579026722855269949:=Nat
def tw13927406155817167465:=Nat
def tw14318794084366157080:=Nat
def tw11827222740758696871:=Nat
def tw13510363778964340714:=Nat
def tw3493880430919156454:=Nat
def tw4122725215389747275:=Nat
def tw10854031214788035531:=Nat
def tw8516329646928711212:=Nat
def tw400085570788266180:=Nat
def tw9176298361708659814:=Nat
def tw2560661385159542941:=Nat
def tw8605661198063464613:=Nat
def tw13517120642887766435:=Nat
def tw13107812847592610149:=Nat
def tw10687045080805648376:=Nat
def tw7432240325033705204:=Nat
def tw7687230542174756053:=Nat
def tw5915100552308991263:=Nat
def tw7854558039925232144:=Nat
def tw112158024267498188:=Nat
def tw14056705320203515014:=Nat
def tw11079973852494887780:=Nat
def tw3097852229531424283:=Nat
def tw18064010229192479153:=Nat
def tw11994808927070851874:=Nat
def tw8526876950637008636:=Nat
def tw12662978135981869553:=Nat
def tw3455919891696285293:=Nat
def tw12687163757907212934:=Nat
def tw7508380417785117915:=Nat
def tw7891105098626458188:=Nat
def tw7196821063130589015:=Nat
def tw16559158976042073570:=Nat
def tw2435761764784433028:=Nat
def tw8159241055478966469:=Nat
def tw3375855485279669521:=Nat
def tw2229993913449871825:=Nat
def tw11172681934979034571:=Nat
def tw16091314678784595210:=Nat
def tw18409096306624024525:=Nat
def tw2768476910891405764:=Nat
def tw13762925125178968237:=Nat
def tw4439176389580557388:=Nat
def tw6101079157395114130:=Nat
def tw16794605897567754540:=Nat
def tw8597772517300453378:=Nat
def tw13098610357676329362:=Nat
def tw8069544811827257166:=Nat
def tw565964535029511727:=Nat
def tw8024410846825933365:=Nat
def tw13774144243830534744:=Nat
def tw11732470862217455095:=Nat
def tw9764630731893214200:=Nat
def tw4494399344360357231:=Nat
def tw10928178279467005780:=Nat
def tw617962530821989095:=Nat
def tw16053109951480577405:=Nat
def tw15094309482234820213:=Nat
def tw2808098515336779071:=Nat
def tw3383493356317786589:=Nat
def tw6310319157412988934:=Nat
def tw13084561166733110165:=Nat
def tw3691328314924178755:=Nat
def tw7656212460640089313:=Nat
def tw7529882529122754779:=Nat
def tw17924126096157866920:=Nat
def tw11404634501091316398:=Nat
def tw9427057722389060543:=Nat
def tw7016064205747045899:=Nat
def tw455380048347158340:=Nat
def tw13248170499606754741:=Nat
def tw12369860374392387916:=Nat
def tw17166700057532504970:=Nat
def tw3807034315064798833:=Nat
def tw7287222818768299786:=Nat
def tw7625251735304089749:=Nat
def tw15405962209087035792:=Nat
def tw3701735310498817179:=Nat
def tw16950335577239674194:=Nat
def tw6991512251900078349:=Nat
def tw15044051970619619580:=Nat
def tw18261777814201055932:=Nat
def tw2587058851468677760:=Nat
def tw1644093392605318981:=Nat
def tw9214765095202952687:=Nat
def tw8131211869971959772:=Nat
def tw3473677960655083750:=Nat
def tw9540503057114662589:=Nat
def tw9736259231678842024:=Nat
def tw13109972799338229924:=Nat
def tw7786511057295950939:=Nat
def tw17642286730963777793:=Nat
def tw17896568956648176110:=Nat
def tw6223340766878270111:=Nat
def tw14932973373044772694:=Nat
def tw8761984787107813258:=Nat
def tw2407154602101808996:=Nat
def tw1016870855196421815:=Nat
def tw18008552409213580194:=Nat
def tw5030360043872367459:=Nat
def tw2821216811394898160:=Nat
def tw1280358256680434256:=Nat
def tw11210288216440293841:=Nat
def tw1676010242377814176:=Nat
def tw907267277979281497:=Nat
def tw13332952308273010998:=Nat
def tw13332412271503188693:=Nat
def tw16538676024775823780:=Nat
def tw17446631888626105017:=Nat
def tw16036722160786368450:=Nat
def tw6180694781238958548:=Nat
def tw11861592933865383990:=Nat
def tw10915020848846675377:=Nat
def tw13383593961081614498:=Nat
def tw17578506031102675297:=Nat
def tw12462940258424728814:=Nat
def tw5253969369736837313:=Nat
def tw11200537577420728248:=Nat
def tw2806515795980159722:=Nat
def tw5228538916352075973:=Nat
def tw16807480774110490632:=Nat
def tw9298441927420994716:=Nat
def tw9887645803412586345:=Nat
def tw16847302270205590174:=Nat
def tw1360730463088509608:=Nat
def tw5907131594562281390:=Nat
def tw2288128974827203211:=Nat
def tw5391072900723483402:=Nat
def tw5612448747427661073:=Nat
def tw11317000732798669116:=Nat
def tw7512783015008608504:=Nat
def tw1825195929919410095:=Nat
def tw8088697030836108386:=Nat
def tw9246652531211823136:=Nat
def tw9163483482762020265:=Nat
def tw12225309844659700095:=Nat
def tw1049650095423027267:=Nat
def tw5024914734652682010:=Nat
def tw11505656517860699720:=Nat
def tw10506809864506729889:=Nat
def tw5396846134243424494:=Nat
def tw16118608152493033365:=Nat
def tw8972033363150592023:=Nat
def tw4151450209907524847:=Nat
def tw3511064397673438491:=Nat
def tw6973352674707017419:=Nat
def tw2784260870938965328:=Nat
def tw18154007283822554705:=Nat
def tw15634638617458122261:=Nat
def tw8398099164246498646:=Nat
def tw9233947351063950916:=Nat
def tw9726272112575451216:=Nat
def tw18167319159246787702:=Nat
def tw12756061880464931223:=Nat
def tw12750439933218724457:=Nat
def tw14439412890498833271:=Nat
def tw12214476580208615740:=Nat
def tw10718534806983328005:=Nat
def tw9230013579399405969:=Nat
def tw14795588488431785107:=Nat
def tw5012288693309425050:=Nat
def tw15293492778671895269:=Nat
def tw11500499476832408723:=Nat
def tw7769181611310266745:=Nat
def tw7605659533643857392:=Nat
def tw10299464148871499019:=Nat
def tw9206993511915917423:=Nat
def tw8060906803927319671:=Nat
def tw4539219572741347645:=Nat
def tw4817900664745878295:=Nat
def tw2533029852665742706:=Nat
def tw3476014439905223448:=Nat
def tw6383780127839092334:=Nat
def tw6052841245192177312:=Nat
def tw473003686378903324:=Nat
def tw9280264093342930466:=Nat
def tw16952471086227326269:=Nat
def tw2109250409475327673:=Nat
def tw9965132126461160668:=Nat
def tw3858861094138105362:=Nat
def tw1498670580304958425:=Nat
def tw16296898561051132252:=Nat
def tw16183258603547512925:=Nat
def tw8482020587746020765:=Nat
def tw8534734742575054315:=Nat
def tw14897363025469857634:=Nat
def tw10236365872411234994:=Nat
def tw2690757557590545084:=Nat
def tw1308421031903362962:=Nat
def tw14642184311371374443:=Nat
def tw11096867215060237801:=Nat
def tw12041797427132415697:=Nat
def tw4074023603481385465:=Nat
def tw8980246261323914928:=Nat
def tw14321977570494622179:=Nat
def tw8425156915083342113:=Nat
def tw7296079627898562684:=Nat
def tw6041484524093006535:=Nat
def tw15371190035670681612:=Nat
def tw7813212225719050382:=Nat
def tw17854809788131993512:=Nat
def tw16678875125887646563:=Nat
def tw17505903997738215504:=Nat
def tw2469850910830833201:=Nat
def tw10238219588751172283:=Nat
def tw11972223612448675447:=Nat
def tw9421219113467420792:=Nat
def tw18099101443288697730:=Nat
def tw12739838470077435708:=Nat
def tw5356981331129387656:=Nat
def tw13064253973907748300:=Nat
def tw18085814070068809809:=Nat
def tw4847778982371985058:=Nat
def tw15771426091317526347:=Nat
def tw7979275642055066839:=Nat
def tw5354531524645190045:=Nat
def tw16959436415199155590:=Nat
def tw13484240015154305743:=Nat
def tw17050403963542110467:=Nat
def tw7123213364120219917:=Nat
def tw38131200478499927:=Nat
def tw6328981660894591057:=Nat
def tw11875894725093500219:=Nat
def tw11987740293179887194:=Nat
def tw9192490242556543124:=Nat
def tw4647451143970250928:=Nat
def tw1803782811510588028:=Nat
def tw14471662576496220385:=Nat
def tw13601713452990748017:=Nat
def tw17255060811086188899:=Nat
def tw12073933899935047110:=Nat
def tw3587446253160434546:=Nat
def tw15817701504005927761:=Nat
def tw9593800598839241064:=Nat
def tw9223348870997336640:=Nat
def tw13397243545858074022:=Nat
def tw5415766739632063154:=Nat
def tw8746407625741985621:=Nat
def tw2589324817269686938:=Nat
def tw9932472449017614291:=Nat
def tw11868721508209183695:=Nat
def tw12874729092584539594:=Nat
def tw1642495597887519523:=Nat
def tw17503490792782631231:=Nat
def tw6536468193538232337:=Nat
def tw7009431512324948463:=Nat
def tw9680264110029560042:=Nat
def tw1940141900043463719:=Nat
def tw3363291541374270318:=Nat
def tw345677488604507637:=Nat
def tw16806286131162285472:=Nat
def tw10729901167504063916:=Nat
def tw15544750610350068188:=Nat
def tw16460646258539454925:=Nat
def tw11277422258980752977:=Nat
def tw11478139450124746313:=Nat
def tw9594836227793265619:=Nat
def tw16262467375874363377:=Nat
def tw462409691472567691:=Nat
def tw12191865810741216429:=Nat
def tw17498521398033561895:=Nat
def tw14669680880203014132:=Nat
def tw18298515645469116915:=Nat
def tw9527998142885502709:=Nat
def tw2627702014052886984:=Nat
def tw736206446621896201:=Nat
def tw18249904659436625775:=Nat
def tw2339918876389718158:=Nat
def tw8250192904292223059:=Nat
def tw1613127228909053405:=Nat
def tw11075099916494417130:=Nat
def tw6999176819585978124:=Nat
def tw480019791635531721:=Nat
def tw2964335133883227341:=Nat
def tw15123021426311305527:=Nat
def tw16276691432098993992:=Nat
def tw886838559790448280:=Nat
def tw14791172588964281504:=Nat
def tw10709875854601786003:=Nat
def tw16506739766054928374:=Nat
def tw9992454733953237945:=Nat
def tw17107547292720599545:=Nat
def tw13368141996519053968:=Nat
def tw10685254831693297332:=Nat
def tw1406934888452328955:=Nat
def tw5205258356405755420:=Nat
def tw13508079436982966618:=Nat
def tw15920414586359838141:=Nat
def tw13058223403045787476:=Nat
def tw629548934576785070:=Nat
def tw10856154561146371768:=Nat
def tw7889559080605308931:=Nat
def tw3763259987571300318:=Nat
def tw8892388565975899250:=Nat
def tw5118063257270162491:=Nat
def tw7058211642626557446:=Nat
def tw5466193637651071806:=Nat
def tw4054559654739347394:=Nat
def tw360107461223419583:=Nat
def tw15399459565124410425:=Nat
def tw3484398618654422963:=Nat
def tw7534069876848128445:=Nat
def tw6584799684758408665:=Nat
def tw13121073167059474213:=Nat
def tw16975084959621063766:=Nat
def tw49741720600448587:=Nat
def tw7811343398142754854:=Nat
def tw17714169710011398559:=Nat
def tw2795096710026653471:=Nat
def tw9681889239883024921:=Nat
def tw9177904942263397642:=Nat
def tw2920520788567418776:=Nat
def tw6603335564978216489:=Nat
def tw17827353765905229789:=Nat
def tw12558072543734032223:=Nat
def tw5786512261216430604:=Nat
def tw9426781785063692186:=Nat
def tw3773546626200309957:=Nat
def tw3820740313062529131:=Nat
def tw1155774951675337892:=Nat
def tw16201971818668744392:=Nat
def tw4760284239816617339:=Nat
def tw10136637866514458613:=Nat
def tw10798886114595032898:=Nat
def tw4097763899209478191:=Nat
def tw6406068448990472266:=Nat
def tw425591121762728774:=Nat
def tw6768146427848737879:=Nat
def tw6088510458958123040:=Nat
def tw14906490850688182236:=Nat
def tw546200250017334908:=Nat
def tw3664650566243558987:=Nat
def tw15887823747564283414:=Nat
def tw6490785099698025577:=Nat
def tw10450585013202800267:=Nat
def tw10959535880870882141:=Nat
def tw10763578072608864558:=Nat
def tw2549062841055902066:=Nat
def tw4726519150451262893:=Nat
def tw16326777714979481941:=Nat
def tw1054601813441676326:=Nat
def tw13131845459685336372:=Nat
def tw17802654009490525066:=Nat
def tw4311910341285487212:=Nat
def tw17409898725172050863:=Nat
def tw441023030985995756:=Nat
def tw8077087386022200845:=Nat
def tw15222121965656823861:=Nat
def tw5397917776354092507:=Nat
def tw9388416885625579522:=Nat
def tw13681749986351331477:=Nat
def tw8099109872673257734:=Nat
def tw6671663269687524219:=Nat
def tw1841007305437614875:=Nat
def tw4880016628679458180:=Nat
def tw11738276549242118040:=Nat
def tw1861902533329816673:=Nat
def tw10452192267494855393:=Nat
def tw14639021816068370694:=Nat
def tw2076280864996583325:=Nat
def tw10946682745521360573:=Nat
def tw3857326728970199121:=Nat
def tw7568271398778907334:=Nat
def tw6256027090221668249:=Nat
def tw1526268075467985372:=Nat
def tw14482248854841076256:=Nat
def tw6497147360441717720:=Nat
def tw15564687210235068560:=Nat
def tw18392056502578915036:=Nat
def tw13525009904259456836:=Nat
def tw6692482507371180716:=Nat
def tw15378204996426467843:=Nat
def tw14655447813219891426:=Nat
def tw17782934115729491604:=Nat
def tw4905899724114319122:=Nat
def tw14279945611114289672:=Nat
def tw8339073123324711013:=Nat
def tw4561310536483411620:=Nat
def tw2462103764211952470:=Nat
def tw15128134769459912123:=Nat
def tw7219575173358403007:=Nat
def tw8092565602928598017:=Nat
def tw15970195822248958606:=Nat
def tw4372614353321890747:=Nat
def tw2574894649875313240:=Nat
def tw11449836857200621646:=Nat
def tw8909820138728826639:=Nat
def tw9105631673402311252:=Nat
def tw12121677582306360125:=Nat
def tw14393967983805432563:=Nat
def tw11170275425421872536:=Nat
def tw8024796177331914532:=Nat
def tw5846471795306348029:=Nat
def tw16617083044390051719:=Nat
def tw2019895839638868693:=Nat
def tw632741204043007983:=Nat
def tw11568251225974921664:=Nat
def tw308196847062489950:=Nat
def tw8246286224907534085:=Nat
def tw3120112864626259282:=Nat
def tw11204962254359593882:=Nat
def tw12412622810100429728:=Nat
def tw3656781583753964622:=Nat
def tw12254097684308828667:=Nat
def tw17415734404416142888:=Nat
def tw18443071192828333178:=Nat
def tw14053753012192587470:=Nat
def tw954476901740485544:=Nat
def tw17627103439936845408:=Nat
def tw6269730451052397885:=Nat
def tw15595937113786063241:=Nat
def tw1968398378653678767:=Nat
def tw5675083744414237670:=Nat
def tw13851832406604189:=Nat
def tw1328034968705039333:=Nat
def tw12466519034930469004:=Nat
def tw4272183317113157111:=Nat
def tw7476928340382345240:=Nat
def tw117172364984849300:=Nat
def tw16797311041480880059:=Nat
def tw1311333844907097214:=Nat
def tw9862921169007752163:=Nat
def tw11965483902637993194:=Nat
def tw13044591851870715944:=Nat
def tw13156595252025776422:=Nat
def tw18276435906945762477:=Nat
def tw14449200021799168270:=Nat
def tw15077760185691895280:=Nat
def tw7137707470804307060:=Nat
def tw16267701746863791096:=Nat
def tw13265319926164900084:=Nat
def tw9740385660717850270:=Nat
def tw12064569682608652463:=Nat
def tw8032191197795663821:=Nat
def tw4832123273743736945:=Nat
def tw16810607564271587335:=Nat
def tw10129381124478769308:=Nat
def tw12230371256197694783:=Nat
def tw1208100402803877140:=Nat
def tw3473998500675664843:=Nat
def tw11325482916572979848:=Nat
def tw13355501173095359418:=Nat
def tw8434464454694496747:=Nat
end PySem.W.Fast
open PySem PySem.W PyProof.Rows
set_option maxRecDepth 100000 in
set_option maxHeartbeats 0 in
theorem PySem.Challenge.cw_cascade_k84_parts_and_what_turns_holds : PySem.Challenge.rw_cascade_k84_parts_and_what_turns.Holds := by
 w_on; o_law; k_head; (case hw => w_witness2)
 k_fill
 refine' My.walk (l := PySem.Challenge.rw_cascade_k84_parts_and_what_turns) rfl rfl (fun w h Y => PySem.W.km_in_of Y) ?hT ?F
 case hT =>
  intro w t ht
  simp only [My.tabsW, List.mem_cons, List.not_mem_nil, or_false] at ht
  rcases ht with rfl | rfl | rfl
  ·exact ⟨by kernel_rfl, ⟨179, by kernel_rfl⟩, _, rfl⟩
  ·exact ⟨by kernel_rfl, ⟨283, by kernel_rfl⟩, _, rfl⟩
  ·exact ⟨by kernel_rfl, ⟨304, by kernel_rfl⟩, _, rfl⟩
 case F =>
  intro w mg fa h KX G hmg
  refine' My.e6z KX G hmg ?_ ?_ ?_ ?_ ?_ ?_ ?a8 ?l8 ?c8 ?k8 ?lD8 ?qD8 ?_ ?_ ?_ ?_ ?a13 ?l13 ?c13 ?k13 ?hd13 ?_ ?_ ?_ ?_ ?_ ?_ ?_ ?_ ?_ ?_ ?_ ?_ ?_ ?_ ?_ ?_ ?_ ?a31 ?l31 ?c31 ?k31 ?hd31 ?_ ?_ ?a34 ?l34 ?c34 ?k34 ?hd34 ?_ ?_ ?_ ?_ ?_ ?_ ?_ ?_ ?_ ?_ ?_ ?_ ?_ ?_ ?_ ?_ ?_ ?_ ?n_MOST_LETTERS ?n_MOST_ROOMS ?n_MOST_SIGNS ?n_SMALL_LETTERS ?n_FIGURES ?n_LevelParts ?P3 ?mk_LevelParts ?kp_LevelParts ?n_Row ?V0 ?mk_Row ?kp_Row ?n_Hall ?V' ?mk_Hall ?kp_Hall ?_ ?_ ?_ ?_ ?_ ?_ ?_ ?_ ?_ ?_ ?_ ?_ ?_ ?_ ?_ ?_ ?_ ?_ ?_ ?_ ?_ ?_  ?_ ?_ ?_ ?_ ?_ ?_ ?_ ?_ ?_ ?_ ?_ ?_ ?_ ?_
  (case a8 => k_is); (case l8 => k_is); (case c8 => k_is); (case k8 => k_is)
  (case lD8 => k_is); (case qD8 => rfl)
  (case a13 => k_is); (case l13 => k_is); (case c13 => k_is); (case k13 => k_is)
  (case hd13 => kernel_rfl)
  (case a31 => k_is); (case l31 => k_is); (case c31 => k_is); (case k31 => k_is)
  (case hd31 => kernel_rfl)
  (case a34 => k_is); (case l34 => k_is); (case c34 => k_is); (case k34 => k_is)
  (case hd34 => kernel_rfl)
  (case n_MOST_LETTERS => k_is)
  (case n_MOST_ROOMS => k_is)
  (case n_MOST_SIGNS => k_is)
  (case n_SMALL_LETTERS => k_is)
  (case n_FIGURES => k_is)
  (case n_LevelParts => k_is); (case P3 => exact ⟨⟨by k_is, by k_is, by k_is, by k_is⟩, (.cons (by k_is) (.cons (by k_is) (.cons (by k_is) (.cons (by k_is) (.cons (by k_is) .nil)))))⟩); (case mk_LevelParts => k_is); (case kp_LevelParts => k_is)
  (case n_Row => k_is); (case V0 => exact ⟨⟨by k_is, by k_is, by k_is, by k_is⟩, (.cons (by k_is) (.cons (by k_is) .nil))⟩); (case mk_Row => k_is); (case kp_Row => k_is)
  (case n_Hall => k_is); (case V' => exact ⟨⟨by k_is, by k_is, by k_is, by k_is⟩, (.cons (by k_is) (.cons (by k_is) (.cons (by k_is) (.cons (by k_is) .nil))))⟩); (case mk_Hall => k_is); (case kp_Hall => k_is)
  any_goals (refine' ⟨_, _, ?a, ?i, L2.d1a ?l ?c ?k⟩; (case a => k_is); (case i => k_is); (case l => k_is); (case c => k_is); (case k => k_is))
  any_goals (refine' ⟨_, _, ?a, L2.d1a ?l ?c ?k⟩; (case a => k_is); (case l => k_is); (case c => k_is); (case k => k_is))
  any_goals (refine' ⟨?a, L2.d1a ?l ?c ?k⟩; (case a => k_is); (case l => k_is); (case c => k_is); (case k => k_is))
  any_goals k_is




