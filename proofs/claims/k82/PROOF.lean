import PyProof.Rows.All
import Wide.All
import OpenK.AllK
import Wide.FinOn
import Lean
import PyProof.EqAt
import PyProof.EqKinds
import PyProof.TupleCall
import PyProof.NeKinds
import PySem.Challenge.RW_cascade_k82_led_through_a_hall
set_option maxHeartbeats 2000000
set_option Elab.async false
set_option compiler.extract_closed false
set_option linter.all false
set_option maxRecDepth 100000
local macro_rules|`(())=>`(by lia)
def bE:=@List.getElem?_eq_getElem
def bU:=@List.getElem?_eq_some_iff
def bF:=@List.length_map
def bD:=@PySem.wpAny_bind
def cb:=@List.mem_of_getElem?
def bZ:=@List.getElem?_map
def ci:=@List.mem_singleton
def cZ:=@List.getD_eq_getElem?_getD
def cM:=@PySem.Heap.get?_push_of_some
def bM:=@PySem.wpAny_pure
def bR:=@Nat.le_refl
def cI:=@List.length_append
def b8:=@List.mem_map
def dm:=@Option.map_eq_some_iff
def dO:=@List.getElem?_append_right
def cR:=@List.mem_cons_self
def dN:=@List.getElem?_append_left
def cF:=@List.mem_append
def cG:=@decide_eq_true
def dr:=@Array.length_toList
def cQ:=@List.mem_filter
def dG:=@PySem.Heap.get?_push_size
def cy:=@PySem.Heap.lt_size
def dS:=@List.mem_cons_of_mem
def cP:=@Nat.le_trans
def cX:=@List.mem_cons
def dC:=@List.map_append
def dR:=@List.append_assoc
def fB:=@List.mem_iff_getElem?
def b7:=@PyProof.Rows.wpS_bind
def cH:=@PySem.sizeLine_eq
def eE:=@List.size_toArray
def ga:=@List.mem_append_right
def cg:=@PyProof.Rows.wpS_pure
def dj:=@Nat.ne_of_lt
def fX:=@Bool.false_ne_true
def eW:=@decide_eq_false
def gR:=@List.contains_iff_mem
def f7:=@Nat.lt_of_lt_of_le
def iE:=@PySem.F.plainAttrs_list
def fh:=@List.length_take
def iM:=@List.getElem?_eq_none
def fb:=@List.mem_range
def fZ:=@List.take_length
def fF:=@PySem.PassesOwn.never
def ke:=@Array.getElem?_eq_getElem
def gh:=@List.getElem_mem
def f':=@Option.some.inj
def gQ:=@List.take_add_one
def eM:=@Nat.le_of_lt
def eJ:=@List.map_map
def iX:=@List.pairwise_append
def cK:=@congrArg
def hE:=@of_decide_eq_true
def lM:=@PySem.F.slot_list_append
def kS:=@PySem.F.type_list_append
def jo:=@List.length_filter_le
def hY:=@Int.toNat_natCast
def j4:=@Array.getElem?_toList
def lW:=@PySem.Heap.get?_update_other
def iL:=@List.length_cons
def qe:=@Nat.exists_eq_add_one_of_ne_zero
def gv:=@List.map_cons
def nX:=@Array.perm_iff_toList_perm
def jf:=@List.getElem?_inj
def oi:=@List.pairwise_iff_getElem
def i':=@List.append_nil
def mY:=@List.take_append_drop
def jq:=@Bool.eq_iff_iff
def qx:=@Array.getD_eq_getD_getElem?
def mF:=@Array.toList_append
def lX:=@PySem.wpAny_call_entry
def mC:=@List.length_range
def iQ:=@PySem.wpAny_holding
def nB:=@List.getElem?_range
def nH:=@List.map_congr_left
def sm:=@PySem.F.slot_dict_keyiterator_next
def mq:=@Bool.and_eq_true
def lE:=@List.nodup_cons
def eU:=@PySem.boot_len
def wn:=@List.Nodup.length_le_of_subset
def pF:=@List.Pairwise.sublist
def pU:=@List.length_eq_zero_iff
def m9:=@PySem.wpAny_truthy_bool
def nj:=@List.ext_getElem?
def oZ:=@List.mem_append_left
def i6:=@PyProof.Rows.wpS_forRange
def qb:=@PySem.F.plainAttrs_str
def oh:=@PySem.wpAny_setField_rec
def dM:=@Ne.symm
def o0:=@beq_eq_false_iff_ne
def iW:=@Nat.zero_le
def oC:=@PySem.mem_of_lookup
def jr:=@PySem.F.called_set
def pL:=@Nat.add_sub_cancel'
def nJ:=@List.mem_reverse
def nN:=@Nat.le_add_right
def h9:=@PySem.wpAny_mono
def t7:=@PySem.wpAny_callSpecial?_slot
def td:=@List.pairwise_singleton
def pQ:=@PySem.Around.under_plainId
def qk:=@List.mem_of_mem_take
def nK:=@PySem.W.kia_one
def oA:=@List.all_eq_true
def yy:=@PySem.F.slot_dict_itemiterator_next
def oR:=@PySem.wpAny_newObj_type
def ss:=@Classical.choose_spec
def oJ:=@List.foldl_append
def xJ:=@List.idxOf_lt_length_iff
def lV:=@PySem.W.mg_none_of
def mR:=@Nat.lt_irrefl
def oq:=@PySem.codeAny_builtin
def v6:=@PyProof.Rows.F.plain_set_update_loop
def xt:=@Nat.add_sub_cancel_left
def oK:=@List.lookup_cons
def zq:=@Array.getElem?_eq_some_iff
def vg:=@List.take_of_length_le
def pT:=@Bool.eq_false_iff
def tA:=@List.filter_sublist
def zt:=@Nat.sub_lt_left_of_lt_add
def vo:=@PySem.Heap.get?_update_self
def CF:=@PySem.wpAny_typeNameOfWhole_itemiter
def mO:=@Nat.sub_self
def oV:=@Array.size_push
def uj:=@PySem.wpAny_Call_Name_kw
def rc:=@Nat.lt_succ_self
def qg:=@List.length_drop
def Bg:=@PySem.wpAny_typeNameOfWhole_keyiter
def w9:=@PySem.lookup_relabel_local
def wc:=@List.getElem?_of_mem
def B0:=@PySem.F.slot_dict_keyiterator_iter
def yp:=@PySem.F.slot_list_index
def zE:=@PySem.F.type_list_index
def mX:=@PySem.codeAny_mono
def tu:=@PySem.wpAny_dictEntries
def rj:=@PySem.wpAny_setState_of
def lR:=@PyProof.Rows.boot_tuple
def AC:=@PyProof.Rows.callWith_type1
def mG:=@PySem.wpAny_mkInt
def vw:=@List.toList_toArray
def qm:=@Nat.not_lt_zero
def v5:=@List.map_eq_nil_iff
def oM:=@PySem.Paired.length
def n9:=@Nat.ne_of_gt
def yD:=@List.length_singleton
def yC:=@PySem.builtinLookup_eq_fast
def zQ:=@List.Perm.append_left
def ww:=@List.pairwise_cons
def wr:=@List.getElem?_drop
def zn:=@PySem.F.slot_str_join
def xM:=@PySem.F.type_str_join
def AT:=@List.drop_eq_getElem_cons
def Bh:=@Classical.byContradiction
def A2:=@List.extract_eq_take_drop
def u9:=@PySem.wpAny_passesOwn
def AE:=@List.getElem?_take_of_lt
def wh:=@List.take_sublist
def u4:=@List.length_set
def xj:=@Array.toList_push
def vz:=@PySem.wpAny_pyIter_slot
def v8:=@List.pairwise_map
def sw:=@Nat.min_eq_left
def ry:=@PyProof.Rows.boot_isinstance
def wp:=@List.filter_congr
def yt:=@Nat.add_le_add_left
def C4:=@PyProof.Rows.F.entry_set_update_loop
def qa:=@PySem.wpAny_attempt
def y7:=@PySem.F.plain_extend_loop
def jg:=@PyProof.Rows.wpS_mono
def xL:=@beq_self_eq_true
def xo:=@List.cons_append
def xc:=@List.getElem_map
def C1:=@List.length_pos_of_mem
def BM:=@List.Perm.append_right
def yW:=@Nat.lt_of_le_of_lt
def GO:=@List.dropLast_concat_getLast
def Ak:=@Nat.lt_of_le_of_ne
def zb:=@List.getElem_idxOf
def yV:=@List.filter_append
def Aw:=@decide_eq_true_iff
def Gq:=@List.countP_eq_length_filter
def wx:=@PySem.wpAny_dictEpoch
def CU:=@List.perm_append_comm
def oz:=@beq_iff_eq
def sv:=@PySem.plainId_quiet
def yq:=@List.nodup_append
def nV:=@PyProof.Rows.wpS_modify
def Fw:=@List.nodup_iff_pairwise_ne
def Ce:=@Array.toList_extract
def Ax:=@Array.toList_reverse
def A8:=@List.mem_erase_of_ne
def wg:=@PySem.Heap.size_push
def FF:=@PySem.Calls.call_function_entry
def vm:=@PySem.wpAny_fieldsOf
def xY:=@PySem.wpAny_askSetting
def yx:=@List.any_eq_true
def CN:=@List.filterMap_cons
def AQ:=@List.length_zipWith
def Cp:=@Nat.add_lt_add_left
def Bz:=@List.getElem_of_mem
def tr:=@Nat.le_of_eq
def ph:=@PySem.wpAny_rule
def sd:=@Int.zero_add
def DL:=@List.length_erase_of_mem
def Dr:=@List.Pairwise.imp_of_mem
def C0:=@PySem.W.callWith_K
def v4:=@List.any_cons
def AJ:=@PySem.tupleKind_room_in1
def zU:=@PySem.typeLookup_type
def xS:=@PyProof.Rows.get?_update_seq
def ve:=@PyProof.Rows.listUpdate_at
def BB:=@List.map_inj_right
def Eu:=@PySem.Calls.callWith_builtin
def Gb:=@PySem.wpAny_isOneOf_itemiter
def Ey:=@Array.getElem?_eq_none
def EX:=@List.not_of_lt_findIdx
def Ba:=@PySem.wpAny_pyIter_list
def Bk:=@List.any_eq_false
def ub:=@Nat.le_succ
def A1:=@Nat.lt_succ_of_lt
def Hg:=@PySem.F.args_dict_itemiterator_next_1
def B4:=@Nat.le_of_lt_succ
def BG:=@Array.size_append
def xh:=@List.all_map
def vd:=@Nat.lt_or_ge
def GX:=@PySem.F.entry_dict_itemiterator_next
def FQ:=@List.getElem?_zipWith
def Iq:=@PySem.F.args_dict_keyiterator_next_1
def Km:=@PySem.F.args_dict_keyiterator_iter_1
def EI:=@Array.mem_of_getElem?
def wm:=@Nat.zero_add
def w6:=@Nat.min_self
def AU:=@Nat.le_of_not_lt
def AS:=@List.ext_getElem
def K':=@PySem.F.entry_dict_keyiterator_next
def JO:=@PySem.F.entry_dict_keyiterator_iter
def Bp:=@Array.toList_map
def Bn:=@List.countP_cons
def Fg:=@Nat.sub_succ_lt_self
def Fj:=@Array.mem_toList_iff
def GK:=@Nat.le_sub_of_add_le
def E3:=@List.mem_of_mem_drop
def Ap:=@Int.ofNat.inj
def zx:=@PySem.wpAny_newList
def y6:=@Bool.true_and
def uz:=@PySem.call_meets
def A9:=@PySem.wpAny_execs_nil
def DI:=@PySem.W.plainGet_of
def BY:=@List.of_mem_zip
def Bu:=@PySem.wpAny_loadPart'
def Bv:=@PySem.size_of_entries
def Ei:=@PySem.wpAny_raiseNew_none
def wu:=@PySem.wpAny_field
def AR:=@PySem.wpAny_updateSeq
def mN:=@PyProof.Rows.wpS_get
def Jo:=@PySem.Calls.Name_function_global
def Ka:=@Array.toList_setIfInBounds
def Ge:=@Int.emod_lt_of_pos
def Au:=@Nat.add_zero
def zg:=@List.any_map
def Fu:=@Array.Perm.mem_iff
def zF:=@Int.lt_trans
def Fk:=@List.getElem?_take
def oW:=@PyProof.Rows.boot_str
def Ed:=@of_decide_eq_false
def AA:=@Bool.false_and
def A0:=@List.drop_zero
def vv:=@PySem.wpAny_call
def Fp:=@Option.isSome_map
def D2:=@PyProof.Rows.join_plain_closes
def F0:=@PySem.StrLaws.subAt_one
def Bc:=@PySem.wpAny_standAt
def EK:=@Array.toList_inj
def CM:=@List.map_nil
def Cg:=@Nat.lt_trans
def Gy:=@Int.emod_nonneg
def F3:=@PySem.codeAny_of_tree
def FA:=@PySem.wpAny_ite_split
def Fe:=@PyProof.Rows.entry_list_sort
def xz:=@ite_congr
def EE:=@List.foldl_cons
def E1:=@Array.Perm.refl
def EC:=@beq_false_of_ne
def Ej:=@Nat.min_le_left
def oU:=@PySem.W.mg_of
def ye:=@PySem.typeIs_str
def yu:=@PySem.intKind_is
def rA:=@PyProof.Rows.wpS_lift
def BL:=@PySem.wpAny_of_eq
def AI:=@PyProof.Rows.seqEpoch_at
section
open PySem
abbrev hO:=List (List (List Nat))
abbrev LN:=List (List Nat)
abbrev bB:=List Nat
abbrev VP:=Value -> Shared -> Prop
abbrev AO:=List (Addr × Obj)
abbrev SV:=Str -> Option Value
abbrev As:=List Addr
abbrev Vs:=List Value
abbrev AV:=Array Value
abbrev Zs:=List Int
abbrev Ss:=List Str
abbrev Sh:=Shared
abbrev Vl:=Value
abbrev Pg:=Program
abbrev Fd:=FuncData
abbrev Ar:=Around
end
def wA:=@if_neg
def wB:=@if_pos
abbrev wC:=@absurd
abbrev wE:=@False.elim
open PySem in
abbrev Ad:=Addr
abbrev zZ:=@rfl
abbrev S4:=PySem.W.Frag
theorem Z'{α:Sort _}{a:α}{q:Prop}:a=a∨q:=.inl rfl
theorem Z0{α:Sort _}{a:α}{q:Prop}:q∨a=a:=.inr rfl
local macro_rules|`(#[$x,*])=>`(⟨$x,*⟩)
local macro_rules|`(#v[$x,*])=>`(List.toArray [$x,*])
namespace L2
open PySem PySem.Spec PyProof.Rows
abbrev cD:=Sum Int Str
def v0:cD->Vl->Bool
 |.inl k,v=>Value.isInt k v
 |.inr x,v=>Value.isStrOf x v
def FP(w:World):cD->Int
 |.inl k=>hashInt k
 |.inr x=>hashStr w x
theorem pb:∀{k:cD} {v:Vl},v0 k v=true->(∃i t,k=Sum.inl i/\v=Value.int i t)\/(∃x t,k=Sum.inr x/\v=Value.str x t)
 |.inl i,v,h=>by
  obtain⟨t,e⟩:=Value.isInt_shape (k:=i) (v:=v) h;exact .inl #[i,t,zZ,e]
 |.inr x,v,h=>by
  obtain⟨t,e⟩:=Value.isStrOf_shape (x:=x) (v:=v) h;exact .inr #[x,t,zZ,e]
def Q6(i:Int)(t:Tok):v0 (.inl i) (.int i t)=true:=by simp[v0,Value.isInt]
def OK(x:Str)(t:Tok):v0 (.inr x) (.str x t)=true:=by simp[v0,Value.isStrOf]
def Rz(a b:Int):decide ((Sum.inl a:cD)=Sum.inl b)=(a==b):=by
 by_cases e:a=b
 .subst e;simp
 .have h: ¬(Sum.inl a:cD)=Sum.inl b:=λq=>e (Sum.inl.inj q);rw[eW h];exact(o0.mpr e).symm
def L5(a b:Str):decide ((Sum.inr a:cD)=Sum.inr b)=decide (a=b):=by
 by_cases e:a=b
 .subst e;simp
 .have h: ¬(Sum.inr a:cD)=Sum.inr b:=λq=>e (Sum.inr.inj q);rw[eW h,eW e]
def Ln(a:Int)(b:Str):decide ((Sum.inl a:cD)=Sum.inr b)=false:=eW (λq=>nomatch q)
def O3(a:Str)(b:Int):decide ((Sum.inr a:cD)=Sum.inl b)=false:=eW (λq=>nomatch q)
def lP(c:Pg)(w:World):PySem.KeyKind c w cD where
 is:=v0
 hash:=FP w
 inj:=λv a b l g=>by
  rcases pb l with⟨i,t,rfl,rfl⟩|⟨x,t,rfl,rfl⟩
  .rcases pb g with⟨j,u,rfl,e⟩|⟨y,u,rfl,e⟩
   .injection e with d _;rw[d]
   .exact nomatch e
  .rcases pb g with⟨j,u,rfl,e⟩|⟨y,u,rfl,e⟩
   .exact nomatch e
   .injection e with d _;rw[d]
 byValue:=λk v h=>by
  rcases pb h with⟨i,t,rfl,rfl⟩|⟨x,t,rfl,rfl⟩<;>rfl
 pyHash:=λf h=>by
  rcases pb f with⟨i,t,rfl,rfl⟩|⟨x,t,rfl,rfl⟩
  .exact wpAny_pyHash_int h
  .exact wpAny_pyHash_str h
 eqBool:=λm f h=>by
  rcases pb m with⟨i,t,rfl,rfl⟩|⟨x,t,rfl,rfl⟩
  .rcases pb f with⟨j,u,rfl,rfl⟩|⟨y,u,rfl,rfl⟩
   .rw[Rz]at h;exact wpAny_eqBool_int h
   .rw[Ln]at h;exact SeqAt.EqAt.int_str i t y u _ _ _ _ h
  .rcases pb f with⟨j,u,rfl,rfl⟩|⟨y,u,rfl,rfl⟩
   .rw[O3]at h;exact SeqAt.EqAt.str_int x t j u _ _ _ _ h
   .rw[L5]at h;exact wpAny_eqBool_str h
 «strs»:=λk x t v h=>by
  rcases pb h with⟨i,u,rfl,e⟩|⟨y,u,rfl,e⟩
  .exact nomatch e
  .injection e with d _
   subst d;cases v<;>rfl
def RK(a:Pg)(w:World)(i:Int)(t:Tok):(lP a w).is (.inl i) (.int i t)=true:=Q6 i t
def OO(a:Pg)(w:World)(x:Str)(t:Tok):(lP a w).is (.inr x) (.str x t)=true:=OK x t
inductive V where
 |non|bl (b:Bool)|int (i:Int)|str (x:Str)|byt (b:Array UInt8)|flt (b:UInt64)|ref (a:Ad)|ty (n:String)
 deriving DecidableEq
def RelV:V->Vl->Prop
 |.non,u=>u=Value.none
 |.bl b,u=>u=Value.bool b
 |.int i,u=>∃t,u=Value.int i t
 |.str x,u=>∃t,u=Value.str x t
 |.byt b,u=>∃t,u=Value.bytes b t
 |.flt b,u=>∃t,u=Value.float b t
 |.ref a,u=>u=Value.ref a
 |.ty n,u=>u=Value.type n
abbrev Vals:List V->List Vl->Prop:=Paired RelV
def Vals.length{xs:List V}{a:Vs}(r:Vals xs a):xs.length=a.length:=oM r
theorem Vals.get:∀{a:List V} {b:Vs} {i:Nat} {x:V},Vals a b->a[i]?=some x->∃u,b[i]?=some u/\RelV x u
 |_,_,_,_,.nil,e=>by simp at e
 |_,_,0,_,.cons r _,e=>by simp at e;subst e;exact#[_,zZ,r]
 |_,_,i+1,x,.cons _ t,e=>by
  obtain⟨u,c,d⟩:=Vals.get (i:=i) (x:=x) t (by simpa using e);exact#[u,by simpa using c,d]
theorem Vals.set{x:V}{u:Vl}(r:RelV x u):∀{xs:List V} {a:Vs} (i:Nat),Vals xs a->Vals (xs.set i x) (a.set i u)
 |_,_,_,.nil=> .nil
 |_,_,0,.cons _ t=> .cons r t
 |_,_,i+1,.cons q t=> .cons q (Vals.set r i t)
theorem Vals.append:∀{a b:List V} {c d:Vs},Vals a c->Vals b d->Vals (a++b) (c++d)
 |_,_,_,_,.nil,s=>s
 |_,_,_,_,.cons r t,s=> .cons r (Vals.append t s)
theorem Vals.take:∀{a:List V} {b:Vs} (n:Nat),Vals a b->Vals (a.take n) (b.take n)
 |_,_,0,_=> .nil
 |_,_,_+1,.nil=> .nil
 |_,_,n+1,.cons r t=> .cons r (Vals.take n t)
theorem Vals.drop:∀{a:List V} {b:Vs} (n:Nat),Vals a b->Vals (a.drop n) (b.drop n)
 |_,_,0,r=>r
 |_,_,_+1,.nil=> .nil
 |_,_,n+1,.cons _ t=>Vals.drop n t
def RelO:Option V->Option Vl->Prop
 |some v,some u=>RelV v u
 |none,none=>True
 |_,_=>False
def KV{a:Type}:List (a×V)->List (a×Vl)->Prop:=Paired λ(p:a×V) (q:a×Vl)=>p.1=q.1/\RelV p.2 q.2
def kV:cD->V
 |.inl i=> .int i
 |.inr x=> .str x
inductive HO where
 |lst (xs:List V)
 |tup (xs:List V)
 |dK (kvs:List (cD×V))|dT (kvs:List (List cD×V))
 |set (S:Int->Bool) (n:Nat)
 |ins (C dx:Ad) (fs:List (Str×V))
 |own (x:Ad)
 |xd (fs:List (Str×V))
 |met (f x:Ad)
 |rng (lo hi:Int)
 |frz (o:Obj) (u:HO)
 |tbl (ps:AV)
 |ext (φ:Heap->Prop)
abbrev Hp:=Ad->Option HO
def bC(H:Hp)(a:Ad)(o:HO):Hp:=λb=>if b=a then some o else H b
def bG{H:Hp}{a:Ad}{o:HO}:bC H a o a=some o:=by unfold bC;rw[wB zZ]
def bL{H:Hp}{a b:Ad}{o:HO}(h:b≠a):bC H a o b=H b:=by unfold bC;rw[wA h]
def MU{H:Hp}{a:Ad}{o u:HO}:bC (bC H a o) a u=bC H a u:=by
 funext b;unfold bC;split<;>rfl
def ju{H:Hp}{a b:Ad}{o u:HO}(h:H a=some o)(c:H b=some u)(d:o≠u):a≠b:=by
 intro e;subst e;rw[h]at c;exact d (f' c)
def Kq:HO->Nat
 |.lst _=>0
 |.tup _=>1
 |.dK _=>2
 |.dT _=>3
 |.tbl _=>4
 |.ext _=>5
 |.rng _ _=>6
 |.frz _ _=>7
 |_=>8
def nE{H:Hp}{a b:Ad}{o u:HO}(h:H a=some o)(k:H b=some u)(d:(Kq o==Kq u)=false:=by rfl):a≠b:=ju h k λe=>by rw[e,xL]at d;cases d
def cV{H:Hp}{a b:Ad}{o:HO}(h:H a=some o)(c:H b=none):a≠b:=by
 intro e;subst e;rw[h]at c;cases c
def TupD(h:Heap)(a:Ad)(b:AV):Prop:=∃o,h.get? a=some o/\o.cls=.type "tuple"/\∃n,o.data=.seq b n/\o.dict=none
def TupD.is{h:Heap}{a:Ad}{b:AV}(p:TupD h a b):IsTup h a b:=let⟨o,e,c,n,d,_⟩:=p;#[o,e,c,n,d]
def TupD.new(h:Heap)(a:AV):TupD (h.push {cls:= .type "tuple",data:= .seq a}) h.objs.size a:=#[_,dG _ zZ,zZ,_,zZ,zZ]
section
variable(P:Pg)(w:World)
def ObjOk(H:Hp)(h:Heap)(a:Ad):HO->Prop
 |.lst d=>d.length<=sizeLine/\∃(b:Vs) (n:Nat),Vals d b/\h.get? a=some {cls:= .type "list",data:= .seq b.toArray n}
 |.tup d=>d.length<=sizeLine/\∃b:Vs,Vals d b/\TupD h a b.toArray
 |.dK c=>c.length<=sizeLine/\(a==sysModules)=false/\∃j,KV c j/\h.DictOf (lP P w) a j
 |.dT c=>c.length<=sizeLine/\(a==sysModules)=false/\∃d:List (List cD×Ad×Vl),
   Paired (λ(p:List cD×V) (q:List cD×Ad×Vl)=>p.1=q.1/\H q.2.1=some (.tup (p.1.map kV))/\RelV p.2 q.2.2) c d/\
   ∃o k r,h.get? a=some o/\o.ExactDict/\o.data=.dict k r/\k.toList=d.map (entryOfKey (tupleKind (lP P w)))/\(d.map (·.1)).Nodup
 |.set S n=>h.SetOf (intKind P w) a S n
 |.ins C g fs=>H g=some (.own a)/\fs.length<=1000/\g≠a/\h.get? a=some (PySem.W.instObj C g)/\
   ∃e,h.Ns1 g e/\(∀f,RelO (fs.lookup f) (e f))/\PySem.Within e (fs.map (·.1))
 |.own _=>∃o,h.get? a=some o
 |.xd fs=>∃e,h.Ns1 a e/\∀f,RelO (fs.lookup f) (e f)
 |.rng lo s=>∃t u v,h.get? a=some {cls:= .type "range",data:= .fields #v[.int lo t,.int s u,.int 1 v]}
 |.frz o u=>h.get? a=some o/\ObjOk H h a u
 |.tbl y=>h.get? a=some {cls:= .none,data:= .fields y}
 |.met f x=>h.get? a=some (PySem.W.methodObj (.ref f) (.ref x))
 |.ext i=>i h/\(∃o,h.get? a=some o)/\∀l m:Heap,i l->(∀o,l.get? a=some o->m.get? a=some o)->i m
def HOk(H:Hp)(h:Heap):Prop:=∀a o,H a=some o->ObjOk P w H h a o
end
section
variable{P:Pg}{w:World}{H H':Hp}{h h':Heap}{a:Ad}{o:HO}
def ObjOk.lt(x:ObjOk P w H h a o):a<h.objs.size:=by
 cases o with
 |lst xs=>obtain⟨_,_,_,_,e⟩:=x;exact cy e
 |tup xs=>obtain⟨_,_,_,p⟩:=x;exact p.is.lt
 |dK b=>obtain⟨_,_,_,_,o,_,_,e,_⟩:=x;exact cy e
 |dT b=>obtain⟨_,_,_,_,o,_,_,e,_⟩:=x;exact cy e
 |set S n=>obtain⟨o,_,_,_,e,_⟩:=x;exact cy e
 |ins C c fs=>obtain⟨_,_,_,e,_⟩:=x;exact cy e
 |own y=>obtain⟨_,e⟩:=x;exact cy e
 |xd fs=>obtain⟨_,⟨_,_,_,e,_⟩,_⟩:=x;exact cy e
 |rng lo d=>obtain⟨_,_,_,e⟩:=x;exact cy e
 |frz g u=>obtain⟨e,_⟩:=x;exact cy e
 |tbl i=>exact cy (show h.get? a=some _ from x)
 |met f y=>exact cy (show h.get? a=some _ from x)
 |ext j=>obtain⟨_,⟨_,e⟩,_⟩:=x;exact cy e
theorem Paired.mapP{e g:Type}{F G:e->g->Prop}:∀{c:List e} {d:List g},Paired F c d->(∀a b,F a b->G a b)->Paired G c d
 |_,_,.nil,_=> .nil
 |_,_,.cons r t,f=> .cons (f _ _ r) (Paired.mapP t f)
def ObjOk.stay(x:ObjOk P w H h a o)(k:∀b u,(b=a\/H b=some (.own a))->h.get? b=some u->h'.get? b=some u)(E:∀b,H b=some (.own a)->H' b=some (.own a)) (ht:∀b m,H b=some (.tup m)->H' b=some (.tup m)):ObjOk P w H' h' a o:=by
 induction o with
 |lst m=>obtain⟨z,l,n,r,e⟩:=x;exact#[z,l,n,r,k _ _ (.inl zZ) e]
 |tup m=>obtain⟨z,l,r,g,e,c⟩:=x;exact#[z,l,r,g,k _ _ (.inl zZ) e,c]
 |dK s=>obtain⟨z,y,G,r,g,i,j,e,c⟩:=x;exact#[z,y,G,r,g,i,j,k _ _ (.inl zZ) e,c]
 |dT s=>
  obtain⟨z,y,m,r,g,i,j,e,c⟩:=x;exact#[z,y,m,Paired.mapP r λp q z=>#[z.1,ht _ _ z.2.1,z.2.2],g,i,j,k _ _ (.inl zZ) e,c]
 |set S n=>obtain⟨g,i,j,t,e,c⟩:=x;exact#[g,i,j,t,k _ _ (.inl zZ) e,c]
 |ins C M fs=>
  obtain⟨d,z,I,e,A,⟨B,i,j,J,c⟩,r⟩:=x;exact#[E _ d,z,I,k _ _ (.inl zZ) e,A,#[B,i,j,k _ _ (.inr d) J,c],r]
 |own y=>obtain⟨g,e⟩:=x;exact#[g,k _ _ (.inl zZ) e]
 |xd fs=>obtain⟨A,⟨B,i,j,e,c⟩,r⟩:=x;exact#[A,#[B,i,j,k _ _ (.inl zZ) e,c],r]
 |rng lo N=>obtain⟨t,u,v,e⟩:=x;exact#[t,u,v,k _ _ (.inl zZ) e]
 |frz g u L=>obtain⟨e,q⟩:=x;exact#[k _ _ (.inl zZ) e,L q]
 |tbl D=>
  have e:h.get? a=some {cls:= .none,data:= .fields D}:=x;show h'.get? a=some {cls:= .none,data:= .fields D};exact k a _ (.inl zZ) e
 |met f y=>
  have e:h.get? a=some (PySem.W.methodObj (.ref f) (.ref y)):=x;show h'.get? a=some (PySem.W.methodObj (.ref f) (.ref y));exact k a _ (.inl zZ) e
 |ext O=>obtain⟨p,⟨o,e⟩,st⟩:=x;exact#[st _ _ p λo q=>k _ _ (.inl zZ) q,#[o,k _ _ (.inl zZ) e],st]
def HOk.lt(x:HOk P w H h)(e:H a=some o):a<h.objs.size:=(x a o e).lt
def HOk.fresh(x:HOk P w H h)(e:h.objs.size<=a):H a=none:=by
 cases q:H a with
 |none=>rfl
 |some u=>exact wC (f7 (x.lt q) e) (mR _)
def HOk.kept(x:HOk P w H h)(k:∀b u,h.get? b=some u->h'.get? b=some u):HOk P w H h':=λa o e=>
 (x a o e).stay (λb u _ q=>k b u q) (λ_ q=>q) λ_ _ q=>q
def HOk.laid(x:HOk P w H h)(k:∀b u,h.get? b=some u->h'.get? b=some u)(g:h.objs.size<=a)(new:ObjOk P w (bC H a o) h' a o):HOk P w (bC H a o) h':=λb u e=>by
 have d:=x.fresh g;by_cases f:b=a
 .subst f;rw[bG]at e;cases e;exact new
 .rw[bL f]at e;exact(x b u e).stay (λc v _ q=>k c v q) (λc q=>by rw[bL (cV q d)];exact q) λc i q=>by rw[bL (cV q d)];exact q
end
def Rd(H:Hp)(a:Ad)(u:HO):Prop:=H a=some u\/∃o,H a=some (.frz o u)
def Rd.ok{P:Pg}{w:World}{H:Hp}{h:Heap}{a:Ad}{u:HO}(r:Rd H a u)(x:HOk P w H h):ObjOk P w H h a u:=by
 rcases r with r|⟨o,r⟩
 .exact x a u r
 .obtain⟨_,q⟩:=x a _ r;exact q
def x8:Option HO->Prop
 |some (.lst _)=>True
 |some (.dK _)=>True
 |some (.dT _)=>True
 |some (.set _ _)=>True
 |some (.ins _ _ _)=>True
 |some (.ext _)=>True
 |_=>False
section
variable{P:Pg}{w:World}{H:Hp}{h h':Heap}{x e:Ad}{a:HO}
def HOk.write(ok:HOk P w H h)(i:x8 (H x))(n:e=x\/H e=some (.own x))(k:∀b u,b≠e->h.get? b=some u->h'.get? b=some u)(m:∃u,h'.get? e=some u)(new:ObjOk P w (bC H x a) h' x a):HOk P w (bC H x a) h':=λb u q=>by
 have f:∀c y,H c=some (.own y)->c≠x:=λc y r z=>by subst z;rw[r]at i;exact i
 have g:∀c j,H c=some (.tup j)->c≠x:=λc j r z=>by subst z;rw[r]at i;exact i
 by_cases l:b=x
 .subst l;rw[bG]at q;cases q;exact new
 .rw[bL l]at q;by_cases d:b=e
  .have o:H b=some (.own x):=by
    rcases n with z|z
    .exact wC (d.trans z) l
    .rw[d];exact z
   rw[q]at o;cases o;obtain⟨v,p⟩:=m;exact#[v,by rw[d];exact p]
  .refine(ok b u q).stay (λc v hc r=>k c v ?_ r) (λc r=>by rw[bL (f c b r)];exact r) λc j r=>by rw[bL (g c j r)];exact r
   rcases hc with rfl|hc
   .exact d
   .rintro rfl
    rcases n with z|z
    .exact f c b hc z
    .rw[hc]at z;cases z;exact l rfl
end
structure Un(fs ex:As)(H H':Hp)(h h':Heap):Prop where
 keep:∀b o,h.get? b=some o->H b=none->b∉fs->b∉ex->h'.get? b=some o
 slot:∀b o,h.get? b=some o->H b=none->b∈fs->b∉ex->∃sl,h'.get? b=some {o with slots:=sl}
 free:∀b o,h.get? b=some o->H b=none->b∉ex->H' b=none
 there:∀b o,h.get? b=some o->b∉ex->∃o',h'.get? b=some o'
 tups:∀b xs,H b=some (.tup xs)->H' b=some (.tup xs)
 frzs:∀b o u,H b=some (.frz o u)->H' b=some (.frz o u)
 tbls:∀b ps,H b=some (.tbl ps)->∃more,H' b=some (.tbl (ps++more))
section
variable{fs g c f:As}{H i j:Hp}{h d l h':Heap}{a x e:Ad}{o:HO}
def Un.any(u:Un fs c H i h d){b:Ad}{ob:Obj}(q:h.get? b=some ob)(n:H b=none)(a:b∉c):∃sl,d.get? b=some {ob with slots:=sl}:=by
 by_cases e:b∈fs
 .exact u.slot b ob q n e a
 .exact#[ob.slots,u.keep b ob q n e a]
def Un.kept(k:∀b u,h.get? b=some u->h'.get? b=some u):Un fs c H H h h':=
 #[λb a q _ _ _=>k b a q,λb a q _ _ _=>#[a.slots,k b a q],λ_ _ _ n _=>n,λb a q _=>#[a,k b a q],λ_ _ q=>q,λ_ _ _ q=>q,λ_ d q=>#[#v[],by rw[q];simp]]
def Un.refl:Un fs c H H h h:=Un.kept λ_ _ q=>q
def Un.laid(k:∀b u,h.get? b=some u->h'.get? b=some u)(e:h.objs.size<=a)(d:H a=none):Un fs c H (bC H a o) h h' where
 keep:=λb u q _ _ _=>k b u q
 slot:=λb u q _ _ _=>#[u.slots,k b u q]
 free:=λb u q n _=>by rw[bL (dj (f7 (cy q) e))];exact n
 there:=λb u q _=>#[u,k b u q]
 tups:=λb f q=>by rw[bL (cV q d)];exact q
 frzs:=λb u f q=>by rw[bL (cV q d)];exact q
 tbls:=λb g q=>#[#v[],by rw[bL (cV q d),q];simp]
def Un.write(d:x8 (H x))(l:e=x\/H e=some (.own x))(k:∀b u,b≠e->h.get? b=some u->h'.get? b=some u)(f:∃u,h'.get? e=some u):Un fs c H (bC H x o) h h':=by
 have i:∀b,H b=none->b≠x:=λb n z=>by subst z;rw[n]at d;exact d
 have j:∀b,H b=none->b≠e:=λb n z=>by
  subst z
  rcases l with r|r
  .exact i b n r
  .rw[n]at r;cases r
 have g:∀b u,H b=some u-> ¬x8 (some u)->b≠x:=λb u q m z=>by subst z;rw[q]at d;exact m d
 refine#[λb u q n _ _=>k b u (j b n) q,λb u q n _ _=>#[u.slots,k b u (j b n) q],λb u q n _=>by rw[bL (i b n)];exact n,λb u q _=>?_,
  λb p q=>by rw[bL (g b _ q λz=>z)];exact q,λb u p q=>by rw[bL (g b _ q λz=>z)];exact q,λb s q=>#[#v[],by rw[bL (g b _ q λz=>z),q];simp]]
 by_cases a:b=e
 .subst a;exact f
 .exact#[u,k b u a q]
end
def Bm(h:Heap)(H:Hp):As:=(List.range h.objs.size).filter λa=>(H a).isSome
def oP(h:Heap)(H:Hp):Heap:=PySem.W.hideAll h (Bm h H)
def Nt(h:Heap)(H:Hp):(oP h H).objs.size=h.objs.size:=PySem.W.hideAll_size _ _
def Gk{h:Heap}{H:Hp}{b:Ad}{o:Obj}(e:h.get? b=some o)(n:H b=none):(oP h H).get? b=some o:=
 PySem.W.hideAll_get _ e λa=>by
  have q:(H b).isSome=true:=(cQ.mp a).2;rw[n]at q;simp at q
def Ra{h:Heap}{H:Hp}{b:Ad}{o:Obj}(e:(oP h H).get? b=some o):h.get? b=some o/\H b=none:=by
 have a:h.get? b=some o:=PySem.W.of_hideAll (Bm h H) e;refine#[a,?_];cases q:H b with
 |none=>rfl
 |some x=>
  have c:b∈Bm h H:=cQ.mpr #[fb.mpr (cy a),by simp[q]];have z:(oP h H).get? b=none:=PySem.W.hideAll_none (Bm h H) c;rw[z]at e;cases e
def MA(g h:Heap)(L:Ad):AO:=(List.range h.objs.size).filterMap λa=>if a=L\/(g.get? a).isSome=true then none else(h.get? a).map λo=>(a,o)
def rest(g h:Heap)(L d:Ad):AO:=(MA g h L).filter λp=>decide (p.1≠d)
structure Mod(K:S4)(mg:SV)(base:Heap):Prop where
 kin:K.In base
 glob:base.Ns mainGlobals mg
 blt:∃mb,base.Ns builtinsNs mb/\∀x:Str,x≠"__name__"->mb x=bootBuiltins x
 nolimit:base.NoLimit
structure Cx where
 prog:Pg
 w:World
 K:S4
 mg:SV
 base:Heap
 A:Ar
 N:Ss
 s₀:Sh
 H₀:Hp
 env:Env
 outer:List Env
 stack:List Env
 ex:As
 fn:Str->Bool
 calm:Bool
 pn:AO
 xe:VP
def lN(l:List Env):As:=l.filterMap (·.frame)
abbrev Cx.fs(X:Cx):As:=lN X.outer
def AF(a:Scope)(x:Str):Prop:=a.names.lookup x=some .local\/a.names.lookup x=some .cell\/a.names.lookup x=some .free
def xi(a:Scope)(x:Str):Prop:=a.names.lookup x=some .local\/a.names.lookup x=some .cell
def EA(a:Env)(h:Heap)(m:SV)(x:Str)(u:Vl):Prop:=
 (a.kindOf x=some .local/\m x=some u)\/((a.kindOf x=some .cell\/a.kindOf x=some .free)/\∃c,a.cells.lookup x=some c/\h.IsCell c (some u))
structure Cx.Ok(X:Cx):Prop where
 mod:Mod X.K X.mg X.base
 kind:X.env.scope.kind=.function
 glob:X.env.globals=mainGlobals
 blt:X.env.builtins=builtinsNs
 above:X.s₀.heap.objs.size<=X.env.locals
 inj:∀x y c,X.env.cells.lookup x=some c->X.env.cells.lookup y=some c->x=y
 has:∀x,(X.env.kindOf x=some .cell\/X.env.kindOf x=some .free)->∃c,X.env.cells.lookup x=some c
 cab:∀x c,X.fn x=true->X.env.cells.lookup x=some c->X.s₀.heap.objs.size<=c
 hd:X.calm=true->X.A.handled=none
 frames:X.A.frames=some X.stack
 stk:X.stack=X.outer\/(X.stack=X.env::X.outer/\X.env.frame=some X.env.locals)
 exf:∀b∈X.ex,b≠X.env.locals/\∀x c,X.env.cells.lookup x=some c->c≠b
 bs:∀b o,X.base.get? b=some o->X.s₀.heap.get? b=some o/\X.H₀ b=none
 bsz:X.base.objs.size<=X.s₀.heap.objs.size
 noex:∀b o,X.base.get? b=some o->b∉X.ex
 exfs:∀b∈X.ex,b∉X.fs
 funs:X.s₀.heap.FunFrames X.base X.outer
 frf:∀b∈X.fs,X.H₀ b=none
structure Inv(X:Cx)(za:AO)(σ:List (Option V))(H:Hp)(s:Sh):Prop where
 ok:X.Ok
 os:s.os=X.s₀.os
 bare:AllBare s.gens
 base:Un X.fs X.ex X.H₀ H X.s₀.heap s.heap
 loc:∃m,s.heap.Ns X.env.locals m/\∀(i:Nat) (x:Str) (v:V),X.N[i]?=some x->σ[i]?=some (some v)->AF X.env.scope x->∃u,RelV v u/\EA X.env s.heap m x u
 cell:∀x c,X.env.cells.lookup x=some c->∃v,s.heap.IsCell c v
 free:H X.env.locals=none
 freeC:∀x c,X.env.cells.lookup x=some c->H c=none
 pin:∀p∈X.pn++za,s.heap.get? p.1=some p.2/\H p.1=none/\p.1≠X.env.locals/\p.1∉X.fs/\∀v,p.2.data≠ .cell v
 hok:HOk X.prog X.w H s.heap
 len:σ.length=X.N.length
section
variable{X:Cx}{f:AO}{g:List (Option V)}{H H':Hp}{s:Sh}{h':Heap}
def Cx.Ok.nofr(ok:X.Ok){b:Ad}{o:Obj}(e:X.base.get? b=some o):b∉X.fs:=λa=>by
 have:=(ok.funs.mem a).1;rw[e]at this;cases this
def Inv.bs(I:Inv X f g H s):∀b o,X.base.get? b=some o->s.heap.get? b=some o/\H b=none:=λb o e=>
 #[I.base.keep b o (I.ok.bs b o e).1 (I.ok.bs b o e).2 (I.ok.nofr e) (I.ok.noex b o e),I.base.free b o (I.ok.bs b o e).1 (I.ok.bs b o e).2 (I.ok.noex b o e)]
def Inv.bk(I:Inv X f g H s):∀b o,X.base.get? b=some o->s.heap.get? b=some o:=λb o e=>(I.bs b o e).1
def Inv.mod(I:Inv X f g H s):Mod X.K X.mg X.base:=I.ok.mod
def Inv.kIn(I:Inv X f g H s):X.K.In s.heap:=I.ok.mod.kin.keeps I.bk
def Inv.lt(I:Inv X f g H s):X.env.locals<s.heap.objs.size:=let⟨_,a,_⟩:=I.loc;a.lt
def Inv.sz(I:Inv X f g H s):X.s₀.heap.objs.size<=s.heap.objs.size:=cP I.ok.above (eM I.lt)
def Inv.nofs(I:Inv X f g H s){a:Ad}(h:s.heap.objs.size<=a):a∉X.fs:=λb=>by
 obtain⟨_,o,c,_⟩:=I.ok.funs.mem b;exact wC (f7 (cy c) (cP I.sz h)) (mR _)
def Inv.cne(I:Inv X f g H s):∀x c,X.env.cells.lookup x=some c->c≠X.env.locals:=λx c e z=>by
 obtain⟨v,o,d,h⟩:=I.cell x c e;obtain⟨m,⟨i,j,k,a,b,_⟩,_⟩:=I.loc;rw[z,a]at d;cases d;rw[b]at h;cases h
def Inv.funs(I:Inv X f g H s):s.heap.FunFrames X.base X.outer:=by
 have all:∀(l:List Env),(∀b∈lN l,b∈X.fs)->X.s₀.heap.FunFrames X.base l->s.heap.FunFrames X.base l:=by
  intro l
  induction l with
  |nil=>intro _ _;trivial
  |cons i r j=>
   intro h k;obtain⟨m,⟨L,o,a,n,p,q⟩,t⟩:=k;have c:L∈X.fs:=h L (by unfold lN;rw[List.filterMap_cons,a];exact List.mem_cons_self);obtain⟨sl,e⟩:=I.base.slot L o p (I.ok.frf L c) c λz=>I.ok.exfs L z c
   exact#[m,#[L,_,a,n,e,q],j (λb d=>h b (by unfold lN;rw[List.filterMap_cons,a];exact List.mem_cons_of_mem _ d)) t]
 exact all X.outer (λ_ d=>d) I.ok.funs
def Inv.stack(I:Inv X f g H s):s.heap.FunFrames X.base X.stack:=by
 rcases I.ok.stk with e|⟨e,a⟩
 .rw[e];exact I.funs
 .rw[e];obtain⟨m,b,_⟩:=I.loc;refine .cons (by rw[I.ok.kind];decide) a b ?_ I.funs;exact Heap.get?_none_of_le (cP I.ok.bsz I.ok.above)
def Inv.stkSub(I:Inv X f g H s):∀b∈lN X.stack,b∈X.env.locals::X.fs:=λb a=>by
 rcases I.ok.stk with e|⟨e,c⟩
 .rw[e]at a;exact dS _ a
 .rw[e]at a;unfold lN at a;rw[CN,c]at a;exact a
def Inv.stkFree(I:Inv X f g H s):∀b∈lN X.stack,H b=none:=λb hb=>by
 rcases cX.mp (I.stkSub b hb)with e|hb
 .rw[e];exact I.free
 .obtain⟨_,o,a,_⟩:=I.ok.funs.mem hb;exact I.base.free b o a (I.ok.frf b hb) λz=>I.ok.exfs b z hb
def Inv.step{g':Array GenState}{t':Nat}{d':Drawn}{ch:As}(I:Inv X f g H s)(h:∀b∈ch,(b∈X.ex\/X.s₀.heap.objs.size<=b)/\b≠X.env.locals/\(∀x c,X.env.cells.lookup x=some c->c≠b)/\∀p∈X.pn++f,p.1≠b)(keep:∀b o,b≠X.env.locals->b∉X.fs->b∉ch->s.heap.get? b=some o->H b=none->h'.get? b=some o)(A:∀b o,b≠X.env.locals->b∈X.fs->b∉ch->s.heap.get? b=some o->H b=none->∃sl,h'.get? b=some {o with slots:=sl}) (free:∀b o,b∉ch->s.heap.get? b=some o->H b=none->H' b=none)
  (C:∀b o,b∉ch->s.heap.get? b=some o->∃G,h'.get? b=some G)
  (tups:∀b B,H b=some (.tup B)->H' b=some (.tup B)) (J:∀b o u,H b=some (.frz o u)->H' b=some (.frz o u)) (L:∀b O,H b=some (.tbl O)->∃more,H' b=some (.tbl (O++more)))
  (ns:∀m,s.heap.Ns X.env.locals m->h'.Ns X.env.locals m) (Q:HOk X.prog X.w H' h') (hg:AllBare g'):
  Inv X f g H' {s with heap:=h',gens:=g',drawn:=d',toks:=t'}:=by
 have M:∀b o,X.s₀.heap.get? b=some o->b≠X.env.locals:=λb o e=>dj (f7 (cy e) I.ok.above);have w:∀b o,X.s₀.heap.get? b=some o->b∉X.ex->b∉ch:=λb o e a D=>by
  rcases (h b D).1 with z|z
  .exact a z
  .exact wC (f7 (cy e) z) (mR _)
 have j:∀x c,X.env.cells.lookup x=some c->∀v,s.heap.IsCell c v->h'.IsCell c v:=λx c e v ⟨o,E,T⟩=>by
  have t:c∉ch:=λz=>(h c z).2.2.1 x c e rfl;by_cases Y:c∈X.fs
  .obtain⟨sl,q⟩:=A c o (I.cne x c e) Y t E (I.freeC x c e);exact#[_,q,T]
  .exact#[o,keep c o (I.cne x c e) Y t E (I.freeC x c e),T]
 refine#[I.ok,I.os,hg,#[λb o e n D a=>?_,λb o e n D a=>?_,λb o e n a=>?_,λb o e a=>?_,λb B e=>tups b B (I.base.tups b B e),λb o B e=>J b o B (I.base.frzs b o B e),λb O e=>?_],?_,λx c e=>?_,?_,λx c e=>?_,λp hp=>?_,Q,I.len]
 .exact keep b o (M b o e) D (w b o e a) (I.base.keep b o e n D a) (I.base.free b o e n a)
 .obtain⟨sl,y⟩:=I.base.slot b o e n D a;obtain⟨U,N⟩:=A b _ (M b o e) D (w b o e a) y (I.base.free b o e n a);exact#[U,N]
 .obtain⟨G,y⟩:=I.base.there b o e a;exact free b G (w b o e a) y (I.base.free b o e n a)
 .obtain⟨G,y⟩:=I.base.there b o e a;exact C b G (w b o e a) y
 .obtain⟨m1,y⟩:=I.base.tbls b O e;obtain⟨m2,N⟩:=L b _ y;exact#[m1++m2,by rw[N,Array.append_assoc]]
 .obtain⟨m,hn,hl⟩:=I.loc;refine#[m,ns m hn,λi x v y N e3=>?_];obtain⟨u,r,l⟩:=hl i x v y N e3;refine#[u,r,?_]
  rcases l with l|⟨k,c,e,z⟩
  .exact .inl l
  .exact .inr #[k,c,e,j x c e _ z]
 .obtain⟨v,z⟩:=I.cell x c e;exact#[v,j x c e v z]
 .obtain⟨m,⟨o,_,_,E,_⟩,_⟩:=I.loc;exact free _ o (λz=>(h _ z).2.1 zZ) E I.free
 .obtain⟨v,o,E,T⟩:=I.cell x c e;exact free c o (λz=>(h c z).2.2.1 x c e zZ) E (I.freeC x c e)
 .obtain⟨e,n,ne,nf,d⟩:=I.pin p hp;have t:p.1∉ch:=λz=>(h p.1 z).2.2.2 p hp rfl;exact#[keep p.1 p.2 ne nf t e n,free p.1 p.2 t e n,ne,nf,d]
def Inv.un{t':Nat}(I:Inv X f g H s)(u:Un X.fs [] H H' s.heap h')(c:HOk X.prog X.w H' h'):Inv X f g H' {s with heap:=h',toks:=t'}:=by
 obtain⟨m,⟨o,q,t,j,r⟩,_⟩:=id I.loc;obtain⟨sl,k⟩:=u.any j I.free (by simp);exact I.step (g':=s.gens) (d':=s.drawn) (ch:=[]) (λ_ z=>nomatch z) (λb o _ d _ e n=>u.keep b o e n d (by simp)) (λb o _ d _ e n=>u.slot b o e n d (by simp)) (λb o _ e n=>u.free b o e n (by simp)) (λb o _ e=>u.there b o e (by simp)) u.tups u.frzs u.tbls (λv l=>by
  obtain⟨w,h,i,a,p⟩:=l;rw[j]at a;cases a;exact#[_,h,i,k,p]) c I.bare
def Inv.call{g':Array GenState}{t':Nat}{d':Drawn}{ch:As}(I:Inv X f g H s)(u:Un (lN X.stack) ch H H' s.heap h')(i:HOk X.prog X.w H' h')(t:AllBare g')(d:∀b∈ch,(b∈X.ex\/X.s₀.heap.objs.size<=b)/\b≠X.env.locals/\(∀x c,X.env.cells.lookup x=some c->c≠b)/\∀p∈X.pn++f,p.1≠b):
  Inv X f g H' {s with heap:=h',gens:=g',drawn:=d',toks:=t'}:=by
 obtain⟨m,⟨o,A,B,q,r⟩,_⟩:=id I.loc;obtain⟨sl,j⟩:=u.any q I.free λz=>(d _ z).2.1 rfl;exact I.step (ch:=ch) d (λb o j v a e n=>u.keep b o e n (λz=>(cX.mp (I.stkSub b z)).elim j v) a) (λb o _ _ a e n=>u.any e n a) (λb o a e n=>u.free b o e n a) (λb o a e=>u.there b o e a) u.tups u.frzs u.tbls (λC w=>by
  obtain⟨D,k,l,h,y⟩:=w;rw[q]at h;cases h;exact#[_,k,l,j,y]) i t
def Inv.turned{t':Nat}{it:Ad}(I:Inv X f g H s)(k:∀b o,b≠it->s.heap.get? b=some o->h'.get? b=some o)(i:H it=none)(h:it≠X.env.locals)(j:it∈X.ex\/X.s₀.heap.objs.size<=it) (l:∀x c,X.env.cells.lookup x=some c->c≠it) (t:∀p∈X.pn++f,p.1≠it):Inv X f g H {s with heap:=h',toks:=t'}:=by
 have d:∀b u,H b=some u->b≠it:=λb u e z=>by rw[z,i]at e;cases e
 refine I.step (g':=s.gens) (d':=s.drawn) (ch:=[it]) (λb w=>?_) (λb o _ _ a e _=>k b o (λz=>a (by simp[z])) e) (λb o _ _ a e _=>#[o.slots,k b o (λz=>a (by simp[z])) e]) (λ_ _ _ _ n=>n)
  (λb o a e=>#[o,k b o (λz=>a (by simp[z])) e]) (λ_ _ e=>e) (λ_ _ _ e=>e) (λb D e=>#[#v[],by rw[e];simp]) (λm y=>?_) (λb u e=>?_) I.bare
 .have e:b=it:=by simpa using w
  subst e;exact#[j,h,l,t]
 .obtain⟨o,A,B,C,r⟩:=y;exact#[o,A,B,k _ o (dM h) C,r]
 .refine(I.hok b u e).stay (λc v a q=>k c v ?_ q) (λ_ q=>q) λ_ _ q=>q
  rcases a with z|z
  .rw[z];exact d b u e
  .exact d c _ z
def Inv.tok(I:Inv X f g H s)(t:Nat):Inv X f g H {s with toks:=t}:=I.un (h':=s.heap) (t':=t) Un.refl I.hok
def Inv.kept{t':Nat}(I:Inv X f g H s)(k:∀b u,s.heap.get? b=some u->h'.get? b=some u):Inv X f g H {s with heap:=h',toks:=t'}:=I.un (Un.kept k) (I.hok.kept k)
def Inv.laid{a:Ad}{o:HO}{t':Nat}(I:Inv X f g H s)(k:∀b u,s.heap.get? b=some u->h'.get? b=some u)(c:s.heap.objs.size<=a)(new:ObjOk X.prog X.w (bC H a o) h' a o):
  Inv X f g (bC H a o) {s with heap:=h',toks:=t'}:=I.un (Un.laid k c (I.hok.fresh c)) (I.hok.laid k c new)
def Inv.write{x e:Ad}{o:HO}{t':Nat}(I:Inv X f g H s)(c:x8 (H x))(d:e=x\/H e=some (.own x))(k:∀b u,b≠e->s.heap.get? b=some u->h'.get? b=some u)(a:∃u,h'.get? e=some u)(new:ObjOk X.prog X.w (bC H x o) h' x o):Inv X f g (bC H x o) {s with heap:=h',toks:=t'}:=I.un (Un.write c d k a) (I.hok.write c d k a new)
def Inv.weak{a:List (Option V)}(I:Inv X f g H s)(c:a.length=g.length)(w:∀(i:Nat) v,a[i]?=some (some v)->g[i]?=some (some v)):Inv X f a H s:=
 #[I.ok,I.os,I.bare,I.base,let⟨m,d,b⟩:=I.loc;#[m,d,λi x v e h j=>b i x v e (w i v h) j],I.cell,I.free,I.freeC,I.pin,I.hok,c.trans I.len]
def Inv.pins_of{a:AO}(I:Inv X f g H s)(h:∀p∈a,s.heap.get? p.1=some p.2/\H p.1=none/\p.1≠X.env.locals/\p.1∉X.fs/\∀v,p.2.data≠ .cell v):Inv X a g H s:=
 #[I.ok,I.os,I.bare,I.base,I.loc,I.cell,I.free,I.freeC,λp b=>(cF.mp b).elim (λz=>I.pin p (oZ _ z)) (h p),I.hok,I.len]
def Jc{N:Ss}(c:N.Nodup){i j:Nat}{x:Str}(a:N[i]?=some x)(b:N[j]?=some x):i=j:=by
 obtain⟨f,d⟩:=bU.mp a;obtain⟨g,e⟩:=bU.mp b;exact(List.getElem_inj c).mp (d.trans e.symm)
def Jx{M:Model}{A:Ar}{E:VP}{i:Nat}{x:Str}{v:V}{u:Vl}{Q:Unit->Sh->Prop}(I:Inv X f g H s)(hN:X.N.Nodup)(O:X.N[i]?=some x)(B:xi X.env.scope x)(r:RelV v u)(h:∀s',Inv X f (g.set i (some v)) H s'->(∃a,Heap.SameBut a s.heap s'.heap/\(a=X.env.locals\/X.env.cells.lookup x=some a))->Q ⟨⟩ s') (hf:X.fn x=true\/X.env.scope.names.lookup x=some .local:=by first|exact .inl rfl|exact .inr rfl|assumption):wpAny M A (storeName X.env x u) Q E s:=by
 obtain⟨m,hn,hl⟩:=id I.loc;have T:(X.env.scope.kind== .class || (X.env.scope.kind== .module&&X.env.locals != X.env.globals))=false:=by rw[I.ok.kind];rfl
 have G:i<g.length:=by rw[I.len];exact(bU.mp O).1
 have cne:=I.cne;have t:∀{a:Ad} {h':Heap},(∃o,s.heap.get? a=some o/\H a=none)->Heap.SameBut a s.heap h'->HOk X.prog X.w H h':=λ{a h'} ha l b ob e=>by
  obtain⟨_,_,C⟩:=ha;refine(I.hok b ob e).stay (λc w' hc q=>(l.2 c ?_).trans q) (λ_ q=>q) λ_ _ q=>q;rintro rfl
  rcases hc with rfl|hc
  .rw[C]at e;cases e
  .rw[C]at hc;cases hc
 rcases B with hk|hk
 .refine wpAny_storeName_local hk hn (λh' ae l=>?_) T;obtain⟨oL,_,_,af,_⟩:=id hn;refine h _ #[I.ok,I.os,I.bare,#[λb o e n J B=>?_,λb o e n J B=>?_,I.base.free,λb o e B=>?_,I.base.tups,I.base.frzs,I.base.tbls],#[_,ae,λj y v' w D e3=>?_],λy c e=>?_,I.free,I.freeC,λp hp=>?_,t #[oL,af,I.free] l,by simpa using I.len] #[_,l,.inl zZ]
  .exact(l.2 b (dj (f7 (cy e) I.ok.above))).trans (I.base.keep b o e n J B)
  .obtain⟨sl,w⟩:=I.base.slot b o e n J B;exact#[sl,(l.2 b (dj (f7 (cy e) I.ok.above))).trans w]
  .obtain⟨o',w⟩:=I.base.there b o e B;exact#[o',(l.2 b (dj (f7 (cy e) I.ok.above))).trans w]
  .by_cases L:j=i
   .subst L;rw[O]at w;cases w;rw[List.getElem?_set_self G]at D;cases D;exact#[u,r,.inl #[hk,by simp]]
   .rw[List.getElem?_set_ne (dM L)]at D;obtain⟨u',r',q⟩:=hl j y v' w D e3;refine#[u',r',?_]
    rcases q with⟨k,e⟩|⟨k,c,e,z⟩
    .refine .inl #[k,?_];have:y≠x:=λe=>L (Jc hN w (e▸O));simp[this,e]
    .exact .inr #[k,c,e,z.sameBut l (cne y c e)]
  .obtain⟨w',z⟩:=I.cell y c e;exact#[w',z.sameBut l (cne y c e)]
  .obtain⟨e,n,ne,nf,d⟩:=I.pin p hp;exact#[(l.2 p.1 ne).trans e,n,ne,nf,d]
 .have N:X.fn x=true:=by
   rcases hf with z|z
   .exact z
   .rw[z]at hk;cases hk
  obtain⟨c,hc⟩:=I.ok.has x (.inl hk);obtain⟨w',z⟩:=I.cell x c hc;refine wpAny_storeName_cell I.ok.kind hk hc z (λh' U l=>?_);obtain⟨oc,Y,aa⟩:=id z;refine h {s with heap:=h'} #[I.ok,I.os,I.bare,#[λb o e n J B=>?_,λb o e n J B=>?_,I.base.free,λb o e B=>?_,I.base.tups,I.base.frzs,I.base.tbls],#[m,hn.sameBut l (dM (cne x c hc)),λj y v' w D e3=>?_],λy c' e=>?_,I.free,I.freeC,λp hp=>?_,t #[oc,Y,I.freeC x c hc] l,by simpa using I.len] #[c,l,.inr hc]
  .exact(l.2 b (dj (f7 (cy e) (I.ok.cab x c N hc)))).trans (I.base.keep b o e n J B)
  .obtain⟨sl,w⟩:=I.base.slot b o e n J B;exact#[sl,(l.2 b (dj (f7 (cy e) (I.ok.cab x c N hc)))).trans w]
  .obtain⟨o',w⟩:=I.base.there b o e B;exact#[o',(l.2 b (dj (f7 (cy e) (I.ok.cab x c N hc)))).trans w]
  .by_cases L:j=i
   .subst L;rw[O]at w;cases w;rw[List.getElem?_set_self G]at D;cases D;exact#[u,r,.inr #[.inl hk,c,hc,U]]
   .rw[List.getElem?_set_ne (dM L)]at D;obtain⟨u',r',q⟩:=hl j y v' w D e3;refine#[u',r',?_]
    rcases q with q|⟨k,c',e,z'⟩
    .exact .inl q
    .refine .inr #[k,c',e,z'.sameBut l ?_];rintro rfl;exact L (Jc hN w (I.ok.inj _ _ _ e hc▸O))
  .by_cases ab:c'=c
   .subst ab;exact#[_,U]
   .obtain⟨w2,z2⟩:=I.cell y c' e;exact#[w2,z2.sameBut l ab]
  .obtain⟨e,n,ne,nf,d⟩:=I.pin p hp;refine#[(l.2 p.1 ?_).trans e,n,ne,nf,d];intro q;rw[q,Y]at e;have q':oc=p.2:=f' e;exact d w' (by rw[<-q'];exact aa)
def Fy{M:Model}{A:Ar}{E:VP}{i:Nat}{x:Str}{v:V}{u:Vl}{Q:Unit->Sh->Prop}(I:Inv X f g H s)(b:X.N.Nodup)(c:X.N[i]?=some x)(d:xi X.env.scope x)(r:RelV v u)(h:∀a,Inv X f (g.set i (some v)) H a->Q ⟨⟩ a) (e:X.fn x=true\/X.env.scope.names.lookup x=some .local:=by first|exact .inl rfl|exact .inr rfl|assumption):wpAny M A (storeName X.env x u) Q E s:=
 Jx I b c d r (λa j _=>h a j) e
def Inv.call'{a:Sh}{ch:As}(I:Inv X f g H s)(i:a.os=s.os)(u:Un (lN X.stack) ch H H' s.heap a.heap)(d:HOk X.prog X.w H' a.heap)(j:AllBare a.gens)(h:∀b∈ch,(b∈X.ex\/X.s₀.heap.objs.size<=b)/\b≠X.env.locals/\(∀x c,X.env.cells.lookup x=some c->c≠b)/\∀p∈X.pn++f,p.1≠b):Inv X f g H' a:=by
 obtain⟨h',g',d',t',k⟩:=a;have e:k=s.os:=i;subst e;exact I.call (g':=g') (t':=t') (d':=d') u d j h
end
abbrev XK:=Vl->Option Ad->Hp->Prop
abbrev St:=List (Option V)
abbrev VK:=V->Hp->Prop
abbrev TE:=St->Hp->VK->Prop
abbrev TT:=St->Hp->(Bool->Hp->Prop)->Prop
abbrev TA:=St->Hp->(List V->Hp->Prop)->Prop
structure Ends where
 nx:St->Hp->Prop
 rt:VK
 bk:St->Hp->Prop:=λ_ _=>False
 ct:St->Hp->Prop:=λ_ _=>False
abbrev TS:=Ends->St->Hp->Prop
def EP(X:Cx)(b:AO)(c:St)(Q:VK)(u:Vl)(d:Sh):Prop:=∃v a,Inv X b c a d/\RelV v u/\Q v a
def TP(X:Cx)(c:AO)(d:St)(Q:Bool->Hp->Prop)(b:Bool)(e:Sh):Prop:=∃a,Inv X c d a e/\Q b a
def AP(X:Cx)(c:AO)(d:St)(Q:List V->Hp->Prop)(e:Vs)(f:Sh):Prop:=∃a b,Inv X c d b f/\Vals a e/\Q a b
def SP(X:Cx)(c:AO)(D:Ends)(f:Flow)(d:Sh):Prop:=
 match f with
 |.next=>∃a b,Inv X c a b d/\D.nx a b
 |.brk=>∃a b,Inv X c a b d/\D.bk a b
 |.cont=>∃a b,Inv X c a b d/\D.ct a b
 |.ret u=>∃v a b,Inv X c a b d/\RelV v u/\D.rt v b
def PE(X:Cx)(e:Expr)(t:TE):Prop:=
 ∀(b:AO) (s:Sh) (a:St) (H:Hp) (Q:VK),Inv X b a H s->t a H Q->wpAny (model X.prog X.w) X.A (eval e X.env) (EP X b a Q) X.xe s
def PT(X:Cx)(e:Expr)(t:TT):Prop:=
 ∀(b:AO) (s:Sh) (a:St) (H:Hp) (Q:Bool->Hp->Prop),Inv X b a H s->t a H Q->wpAny (model X.prog X.w) X.A (isTrue e X.env (eval e X.env)) (TP X b a Q) X.xe s
def PW(X:Cx)(e:Expr)(t:TT):Prop:=
 ∀(a:Sem Vl) (c:AO) (s:Sh) (b:St) (H:Hp) (Q:Bool->Hp->Prop),Inv X c b H s->t b H Q->wpAny (model X.prog X.w) X.A (isTrue e X.env a) (TP X c b Q) X.xe s
def PW.pt{X:Cx}{e:Expr}{t:TT}(h:PW X e t):PT X e t:=h _
def PA(X:Cx)(d:List Expr)(t:TA):Prop:=
 ∀(a:Pos) (c:AO) (s:Sh) (b:St) (H:Hp) (Q:List V->Hp->Prop),Inv X c b H s->t b H Q->wpAny (model X.prog X.w) X.A (spliced (backTo a (starEach d X.env))) (AP X c b Q) X.xe s
def PS(X:Cx)(st:Stmt)(t:TS):Prop:=
 ∀(a:AO) (s:Sh) (b:St) (H:Hp) (D:Ends),Inv X a b H s->t D b H->wpAny (model X.prog X.w) X.A (exec st X.env) (SP X a D) X.xe s
def PSs(X:Cx)(st:List Stmt)(t:TS):Prop:=
 ∀(a:AO) (s:Sh) (b:St) (H:Hp) (D:Ends),Inv X a b H s->t D b H->wpAny (model X.prog X.w) X.A (execs st X.env) (SP X a D) X.xe s
def bW{b:Type}{t:Sem b}{Q c:b->Sh->Prop}{M:Model}{A:Ar}{E:VP}{s:Sh}(h:wpAny M A t Q E s)(d:∀a s,Q a s->c a s):wpAny M A t c E s:=h9 h d λ_ _ x=>x
section
variable{X:Cx}
inductive cS(i:Nat)(a:St)(H:Hp)(Q:VK):Prop|mk:∀v,a[i]?=some (some v)->Q v H->cS i a H Q
def tC(v:V):TE:=λ_ H Q=>Q v H
def MF{i:Nat}{x:Str}{f:Pos}(j:X.N[i]?=some x)(k:AF X.env.scope x)(b:(x==("__debug__":Str))=false:=by decide)(d:(x==("__classdict__":Str))=false:=by decide):PE X (.Name x f) (cS i):=by
 intro n s o H Q I h;obtain⟨v,e,h⟩:=h;obtain⟨m,p,q⟩:=I.loc;obtain⟨u,r,l⟩:=q i x v j e k;have fin:EP X n o Q u s:=#[v,H,I,r,h]
 rcases l with⟨hk,t⟩|⟨hk,c,g,a⟩
 .exact wpAny_Name (wpAny_loadName_local I.ok.kind hk p t fin) b
 .rcases hk with hk|hk
  .exact wpAny_Name (wpAny_loadName_cell I.ok.kind hk g a fin) b
  .exact wpAny_Name (wpAny_loadName_free I.ok.kind hk g a fin d) b
def bO{i j f}:PE X (.Constant (.int i) j f) (tC (.int i)):=λ_ _ _ H _ I h=>wpAny_Constant_int #[.int i,H,I.tok _,#[_,zZ],h]
def sj{b j f}:PE X (.Constant (.bool b) j f) (tC (.bl b)):=λ_ _ _ H _ I h=>Constant_bool #[.bl b,H,I,zZ,h]
def vp{j f}:PE X (.Constant .none j f) (tC .non):=λ_ _ _ H _ I h=>Constant_none #[.non,H,I,zZ,h]
def eV{x j f}:PE X (.Constant (.str x) j f) (tC (.str x)):=λ_ _ _ H _ I h=>Calls.Constant_str #[.str x,H,I.tok _,#[_,zZ],h]
def Gl(X:Cx)(x:Str):Prop:=X.env.kindOf x=some .globalImplicit
def xP{E:VP}{a:AO}{s:Sh}{b:St}{H:Hp}{x:Str}{u:Vl}{f:Pos}{Q:VP}(I:Inv X a b H s)(c:Gl X x)(d:X.mg x=some u)(h:Q u s)(e:(x==("__debug__":Str))=false:=by decide):wpAny (model X.prog X.w) X.A (eval (.Name x f) X.env) Q E s:=
 Jo I.ok.kind c (Calls.loadGlobal_global (by rw[I.ok.glob];exact I.mod.glob.keeps I.bk) d h) e
def se{E:VP}{a:AO}{s:Sh}{b:St}{H:Hp}{x:Str}{u:Vl}{f:Pos}{Q:VP}(I:Inv X a b H s)(c:Gl X x)(d:X.mg x=none)(e:bootBuiltins x=some u)(h:Q u s)(g:x≠"__name__":=by decide) (i:(x==("__debug__":Str))=false:=by decide):wpAny (model X.prog X.w) X.A (eval (.Name x f) X.env) Q E s:=by
 obtain⟨l,j,k⟩:=I.mod.blt;exact Jo I.ok.kind c (Calls.loadGlobal_builtin (by rw[I.ok.glob];exact I.mod.glob.keeps I.bk) d (by rw[I.ok.blt];exact j.keeps I.bk) ((k x g).trans e) h) i
def zX{x:Str}{v:V}{u:Vl}{f:Pos}(a:Gl X x)(b:X.mg x=some u)(r:RelV v u)(c:(x==("__debug__":Str))=false:=by decide):PE X (.Name x f) (tC v):=
 λ_ _ _ H _ I h=>xP I a b #[v,H,I,r,h] c
def Oc{x:Str}{v:V}{u:Vl}{f:Pos}(a:Gl X x)(b:X.mg x=none)(c:bootBuiltins x=some u)(r:RelV v u)(d:x≠"__name__":=by decide)(e:(x==("__debug__":Str))=false:=by decide):PE X (.Name x f) (tC v):=
 λ_ _ _ H _ I h=>se I a b c #[v,H,I,r,h] d e
variable{a b:Expr}{g o:TE}{f:Pos}
def PC(X:Cx)(g:CmpOp)(a b:Expr)(t:TE):Prop:=
 ∀(f:AO) (s:Sh) (e:St) (H:Hp) (Q:VK),Inv X f e H s->t e H Q->
  wpAny (model X.prog X.w) X.A (eval a X.env) (λv c=>wpAny (model X.prog X.w) X.A (eval b X.env) (λu d=>wpAny (model X.prog X.w) X.A (compareOp g v u) (EP X f e Q) X.xe d) X.xe c) X.xe s
def JR(b:Expr){a:CmpOp}(h:a≠ .In)(c:a≠ .NotIn):behindInMarks a b=false:=by
 have d:(a==CmpOp.In)=false:=by cases a<;>first|rfl|exact wC zZ h
 have e:(a==CmpOp.NotIn)=false:=by cases a<;>first|rfl|exact wC zZ c
 cases b<;>simp[behindInMarks,d,e]
def tB(t:TE):TT:=λa H Q=>t a H λx b=>∃c,x=.bl c/\Q c b
def Ll{c:CmpOp}{t:TE}(h:PC X c a b t)(d:behindInMarks c b=false:=by first|exact JR _ (by decide) (by decide)|rfl):PE X (.Compare a [c] [b] f) t:=λe s g H Q I hw=>wpAny_Compare1 (h e s g H Q I hw) d
def sn{e:CmpOp}{t:TE}(h:PC X e a b t)(g:behindInMarks e b=false:=by first|exact JR _ (by decide) (by decide)|rfl):PT X (.Compare a [e] [b] f) (tB t):=by
 intro i s j H Q I hw;refine wpAny_isTrue_Compare1 (bW (h i s j H _ I hw) λv p g=>bW g λu r k=>bW k λc w ⟨x,l,m,n,o⟩=>?_) g;obtain⟨d,rfl,q⟩:=o;cases n;exact m9 #[l,m,q]
def lC{e:Expr}{t:TE}(h:PE X e t)(b:∀a,isTrue e X.env a=(do let v <-a;standAt e.pos;holding [v] (truthy v)):=by intro _;rfl):PT X e (tB t):=by
 intro c s f H Q I hw;refine isTrue_plain (bW (h c s f H _ I hw) λv l ⟨x,g,i,j,k⟩=>?_) (b _);obtain⟨d,rfl,q⟩:=k;cases j;exact m9 #[g,i,q]
variable{k n:TT}{rest:List Expr}
def C7(t u:TT):TT:=λa H Q=>t a H λc b=>if c=true then u a b Q else Q false b
def RI(t u:TT):TT:=λa H Q=>t a H λc b=>if c=true then Q true b else u a b Q
def D6(t:TT):TT:=λa H Q=>t a H λc b=>Q (!c) b
def yF(b:PT X a k):PW X (.BoolOp .And [a] f) k:=by
 intro i d s g H Q I h;refine isTrue_and (bW (b d s g H Q I h) λc j e=>?_);cases c with
 |true=>exact isTrue_and_nil e
 |false=>exact e
def yS(b:PT X a k):PW X (.BoolOp .Or [a] f) k:=by
 intro i d s g H Q I h;refine isTrue_or (bW (b d s g H Q I h) λc j e=>?_);cases c with
 |false=>exact isTrue_or_nil e
 |true=>exact e
def An(l:PT X a k)(m:PW X (.BoolOp .And (b::rest) f) n):PW X (.BoolOp .And (a::b::rest) f) (C7 k n):=by
 intro o d s e H Q I h;refine isTrue_and (bW (l d s e H _ I h) λc p ⟨g,i,j⟩=>?_);cases c with
 |true=>exact m o d p e g Q i j
 |false=>exact#[g,i,j]
def zz(l:PT X a k)(m:PW X (.BoolOp .Or (b::rest) f) n):PW X (.BoolOp .Or (a::b::rest) f) (RI k n):=by
 intro o d s e H Q I h;refine isTrue_or (bW (l d s e H _ I h) λc p ⟨g,i,j⟩=>?_);cases c with
 |true=>exact#[g,i,j]
 |false=>exact m o d p e g Q i j
def l6(b:PT X a k):PT X (.UnaryOp .Not a f) (D6 k):=by
 intro d s e H Q I h;exact isTrue_not (b d s e H (λc g=>Q (!c) g) I h)
def yr(g o:TE):TE:=λa H Q=>g a H λx b=>∃c,x=.bl c/\if c=true then o a b Q else Q (.bl false) b
def Ag(g:TE):TE:=λa H Q=>g a H λx b=>∃c,x=.bl c/\Q (.bl (!c)) b
def uf{b}{t:TE}(h:PE X a t):PE X (.BoolOp b [a] f) t:=λc s d H Q I hw=>BoolOp_one (h c s d H Q I hw)
def uw(l:PE X a g)(m:PE X (.BoolOp .And (b::rest) f) o):PE X (.BoolOp .And (a::b::rest) f) (yr g o):=by
 intro e s i H Q I h;refine BoolOp_and (bW (l e s i H _ I h) λv n ⟨x,j,k,p,d⟩=>?_);obtain⟨c,rfl,d⟩:=d;cases p;refine m9 ?_;cases c with
 |true=>exact m e n i j Q k d
 |false=>exact#[.bl false,j,k,zZ,d]
def Py(d:PE X a g):PE X (.UnaryOp .Not a f) (Ag g):=by
 intro e s i H Q I h;refine UnaryOp_ (bW (d e s i H _ I h) λv m ⟨x,j,k,l,b⟩=>?_);obtain⟨c,rfl,b⟩:=b;cases l;exact not_of (m9 #[.bl (!c),j,k,zZ,b])
def N7(t:TT)(g o:TE):TE:=λa H Q=>t a H λc b=>if c=true then g a b Q else o a b Q
def P4{c:Expr}(p:PT X c k)(q:PE X a g)(r:PE X b o):PE X (.IfExp c a b f) (N7 k g o):=by
 intro e s i H Q I h;refine wpAny_IfExp (bW (p e s i H _ I h) λd j ⟨l,m,n⟩=>?_);cases d with
 |true=>exact q e j i l Q m n
 |false=>exact r e j i l Q m n
end
def SqL(K:S4)(H:Hp)(a:Ad)(xs:List V):Prop:=
 Rd H a (.lst xs)\/
  ∃(o:Obj) (b:AV) (n:Nat),K.lookup a=some o/\o.cls=.type "list"/\o.dict=none/\o.data=.seq b n/\b.size<=sizeLine/\Vals xs b.toList
def SqT(K:S4)(H:Hp)(a:Ad)(xs:List V):Prop:=
 Rd H a (.tup xs)\/
  ∃(o:Obj) (b:AV) (n:Nat),K.lookup a=some o/\o.cls=.type "tuple"/\o.data=.seq b n/\b.size<=sizeLine/\Vals xs b.toList
def DT:Vl->Option V
 |.none=>some .non
 |.bool b=>some (.bl b)
 |.int i _=>some (.int i)
 |.str x _=>some (.str x)
 |.bytes b _=>some (.byt b)
 |.float b _=>some (.flt b)
 |.ref a=>some (.ref a)
 |.type n=>some (.ty n)
 |_=>none
def RelV.abs{x:V}{u:Vl}(r:RelV x u):DT u=some x:=by
 cases x with
 |non=>cases r;rfl
 |bl _=>cases r;rfl
 |int _=>obtain⟨t,rfl⟩:=r;rfl
 |str _=>obtain⟨t,rfl⟩:=r;rfl
 |byt _=>obtain⟨t,rfl⟩:=r;rfl
 |flt _=>obtain⟨t,rfl⟩:=r;rfl
 |ref _=>cases r;rfl
 |ty _=>cases r;rfl
def RelV.inj{x y:V}{u:Vl}(r:RelV x u)(q:RelV y u):x=y:=f' (r.abs.symm.trans q.abs)
theorem Vals.inj:∀{a b:List V} {c:Vs},Vals a c->Vals b c->a=b
 |_,_,_,.nil,.nil=>rfl
 |_,_,_,.cons r t,.cons d t'=>by rw[r.inj d,Vals.inj t t']
section
variable{X:Cx}{b:AO}{c:St}{H:Hp}{s:Sh}{a:Ad}{xs ys:List V}
def S1{K:S4}(h:H a=some (.lst xs)):SqL K H a xs:= .inl (.inl h)
def S2{K:S4}(h:H a=some (.tup xs)):SqT K H a xs:= .inl (.inl h)
def Inv.list(I:Inv X b c H s)(h:SqL X.K H a xs):∃its:Vs,Vals xs its/\PlainL s.heap a its.toArray/\xs.length<=sizeLine:=by
 rcases h with h|⟨o,its,n,d,f,g,i,j,r⟩
 .obtain⟨z,its,n,r,e⟩:=h.ok I.hok;exact#[its,r,#[_,n,e,zZ,zZ,zZ],z]
 .refine#[its.toList,r,#[o,n,I.kIn a o d,f,g,by simpa using i],?_];have e:=r.length;simp only[Array.length_toList]at e;lia
def Inv.tuple(I:Inv X b c H s)(h:SqT X.K H a xs):∃its:Vs,Vals xs its/\IsTup s.heap a its.toArray/\xs.length<=sizeLine:=by
 rcases h with h|⟨o,its,n,d,f,g,i,r⟩
 .obtain⟨z,its,r,p⟩:=h.ok I.hok;exact#[its,r,p.is,z]
 .refine#[its.toList,r,#[o,I.kIn a o d,f,n,by simpa using g],?_];have e:=r.length;simp only[Array.length_toList]at e;lia
def Inv.list_inj(I:Inv X b c H s)(h:SqL X.K H a xs)(h':SqL X.K H a ys):xs=ys:=by
 obtain⟨g,r,⟨o,n,e,_,_,d⟩,_⟩:=I.list h;obtain⟨f,j,⟨l,m,i,_,_,d'⟩,_⟩:=I.list h';rw[e]at i;cases i;rw[d]at d';injection d' with k _
 have:g=f:=by simpa using congrArg Array.toList k
 subst this;exact r.inj j
def Inv.tuple_inj(I:Inv X b c H s)(h:SqT X.K H a xs)(h':SqT X.K H a ys):xs=ys:=by
 obtain⟨g,r,⟨o,e,_,n,d⟩,_⟩:=I.tuple h;obtain⟨f,j,⟨l,i,_,m,d'⟩,_⟩:=I.tuple h';rw[e]at i;cases i;rw[d]at d';injection d' with k _
 have:g=f:=by simpa using congrArg Array.toList k
 subst this;exact r.inj j
end
abbrev Cx.wish(X:Cx)(E:VP):Cx:={X with xe:=E}
abbrev Cx.nox(X:Cx):Cx:=X.wish λ_ _=>False
def Cx.Ok.wish{X:Cx}(ok:X.Ok)(E:VP):(X.wish E).Ok:=
 #[ok.mod,ok.kind,ok.glob,ok.blt,ok.above,ok.inj,ok.has,ok.cab,ok.hd,ok.frames,ok.stk,ok.exf,ok.bs,ok.bsz,ok.noex,ok.exfs,ok.funs,ok.frf]
def Cx.Ok.unwish{X:Cx}{E:VP}(ok:(X.wish E).Ok):X.Ok:=
 #[ok.mod,ok.kind,ok.glob,ok.blt,ok.above,ok.inj,ok.has,ok.cab,ok.hd,ok.frames,ok.stk,ok.exf,ok.bs,ok.bsz,ok.noex,ok.exfs,ok.funs,ok.frf]
section
variable{X:Cx}{a:AO}{b:St}{H:Hp}{s:Sh}{E:VP}
def Inv.wish(I:Inv X a b H s)(E:VP):Inv (X.wish E) a b H s:=#[I.ok.wish E,I.os,I.bare,I.base,I.loc,I.cell,I.free,I.freeC,I.pin,I.hok,I.len]
def Inv.unwish(I:Inv (X.wish E) a b H s):Inv X a b H s:=#[I.ok.unwish,I.os,I.bare,I.base,I.loc,I.cell,I.free,I.freeC,I.pin,I.hok,I.len]
def SP.unwish{D:Ends}{f:Flow}{d:Sh}(h:SP (X.wish E) a D f d):SP X a D f d:=by
 cases f with
 |next=>obtain⟨b,c,I,q⟩:=h;exact#[b,c,I.unwish,q]
 |brk=>obtain⟨b,c,I,q⟩:=h;exact#[b,c,I.unwish,q]
 |cont=>obtain⟨b,c,I,q⟩:=h;exact#[b,c,I.unwish,q]
 |ret u=>obtain⟨v,b,c,I,r,q⟩:=h;exact#[v,b,c,I.unwish,r,q]
def PSs.nox{st:List Stmt}{t:TS}(h:PSs X.nox st t):PSs X st t:=λa s b H D I hw=>
 h9 (h a s b H D (I.wish _) hw) (λ_ _ q=>q.unwish) λ_ _ z=>wE z
end
section
variable{X:Cx}{st:Stmt}{rest:List Stmt}{t u:TS}{e:Expr}{i:TE}{g:Pos}
def HV:TS:=λD a H=>D.nx a H
def mV(t u:TS):TS:=λD a H=>t {D with nx:=u D} a H
def dD:PSs X [] HV:=λ_ _ a H _ I h=>A9 #[a,H,I,h]
def bQ(c:PS X st t)(d:PSs X rest u):PSs X (st::rest) (mV t u):=by
 intro b s e H D I h;refine wpAny_execs_cons (bW (c b s e H {D with nx:=u D} I h) λf g q=>?_);cases f with
 |next=>
  obtain⟨a,i,j,q⟩:=q;exact d b g a i D j q
 |ret v=>exact q
 |brk=>exact q
 |cont=>exact q
def bS(a:PS X st t):PSs X [st] t:=by
 intro b s c H D I h;refine wpAny_execs_cons (bW (a b s c H D I h) λf d q=>?_);cases f with
 |next=>exact A9 q
 |ret v=>exact q
 |brk=>exact q
 |cont=>exact q
def Inv.quiet{a:AO}{b:St}{H:Hp}{s:Sh}(I:Inv X a b H s):interactive X.env=false:=by simp[interactive,I.ok.kind]
def zu(i:TE):TS:=λD a H=>i a H λ_ b=>D.nx a b
def i3(b:PE X e i)(c:swapsWith e none g.line X.env=pure false:=by rfl):PS X (.Expr e g) (zu i):=by
 intro d s a H D I h;exact wpAny_Expr_any (bW (b d s a H _ I h) λv l ⟨x,f,j,m,k⟩=>#[a,f,j,k]) I.quiet c
def su(i:TE):TS:=λD a H=>i a H D.rt
def cr(b:PE X e i):PS X (.Return (some e) g) (su i):=by
 intro c s a H D I h;exact wpAny_Return_some (bW (b c s a H _ I h) λv l ⟨x,d,f,j,k⟩=>#[x,a,d,f,j,k])
def um(c:TT)(t u:TS):TS:=λD a H=>c a H λb d=>if b=true then t D a d else u D a d
def dq{c:Expr}{a b:List Stmt}{i:TT}(n:PT X c i)(o:PSs X a t)(p:PSs X b u):PS X (.If c a b g) (um i t u):=by
 intro e s f H D I h;refine wpAny_If (bW (n e s f H _ I h) λd j ⟨k,l,m⟩=>?_);cases d with
 |true=>exact o e j f k D l m
 |false=>exact p e j f k D l m
def NZ:TS:=λ_ _ _=>False
def mz:PS X st NZ:=λ_ _ _ _ _ _ h=>h.elim
end
abbrev TG:=V->St->Hp->(St->Hp->Prop)->Prop
abbrev vf:=List V->St->Hp->(St->Hp->Prop)->Prop
def PG(X:Cx)(a:Expr)(t:TG):Prop:=
 ∀(c:AO) (s:Sh) (d:St) (H:Hp) (v:V) (u:Vl) (Q:St->Hp->Prop),Inv X c d H s->RelV v u->t v d H Q->
  wpAny (model X.prog X.w) X.A (assign a X.env u) (λ_ f=>∃b e,Inv X c b e f/\Q b e) X.xe s
def AH(X:Cx)(g:List Expr)(t:vf):Prop:=
 ∀(b:AO) (s:Sh) (c:St) (H:Hp) (d:List V) (e:Vs) (Q:St->Hp->Prop),Inv X b c H s->Vals d e->t d c H Q->
  wpAny (model X.prog X.w) X.A (assignInOrder ((assignEach g X.env).map (·.2)) e) (λ_ h=>∃a f,Inv X b a f h/\Q a f) X.xe s
abbrev tv:=V->V->V->Hp->(Hp->Prop)->Prop
def zB(X:Cx)(t:tv):Prop:=
 ∀(a:AO) (s:Sh) (b:St) (H:Hp) (o i v:V) (c d u:Vl) (Q:Hp->Prop),Inv X a b H s->RelV o c->RelV i d->RelV v u->t o i v H Q->
  wpAny (model X.prog X.w) X.A (setItem c d u) (λ_ f=>∃e,Inv X a b e f/\Q e) X.xe s
abbrev Cd:=V->V->Hp->VK->Prop
def HD(X:Cx)(c:Operator)(t:Cd):Prop:=
 ∀(a:AO) (s:Sh) (b:St) (H:Hp) (x y:V) (v u:Vl) (Q:VK),Inv X a b H s->RelV x v->RelV y u->t x y H Q->
  wpAny (model X.prog X.w) X.A (inplaceOp c v u) (EP X a b Q) X.xe s
section
variable{X:Cx}{d:Pos}
def gZ(i:Nat):TG:=λv a H Q=>Q (a.set i (some v)) H
def eR{i:Nat}{x:Str}(a:X.N.Nodup)(b:X.N[i]?=some x)(c:xi X.env.scope x)(e:X.fn x=true\/X.env.scope.names.lookup x=some .local:=by first|exact .inl rfl|exact .inr rfl|assumption):PG X (.Name x d) (gZ i):=by
 intro g s j H v u Q I r h;exact wpAny_assign_Name (Fy I a b c r (λk f=>#[_,H,f,h]) e)
def yA:vf:=λa b H Q=>a=[]/\Q b H
inductive lA(t:TG)(u:vf)(b:List V)(c:St)(H:Hp)(Q:St->Hp->Prop):Prop|mk:∀v r,b=v::r->(t v c H λa d=>u r a d Q)->lA t u b c H Q
def y9:AH X [] yA:=by
 intro b s a H c d Q I r h;obtain⟨e,h⟩:=h;subst e;cases r;exact assignInOrder_nil #[a,H,I,h]
def oj{e:Expr}{a:List Expr}{t:TG}{u:vf}(d:PG X e t)(f:AH X a u)(g:(assignEach (e::a) X.env).map (·.2)=assign e X.env::(assignEach a X.env).map (·.2):=by rfl):AH X (e::a) (lA t u):=by
 intro c s i H p q Q I r h;obtain⟨v,w,j,h⟩:=h;subst j;cases r with
 |cons r k=>
  rw[g];refine assignInOrder_cons (bW (d c s i H _ _ _ I r h) λ_ l ⟨b,m,n,o⟩=>?_);exact f c l b m _ _ Q n k o
inductive t0(K:S4)(n:Nat)(t:vf)(v:V)(c:St)(H:Hp)(Q:St->Hp->Prop):Prop|mk:∀a b,v=.ref a->SqT K H a b->b.length=n->t b c H Q->t0 K n t v c H Q
def zV{c:List Expr}{k:Nat}{t:vf}{n:Nat}(l:X.calm=true)(h:AH X c t)(m:(assignEach c X.env).length=n:=by rfl) (f:(assignEach c X.env).findIdx? (·.1)=none:=by rfl):PG X (.Tuple c k d) (t0 X.K n t):=by
 intro g s i H v u Q I r hw;obtain⟨a,p,q,w,x,hw⟩:=hw;subst q;cases r;obtain⟨y,j,ht,C⟩:=I.tuple w;refine assign_Tuple_tuple (I.ok.hd l) ht (by simp[m,<-x,j.length]) f λz A=>?_;have B:Inv X g i H {s with heap:=z}:=I.kept (t':=s.toks) λb o e=>A b o (dj (cy e)) e;exact h g _ i H p _ Q B (by simpa using j) hw
def FC(to b:TE)(t:tv):TG:=λv a H Q=>to a H λo c=>b a c λi d=>t o i v d λe=>Q a e
def BH{o i:Expr}{to f:TE}{t:tv}(g:PE X o to)(j:PE X i f)(k:zB X t)(l:∀v,assign (.Subscript o i d) X.env v=(do
   let a <-holding [v] (eval o X.env)
   let b <-holding [v,a] (eval i X.env)
   standAt d
   holding [v,a,b] (setItem a b v)
   release [v,a,b] []):=by intro _;rfl):PG X (.Subscript o i d) (FC to f t):=by
 intro e s c H v u Q I r h;rw[l];refine bD (iQ (bW (g e s c H _ I h) λa m ⟨x,n,p,q,w⟩=>?_));refine bD (iQ (bW (j e m c n _ p w) λb z ⟨y,A,B,C,D⟩=>?_));refine bD (Bc (bD (iQ (bW (k e z c A x y v a b u _ B q C r D) λ_ L ⟨E,G,J⟩=>?_))));exact wpAny_release #[c,E,G,J]
def ow(b:TE)(g:TG):TS:=λD a H=>b a H λx c=>g x a c D.nx
def C3{a e:Expr}{b:TE}{g:TG}(i:PE X e b)(j:PG X a g)(k:swapsWithSole [a] e d.line X.env=pure false:=by rfl)(hw:swappedStores [a] e X.env=pure none:=by rfl)
  (l:(assignEach [a] X.env).map (·.2)=[assign a X.env]:=by rfl):PS X (.Assign [a] e d) (ow b g):=by
 intro c s f H D I h;refine wpAny_Assign_stores (bW (i c s f H _ I h) λv m ⟨x,n,o,p,r⟩=>?_) k hw;rw[l];exact bW (j c m f n x v _ o p r) λ_ t q=>q
def cj{i:Nat}{x:Str}{e:Expr}{b:TE}{a:Pos}(c:X.N.Nodup)(f:X.N[i]?=some x)(g:xi X.env.scope x)(j:PE X e b)(k:swapsWith e (some (.Name x a)) d.line X.env=pure false:=by rfl)(l:X.fn x=true\/X.env.scope.names.lookup x=some .local:=by first|exact .inl rfl|exact .inr rfl|assumption):
  PS X (.Assign [.Name x a] e d) (ow b (gZ i)):=by
 intro m s n H D I h;refine wpAny_Assign_Name (bW (j m s n H _ I h) λv u ⟨y,o,p,q,r⟩=>?_) k;exact Fy p c f g q (λw t=>#[_,o,t,r]) l
def Gc(i:Nat)(b:TE)(c:Cd):TS:=λD a H=>∃x,a[i]?=some (some x)/\b a H λy d=>c x y d λz e=>D.nx (a.set i (some z)) e
def KJ{i:Nat}{x:Str}{e:Expr}{q:TE}{j:Operator}{t:Cd}{b:Pos}(C:X.N.Nodup)(A:X.N[i]?=some x)(n:xi X.env.scope x)(E:PE X e q)(G:HD X j t)(J:X.fn x=true\/X.env.scope.names.lookup x=some .local:=by first|exact .inl rfl|exact .inr rfl|assumption):
  PS X (.AugAssign (.Name x b) j e d) (Gc i q t):=by
 intro o s B H D I h;obtain⟨v,L,h⟩:=h;obtain⟨m,M,N⟩:=I.loc;have p:AF X.env.scope x:=by rcases n with k|k;exact .inl k;exact .inr (.inl k)
 obtain⟨u,r,l⟩:=N i x v A L p;refine wpAny_AugAssign_Name ?_;have go:wpAny (model X.prog X.w) X.A (eval e X.env) (λw f=>wpAny (model X.prog X.w) X.A (inplaceOp j u w) (λr g=>wpAny (model X.prog X.w) X.A (storeName X.env x r) (λ_=>SP X o D .next) X.xe g) X.xe f) X.xe s:=by
  refine bW (E o s B H _ I h) λw O ⟨y,Q,T,U,Y⟩=>?_;refine bW (G o O B Q v y u w _ T r U Y) λz s2 ⟨zv,H2,I2,r2,q2⟩=>?_;exact Fy I2 C A n r2 (λs3 I3=>#[_,H2,I3,q2]) J
 rcases l with⟨hk,hm⟩|⟨hk,c,hc,a⟩
 .exact wpAny_loadName_local I.ok.kind hk M hm go
 .rcases hk with hk|hk
  .exact wpAny_loadName_cell I.ok.kind hk hc a go
  .rcases n with k|k
   .have:X.env.scope.names.lookup x=some .free:=hk;rw[k]at this;cases this
   .have:X.env.scope.names.lookup x=some .free:=hk;rw[k]at this;cases this
def NA(f:Int->Int->Int):Cd:=λx y H Q=>∃i j,x=.int i/\y=.int j/\Q (.int (f i j)) H
def GV:HD X .Add (NA λi j=>i+j):=by
 intro e s f H x y v u Q I a b h;obtain⟨i,j,c,d,q⟩:=h;subst c;subst d;obtain⟨t,rfl⟩:=a;obtain⟨g,rfl⟩:=b;exact iadd_int #[.int _,H,I.tok _,#[_,zZ],q]
end
section
variable{X:Cx}{a:Pos}
def Ib(c:TT)(h:TS):TS:=λD a H=>∃W:Nat->St->Hp->Prop,(∃m,W m a H)/\∀m a H,W m a H->
 c a H λb e=>if b=true then ∃N:St->Hp->Prop,(∀d f,N d f->∃g,g<m/\W g d f)/\h {D with nx:=N,ct:=N,bk:=D.nx} a e else D.nx a e
def IH{c:Expr}{g:List Stmt}{u:TT}{w:TS}(x:PassesOwn (model X.prog X.w) X.A X.env X.xe)(E:PT X c u)(G:PSs X g w):PS X (.While c g [] a) (Ib u w):=by
 intro m s J H D I h;obtain⟨W,⟨L,M⟩,turn⟩:=h;refine wpAny_While (codeAny_whileLoop (λn O=>∃i y,Inv X m i y O/\W n i y) ?_ L #[J,H,I,M]);rintro n Q ⟨e,z,T,U⟩;refine u9 x (bW (E m Q e z _ T (turn n e z U)) λb Y ⟨A,B,k⟩=>?_);cases b with
 | true=>
  obtain⟨N,C,k⟩:=k;rw[wB zZ];refine u9 x (bW (G m Y e A _ B k) λf s3 l=>?_);cases f with
  |next=>
   obtain⟨d,j,o,p⟩:=l;obtain⟨q,r,t⟩:=C d j p;exact#[q,r,d,j,o,t]
  |cont=>
   obtain⟨d,j,o,p⟩:=l;obtain⟨q,r,t⟩:=C d j p;exact#[q,r,d,j,o,t]
  |brk=>exact l
  |ret v=>exact l
 |false=>
  rw[wA fX];exact A9 #[e,A,B,k]
end
structure It where
 go:Nat->Hp->Prop
 yld:Nat->Hp->V->Hp->Prop
 stop:Nat->Hp->Prop
def FpOk(X:Cx)(a:AO)(H:Hp)(b:Ad):Prop:=
 H b=none/\b≠X.env.locals/\b∉X.fs/\(b∈X.ex\/X.s₀.heap.objs.size<=b)/\(∀x c,X.env.cells.lookup x=some c->c≠b)/\∀p∈X.pn++a,p.1≠b
def Inv.fpOk{X:Cx}{d:AO}{f:St}{H H':Hp}{s:Sh}{b:Ad}(I:Inv X d f H s)(a:s.heap.objs.size<=b)(g:H' b=none):FpOk X d H' b:=by
 refine#[g,n9 (f7 I.lt a),I.nofs a,.inr (cP I.sz a),λx c e z=>?_,λp h z=>?_]
 .obtain⟨v,q⟩:=I.cell x c e;exact wC (f7 q.lt (by rw[z];exact a)) (mR _)
 .exact wC (f7 (cy (I.pin p h).1) (by rw[z];exact a)) (mR _)
structure Turn(P:Pg)(w:World)(K:S4)(tg:Expr)(J:It)(fp:As)(it:Ad)(tn:Nat->Heap->Prop):Prop where
 mem:it∈fp
 obj:∀i h,tn i h->∀b∈fp,∃o,h.get? b=some o/\∀v,o.data≠ .cell v
 keep:∀i h h',tn i h->(∀b∈fp,∀o,h.get? b=some o->h'.get? b=some o)->tn i h'
 item:∀(X:Cx),X.prog=P->X.w=w->X.K=K->X.calm=true->∀(i:Nat) (za:AO) (s:Sh) (σ:St) (H:Hp) (E:VP),Inv X za σ H s->(∀b∈fp,FpOk X za H b)->tn i s.heap->J.go i H->
  wpAny (model P w) X.A (pyNext (.ref it)) (λr s1=>∃u,r=some u/\
   wpAny (model P w) X.A (letOwnedTupleGo tg (.ref it) u) (λ_ s2=>∃x H',Inv X za σ H' s2/\RelV x u/\J.yld i H x H'/\tn (i+1) s2.heap/\∀b∈fp,H' b=none) E s1) E s
 done:∀(X:Cx),X.prog=P->X.w=w->X.K=K->X.calm=true->∀(i:Nat) (za:AO) (s:Sh) (σ:St) (H:Hp) (E:VP),Inv X za σ H s->(∀b∈fp,FpOk X za H b)->tn i s.heap->J.stop i H->
  wpAny (model P w) X.A (pyNext (.ref it)) (λr s1=>r=none/\Inv X za σ H s1) E s
 self:∀(A:Ar) (i:Nat) (s:Sh) (Q:VP) (E:VP),tn i s.heap->Q (.ref it) s->wpAny (model P w) A (pyIter (.ref it)) Q E s
abbrev TI:=St->Hp->(It->Hp->Prop)->Prop
def C9(X:Cx)(d:AO)(i:St)(j:Expr)(R:It->Hp->Prop)(a:Vl)(e:Sh):Prop:=
 ∃(f:Ad) (g:As) (h:Nat->Heap->Prop) (J:It) (c:Hp),a=.ref f/\Inv X d i c e/\Turn X.prog X.w X.K j J g f h/\h 0 e.heap/\(∀b∈g,FpOk X d c b)/\R J c
def PI(X:Cx)(d a:Expr)(e:TI):Prop:=
 ∀(c:AO) (s:Sh) (b:St) (H:Hp) (R:It->Hp->Prop),Inv X c b H s->e b H R->
  wpAny (model X.prog X.w) X.A (eval a X.env) (λv f=>wpAny (model X.prog X.w) X.A (pyIter v) (C9 X c b d R) X.xe f) X.xe s
def ze{M:Model}{A:Ar}{E:VP}{s:Sh}{b:Expr}{c:Ad}{u:Vl}{o:Obj}{n:String}{d:AV}{Q:Unit->Sh->Prop}(e:s.heap.get? c=some o)(f:o.cls=.type n)(g:o.data=.fields d)(i:["enumerate","zip","dict_itemiterator","dict_reverseitemiterator","odict_iterator","itertools.zip_longest","itertools.pairwise"].contains n=false) (a:Q ⟨⟩ s):wpAny M A (letOwnedTupleGo b (.ref c) u) Q E s:=by
  unfold letOwnedTupleGo;cases b<;>first
    |exact bM a
    |(cases u<;>first
        |exact bM a
        | (refine bD (wpAny_load e ?_)
           rw[f,g];show wpAny M A (if(["enumerate","zip","dict_itemiterator","dict_reverseitemiterator","odict_iterator","itertools.zip_longest","itertools.pairwise"].contains n&&d[0]? ==some (rawInt _))=true then _ else _) Q E s
           rw[wA (by intro h;rw[i,AA]at h;cases h)];exact bM a))
def rq(K:S4)(a:Ad):It:=
 #[λi H=>∃b x,SqL K H a b/\b[i]?=some x,λi H x c=>c=H/\∀b,SqL K H a b->b[i]?=some x,λi H=>∃b,SqL K H a b/\b.length<=i]
def tm(K:S4)(a:Ad):It:=
 #[λi H=>∃b x,SqT K H a b/\b[i]?=some x,λi H x c=>c=H/\∀b,SqT K H a b->b[i]?=some x,λi H=>∃b,SqT K H a b/\b.length<=i]
def qp(lo:Int)(n:Nat):It:=#[λi _=>i<n,λi H x a=>a=H/\x=.int (lo+i),λi _=>n<=i]
def Pe{P:Pg}{w:World}{K:S4}{Q:Expr}(a f:Ad):Turn P w K Q (rq K a) [f] f (λi h=>h.IsListIter f a i) where
 mem:=by simp
 obj:=λi h st b g=>by
  have e:b=f:=by simpa using g
  subst e;obtain⟨o,e,c,d⟩:=st;exact#[o,e,λv z=>by rw[d]at z;cases z]
 keep:=λi h l st k=>st.at λo e=>k f (by simp) o e
 item:=by
  intro X q hw r M i N s O H E I m st t;subst q hw r;obtain⟨T,x,n,y⟩:=t;obtain⟨A,B,p,U⟩:=I.list n;obtain⟨u,Y,ru⟩:=B.get y;obtain⟨C,D,f2,G,J,L⟩:=m f (by simp);refine wpAny_pyNext_list_item st p.isList (x:=u) (by simpa using Y) λl j sb=>?_;have I1:Inv X N O H {s with heap:=l}:=I.turned (t':=s.toks) (λb o g e=>(sb.2 b g).trans e) C D G J L;obtain⟨o,e,c,d⟩:=id j;exact#[u,zZ,ze (s:={s with heap:=l}) e c d (by decide) #[x,H,I1,ru,#[rfl,λys hy=>by rw[I.list_inj hy n];exact y],j,λb g=>(m b g).1]]
 done:=by
  intro X q hw r M i N s O H E I m st t;subst q hw r;obtain⟨T,n,y⟩:=t;obtain⟨A,B,p,U⟩:=I.list n;obtain⟨C,D,f2,G,J,L⟩:=m f (by simp);have hl:=B.length;exact wpAny_pyNext_list_end (I.ok.hd M) st p.isList (by simp;lia) λl eb=>#[zZ,I.turned (t':=s.toks) (λb o g e=>eb b o g e) C D G J L]
 self:=λ_ _ _ _ _ st h=>wpAny_pyIter_listiter st h
def Pz{P:Pg}{w:World}{K:S4}{Q:Expr}(a f:Ad):Turn P w K Q (tm K a) [f] f (λi h=>h.IsTupleIter f a i) where
 mem:=by simp
 obj:=λi h st b g=>by
  have e:b=f:=by simpa using g
  subst e;obtain⟨o,e,c,d⟩:=st;exact#[o,e,λv z=>by rw[d]at z;cases z]
 keep:=λi h m st k=>st.at λo e=>k f (by simp) o e
 item:=by
  intro X r hw t M i N s O H E I n st y;subst r hw t;obtain⟨T,x,q,A⟩:=y;obtain⟨j,B,p,U⟩:=I.tuple q;obtain⟨u,Y,ru⟩:=B.get A;obtain⟨C,D,f2,G,J,L⟩:=n f (by simp);refine wpAny_pyNext_tuple_item st (show s.heap.IsTuple a j.toArray from p) (x:=u) (by simpa using Y) λm l sb=>?_;have I1:Inv X N O H {s with heap:=m}:=I.turned (t':=s.toks) (λb o g e=>(sb.2 b g).trans e) C D G J L;obtain⟨o,e,c,d⟩:=id l;exact#[u,zZ,ze (s:={s with heap:=m}) e c d (by decide) #[x,H,I1,ru,#[rfl,λys hy=>by rw[I.tuple_inj hy q];exact A],l,λb g=>(n b g).1]]
 done:=by
  intro X r hw t M i N s O H E I n st y;subst r hw t;obtain⟨T,q,A⟩:=y;obtain⟨j,B,p,U⟩:=I.tuple q;obtain⟨C,D,f2,G,J,L⟩:=n f (by simp);have hl:=B.length;exact wpAny_pyNext_tuple_end (I.ok.hd M) st (show s.heap.IsTuple a j.toArray from p) (by simp;lia) λm eb=>#[zZ,I.turned (t':=s.toks) (λb o g e=>eb b o g e) C D G J L]
 self:=λ_ _ _ _ _ st h=>wpAny_pyIter_tupleiter st h
def R8{P:Pg}{w:World}{K:S4}{D:Expr}(a:Ad)(lo:Int)(n:Nat):Turn P w K D (qp lo n) [a] a (λi h=>IsRangeIter h a (lo+(i:Nat) * 1) ((n:Int)-(i:Nat)) 1) where
 mem:=by simp
 obj:=λi h st b c=>by
  have e:b=a:=by simpa using c
  subst e;exact#[_,st,λv z=>by
   have G:Data.fields _=Data.cell v:=z;cases G]
 keep:=λi h f st k=>k a (by simp) _ st
 item:=by
  intro X j hw l m i A s B H E I g st p;subst j hw l;obtain⟨q,r,J,u,x,y⟩:=g a (by simp);have W:=Walks.range (prog:=X.prog) (w:=X.w) (I.ok.hd m) a lo 1 n;refine W.item i s _ _ p st λv f C L d M=>?_;obtain⟨t,rfl⟩:=L;have N:Inv X A B H {s with heap:=f,toks:=C}:=I.turned (λb o c e=>M b o (by simpa using c) e) q r u x y;refine#[_,zZ,ze (s:={s with heap:=f,toks:=C}) (n:="range_iterator") d rfl rfl (by decide) #[.int (lo+i),H,N,#[t,?_],#[rfl,rfl],d,λb c=>(g b c).1]];rw[Int.mul_one]
 done:=by
  intro X j hw l m i A s B H E I g st p;subst j hw l;obtain⟨q,r,J,u,x,y⟩:=g a (by simp);exact wpAny_pyNext_range_end (I.ok.hd m) st (by have:n<=i:=p;lia) λf O=>#[zZ,I.turned (t':=s.toks) (λb o c e=>O b o c e) q r u x y]
 self:=λ_ _ _ _ _ st h=>wpAny_pyIter_rangeiter st h
section
variable{X:Cx}{c:Expr}
def HR(K:S4)(tl:TE):TI:=λc H R=>tl c H λx b=>∃a,x=.ref a/\(∃d,SqL K b a d)/\R (rq K a) b
def GI(K:S4)(tl:TE):TI:=λc H R=>tl c H λx b=>∃a,x=.ref a/\(∃d,SqT K b a d)/\R (tm K a) b
def fH{l:Expr}{tl:TE}(g:PE X l tl):PI X c l (HR X.K tl):=by
 intro i s j H R I h;refine bW (g i s j H _ I h) λv d ⟨x,k,f,m,n⟩=>?_;obtain⟨a,e,⟨w,r⟩,q⟩:=n;subst e;cases m;obtain⟨t,y,p,z⟩:=f.list r;refine Ba p.isList ?_;refine#[d.heap.objs.size,[d.heap.objs.size],_,_,k,zZ,f.kept (t':=d.toks) λb o e=>cM _ e,Pe a _,#[_,dG _ zZ,zZ,zZ],λb u=>?_,q];have e:b=d.heap.objs.size:=by simpa using u
 subst e;exact f.fpOk (bR _) (f.hok.fresh (bR _))
def pV{l:Expr}{tl:TE}(i:PE X l tl):PI X c l (GI X.K tl):=by
 intro j s k H R I h;refine bW (i j s k H _ I h) λv d ⟨x,m,f,n,r⟩=>?_;obtain⟨a,e,⟨w,t⟩,q⟩:=r;subst e;cases n;obtain⟨g,y,p,z⟩:=f.tuple t;refine wpAny_pyIter_tuple (show d.heap.IsTuple a g.toArray from p) ?_;refine#[d.heap.objs.size,[d.heap.objs.size],_,_,m,zZ,f.kept (t':=d.toks) λb o e=>cM _ e,Pz a _,#[_,dG _ zZ,zZ,zZ],λb u=>?_,q];have e:b=d.heap.objs.size:=by simpa using u
 subst e;exact f.fpOk (bR _) (f.hok.fresh (bR _))
def NF{d:AO}{f:St}{H:Hp}{s:Sh}{R:It->Hp->Prop}{E:VP}{lo a:Int}{t u v:Tok}{g:Nat}(I:Inv X d f H s)(i: -(2 ^ 62)<=lo)(j:lo<2 ^ 62)(k: -(2 ^ 62)<=a)(l:a<2 ^ 62)(q:R (qp lo (a-lo).toNat) H):wpAny (model X.prog X.w) X.A (pyIter (.ref s.heap.objs.size)) (C9 X d f c R) E {s with heap:=s.heap.push {cls:= .type "range",data:= .fields #v[.int lo t,.int a u,.int 1 v]},toks:=g}:=by
 refine wpAny_pyIter_range (IsRange.new ..) (small_one i j k l) ?_;have h:Inv X d f H {s with heap:=s.heap.push {cls:= .type "range",data:= .fields #v[.int lo t,.int a u,.int 1 v]},toks:=g}:=I.kept λb o e=>cM _ e;refine#[(s.heap.push {cls:= .type "range",data:= .fields #v[.int lo t,.int a u,.int 1 v]}).objs.size,[(s.heap.push {cls:= .type "range",data:= .fields #v[.int lo t,.int a u,.int 1 v]}).objs.size],_,_,H,zZ,
  h.kept (t':=g) λb o e=>cM _ e,R8 _ lo (a-lo).toNat,?_,λb m=>?_,q]
 .have n:lo+((0:Nat):Int) * 1=lo:=by simp
  have p:(((a-lo).toNat:Nat):Int)-((0:Nat):Int)=Builtin.Range.rangeSize lo a 1:=by rw[rangeSize_one];split<;>lia
  show IsRangeIter _ _ (lo+((0:Nat):Int) * 1) ((((a-lo).toNat:Nat):Int)-((0:Nat):Int)) 1;rw[n,p];exact dG _ rfl
 .have e:b=(s.heap.push {cls:= .type "range",data:= .fields #v[.int lo t,.int a u,.int 1 v]}).objs.size:=by simpa using m
  subst e;exact h.fpOk (bR _) (h.hok.fresh (bR _))
def Kg(a:TA):TI:=λb H R=>a b H λc d=>∃j:Int,c=[.int j]/\ -(2 ^ 62)<=j/\j<2 ^ 62/\R (qp 0 j.toNat) d
def je{a:Expr}{f:TA}{p b:Pos}(g:Gl X "range")(i:X.mg "range"=none)(k:PA X [a] f)(l:starEach [a] X.env=[(false,eval a X.env)]:=by rfl):PI X c (.Call (.Name "range" p) [a] [] b) (Kg f):=by
 intro m s n H R I h;refine Call_ (se I g i boot_range (AC (bW (k b m s n H _ I h) λx y ⟨z,A,o,u,d⟩=>?_) l zZ));obtain⟨j,e,d,v,q⟩:=d;subst e;cases u with
 |cons r w=>
  cases w;obtain⟨t,rfl⟩:=r;exact call_range_1 (NF o () () d v (by simpa using q))
def tc(f:TI)(g:TG)(h:TS):TS:=λD a H=>f a H λJ j=>∃W:Nat->Nat->St->Hp->Prop,(∃m,W 0 m a j)/\∀i m a H,W i m a H->
 (J.stop i H/\D.nx a H)\/(J.go i H/\∃N:St->Hp->Prop,(∀b c,N b c->∃e,e<m/\W (i+1) e b c)/\∀x c,J.yld i H x c->g x a c λd k=>h {D with nx:=N,ct:=N,bk:=D.nx} d k)
def yo(a:As)(h:Heap):AO:=a.filterMap λb=>(h.get? b).map λo=>(b,o)
def Cf{a:As}{h:Heap}{b:Ad}{o:Obj}(c:b∈a)(e:h.get? b=some o):(b,o)∈yo a h:=List.mem_filterMap.mpr #[b,c,by rw[e];rfl]
def NG{a:As}{h:Heap}{p:Ad×Obj}(c:p∈yo a h):p.1∈a/\h.get? p.1=some p.2:=by
 obtain⟨b,d,e⟩:=List.mem_filterMap.mp c;cases q:h.get? b with
 |none=>rw[q]at e;cases e
 |some o=>
  rw[q]at e;have f:(b,o)=p:=f' e;subst f;exact#[d,q]
def Inv.pinned{a:AO}{f:St}{H:Hp}{s:Sh}{c:As}(I:Inv X a f H s)(i:∀b∈c,FpOk X a H b)(j:∀b∈c,∃o,s.heap.get? b=some o/\∀v,o.data≠ .cell v):Inv X (a++yo c s.heap) f H s:=
 I.pins_of λp k=>(cF.mp k).elim (λz=>I.pin p (ga _ z)) λz=>by
  obtain⟨g,e⟩:=NG z;obtain⟨l,m,n,_⟩:=i p.1 g;obtain⟨o,h,d⟩:=j p.1 g;rw[e]at h;cases h;exact#[e,l,m,n,d]
def Inv.unpinned{a c:AO}{b:St}{H:Hp}{s:Sh}(I:Inv X (a++c) b H s):Inv X a b H s:=I.pins_of λp d=>I.pin p (ga _ (oZ _ d))
def fY{j:Expr}{z:List Stmt}{wi:TI}{g:TG}{tb:TS}{U:Pos}(E:PassesOwn (model X.prog X.w) X.A X.env X.xe)(hc:X.calm=true)(hi:PI X c j wi)(hg:PG X c g)(k:PSs X z tb)(hs:∀x,foldedSetIterable j X.env x=pure x:=by intro _;rfl):PS X (.For c j z [] U) (tc wi g tb):=by
 intro B s σ H D I h;refine wpAny_For (bW (hi B s σ H _ I h) λv s1 h1=>bW h1 λaf s2 h2=>?_) hs;obtain⟨it,G,tn,J,H2,e,I2,T,Y,f2,W,⟨m0,w0⟩,turn⟩:=h2;subst e;have l:∀{y:Hp},(∀b∈G,y b=none)->∀b∈G,FpOk X B y b:=λhn b k=>#[hn b k,(f2 b k).2];refine codeAny_forLoop_any (λn s'=>∃i p y,Inv X B p y s'/\tn i s'.heap/\(∀b∈G,y b=none)/\W i n p y) ?_ m0 #[0,σ,H2,I2,Y,λb k=>(f2 b k).1,w0];rintro n s3 ⟨i,q,Q,I3,L,M,w3⟩
 rcases turn i n q Q w3 with⟨stop,qn⟩|⟨go,N,hN,step⟩
 .refine u9 E (bW (T.done X zZ zZ zZ hc i B s3 q Q X.xe I3 (l M) L stop) λr s4 ⟨hr,I4⟩=>?_);subst hr;exact A9 #[q,Q,I4,qn]
 .refine u9 E (bW (T.item X zZ zZ zZ hc i B s3 q Q X.xe I3 (l M) L go) λr s4 ⟨u,hr,h4⟩=>?_);subst hr;refine u9 E (bW h4 λ_ s5 ⟨x,H5,I5,r5,y5,C,aa⟩=>?_);have ab:=I5.pinned (l aa) (T.obj _ _ C);refine u9 E (bW (hg _ s5 q H5 x u _ ab r5 (step x H5 y5)) λ_ s6 ⟨ae,H6,I6,q6⟩=>?_);refine u9 E (bW (k _ s6 ae H6 _ I6 q6) λf s7 A=>?_);have again:∀{a:St} {t:Hp},Inv X (B++yo G s5.heap) a t s7->N a t->∃m,m<n/\∃i p y,Inv X B p y s7/\tn i s7.heap/\(∀b∈G,y b=none)/\W i m p y:=λ{a t} w O=>by
   obtain⟨m',hm,w7⟩:=hN a t O;refine#[m',hm,i+1,a,t,w.unpinned,T.keep _ _ _ C λb k o e=>(w.pin (b,o) (ga _ (ga _ (Cf k e)))).1,λb k=>?_,w7];obtain⟨o,e,d⟩:=T.obj _ _ C b k;exact(w.pin (b,o) (ga _ (ga _ (Cf k e)))).2.1
  cases f with
  |next=>obtain⟨a,t,w,O⟩:=A;exact again w O
  |cont=>obtain⟨a,t,w,O⟩:=A;exact again w O
  |brk=>obtain⟨a,t,w,A⟩:=A;exact#[a,t,w.unpinned,A]
  |ret v=>obtain⟨x7,a,t,w,r7,A⟩:=A;exact#[x7,a,t,w.unpinned,r7,A]
end
def oo{K:S4}{a:Ad}{xs:List V}{g:TG}{k:TS}{D:Ends}{b:St}{H:Hp}(Pv:Nat->St->Hp->Prop)(n:Pv 0 b H)(o:∀i b H,i<=xs.length->Pv i b H->SqL K H a xs)(r:∀i x b H,xs[i]?=some x->Pv i b H->g x b H λc j=>k {D with nx:=Pv (i+1),ct:=Pv (i+1),bk:=D.nx} c j) (s:∀b H,Pv xs.length b H->D.nx b H):
  ∃W:Nat->Nat->St->Hp->Prop,(∃m,W 0 m b H)/\∀i m b H,W i m b H->
   ((rq K a).stop i H/\D.nx b H)\/((rq K a).go i H/\∃N:St->Hp->Prop,(∀d f,N d f->∃l,l<m/\W (i+1) l d f)/\∀x f,(rq K a).yld i H x f->g x b f λc j=>k {D with nx:=N,ct:=N,bk:=D.nx} c j):=by
 refine#[λi m b H=>m=xs.length-i/\i<=xs.length/\Pv i b H,#[xs.length,by simp,Nat.zero_le _,n],?_];rintro i m b H ⟨rfl,t,p⟩;have q:=o i b H t p;by_cases h:i<xs.length
 .refine .inr #[#[xs,xs[i],q,by simp[h]],Pv (i+1),λd f u=>#[xs.length-(i+1),Nat.sub_succ_lt_self _ _ h,zZ,h,u],λx f y=>?_];obtain⟨e,y⟩:=y;subst e;exact r i x b _ (y xs q) p
 .have e:i=xs.length:=by lia
  subst e;exact .inl #[#[xs,q,bR _],s b H p]
def R0{K:S4}{a:Ad}{xs:List V}{g:TG}{k:TS}{D:Ends}{b:St}{H:Hp}(Pv:Nat->St->Hp->Prop)(n:Pv 0 b H)(o:∀i b H,i<=xs.length->Pv i b H->SqT K H a xs)(r:∀i x b H,xs[i]?=some x->Pv i b H->g x b H λc j=>k {D with nx:=Pv (i+1),ct:=Pv (i+1),bk:=D.nx} c j) (s:∀b H,Pv xs.length b H->D.nx b H):
  ∃W:Nat->Nat->St->Hp->Prop,(∃m,W 0 m b H)/\∀i m b H,W i m b H->
   ((tm K a).stop i H/\D.nx b H)\/((tm K a).go i H/\∃N:St->Hp->Prop,(∀d f,N d f->∃l,l<m/\W (i+1) l d f)/\∀x f,(tm K a).yld i H x f->g x b f λc j=>k {D with nx:=N,ct:=N,bk:=D.nx} c j):=by
 refine#[λi m b H=>m=xs.length-i/\i<=xs.length/\Pv i b H,#[xs.length,by simp,Nat.zero_le _,n],?_];rintro i m b H ⟨rfl,t,p⟩;have q:=o i b H t p;by_cases h:i<xs.length
 .refine .inr #[#[xs,xs[i],q,by simp[h]],Pv (i+1),λd f u=>#[xs.length-(i+1),Nat.sub_succ_lt_self _ _ h,zZ,h,u],λx f y=>?_];obtain⟨e,y⟩:=y;subst e;exact r i x b _ (y xs q) p
 .have e:i=xs.length:=by lia
  subst e;exact .inl #[#[xs,q,bR _],s b H p]
def oB{lo:Int}{n:Nat}{g:TG}{j:TS}{D:Ends}{a:St}{H:Hp}(Pv:Nat->St->Hp->Prop)(l:Pv 0 a H)(o:∀i a H,i<n->Pv i a H->g (.int (lo+i)) a H λc h=>j {D with nx:=Pv (i+1),ct:=Pv (i+1),bk:=D.nx} c h) (q:∀a H,Pv n a H->D.nx a H):
  ∃W:Nat->Nat->St->Hp->Prop,(∃m,W 0 m a H)/\∀i m a H,W i m a H->
   ((qp lo n).stop i H/\D.nx a H)\/((qp lo n).go i H/\∃N:St->Hp->Prop,(∀d f,N d f->∃k,k<m/\W (i+1) k d f)/\∀x f,(qp lo n).yld i H x f->g x a f λc h=>j {D with nx:=N,ct:=N,bk:=D.nx} c h):=by
 refine#[λi m a H=>m=n-i/\i<=n/\Pv i a H,#[n,by simp,Nat.zero_le _,l],?_];rintro i m a H ⟨rfl,s,p⟩;by_cases b:i<n
 .refine .inr #[b,Pv (i+1),λd f r=>#[n-(i+1),Fg _ _ b,zZ,b,r],λx f y=>?_];obtain⟨e,y⟩:=y;subst e y;exact o i a _ b p
 .have e:i=n:=by lia
  subst e;exact .inl #[bR _,q a H p]
abbrev R2:=V->V->Hp->VK->Prop
def OpR(X:Cx)(f:Vl->Vl->Sem Vl)(r:R2):Prop:=
 ∀(a:AO) (s:Sh) (b:St) (H:Hp) (x y:V) (v u:Vl) (Q:VK),Inv X a b H s->RelV x v->RelV y u->r x y H Q->
  wpAny (model X.prog X.w) X.A (f v u) (EP X a b Q) X.xe s
def Ek(X:Cx)(f:Vl->Sem Vl)(r:V->Hp->VK->Prop):Prop:=
 ∀(a:AO) (s:Sh) (b:St) (H:Hp) (x:V) (v:Vl) (Q:VK),Inv X a b H s->RelV x v->r x H Q->
  wpAny (model X.prog X.w) X.A (f v) (EP X a b Q) X.xe s
def hA(X:Cx)(f:Vl)(r:List V->Hp->VK->Prop):Prop:=
 ∀(a:AO) (s:Sh) (b:St) (H:Hp) (c:List V) (d:Vs) (Q:VK),Inv X a b H s->Vals c d->r c H Q->
  wpAny (model X.prog X.w) X.A (call f d) (EP X a b Q) X.xe s
def F6(X:Cx)(r:V->Hp->(Bool->Hp->Prop)->Prop):Prop:=
 ∀(a:AO) (s:Sh) (b:St) (H:Hp) (x:V) (v:Vl) (Q:Bool->Hp->Prop),Inv X a b H s->RelV x v->r x H Q->
  wpAny (model X.prog X.w) X.A (truthy v) (TP X a b Q) X.xe s
def xp(r:R2)(b c:TE):TE:=λa H Q=>b a H λx d=>c a d λy e=>r x y e Q
def Nw(r:V->Hp->VK->Prop)(a:TE):TE:=λb H Q=>a b H λx c=>r x c Q
inductive rI(C:Int->Int->Prop)(g:Int->Int->V)(x y:V)(H:Hp)(Q:VK):Prop|mk:∀i j,x=.int i->y=.int j->C i j->Q (g i j) H->rI C g x y H Q
inductive qd(g:Int->Int->V)(x y:V)(H:Hp)(Q:VK):Prop|mk:∀i j,x=.int i->y=.int j->Q (g i j) H->qd g x y H Q
inductive rU(g:Int->V)(x:V)(H:Hp)(Q:VK):Prop|mk:∀i,x=.int i->Q (g i) H->rU g x H Q
section
variable{X:Cx}{a b c:Expr}{d k l:TE}{e:Pos}
def va(n:PE X a d)(o:PE X b k){j:AO}{s:Sh}{c:St}{H:Hp}{R:V->V->Hp->Prop}(I:Inv X j c H s)(h:d c H λx m=>k c m λy e=>R x y e) {Q:VP} {f:Vl->Vl->Sem Vl}(p:∀v u l x y e,Inv X j c e l->RelV x v->RelV y u->R x y e->wpAny (model X.prog X.w) X.A (f v u) Q X.xe l):
  wpAny (model X.prog X.w) X.A (eval a X.env) (λv g=>wpAny (model X.prog X.w) X.A (eval b X.env) (λu i=>wpAny (model X.prog X.w) X.A (f v u) Q X.xe i) X.xe g) X.xe s:=by
 refine bW (n j s c H _ I h) λv q ⟨x,m,r,t,w⟩=>?_;refine bW (o j q c m _ r w) λu l ⟨y,e,z,A,B⟩=>?_;exact p v u l x y e z t A B
def cu{c:Operator}{r:R2}(f:OpR X (binaryOp c) r)(g:PE X a d)(i:PE X b k):PE X (.BinOp a c b e) (xp r d k):=by
 intro j s l H Q I h;exact wpAny_BinOp (va g i I h λv u m x y n o p t q=>f j m l n x y v u Q o p t q)
def HY{b:UnaryOp}{r:V->Hp->VK->Prop}(g:Ek X (unaryOp b) r)(i:PE X a d):PE X (.UnaryOp b a e) (Nw r d):=by
 intro c s f H Q I h;exact UnaryOp_ (bW (i c s f H _ I h) λv j ⟨x,k,l,m,n⟩=>g c j f k x v Q l m n)
def ET{f:Vl->Vl->Sem Vl}{C:Int->Int->Prop}{g:Int->Int->Int}(rule:∀(i j:Int) (t u:Tok) (s:Sh) (Q:VP) (E:VP),C i j->Q (.int (g i j) s.toks) {s with toks:=s.toks+1}->wpAny (model X.prog X.w) X.A (f (.int i t) (.int j u)) Q E s):
  OpR X f (rI C λi j=> .int (g i j)):=by
 intro e s k H x y v u Q I a b h;obtain⟨i,j,rfl,rfl,c,q⟩:=h;obtain⟨t,rfl⟩:=a;obtain⟨d,rfl⟩:=b;exact rule i j t d s _ _ c #[.int (g i j),H,I.tok _,#[_,zZ],q]
def zh{f:Vl->Vl->Sem Vl}{g:Int->Int->Int}(rule:∀(i j:Int) (t u:Tok) (s:Sh) (Q:VP) (E:VP),Q (.int (g i j) s.toks) {s with toks:=s.toks+1}->wpAny (model X.prog X.w) X.A (f (.int i t) (.int j u)) Q E s):
  OpR X f (qd λi j=> .int (g i j)):=by
 intro d s e H x y v u Q I a b h;obtain⟨i,j,rfl,rfl,q⟩:=h;obtain⟨t,rfl⟩:=a;obtain⟨c,rfl⟩:=b;exact rule i j t c s _ _ #[.int (g i j),H,I.tok _,#[_,zZ],q]
def t9{f:Vl->Vl->Sem Vl}{g:Int->Int->Bool}(rule:∀(i j:Int) (t u:Tok) (s:Sh) (Q:VP) (E:VP),Q (.bool (g i j)) s->wpAny (model X.prog X.w) X.A (f (.int i t) (.int j u)) Q E s):
  OpR X f (qd λi j=> .bl (g i j)):=by
 intro d s e H x y v u Q I a b h;obtain⟨i,j,rfl,rfl,q⟩:=h;obtain⟨t,rfl⟩:=a;obtain⟨c,rfl⟩:=b;exact rule i j t c s _ _ #[.bl (g i j),H,I,zZ,q]
def EQ(i j:Int):Prop:=0<j/\j<1073741824
def CMul(i j:Int):Prop:=(-(2 ^ 64)<i/\i<2 ^ 64)\/(-(2 ^ 64)<j/\j<2 ^ 64)
def CMul.ok{i j:Int}(h:CMul i j):IntMulOk i j:=by
 rcases h with⟨a,b⟩|⟨a,b⟩
 .exact .of_left (intBits_le_64 a b)
 .exact .of_right (intBits_le_64 a b)
def l7:OpR X (binaryOp .Add) (qd λi j=> .int (i+j)):=zh λ_ _ _ _ _ _ _ q=>add_int q
def R6:OpR X (binaryOp .Sub) (qd λi j=> .int (i-j)):=zh λ_ _ _ _ _ _ _ q=>sub_int q
def pA:OpR X (binaryOp .Mult) (rI CMul λi j=> .int (i * j)):=ET λ_ _ _ _ _ _ _ a q=>mul_int q a.ok
def lQ:OpR X (binaryOp .FloorDiv) (rI EQ λi j=> .int (i/j)):=ET λi j _ _ _ _ _ a q=>by
 have b:(0:Int)<j:=a.1;have c:j<1073741824:=a.2;exact floordiv_int () (by rw[Int.fdiv_eq_ediv_of_nonneg i ()];exact q) (.inl (PyProof.noPylong_small ()))
def fE:OpR X (binaryOp .Mod) (rI (λ_ j=>0<j) λi j=> .int (i%j)):=ET λi j _ _ _ _ _ a q=>by
 have b:(0:Int)<j:=a;exact mod_int' () (by rw[Int.fmod_eq_emod_of_nonneg i ()];exact q)
def PY{f:Vl->Sem Vl}{g:Int->Int}(rule:∀(i:Int) (t:Tok) (s:Sh) (Q:VP) (E:VP),Q (.int (g i) s.toks) {s with toks:=s.toks+1}->wpAny (model X.prog X.w) X.A (f (.int i t)) Q E s):
  Ek X f (rU λi=> .int (g i)):=by
 intro b s c H x v Q I a h;obtain⟨i,rfl,q⟩:=h;obtain⟨t,rfl⟩:=a;exact rule i t s _ _ #[.int (g i),H,I.tok _,#[_,zZ],q]
def Lj:Ek X (unaryOp .USub) (rU λi=> .int (-i)):=PY λ_ _ _ _ _ q=>neg_int q
end
def zK:V->V->Bool
 |.non,.non=>true|.non,.int _=>true|.int _,.non=>true|.non,.bl _=>true|.bl _,.non=>true|.non,.str _=>true|.str _,.non=>true
 |.int _,.int _=>true|.bl _,.bl _=>true|.str _,.str _=>true|.byt _,.byt _=>true
 |.int _,.str _=>true|.str _,.int _=>true|.bl _,.str _=>true|.str _,.bl _=>true
 |_,_=>false
def OM:R2:=λx y H Q=>zK x y=true/\Q (.bl (decide (x=y))) H
def QH:R2:=λx y H Q=>zK x y=true/\Q (.bl (!decide (x=y))) H
def IY{i j:Int}:decide (V.int i=V.int j)=(i==j):=by
 rw[jq];simp
def J7{i j:Bool}:decide (V.bl i=V.bl j)=(i==j):=by
 rw[jq];simp
def Ha{i j:Str}:decide (V.str i=V.str j)=(i==j):=by
 rw[jq];simp
def II{i j:Array UInt8}:decide (V.byt i=V.byt j)=(i.toList==j.toList):=by
 rw[jq];cases i;cases j;simp
section
variable{X:Cx}{a b c:Expr}{f g n:TE}{l:Pos}
def eG{a:AO}{b:St}{H:Hp}{s:Sh}{Q:VK}{k c:Bool}(I:Inv X a b H s)(q:Q (.bl k) H)(e:k=c):EP X a b Q (.bool c) s:=by
 subst e;exact#[.bl k,H,I,zZ,q]
def gG:OpR X (compareOp .Eq) OM:=by
 intro e s f H x y v u Q I d a h;obtain⟨c,q⟩:=h;cases x with
 |non=>
  cases d;cases y with
  |non=>cases a;exact PySem.EqNone.eq_none_none (eG I q (by simp))
  |bl j=>cases a;exact PySem.EqNone.eq_none_bool (eG I q (by simp))
  |int j=>obtain⟨b,rfl⟩:=a;exact PySem.EqNone.eq_none_int (eG I q (by simp))
  |str j=>obtain⟨b,rfl⟩:=a;exact PySem.EqNone.eq_none_str (eG I q (by simp))
  |_=>exact wC (show false=true from c) fX
 |bl i=>
  cases d;cases y with
  |non=>cases a;exact PySem.EqNone.eq_bool_none (eG I q (by simp))
  |bl j=>cases a;exact eq_bool (eG I q J7)
  |str j=>obtain⟨b,rfl⟩:=a;exact PySem.EqMixed.eq_bool_str (eG I q (by simp))
  |_=>exact wC (show false=true from c) fX
 |int i=>
  obtain⟨t,rfl⟩:=d;cases y with
  |non=>cases a;exact PySem.EqNone.eq_int_none (eG I q (by simp))
  |int j=>obtain⟨b,rfl⟩:=a;exact eq_int (eG I q IY)
  |str j=>obtain⟨b,rfl⟩:=a;exact PySem.EqMixed.eq_int_str (eG I q (by simp))
  |_=>exact wC (show false=true from c) fX
 |str i=>
  obtain⟨t,rfl⟩:=d;cases y with
  |non=>cases a;exact PySem.EqNone.eq_str_none (eG I q (by simp))
  |bl j=>cases a;exact PySem.EqMixed.eq_str_bool (eG I q (by simp))
  |int j=>obtain⟨b,rfl⟩:=a;exact PySem.EqMixed.eq_str_int (eG I q (by simp))
  |str j=>obtain⟨b,rfl⟩:=a;exact eq_str (eG I q Ha)
  |_=>exact wC (show false=true from c) fX
 |byt i=>
  obtain⟨t,rfl⟩:=d;cases y with
  |byt j=>obtain⟨b,rfl⟩:=a;exact PySem.W.eq_bytes (eG I q II)
  |_=>exact wC (show false=true from c) fX
 |_=>cases y<;>exact wC (show false=true from c) fX
def CW:OpR X (compareOp .NotEq) QH:=by
 intro e s f H x y v u Q I d a h;obtain⟨c,q⟩:=h;cases x with
 |non=>
  cases d;cases y with
  |non=>cases a;exact PySem.EqNone.ne_none_none (eG I q (by simp))
  |bl j=>cases a;exact PySem.EqNone.ne_none_bool (eG I q (by simp))
  |int j=>obtain⟨b,rfl⟩:=a;exact PySem.EqNone.ne_none_int (eG I q (by simp))
  |str j=>obtain⟨b,rfl⟩:=a;exact PySem.EqNone.ne_none_str (eG I q (by simp))
  |_=>exact wC (show false=true from c) fX
 |bl i=>
  cases d;cases y with
  |non=>cases a;exact PySem.EqNone.ne_bool_none (eG I q (by simp))
  |bl j=>cases a;exact ne_bool (eG I q (cK not J7))
  |str j=>obtain⟨b,rfl⟩:=a;exact PySem.EqMixed.ne_bool_str (eG I q (by simp))
  |_=>exact wC (show false=true from c) fX
 |int i=>
  obtain⟨t,rfl⟩:=d;cases y with
  |non=>cases a;exact PySem.EqNone.ne_int_none (eG I q (by simp))
  |int j=>obtain⟨b,rfl⟩:=a;exact ne_int (eG I q (cK not IY))
  |str j=>obtain⟨b,rfl⟩:=a;exact PySem.EqMixed.ne_int_str (eG I q (by simp))
  |_=>exact wC (show false=true from c) fX
 |str i=>
  obtain⟨t,rfl⟩:=d;cases y with
  |non=>cases a;exact PySem.EqNone.ne_str_none (eG I q (by simp))
  |bl j=>cases a;exact PySem.EqMixed.ne_str_bool (eG I q (by simp))
  |int j=>obtain⟨b,rfl⟩:=a;exact PySem.EqMixed.ne_str_int (eG I q (by simp))
  |str j=>obtain⟨b,rfl⟩:=a;exact ne_str (eG I q (cK not Ha))
  |_=>exact wC (show false=true from c) fX
 |byt i=>
  obtain⟨t,rfl⟩:=d;cases y with
  |byt j=>obtain⟨b,rfl⟩:=a;exact PySem.W.ne_bytes (eG I q (cK not II))
  |_=>exact wC (show false=true from c) fX
 |_=>cases y<;>exact wC (show false=true from c) fX
def FU:OpR X (compareOp .Lt) (qd λi j=> .bl (decide (i<j))):=t9 λ_ _ _ _ _ _ _ q=>lt_int q
def ti:OpR X (compareOp .LtE) (qd λi j=> .bl (decide (i<=j))):=t9 λ_ _ _ _ _ _ _ q=>le_int q
def Cn:OpR X (compareOp .Gt) (qd λi j=> .bl (decide (j<i))):=t9 λ_ _ _ _ _ _ _ q=>gt_int q
def Qs:OpR X (compareOp .In) (λx y H Q=>∃i j,x=.str i/\y=.str j/\Q (.bl (!(Builtin.Str.occurrences j i 0 j.length 1).isEmpty)) H):=by
 intro c s d H x y v u Q I a b h;obtain⟨i,j,rfl,rfl,q⟩:=h;obtain⟨t,rfl⟩:=a;obtain⟨e,rfl⟩:=b;exact in_str (eG I q zZ)
def Sy:OpR X (compareOp .Is) (λx y H Q=>y=.non/\Q (.bl (decide (x=.non))) H):=by
 intro c s d H x y v u Q I a b h;obtain⟨rfl,q⟩:=h;cases b;refine is_none_gen (eG I q ?_);cases x<;>first
  |(cases a;rfl)
  |(obtain⟨t,rfl⟩:=a;rfl)
def Kd:OpR X (compareOp .IsNot) (λx y H Q=>y=.non/\Q (.bl (!decide (x=.non))) H):=by
 intro c s d H x y v u Q I a b h;obtain⟨rfl,q⟩:=h;cases b;refine isnot_none_gen (eG I q ?_);cases x<;>first
  |(cases a;rfl)
  |(obtain⟨t,rfl⟩:=a;rfl)
def dy(b:Expr){a:CmpOp}(h:a≠ .In:=by decide)(c:a≠ .NotIn:=by decide):behindInMarks a b=false:=by
 have d:(a==CmpOp.In)=false:=by cases a<;>first|rfl|exact wC zZ h
 have e:(a==CmpOp.NotIn)=false:=by cases a<;>first|rfl|exact wC zZ c
 cases b<;>simp[behindInMarks,d,e]
def lT{c:CmpOp}{r:R2}(d:OpR X (compareOp c) r)(e:PE X a f)(i:PE X b g)(j:behindInMarks c b=false):PE X (.Compare a [c] [b] l) (xp r f g):=by
 intro k s m H Q I h;exact wpAny_Compare1 (va e i I h λv u n x y o p t w q=>d k n m o x y v u Q p t w q) j
def JA(t:TE):TT:=λa H Q=>t a H λx b=>∃k,x=.bl k/\Q k b
def dQ{d:CmpOp}{r:R2}(m:OpR X (compareOp d) r)(n:PE X a f)(o:PE X b g)(p:behindInMarks d b=false):PT X (.Compare a [d] [b] l) (JA (xp r f g)):=by
 intro i s j H Q I h;refine wpAny_isTrue_Compare1 (bW (n i s j H _ I h) λv q ⟨x,t,w,A,B⟩=>bW (o i q j t _ w B) λu C ⟨y,D,E,G,J⟩=>
  bW (m i C j D x y v u _ E A G J) λc T ⟨z,L,M,N,k,e,O⟩=>?_) p
 subst e;cases N;exact m9 #[L,M,O]
def JU(r c:R2)(f g n:TE):TE:=λa H Q=>f a H λx d=>g a d λy e=>r x y e λz b=>∃k,z=.bl k/\
 (if k=true then n a b λh i=>c y h i Q else Q (.bl false) b)
def Kj{o i:CmpOp}{r q:R2}(C:OpR X (compareOp o) r)(p:OpR X (compareOp i) q)(D:PE X a f)(E:PE X b g)(G:PE X c n)(J:lastMarks [o,i] [b,c]=false:=by with_unfolding_all rfl):PE X (.Compare a [o,i] [b,c] l) (JU r q f g n):=by
 intro j s m H Q I h;refine Compare_chain (bW (D j s m H _ I h) λv L ⟨x,M,N,O,T⟩=>chain_link (bW (E j L m M _ N T) λu U ⟨y,Y,I2,t,q2⟩=>
  bW (C j U m Y x y v u _ I2 O t q2) λd s3 ⟨z,w,A,r3,k,e,B⟩=>?_)) J
 subst e;cases r3;refine m9 ?_;cases k with
 |false=>exact ite_ff #[.bl false,w,A,zZ,B]
 |true=>exact ite_tt (chain_last (bW (G j s3 m w _ A B) λw' s4 ⟨z',H4,I4,r4,q4⟩=>p j s4 m H4 y z' u w' Q I4 t r4 q4))
def Jh{o i:CmpOp}{r q:R2}(C:OpR X (compareOp o) r)(p:OpR X (compareOp i) q)(D:PE X a f)(E:PE X b g)(G:PE X c n)(J:lastMarks [o,i] [b,c]=false:=by with_unfolding_all rfl):PT X (.Compare a [o,i] [b,c] l) (JA (JU r q f g n)):=by
 intro j s m H Q I h;refine isTrue_chain (bW (D j s m H _ I h) λv L ⟨x,M,N,O,T⟩=>test_link (bW (E j L m M _ N T) λu U ⟨y,Y,I2,t,q2⟩=>
  bW (C j U m Y x y v u _ I2 O t q2) λd s3 ⟨z,w,A,r3,k,e,B⟩=>?_)) J
 subst e;cases r3;refine m9 ?_;cases k with
 |false=>
  obtain⟨k',e',q'⟩:=B;cases e';exact ite_ff #[w,A,q']
 |true=>
  refine ite_tt (test_last (bW (G j s3 m w _ A B) λw' s4 ⟨z',H4,I4,r4,q4⟩=>bW (p j s4 m H4 y z' u w' _ I4 t r4 q4) λd' s5 ⟨z2,H5,I5,r5,k2,e2,q5⟩=>?_));subst e2;cases r5;exact m9 #[H5,I5,q5]
def u8(K:S4)(x:V)(H:Hp)(k:Bool):Prop:=
 match x with
 |.non=>k=false
 |.bl b=>k=b
 |.int i=>k=(i != 0)
 |.str y=>y.length<=sizeLine/\k=((y.length:Int) != 0)
 |.byt y=>y.size<=sizeLine/\k=((y.size:Int) != 0)
 |.ref p=>(∃a,SqL K H p a/\k= !a.isEmpty)\/(∃a,SqT K H p a/\k= !a.isEmpty)\/∃c,H p=some (.dK c)/\k= !c.isEmpty
 |_=>False
def OC{b:Type}{a:List (b×V)}{c:List (b×Vl)}(r:KV a c):(!c.isEmpty)= !a.isEmpty:=by
 cases r<;>rfl
def Ih{b:List V}{a:Vs}(r:Vals b a):(!a.toArray.isEmpty)= !b.isEmpty:=by
 cases r<;>simp
def tq:(sizeLine:Nat)<2 ^ 63:=by rw[cH];decide
def MT:F6 X (λx H Q=>∃k,u8 X.K x H k/\Q k H):=by
 intro A s B H x v Q I g h;obtain⟨k,e,q⟩:=h;have C:=tq;have D:sizeLine=16777216:=cH;cases x with
 |non=>
  cases g;have a:k=false:=e;subst a;exact truthy_none #[H,I,q]
 |bl b=>
  cases g;have a:k=b:=e;subst a;exact m9 #[H,I,q]
 |int i=>
  obtain⟨t,rfl⟩:=g;have a:k=(i != 0):=e;subst a;exact PySem.P.truthy_int #[H,I,q]
 |str y=>
  obtain⟨t,rfl⟩:=g;obtain⟨w,a⟩:y.length<=sizeLine/\k=((y.length:Int) != 0):=e;subst a;exact PySem.P.truthy_str () #[H,I.tok _,q]
 |byt y=>
  obtain⟨t,rfl⟩:=g;obtain⟨w,a⟩:y.size<=sizeLine/\k=((y.size:Int) != 0):=e;subst a;exact PySem.W.truthy_bytes () #[H,I.tok _,q]
 | ref p=>
  cases g;have a:(∃f,SqL X.K H p f/\k= !f.isEmpty)\/(∃f,SqT X.K H p f/\k= !f.isEmpty)\/∃c,H p=some (.dK c)/\k= !c.isEmpty:=e
  rcases a with⟨f,j,a⟩|⟨f,j,a⟩|⟨c,j,a⟩
  .subst a;obtain⟨n,r,o,u⟩:=I.list j;have d:=r.length;exact wpAny_truthy_list o.isList (by simp only[List.size_toArray];lia) #[H,I.tok _,by rw[Ih r];exact q]
  .subst a;obtain⟨n,r,o,u⟩:=I.tuple j;have d:=r.length;exact truthy_tuple o (by simp only[List.size_toArray];lia) #[H,I.tok _,by rw[Ih r];exact q]
  .subst a;obtain⟨u,z,l,r,m⟩:c.length<=sizeLine/\(p==sysModules)=false/\∃l,KV c l/\s.heap.DictOf (lP X.prog X.w) p l:=I.hok p _ j;have d:c.length=l.length:=oM r;exact wpAny_truthy_dict z m () #[H,I.tok _,by rw[OC r];exact q]
 |_=>exact(show False from e).elim
def F7(g:PE X a f)(i:∀b,isTrue a X.env b=(do let v <-b;standAt a.pos;holding [v] (truthy v))):
  PT X a (λc H Q=>f c H λx d=>∃k,u8 X.K x d k/\Q k d):=by
 intro e s c H Q I h;exact isTrue_plain (bW (g e s c H _ I h) λv j ⟨x,l,m,n,o⟩=>MT e j c l x v Q m n o) (i _)
def xm:OpR X (binaryOp .Add) (λx y H Q=>∃i j,x=.str i/\y=.str j/\i.length+j.length<=sizeLine/\Q (.str (i++j)) H):=by
 intro e s f H x y v u Q I a b h;obtain⟨i,j,rfl,rfl,c,q⟩:=h;obtain⟨t,rfl⟩:=a;obtain⟨d,rfl⟩:=b;exact add_str (λd g=>#[.str (i++j),H,I.tok _,#[_,zZ],q]) c
def gA{x:V}{a:Vs}(r:Vals [x] a):∃u,a=[u]/\RelV x u:=by
 cases r with
 |cons b c=>cases c;exact#[_,zZ,b]
def yi{x y:V}{a:Vs}(r:Vals [x,y] a):∃u b,a=[u,b]/\RelV x u/\RelV y b:=by
 cases r with
 |cons c d=>
  cases d with
  |cons e f=>cases f;exact#[_,_,zZ,c,e]
def Mv:hA X (.type "int") (λa H Q=>(∃i,a=[.int i]/\Q (.int i) H)\/∃k,a=[.bl k]/\Q (.int (if k then 1 else 0)) H):=by
 intro c s d H a e Q I r h
 rcases h with⟨i,rfl,q⟩|⟨k,rfl,q⟩
 .obtain⟨u,rfl,t,rfl⟩:=gA r;exact call_int_int #[.int i,H,I,#[_,zZ],q]
 .obtain⟨u,rfl,b⟩:=gA r;cases b;exact call_int_bool #[.int (if k then 1 else 0),H,I.tok _,#[_,zZ],q]
def ue:hA X (.type "str") (λa H Q=>∃i,a=[.int i]/\i.natAbs.log2<1920/\Q (.str (toString i)) H):=by
 intro c s d H a e Q I r h;obtain⟨i,rfl,b,q⟩:=h;obtain⟨u,rfl,t,rfl⟩:=gA r;exact PySem.P.str_of_int b #[.str _,H,I.tok _,#[_,zZ],q]
end
structure ObjM(h:Heap)(x dx C:Ad)(mA:SV):Prop where
 obj:h.get? x=some (PySem.W.instObj C dx)
 ns:h.Ns1 dx mA
 ne:dx≠x
def Mf{h:Heap}{c:Ad}{d:SV}(n:h.Ns1 c d):∃f,h.get? c=some f/\∀name,PySem.W.lookIn name f=some (d name):=by
 obtain⟨o,g,r,i,j,k,_,l⟩:=n;refine#[o,i,λname=>?_];have e:=l name;unfold nsFind findBy at e;rw[<-Array.find?_toList]at e;unfold PySem.W.lookIn;rw[j];dsimp only;split
 .rename_i y q
  rw[q]at e;exact cK some e
 .rename_i q
  rw[q]at e;have a:g.toList.any (·.refKey)=false:=by
   rw[Bk];intro y m;obtain⟨z,t,b⟩:=k y (Fj.mp m);simp[DictEntry.refKey,b]
  have p: ¬g.toList.any (·.refKey)=true:=by rw[a];exact fX
  rw[wA p];exact cK some e
def ObjM.look{h:Heap}{x b C:Ad}{c:SV}(I:ObjM h x b C c):∃a,PySem.W.InstAt h x (PySem.W.instObj C b) C (some a)/\∀name,PySem.W.lookIn name a=some (c name):=
 let⟨a,d,e⟩:=Mf I.ns
 #[a,#[I.obj,zZ,zZ,d],e]
section
variable{c:Pg}{w:World}{A:Ar}{E:VP}{s:Sh}{K:S4}{x e C f:Ad}{i:SV}{name:Str}{v:Vl}
def Pt{a:Bool}{Q:VP}(X:K.In s.heap)(I:ObjM s.heap x e C i)(d:PySem.W.plainGet K C name=true)(f:PySem.W.hasDictIn K C=true)(g:PySem.W.findIn K (.ref C) name=some none) (j:i name=some v) (b:PySem.W.handedIn v=true) (h:Q v {s with toks:=s.toks+1}):
  wpAny (model c w) A (getAttr (.ref x) name a) Q E s:=by
 obtain⟨l,J,k⟩:=I.look;exact PySem.W.get_value X J (DI d).1 (PySem.W.findObj_own f g zZ (by rw[k,j])) b h
def L6{b:Sem Bool}{Q:Vl×Vs->Sh->Prop}(X:K.In s.heap)(I:ObjM s.heap x e C i)(a:PySem.W.plainGet K C name=true)(d:PySem.W.findIn K (.ref C) name=some (some (.ref f))) (ht:PySem.W.isFn K (.ref f)=true) (g:i name=none) (h:Q (.ref f,[.ref x]) s):
  wpAny (model c w) A (getMethod (.ref x) name b) Q E s:=by
 obtain⟨j,J,k⟩:=I.look;exact PySem.W.method_fn X J (DI a).1 (DI a).2 d (oz.mp ht) (by show(PySem.W.lookIn name j).map (·.isSome)=some false;rw[k,g];rfl) h
def OX{n:Ss}{Q:Unit->Sh->Prop}(X:K.In s.heap)(I:ObjM s.heap x e C i)(o:PySem.W.findIn K (.ref C) "__setattr__"=some (some (.builtin "object.__setattr__"))) (p:PySem.W.plainOver K C=true) (ht:PySem.W.takerIn K C name=some none) (q:PySem.W.hasDictIn K C=true)(hw:PySem.Within i n) (t:n.length<=sizeLine)(h:∀g,ObjM g x e C (λy=>if y=name then some v else i y)->Heap.SameBut e s.heap g->Q ⟨⟩ {s with heap:=g,toks:=s.toks+2}):
  wpAny (model c w) A (setAttr (.ref x) name v) Q E s:=by
 obtain⟨G,J,H⟩:=I.look;refine PySem.W.set_plain X J o (PySem.W.osa_open (s:={s with toks:=s.toks+1}) (r:=none) X J p ht λb=>?_);obtain⟨L,u,j⟩:=PySem.W.any_some q;have z:s.heap.get? x=some #[.ref C,some e,.plain,#v[]]:=I.obj;refine bD (bM (bD (bD (wpAny_loadPart z (bD (PySem.W.Looks.here (s:={s with toks:=s.toks+1}) (PySem.W.looks_clsIn X u) ?_))))));rw[j];refine bM (a:=some e) (bD (bM (bD ?_)));refine wpAny_nsSet1 (s:={s with toks:=s.toks+1}) I.ns λg d f=>?_;obtain⟨M,B,D,k,l,m⟩:=d.count (PySem.Within.cons name v hw);refine bD (wpAny_lookBehind k (by rw[l];exact pastItsLine_dict (cP m (by rw[iL];lia))) ?_);exact bM (h _ #[(f.2 _ (dM I.ne)).trans I.obj,d,I.ne] f)
def Mn{R:Result->Sh->Prop}{a:Vs}{b:List (Str×Vl)}(X:K.In s.heap)(e:PySem.W.makesIn K C=true)(i:PySem.W.findIn K (.ref C) "__init__"=some (some (.ref f))) (j:PySem.W.typeIn K (.ref f)=some (.type "function"))(h:codeAny (model c w) (A.under (.builtin "type.__call__" #[.ref C::a,b])) (.call (.ref f) #[.ref (s.heap.objs.size+1)::a,b]) (PySem.W.InitBack (s.heap.objs.size+1) R) {s with heap:=(s.heap.push PySem.W.emptyDict).push (PySem.W.instObj C s.heap.objs.size)}):
    codeAny (model c w) A (.call (.ref C) #[a,b]) R s:=by
  obtain⟨k,g,d,t,os⟩:=s;exact PySem.W.make_core (PySem.W.makes_of X e) (PySem.W.looks_findIn X i) (λself=>PySem.W.bind_fn X self j) (.inl zZ) h
end
def cL(f:Str)(v:V):List (Str×V)->List (Str×V)
 | []=>[(f,v)]
 |(g,x)::r=>if g=f then(g,v)::r else(g,x)::cL f v r
theorem GQ(f g:Str)(v:V):∀fs:List (Str×V),(cL f v fs).lookup g=if g=f then some v else fs.lookup g
 | []=>by
  show List.lookup g [(f,v)]=_;by_cases h:g=f
  .have a:(g==f)=true:=oz.mpr h;simp only[List.lookup,a,wB h]
  .have a:(g==f)=false:=o0.mpr h;simp only[List.lookup,a,wA h]
 | (k,x)::r=>by
  have c:=GQ f g v r;rw[show cL f v ((k,x)::r)=(if k=f then(k,v)::r else(k,x)::cL f v r)from rfl];by_cases b:k=f
  .rw[wB b];by_cases h:g=k
   .have a:(g==k)=true:=oz.mpr h;simp only[List.lookup,a,wB (h.trans b)]
   .have a:(g==k)=false:=o0.mpr h;simp only[List.lookup,a,wA (λe:g=f=>h (e.trans b.symm))]
  .rw[wA b];by_cases h:g=k
   .have a:(g==k)=true:=oz.mpr h;simp only[List.lookup,a,wA (λe:g=f=>b (h.symm.trans e))]
   .have a:(g==k)=false:=o0.mpr h;simp only[List.lookup,a];exact c
theorem Ds(f:Str)(v:V):∀fs:List (Str×V),f∈(cL f v fs).map (·.1)/\∀g,g∈fs.map (·.1)->g∈(cL f v fs).map (·.1)
 | []=>#[by simp[cL],λg h=>by simp at h]
 | (k,x)::r=>by
  obtain⟨b,c⟩:=Ds f v r;rw[show cL f v ((k,x)::r)=(if k=f then(k,v)::r else(k,x)::cL f v r)from rfl];by_cases a:k=f
  .rw[wB a];subst a;exact#[by simp,λg h=>by simpa using h]
  .rw[wA a];refine#[?_,λg h=>?_]
   .rw[gv];exact dS _ b
   .rw[gv]at h|-
    rcases cX.mp h with e|e
    .exact cX.mpr (.inl e)
    .exact dS _ (c g e)
theorem KR(f:Str)(v:V):∀fs:List (Str×V),(cL f v fs).length<=fs.length+1
 | []=>by simp[cL]
 |(k,x)::r=>by
  have b:=KR f v r;rw[show cL f v ((k,x)::r)=(if k=f then(k,v)::r else(k,x)::cL f v r)from rfl];by_cases a:k=f
  .rw[wB a,iL,iL];lia
  .rw[wA a,iL,iL];lia
def RelO.some_of{v:V}{o:Option Vl}(r:RelO (some v) o):∃u,o=some u/\RelV v u:=by
 cases o with
 |none=>exact(show False from r).elim
 |some u=>exact#[u,zZ,r]
def RelO.none_of{o:Option Vl}(r:RelO none o):o=none:=by
 cases o with
 |none=>rfl
 |some u=>exact(show False from r).elim
def Qf{v:V}{u:Vl}(r:RelV v u):PySem.W.handedIn u=true:=by
 cases v with
 |non=>cases(show u=Value.none from r);rfl
 |bl b=>cases(show u=Value.bool b from r);rfl
 |int i=>obtain⟨t,e⟩:=(show ∃t,u=Value.int i t from r);cases e;rfl
 |str x=>obtain⟨t,e⟩:=(show ∃t,u=Value.str x t from r);cases e;rfl
 |byt b=>obtain⟨t,e⟩:=(show ∃t,u=Value.bytes b t from r);cases e;rfl
 |flt b=>obtain⟨t,e⟩:=(show ∃t,u=Value.float b t from r);cases e;rfl
 |ref a=>cases(show u=Value.ref a from r);rfl
 |ty n=>cases(show u=Value.type n from r);rfl
section
variable{P:Pg}{w:World}{H i:Hp}{h g:Heap}{a C b:Ad}{fs c:List (Str×V)}
def CY(g:HOk P w H h)(e:H a=some (.ins C b fs)):∃c,ObjM h a b C c/\(∀f,RelO (fs.lookup f) (c f))/\PySem.Within c (fs.map (·.1))/\fs.length<=1000/\H b=some (.own a):=by
 obtain⟨d,z,i,j,c,n,r,q⟩:=(show ObjOk P w H h a (.ins C b fs)from g a _ e);exact#[c,#[j,n,i],r,q,z,d]
end
structure Cls(K:S4)(C:Ad):Prop where
 pg:PySem.W.plainGet K C Str.empty=true
 hd:PySem.W.hasDictIn K C=true
 po:PySem.W.plainOver K C=true
 sa:PySem.W.findIn K (.ref C) "__setattr__"=some (some (.builtin "object.__setattr__"))
def Cls.get{K:S4}{C:Ad}(c:Cls K C)(f:Str):PySem.W.plainGet K C f=true:=c.pg
def NoAttr(K:S4)(C:Ad)(f:Str):Prop:=PySem.W.findIn K (.ref C) f=some none
def NoAttr.taker{K:S4}{C:Ad}{f:Str}(n:NoAttr K C f):PySem.W.takerIn K C f=some none:=by
 unfold PySem.W.takerIn;rw[show PySem.W.findIn K (.ref C) f=some none from n];rfl
structure Meth(K:S4)(C:Ad)(m:Str)(f:Ad):Prop where
 at_:PySem.W.findIn K (.ref C) m=some (some (.ref f))
 fn:PySem.W.isFn K (.ref f)=true
 kp:PySem.W.keepIn K (.ref f)=true
section
variable{X:Cx}{d:AO}{i:St}{H:Hp}{s:Sh}{a C j:Ad}{fs:List (Str×V)}{f:Str}{v:V}{A:Ar}{E:VP}
def QP{b:Bool}{Q:VP}(I:Inv X d i H s)(e:H a=some (.ins C j fs))(c:Cls X.K C)(n:NoAttr X.K C f)(l:fs.lookup f=some v)(h:∀u g,Inv X d i H g->RelV v u->Q u g):wpAny (model X.prog X.w) A (getAttr (.ref a) f b) Q E s:=by
 obtain⟨m,O,r,_,_,_⟩:=CY I.hok e;obtain⟨u,p,k⟩:=RelO.some_of (v:=v) (o:=m f) (by rw[<-l];exact r f);exact Pt I.kIn O (c.get f) c.hd n p (Qf k) (h u _ (I.tok _) k)
def Jj{m:Str}{g:Ad}{b:Sem Bool}{Q:Vl×Vs->Sh->Prop}(I:Inv X d i H s)(e:H a=some (.ins C j fs))(c:Cls X.K C)(k:Meth X.K C m g)(l:fs.lookup m=none)(h:Q (.ref g,[.ref a]) s):wpAny (model X.prog X.w) A (getMethod (.ref a) m b) Q E s:=by
 obtain⟨f,O,r,_,_,_⟩:=CY I.hok e;have n:f m=none:=RelO.none_of (by rw[<-l];exact r m);exact L6 I.kIn O (c.get m) k.at_ k.fn n h
def Nb{y:V}{u:Vl}{Q:Unit->Sh->Prop}(I:Inv X d i H s)(e:H a=some (.ins C j fs))(c:Cls X.K C)(n:NoAttr X.K C f)(N:fs.length<1000)(v:RelV y u)(h:∀l,Inv X d i (bC H a (.ins C j (cL f y fs))) l->Q ⟨⟩ l):wpAny (model X.prog X.w) A (setAttr (.ref a) f u) Q E s:=by
 obtain⟨m,O,r,p,_,t⟩:=CY I.hok e;have w:(fs.map (·.1)).length<=sizeLine:=by rw[bF,cH];lia
 refine OX I.kIn O c.sa c.po n.taker c.hd p w λB k D=>h _ ?_;have G:∃o,B.get? j=some o:=let⟨o,_,_,J,_⟩:=k.ns;#[o,J]
 refine I.write (x:=a) (e:=j) (by rw[e];exact True.intro) (.inr t) (λb q L z=>(D.2 b L).trans z) G ?_;refine#[by rw[bL O.ne];exact t,?_,O.ne,k.obj,_,k.ns,λg=>?_,λg M=>?_]
 .have:=KR f y fs;lia
 .show RelO ((cL f y fs).lookup g) (if g=f then some u else m g);rw[GQ];by_cases q:g=f
  .rw[wB q,wB q];exact v
  .rw[wA q,wA q];exact r g
 .by_cases q:g=f
  .rw[q];exact(Ds f y fs).1
  .refine(Ds f y fs).2 g (p g λz=>M ?_);show(if g=f then some u else m g)=none;rw[wA q];exact z
def Inv.made(I:Inv X d i H s):Inv X d i (bC (bC H s.heap.objs.size (.own (s.heap.objs.size+1))) (s.heap.objs.size+1) (.ins C s.heap.objs.size [])) {s with heap:=(s.heap.push PySem.W.emptyDict).push (PySem.W.instObj C s.heap.objs.size)}:=by
  have c:(s.heap.push PySem.W.emptyDict).get? s.heap.objs.size=some PySem.W.emptyDict:=dG s.heap rfl;have g:((s.heap.push PySem.W.emptyDict).push (PySem.W.instObj C s.heap.objs.size)).get? (s.heap.objs.size+1)=some (PySem.W.instObj C s.heap.objs.size):=by
    have:=dG (s.heap.push PySem.W.emptyDict) (o:=PySem.W.instObj C s.heap.objs.size) rfl;rwa[wg]at this
  have h:(s.heap.push PySem.W.emptyDict).Ns s.heap.objs.size (λ_=>none):=#[PySem.W.emptyDict,#v[],_,c,zZ,(λe j=>wC j (by simp)),λ_=>rfl];have k:=I.laid (a:=s.heap.objs.size) (o:= .own (s.heap.objs.size+1)) (h':=s.heap.push PySem.W.emptyDict) (t':=s.toks) (λb u q=>cM _ q) (bR _) #[_,c];refine k.laid (a:=s.heap.objs.size+1) (o:= .ins C s.heap.objs.size []) (t':=s.toks) (λb u q=>cM _ q) (tr (wg _ _)) ?_;have f:s.heap.objs.size≠s.heap.objs.size+1:=dj (rc _);refine#[by rw[bL f,bG],iW _,f,g,λ_=>none,(Heap.Ns1.of_empty h).at λo q=>cM _ q,λ_=>True.intro,λy l=>wC rfl l]
def Ov{a:Pg}{w:World}{b:Env}{e:Expr}{f:Str}{d:Pos}{s:Sh}{Q:VP}(g:attributeBase e f b (eval e b)=eval e b)(h:wpAny (model a w) A (eval e b) (λo c=>wpAny (model a w) A (getAttr o f true) Q E c) E s):wpAny (model a w) A (eval (.Attribute e f d) b) Q E s:=
 Attribute_any_ h (by rw[arm_eval_Attribute,g])
end
def EF(K:S4)(c:TE)(f:Str):TE:=λd H Q=>c d H λx b=>∃a C e fs v,x=.ref a/\b a=some (.ins C e fs)/\Cls K C/\NoAttr K C f/\fs.lookup f=some v/\Q v b
def D7(K:S4)(e g:TE)(f:Str):TS:=λD b H=>g b H λy h=>e b h λx c=>∃a C d fs,x=.ref a/\c a=some (.ins C d fs)/\Cls K C/\NoAttr K C f/\fs.length<1000/\
 D.nx b (bC c a (.ins C d (cL f y fs)))
section
variable{X:Cx}{o e b:Expr}{f:Str}{g d k:Pos}{i j:TE}
def dP(b:PE X e i)(d:attributeBase e f X.env (eval e X.env)=eval e X.env):PE X (.Attribute e f g) (EF X.K i f):=by
 intro j s k H Q I h;refine Ov d (bW (b j s k H _ I h) λu z ⟨x,m,o,p,a,C,A,fs,v,r,t,c,n,l,q⟩=>?_);subst r;obtain rfl:u=Value.ref a:=p;exact QP o t c n l λB D w y=>#[v,m,w,y,q]
def md(m:PE X o i)(p:PE X b j)(r:swapsWith b (some (.Attribute o f d)) g.line X.env=pure false):PS X (.Assign [.Attribute o f d] b g) (D7 X.K i j f):=by
 intro k s e H D I h;refine plainObj_wpAny_Assign_Attribute (bW (p k s e H _ I h) λu t ⟨y,v,w,z,q⟩=>bW (m k t e v _ w q) λA N ⟨x,O,B,E,a,C,Q,fs,G,J,c,n,l,L⟩=>?_) r;subst G;obtain rfl:A=Value.ref a:=E;exact Nb B J c n l z λT M=>#[e,_,M,L]
end
section
variable{X:Cx}{za:AO}{σ:St}{H:Hp}{s:Sh}{A:Ar}{E:VP}{Q:VP}{c:Vl}{b:Bool}
inductive TyOf (K:S4) (H:Hp):V->Vl->Prop where
 |non:TyOf K H .non (.type "NoneType")
 |bl (x:Bool):TyOf K H (.bl x) (.type "bool")
 |int (i:Int):TyOf K H (.int i) (.type "int")
 |str (x:Str):TyOf K H (.str x) (.type "str")
 |flt (x:UInt64):TyOf K H (.flt x) (.type "float")
 |lst {a:Ad} {xs:List V} (e:H a=some (.lst xs)):TyOf K H (.ref a) (.type "list")
 |frz {a:Ad} {o:Obj} {xs:List V} (e:H a=some (.frz o (.lst xs))):TyOf K H (.ref a) (.type "list")
 |tup {a:Ad} {xs:List V} (e:H a=some (.tup xs)):TyOf K H (.ref a) (.type "tuple")
 |dK {a:Ad} {kvs:List (cD×V)} (e:H a=some (.dK kvs)):TyOf K H (.ref a) (.type "dict")
 |dT {a:Ad} {kvs:List (List cD×V)} (e:H a=some (.dT kvs)):TyOf K H (.ref a) (.type "dict")
 | ins {a C dx:Ad} {fs:List (Str×V)} (e:H a=some (.ins C dx fs)) (cl:Cls K C) (ha:PySem.W.findIn K (.ref C) "__class__"=some (some (.builtin "object.__class__")))
   (hn:PySem.W.specialIn K (.builtin "object.__class__") "__get__"=some (some (.builtin "getset_descriptor.__get__"))) (htk:PySem.W.takesIn K (.builtin "object.__class__")=some true)
   (hm:PySem.W.mroIn K C (.type "object")=some true):TyOf K H (.ref a) (.ref C)
def QU{x:V}{u t:Vl}(I:Inv X za σ H s)(d:RelV x u)(ty:TyOf X.K H x t)(e:PySem.W.kitOne X.K t c=some b)(h:∀v,Q (.bool b) {s with toks:=v}):
  wpAny (model X.prog X.w) A (call (.builtin "isinstance") [u,c]) Q E s:=by
 cases ty with
 |non=>cases(show u=Value.none from d);exact nK PySem.W.kitx_none I.kIn True.intro e (λz=>nomatch z) h
 |bl y=>cases(show u=Value.bool y from d);exact nK PySem.W.kitx_bool I.kIn True.intro e (λz=>nomatch z) h
 |int i=>obtain⟨t,q⟩:=(show ∃t,u=Value.int i t from d);cases q;exact nK PySem.W.kitx_int I.kIn True.intro e (λz=>nomatch z) h
 |str y=>obtain⟨t,q⟩:=(show ∃t,u=Value.str y t from d);cases q;exact nK PySem.W.kitx_str I.kIn True.intro e (λz=>nomatch z) h
 |flt y=>obtain⟨t,q⟩:=(show ∃t,u=Value.float y t from d);cases q;exact nK PySem.W.kitx_float I.kIn True.intro e (λz=>nomatch z) h
 | @lst a k f=>
  cases(show u=Value.ref a from d);obtain⟨_,_,n,_,g⟩:=(show ObjOk X.prog X.w H s.heap a (.lst k)from I.hok a _ f);exact nK PySem.W.kitx_list I.kIn #[_,g,zZ] e (λz=>nomatch z) h
 | @frz a w k f=>
  cases(show u=Value.ref a from d);obtain⟨_,_,_,n,_,g⟩:=(show ObjOk X.prog X.w H s.heap a (.frz w (.lst k))from I.hok a _ f);exact nK PySem.W.kitx_list I.kIn #[_,g,zZ] e (λz=>nomatch z) h
 | @tup a k f=>
  cases(show u=Value.ref a from d);obtain⟨_,_,_,p⟩:=(show ObjOk X.prog X.w H s.heap a (.tup k)from I.hok a _ f);obtain⟨o,g,l,_⟩:=p;exact nK PySem.W.kitx_tuple I.kIn #[o,g,l] e (λz=>nomatch z) h
 | @dK a j f=>
  cases(show u=Value.ref a from d);obtain⟨_,_,N,_,p⟩:=(show ObjOk X.prog X.w H s.heap a (.dK j)from I.hok a _ f);obtain⟨o,B,D,g,l,_⟩:=p;exact nK PySem.W.kitx_dict I.kIn #[o,g,l.1] e (λz=>nomatch z) h
 | @dT a j f=>
  cases(show u=Value.ref a from d);obtain⟨_,_,k,_,o,B,D,g,l,_⟩:=(show ObjOk X.prog X.w H s.heap a (.dT j)from I.hok a _ f);exact nK PySem.W.kitx_dict I.kIn #[o,g,l.1] e (λz=>nomatch z) h
 | @ins a C T fs f r G L m M=>
  cases(show u=Value.ref a from d);obtain⟨U,O,_⟩:=CY I.hok f;obtain⟨Y,J,_⟩:=O.look;exact nK (PySem.W.kitx_own (r.get _) r.hd G L m M) I.kIn J e (λz=>nomatch z) h
end
structure Room(k:Nat)(A:Ar):Prop where
 hd:A.handled=none
 dp:A.depth+3 * k+5<recursionLimit
 un:A.units+16 * k+200<cLine
def Room.mono{j k:Nat}{A:Ar}(r:Room k A)(h:j<=k):Room j A:=#[r.hd,by have:=r.dp;lia,by have:=r.un;lia]
def Room.m{A:Ar}{k j:Nat}(h:Room k A)(d:j≤k:=by decide):Room j A:=h.mono d
def Room.deeper{k:Nat}{A:Ar}(r:Room (k+1) A)(a:Env):Room k (A.deeper a):=
 #[r.hd,by have:=r.dp;show A.depth+1+3 * k+5<_;lia,by have:=r.un;show A.units+3+16 * k+200<_;lia]
def Room.in1{k:Nat}{A:Ar}(r:Room (k+1) A):Room k A.in1:=
 #[r.hd,by have:=r.dp;show A.depth+3 * k+5<_;lia,by have:=r.un;show A.units+1+16 * k+200<_;lia]
def PV{A:Ar}{C:Ad}{a:Vs}{b:List (Str×Vl)}:(A.under (.builtin "type.__call__" #[.ref C::a,b])).depth=A.depth+1:=by
 first|rfl|simp[Around.under,Code.weight,Code.isCreation,Code.isGuard,Code.isCaller,Code.frames,Code.isFrame,guardIds]
def OQ{A:Ar}{C:Ad}{a:Vs}{b:List (Str×Vl)}:(A.under (.builtin "type.__call__" #[.ref C::a,b])).units=A.units+1:=by
 first|rfl|simp[Around.under,Code.cUnits,Code.frames,Code.isFrame]
def Room.make{k:Nat}{A:Ar}(r:Room (k+1) A)(C:Ad)(a:Vs)(b:List (Str×Vl)):Room k (A.under (.builtin "type.__call__" #[.ref C::a,b])):=
 #[r.hd,by have:=r.dp;rw[PV];lia,by have:=r.un;rw[OQ];lia]
def Room.depth{k:Nat}{A:Ar}(r:Room k A):A.depth<recursionLimit:=by have:=r.dp;lia
def Room.units{k:Nat}{A:Ar}(r:Room k A):A.units+64<cLine:=by have:=r.un;lia
def lO:TA:=λ_ H Q=>Q [] H
def lJ(b:TE)(c:TA):TA:=λa H Q=>b a H λx d=>c a d λe f=>Q (x::e) f
section
variable{X:Cx}{e:Expr}{c:List Expr}{d:TE}{t:TA}{a:Pos}
def bJ:PA X [] lO:=λ_ _ _ _ H Q I h=>Calls.spliced_nil #[[],H,I,.nil,h]
def bK(g:PE X e d)(i:PA X c t)(j:starEach (e::c) X.env=(false,eval e X.env)::starEach c X.env:=by rfl):PA X (e::c) (lJ d t):=by
 intro a b s f H Q I h;rw[j];show wpAny _ _ (spliced ((false,eval e X.env)::backTo a (starEach c X.env))) _ _ s;refine Calls.spliced_cons (bW (g b s f H _ I h) λu k ⟨x,l,m,n,o⟩=>?_);exact bW (i a b k f l _ m o) λy z ⟨p,q,r,v,w⟩=>#[x::p,q,r,.cons n v,w]
def ER(t:TA):TE:=λc H Q=>t c H λa b=>a.length<=sizeLine/\∀p,b p=none->Q (.ref p) (bC b p (.tup a))
def Aq(t:TA):TE:=λc H Q=>t c H λa b=>a.length<=sizeLine/\∀p,b p=none->Q (.ref p) (bC b p (.lst a))
def kh{i}(h:PA X c t):PE X (.Tuple c i a) (ER t):=by
 intro j s k H Q I l;refine wpAny_Tuple_spliced (bW (h a j s k H _ I l) λm d ⟨n,f,g,r,z,q⟩=>#[by rw[<-r.length];exact z,?_]);have o:f d.heap.objs.size=none:=g.hok.fresh (bR _);refine#[.ref d.heap.objs.size,bC f d.heap.objs.size (.tup n),g.laid (t':=d.toks) (λb u e=>cM _ e) (bR _) ?_,zZ,q _ o];exact#[z,m,r,#[_,dG _ zZ,zZ,_,zZ,zZ]]
def gT(h:PA X c t):PE X (.List c a) (Aq t):=by
 intro i s j H Q I k;refine wpAny_List_spliced (bW (h a i s j H _ I k) λl d ⟨m,f,g,r,z,q⟩=>#[by rw[<-r.length];exact z,?_]);have n:f d.heap.objs.size=none:=g.hok.fresh (bR _);refine#[.ref d.heap.objs.size,bC f d.heap.objs.size (.lst m),g.laid (t':=d.toks) (λb u e=>cM _ e) (bR _) ?_,zZ,q _ n];exact#[z,l,0,r,dG _ zZ]
end
abbrev Sp:=List V->Hp->VK->XK->Prop
abbrev pR:=List Env->Hp->Sh->XK->Vl->Sh->Prop
structure Env0(P:Pg)(w:World)(K:S4)(mg:SV)(base:Heap)(A:Ar)(outer:List Env)(s:Sh)(H:Hp):Prop where
 frames:A.frames=some outer
 mod:Mod K mg base
 bs:∀b o,base.get? b=some o->s.heap.get? b=some o/\H b=none
 bsz:base.objs.size<=s.heap.objs.size
 funs:s.heap.FunFrames base outer
 frf:∀b∈lN outer,H b=none
 hok:HOk P w H s.heap
 bare:AllBare s.gens
def CE(a:List Env)(P:Pg)(w:World)(H:Hp)(s:Sh)(Q:VK)(u:Vl)(b:Sh):Prop:=
 ∃v c,b.os=s.os/\AllBare b.gens/\Un (lN a) [] H c s.heap b.heap/\HOk P w c b.heap/\RelV v u/\Q v c
def CR(c:pR)(a:List Env)(P:Pg)(w:World)(H:Hp)(s:Sh)(Q:VK)(E:XK)(r:Result)(b:Sh):Prop:=
 match r with
 |.ok (.ret u)=>CE a P w H s Q u b
 |.ok _=>False
 |.error e=>c a H s E e b
structure FnOk(P:Pg)(w:World)(K:S4)(mg:SV)(base:Heap)(CX:pR)(k:Nat)(f:Ad)(fd:Fd)(ps:Ss)(sp:Sp):Prop where
 len:∀vs H Q E,sp vs H Q E->vs.length=ps.length
 run:∀(A:Ar) (outer:List Env) (s:Sh) (H:Hp) (args:Args) (us:Vs) (vs:List V) (Q:VK) (E:XK),Room k A->Env0 P w K mg base A outer s H->BindsTo s fd args (ps.zip us)->Vals vs us->sp vs H Q E->
  codeAny (model P w) A (.call (.ref f) args) (CR CX outer P w H s Q E) s
def Env0.make{P:Pg}{w:World}{K:S4}{mg:SV}{b:Heap}{A:Ar}{a:List Env}{s:Sh}{H:Hp}(e:Env0 P w K mg b A a s H)(C:Ad)(c:Vs)(d:List (Str×Vl)):
  Env0 P w K mg b (A.under (.builtin "type.__call__" #[.ref C::c,d])) a s H:=#[by first|exact e.frames|(simpa[Around.under,Code.envs,Code.isFrame,pushEnvs]using e.frames),e.mod,e.bs,e.bsz,e.funs,e.frf,e.hok,e.bare]
def Env0.in1{P:Pg}{w:World}{K:S4}{mg:SV}{b:Heap}{A:Ar}{a:List Env}{s:Sh}{H:Hp}(e:Env0 P w K mg b A a s H):
  Env0 P w K mg b A.in1 a s H:=#[e.frames,e.mod,e.bs,e.bsz,e.funs,e.frf,e.hok,e.bare]
section
variable{X:Cx}{c:AO}{e:St}{H:Hp}{s a:Sh}
def Inv.env0(I:Inv X c e H s):Env0 X.prog X.w X.K X.mg X.base X.A X.stack s H:=
 #[I.ok.frames,I.ok.mod,I.bs,cP I.ok.bsz I.sz,I.stack,I.stkFree,I.hok,I.bare]
def Inv.after{Q:VK}{u:Vl}(I:Inv X c e H s)(h:CE X.stack X.prog X.w H s Q u a):EP X c e Q u a:=by
 obtain⟨v,H',os,f,un,i,r,q⟩:=h;obtain⟨k,g,d,t,j⟩:=a;obtain rfl:j=s.os:=os;exact#[v,H',I.call (h':=k) (g':=g) (d':=d) (t':=t) (ch:=[]) un i f (λb z=>wC z (by simp)),r,q]
end
def Be(b:Sp)(a:List V)(E:XK)(t:TA):TE:=λc H Q=>t c H λd e=>b (d++a) e Q E
def CV(C:Ad)(m:Str)(e:Sp)(b:List V)(E:XK)(f:TE)(t:TA):TE:=λc H Q=>f c H λx d=>∃a g fs,x=.ref a/\d a=some (.ins C g fs)/\fs.lookup m=none/\
 t c d λh i=>e (x::(h++b)) i Q E
def IX(C:Ad)(d:Sp)(b:List V)(E:XK)(t:TA):TE:=λe H Q=>t e H λf c=>∀x a,c x=none->c a=none->a≠x->
 d (.ref x::(f++b)) (bC (bC c a (.own x)) x (.ins C a [])) (λv g=>v=.non/\Q (.ref x) g) E
def Binds(K:S4)(d:Fd)(b:Ss)(c:Vs):Prop:=
 ∀(s:Sh) (a:Vs),K.In s.heap->(a++c).length=b.length->BindsTo s d #[a,[]] (b.zip (a++c))
def Binds.all{K:S4}{c:Fd}{b:Ss}(h:∀a:Vs,a.length=b.length->bindArgs c #[a,[]]=pure (b.zip a)):Binds K c b []:=λs a _ d=>by
 rw[i']at d|-;exact .of_eq (h a d)
def tF(b:pR)(X:Cx)(E:XK):Prop:=∀(c:AO) (d:St) (H:Hp) (s:Sh) (e:Vl) (a:Sh),Inv X c d H s->b X.stack H s E e a->X.xe e a
section
variable{X:Cx}{CX:pR}{k:Nat}{f C:Ad}{fd:Fd}{ps:Ss}{sp:Sp}{dvs:List V}{ds:Vs}{E:XK}{x m:Str}{p pos apos:Pos}{e o:Expr}{es:List Expr}{ta:TE}{t:TA}
def A4{b:AO}{c:St}{H:Hp}{s:Sh}{Q:VK}{us:Vs}{vs:List V}(F:FnOk X.prog X.w X.K X.mg X.base CX k f fd ps sp)(g:Room k X.A)(i:Binds X.K fd ps ds)(j:Vals dvs ds)(l:tF CX X E)(I:Inv X b c H s) (r:Vals vs us) (h:sp (vs++dvs) H Q E):wpAny (model X.prog X.w) X.A (call (.ref f) us) (EP X b c Q) X.xe s:=by
 have d:Vals (vs++dvs) (us++ds):=r.append j;have m:(us++ds).length=ps.length:=by rw[<-d.length];exact F.len _ _ _ _ h
 refine vv (mX (F.run X.A X.stack s H #[us,[]] (us++ds) (vs++dvs) Q E g I.env0 (i s us I.kIn m) d h) λr n a=>?_);cases r with
 |error e=>exact l b c H s e n I a
 |ok o=>
  cases o with
  |ret u=>exact I.after a
  |next=>exact wE a
  |brk=>exact wE a
  |cont=>exact wE a
def Rv(F:FnOk X.prog X.w X.K X.mg X.base CX k f fd ps sp)(d:Room k X.A)(g:Gl X x)(i:X.mg x=some (.ref f))(j:PySem.W.keepIn X.K (.ref f)=true)(l:Binds X.K fd ps ds)(m:Vals dvs ds)(n:tF CX X E)(o:PA X (e::es) t) (a:(x==("__debug__":Str))=false:=by decide) (u:starEach (e::es) X.env=(false,eval e X.env)::starEach es X.env:=by rfl) (b:(backTo pos (starEach es X.env)).any (·.1)=false:=by rfl):
  PE X (.Call (.Name x p) (e::es) [] pos) (Be sp dvs E t):=by
 intro v s w H Q I h;refine uj (xP I g i ?_ a);refine C0 (h₀:=X.base) I.ok.mod.kin j (bW (o pos v s w H _ I h) λy z ⟨A,B,c,r,q⟩=>#[c.kIn,?_]) u b;exact A4 F d l m n c r q
def PZ{g:Sem Bool}(y:PE X o ta)(c:Cls X.K C)(i:Meth X.K C m f)(F:FnOk X.prog X.w X.K X.mg X.base CX k f fd ps sp)(z:Room k X.A)(A:Binds X.K fd ps ds)(B:Vals dvs ds)(D:tF CX X E)(G:PA X (e::es) t)(b:starEach (e::es) X.env=(false,eval e X.env)::starEach es X.env:=by rfl) (d:(backTo pos (starEach es X.env)).any (·.1)=false:=by rfl)
  (ht:eval (.Call (.Attribute o m apos) (e::es) [] pos) X.env=(do
   let j <-eval o X.env
   standAt apos.atName
   let(f,first) <-holding [j] (getMethod j m g)
   callWith pos f first (backTo pos (starEach (e::es) X.env)) (backToKw pos (keywordEach [] X.env))):=by rfl):
  PE X (.Call (.Attribute o m apos) (e::es) [] pos) (CV C m sp dvs E ta t):=by
 intro n s p H Q I h;refine PySem.W.methodCall_KW (pl:=g) (bW (y n s p H _ I h) λu J ⟨x,L,v,M,a,dx,fs,N,O,l,q⟩=>?_) ht;subst N;obtain rfl:u=Value.ref a:=M;refine Jj v O c i l ?_;refine C0 (first:=[.ref a]) (h₀:=X.base) I.ok.mod.kin i.kp (bW (G pos n J p L _ v q) λT s2 ⟨U,H2,w,r,Y⟩=>#[w.kIn,?_]) b d;exact A4 (us:= .ref a::T) (vs:= .ref a::U) F z A B D w (.cons zZ r) Y
def Nv{pl:Sem Bool}(g:PE X o ta)(c:Cls X.K C)(d:Meth X.K C m f)(F:FnOk X.prog X.w X.K X.mg X.base CX k f fd ps sp)(i:Room k X.A)(j:Binds X.K fd ps ds)(n:Vals dvs ds)(p:tF CX X E)(ht:eval (.Call (.Attribute o m apos) [] [] pos) X.env=(do
   let e <-eval o X.env
   standAt apos.atName
   let(f,first) <-holding [e] (getMethod e m pl)
   callWith pos f first (backTo pos (starEach [] X.env)) (backToKw pos (keywordEach [] X.env))):=by rfl):
  PE X (.Call (.Attribute o m apos) [] [] pos) (CV C m sp dvs E ta lO):=by
 intro r s t H Q I h;refine PySem.W.methodCall_KW (pl:=pl) (bW (g r s t H _ I h) λu z ⟨x,A,b,v,a,B,fs,w,y,l,q⟩=>?_) ht;subst w;obtain rfl:u=Value.ref a:=v;refine Jj b y c d l ?_;exact PySem.W.callWith_K0 (first:=[.ref a]) b.kIn d.kp (A4 (us:=[.ref a]) (vs:=[.ref a]) F i j n p b (.cons zZ .nil) q)
structure Mk(K:S4)(C f:Ad):Prop where
 makes:PySem.W.makesIn K C=true
 init:PySem.W.findIn K (.ref C) "__init__"=some (some (.ref f))
 fn:PySem.W.isFn K (.ref f)=true
 kp:PySem.W.keepIn K (.ref C)=true
def LW{g:AO}{i:St}{H:Hp}{s:Sh}{Q:VK}{b:Vs}{j:List V}(M:Mk X.K C f)(F:FnOk X.prog X.w X.K X.mg X.base CX k f fd ps sp)(n:Room (k+1) X.A)(o:Binds X.K fd ps ds)(p:Vals dvs ds)(q:tF CX X E) (I:Inv X g i H s) (r:Vals j b)(h:∀x c,H x=none->H c=none->c≠x->sp (.ref x::(j++dvs)) (bC (bC H c (.own x)) x (.ins C c [])) (λv t=>v=.non/\Q (.ref x) t) E):
  wpAny (model X.prog X.w) X.A (call (.ref C) b) (EP X g i Q) X.xe s:=by
 have l:=h (s.heap.objs.size+1) s.heap.objs.size (I.hok.fresh (ub _)) (I.hok.fresh (bR _)) (dj (rc _));have d:=Inv.made (C:=C) I;have m:Vals (V.ref (s.heap.objs.size+1)::(j++dvs)) (Value.ref (s.heap.objs.size+1)::(b++ds)):= .cons zZ (r.append p);have w:(Value.ref (s.heap.objs.size+1)::b++ds).length=ps.length:=by
  have e:=m.length;rw[F.len _ _ _ _ l]at e;exact e.symm
 refine vv (Mn (f:=f) I.kIn M.makes M.init (oz.mp M.fn) (mX (F.run _ X.stack _ _ #[Value.ref (s.heap.objs.size+1)::b,[]] (Value.ref (s.heap.objs.size+1)::(b++ds)) _ _ E (n.make C b [])
  (d.env0.make C b []) (o _ (Value.ref (s.heap.objs.size+1)::b) d.kIn w) m l) λr y a=>?_))
 cases r with
 |error e=>exact q g i _ _ e y d a
 | ok z=>
  cases z with
  |ret u=>
   obtain⟨v,A,B,D,G,J⟩:=d.after a;subst G;exact#[D,#[V.ref (s.heap.objs.size+1),A,B,zZ,J]]
  |next=>exact wE a
  |brk=>exact wE a
  |cont=>exact wE a
def N'(M:Mk X.K C f)(F:FnOk X.prog X.w X.K X.mg X.base CX k f fd ps sp)(d:Room (k+1) X.A)(g:Gl X x)(i:X.mg x=some (.ref C))(j:Binds X.K fd ps ds)(l:Vals dvs ds)(m:tF CX X E)(n:PA X (e::es) t) (a:(x==("__debug__":Str))=false:=by decide) (o:starEach (e::es) X.env=(false,eval e X.env)::starEach es X.env:=by rfl) (b:(backTo pos (starEach es X.env)).any (·.1)=false:=by rfl):
  PE X (.Call (.Name x p) (e::es) [] pos) (IX C sp dvs E t):=by
 intro u s v H Q I h;refine uj (xP I g i ?_ a);refine C0 (h₀:=X.base) I.ok.mod.kin M.kp (bW (n pos u s v H _ I h) λw y ⟨z,A,c,r,q⟩=>#[c.kIn,?_]) o b;exact LW M F d j l m c r q
end
structure FnScope(N P:Ss)(sc:Scope):Prop where
 kind:sc.kind=.function:=by rfl
 co:sc.isCoroutine=false:=by rfl
 gen:sc.isGenerator=false:=by rfl
 nd:N.Nodup:=by decide+kernel
 pre:N.take P.length=P:=by rfl
 par:∀x∈P,sc.names.lookup x=some .local\/sc.names.lookup x=some .cell:=by decide+kernel
 nofree:∀y∈sc.names,y.2≠ .free:=by decide+kernel
theorem Lb{kindOf:Str->Option NameKind}{x:Str}:∀{binds:List (Str×Vl)} {m:SV},(∀v,(x,v)∉binds)->bindL kindOf binds m x=m x
 | [],_,_=>rfl
 | (n,v)::r,m,h=>by
  unfold bindL;rw[Lb λw hw=>h w (dS _ hw)];split
  .have:x≠n:=by rintro rfl;exact h v cR
   simp[this]
  .rfl
theorem K5{kindOf:Str->Option NameKind}{x:Str}:∀{binds:List (Str×Vl)} {m:SV},(∀v,(x,v)∉binds)->bindC kindOf binds m x=m x
 | [],_,_=>rfl
 | (n,v)::r,m,h=>by
  unfold bindC;rw[K5 λw hw=>h w (dS _ hw)];split
  .rfl
  .have:x≠n:=by rintro rfl;exact h v cR
   simp[this]
theorem Jr{kindOf:Str->Option NameKind}{x:Str}{v:Vl}:∀{P:Ss} {a:Vs} {i:Nat} {m:SV},P.Nodup->P[i]?=some x->a[i]?=some v->kindOf x=some .local->
  bindL kindOf (P.zip a) m x=some v
 | [],_,_,_,_,h,_,_=>by simp at h
 |_::_,[],_,_,_,_,h,_=>by simp at h
 |p::P,w::a,0,m,nd,b,c,d=>by
  simp at b c;subst b;subst c;show bindL kindOf ((p,w)::P.zip a) m p=_;unfold bindL;rw[Lb λv e=>(lE.mp nd).1 (BY e).1,wB d];simp
 |p::P,w::a,i+1,m,nd,b,c,d=>by
  show bindL kindOf ((p,w)::P.zip a) m x=_;unfold bindL;exact Jr (i:=i) (lE.mp nd).2 (by simpa using b) (by simpa using c) d
theorem G3{kindOf:Str->Option NameKind}{x:Str}{v:Vl}:∀{P:Ss} {a:Vs} {i:Nat} {m:SV},P.Nodup->P[i]?=some x->a[i]?=some v->kindOf x≠some .local->
  bindC kindOf (P.zip a) m x=some v
 | [],_,_,_,_,h,_,_=>by simp at h
 |_::_,[],_,_,_,_,h,_=>by simp at h
 |p::P,w::a,0,m,nd,b,c,d=>by
  simp at b c;subst b;subst c;show bindC kindOf ((p,w)::P.zip a) m p=_;unfold bindC;rw[K5 λv e=>(lE.mp nd).1 (BY e).1,wA d];simp
 |p::P,w::a,i+1,m,nd,b,c,d=>by
  show bindC kindOf ((p,w)::P.zip a) m x=_;unfold bindC;exact G3 (i:=i) (lE.mp nd).2 (by simpa using b) (by simpa using c) d
def start(N:Ss)(a:List V):St:=a.map some++List.replicate (N.length-a.length) none
def ul(g:pR)(P:Pg)(w:World)(K:S4)(mg:SV)(base:Heap)(N:Ss)(b:Str)(a:Scope)(f:Ad)(d:Vl)(A:Ar)(outer:List Env)(s:Sh)(H:Hp)(E:XK):Cx where
 prog:=P
 w:=w
 K:=K
 mg:=mg
 base:=base
 A:=A.deeper (envOfC b a s.heap.objs.size f d)
 N:=N
 s₀:=s
 H₀:=H
 env:=envOfC b a s.heap.objs.size f d
 outer:=outer
 stack:=envOfC b a s.heap.objs.size f d::outer
 ex:=[]
 calm:=true
 fn:=λ_=>true
 pn:=[]
 xe:=λe h=>wpAny (model P w) (A.deeper (envOfC b a s.heap.objs.size f d)) (leaving (envOfC b a s.heap.objs.size f d) e) (λ_ c=>g outer H s E e c) (λi c=>g outer H s E i c) h
def IL{a:Scope}{n:Nat}{x:Str}(h:a.names.lookup x=some .cell):∃c,(cellsFrom n a.names []).lookup x=some c:=by
 have q:=PySem.W.cellsFrom_some a.names n [] (.inl h);exact Option.isSome_iff_exists.mp q
def Mw{O:pR}{P:Pg}{w:World}{K:S4}{mg:SV}{m:Heap}{N t:Ss}{j:Str}{d:Scope}{f:Ad}{I:Vl}{A:Ar}{g:List Env}{s Q:Sh}{H:Hp}{E:XK}{M:Vs}{B:List V}(S:FnScope N t d) (Y:A.handled=none) (o:Env0 P w K mg m A g s H) (hl:B.length=t.length) (r:Vals B M)(x:InCallC s s.heap.objs.size (bindL (envOfC j d s.heap.objs.size f I).kindOf (t.zip M) λ_=>none) (cellsFrom (s.heap.objs.size+1) d.names []) (bindC (envOfC j d s.heap.objs.size f I).kindOf (t.zip M) λ_=>none) Q):
  Inv (ul O P w K mg m N j d f I A g s H E) [] (start N B) H Q:=by
 have aa:t.length<=N.length:=by have:=cK List.length S.pre;rw[fh]at this;lia
 obtain⟨J,tk,rfl,T⟩:=x.done;have C:∀b:Ad,b∉(ul O P w K mg m N j d f I A g s H E).ex:=λb z=>wC (show b∈([]:As)from z) (by simp);refine#[#[o.mod,S.kind,zZ,zZ,bR _,λy z c J l=>?_,λy hy=>?_,λy c _ h=>?_,λ_=>Y,Around.frames_deeper o.frames,.inr #[zZ,zZ],λb z=>wC z (C b),o.bs,o.bsz,λb _ _=>C b,λb z=>wC z (C b),o.funs,o.frf],
  rfl,o.bare,Un.kept T,#[_,x.toInCall.ns,λi y v J l h3=>?_],λy c h=>#[_,x.cell y c h],o.hok.fresh (bR _),λy c h=>?_,λp D=>wC (show p∈([]:AO)from D) (by simp),o.hok.kept T,?_]
 .exact name_of_addr x.apart (oC J) (oC l)
 .have hy:d.names.lookup y=some .cell\/d.names.lookup y=some .free:=hy
  rcases hy with hy|hy
  .exact IL hy
  .exact wC zZ (S.nofree _ (oC hy))
 .exact eM (x.above y c (oC h))
 .have L:i<B.length:=by
   unfold start at l;by_cases L:i<B.length
   .exact L
   .rw[dO (by simpa using L)]at l;rw[List.getElem?_replicate]at l;split at l<;>cases l
  have ha:B[i]?=some v:=by
   unfold start at l;rw[dN (by simpa using L),List.getElem?_map]at l;cases e:B[i]? with
   |none=>rw[e]at l;cases l
   |some a=>rw[e]at l;cases l;rfl
  obtain⟨u,U,rv⟩:=r.get ha;have D:t[i]?=some y:=by
   rw[<-S.pre,AE ()];exact J
  have G:t.Nodup:=by rw[<-S.pre];exact S.nd.sublist (wh _ _)
  refine#[u,rv,?_]
  rcases S.par y (cb D)with k|k
  .exact .inl #[k,Jr G D U k]
  .obtain⟨c,e⟩:=IL (n:=s.heap.objs.size+1) k;refine .inr #[.inl k,c,e,?_];have q:=x.cell y c e;rw[G3 G D U (by show d.names.lookup y≠_;rw[k];decide)]at q;exact q
 .exact o.hok.fresh (eM (x.above y c (oC h)))
 .unfold start;show _=N.length;rw[cI,bF,List.length_replicate];lia
def J1{M:pR}{P:Pg}{w:World}{K:S4}{mg:SV}{h:Heap}{k:Nat}{f:Ad}{name d:Str}{i:Arguments}{j:List Stmt}{a:Scope}{dV kV D pm g ct oc:Vl}{an od:Option Ad}{T:Array (Option Vl)} {N O:Ss} {U:Sp} (lk:K.lookup f=some #[oc,od,.func (PySem.W.fnOf name d i j a dV kV D pm an g ct),T]) (Y:PySem.W.codeIn K g d=true) (S:FnScope N O a)(len:∀l H Q E,U l H Q E->l.length=O.length)(z:∀(A:Ar) (c:List Env) (s:Sh) (H:Hp) (l:List V) (Q:VK) (E:XK),Room k (A.deeper (envOfC d a s.heap.objs.size f g))->U l H Q E->
   ∃t,PSs (ul M P w K mg h N d a f g A c s H E) j t/\t {nx:=λ_ p=>Q .non p,rt:=Q} (start N l) H):
  FnOk P w K mg h M (k+1) f (PySem.W.fnOf name d i j a dV kV D pm an g ct) O U:=by
 refine#[len,λA c s H args us l Q E hr G hb r L=>?_];have hl:=len _ _ _ _ L;have KX:K.In s.heap:=G.mod.kin.keeps λb o e=>(G.bs b o e).1;have aa:s.heap.NoLimit:=G.mod.nolimit.keeps λb o e=>(G.bs b o e).1;have B:∀y∈O.zip us,a.names.lookup y.1=some .local\/(a.names.lookup y.1=some .cell/\((cellsFrom (s.heap.objs.size+1) a.names []).lookup y.1).isSome=true):=λ⟨n,v⟩ hy=>by
  rcases S.par n (BY hy).1 with q|q
  .exact .inl q
  .exact .inr #[q,PySem.W.cellsFrom_some _ _ _ (.inl q)]
 refine codeAny_call_function hr.depth (KX _ _ lk) zZ S.co S.gen zZ (PySem.W.codeRec_of KX Y) (hb _ _ _ _ ?_);refine wpAny_newFunctionEnv_cells S.kind B λab he s1 x=>?_;subst he;refine#[aa.keeps x.toInCall.keep,codeAny_func ?_];obtain⟨t,ht,hq⟩:=z A c s H l Q E (hr.deeper _) L;have I:Inv (ul M P w K mg h N d a f g A c s H E) [] (start N l) H s1:=Mw S hr.hd G hl r x;refine h9 (ht [] s1 (start N l) H _ I hq) (λfl s' C=>?_) λe s' C=>C;have fin:∀{m:St} {p:Hp} {v:V} {u:Vl},Inv (ul M P w K mg h N d a f g A c s H E) [] m p s'->RelV v u->Q v p->CE c P w H s Q u s':=
  λ{m p v u} J rv q=>#[v,p,J.os,J.bare,J.base,J.hok,rv,q]
 cases fl with
 |ret u=>
  obtain⟨v,m,p,J,rv,q⟩:=C;exact fin J rv q
 |next=>
  obtain⟨m,p,J,q⟩:=C;exact fin (v:=V.non) (u:=Value.none) J zZ q
 |brk=>
  obtain⟨_,_,_,q⟩:=C;exact wE q
 |cont=>
  obtain⟨_,_,_,q⟩:=C;exact wE q
section
variable{X:Cx}{x:Str}{p a:Pos}{e:Expr}{b:List Expr}{t:TA}{id T:String}{r:List V->Hp->VK->Prop}
def JP(r:List V->Hp->VK->Prop)(t:TA):TE:=λa H Q=>t a H λb c=>r b c Q
def c9(i:hA X (.builtin id) r)(j:Gl X x)(k:X.mg x=none)(l:bootBuiltins x=some (.builtin id))(m:PA X (e::b) t)(n:x≠"__name__":=by decide)(c:(x==("__debug__":Str))=false:=by decide)
  (o:starEach (e::b) X.env=(false,eval e X.env)::starEach b X.env:=by rfl) (d:(backTo a (starEach b X.env)).any (·.1)=false:=by rfl):PE X (.Call (.Name x p) (e::b) [] a) (JP r t):=by
 intro f s g H Q I h;refine uj (se I j k l ?_ n c);exact PyProof.Rows.callWith_builtin1 (bW (m a f s g H _ I h) λq u ⟨v,w,y,z,A⟩=>i f u g w v q Q y z A) o d
def f9(i:hA X (.type T) r)(j:Gl X x)(k:X.mg x=none)(l:bootBuiltins x=some (.type T))(m:PA X (e::b) t)(n:x≠"__name__":=by decide)(c:(x==("__debug__":Str))=false:=by decide)
  (o:starEach (e::b) X.env=(false,eval e X.env)::starEach b X.env:=by rfl) (d:(backTo a (starEach b X.env)).any (·.1)=false:=by rfl):PE X (.Call (.Name x p) (e::b) [] a) (JP r t):=by
 intro f s g H Q I h;refine uj (se I j k l ?_ n c);exact AC (bW (m a f s g H _ I h) λq u ⟨v,w,y,z,A⟩=>i f u g w v q Q y z A) o d
end
end L2
namespace HT
open PySem PyProof.Rows
def zc:Zs->List Int->Bool
 | [],[]=>false
 | [],_::_=>true
 |_::_,[]=>false
 |x::a,y::b=>if x=y then zc a b else decide (x<y)
def fq(A:Ar)(s:Sh)(a:Int)(t:Tok)(c:Int)(u:Tok):∃e,SeqAt.EqAt A s (.int a t) (.int c u) e/\(e=true↔a=c):=
 #[(a==c),SeqAt.EqAt.int_int a t c u,by simp]
section
variable{a:Pg}{w:World}{A:Ar}{E:VP}{s:Sh}
def sIx(n d:Nat):Option Int->Nat
 |none=>d
 |some v=>if v<0 then(v+(n:Int)).toNat else min v.toNat n
def sIx_none(n d:Nat):sIx n d none=d:=rfl
def sIx_nat(n d k:Nat):sIx n d (some (k:Int))=min k n:=by
 show(if(k:Int)<0 then((k:Int)+(n:Int)).toNat else min (k:Int).toNat n)=min k n;rw[wA (),hY]
end
end HT
namespace L2
open PySem PySem.Spec PyProof.Rows
abbrev TO:=St->Hp->(Option Int->Hp->Prop)->Prop
def PO(X:Cx)(e:Option Expr)(t:TO):Prop:=
 ∀(b:AO) (s:Sh) (a:St) (H:Hp) (Q:Option Int->Hp->Prop),Inv X b a H s->t a H Q->
  wpAny (model X.prog X.w) X.A (evalPart e X.env) (λu d=>∃o c,Inv X b a c d/\IsPart u o/\Q o c) X.xe s
def O5:TO:=λ_ H Q=>Q none H
def yw(t:TE):TO:=λa H Q=>t a H λx b=>∃i,x=.int i/\Q (some i) b
def Ps{a:Zs}:∀{b:Vs},Vals (a.map V.int) b->IntsAre b a:=by
 induction a with
 |nil=>intro b r;rw[CM]at r;cases r;exact .nil
 | cons n a c=>
  intro b r;rw[gv]at r;cases r with
  |cons d f=>
   obtain⟨t,e⟩:=d;subst e;exact .cons n t (c f)
section
variable{X:Cx}{e:Expr}{c:TE}{lo a:Option Expr}{tl d:TO}{f g:Pos}
def Mq:PO X none O5:=by
 intro a s b H Q I h;rw[evalPart_none];exact bM #[none,H,I,.none,h]
def Dc(h:PE X e c):PO X (some e) (yw c):=by
 intro a s b H Q I hw;rw[evalPart_some];refine bW (h a s b H _ I hw) λu k ⟨x,d,f,g,j⟩=>?_;obtain⟨i,rfl,q⟩:=j;obtain⟨t,rfl⟩:=g;exact#[some i,d,f,.int i t,q]
def KN(X:Cx)(r:V->Option Int->Option Int->Hp->VK->Prop):Prop:=
 ∀(b:AO) (s:Sh) (c:St) (H:Hp) (x:V) (v d e:Vl) (lo a:Option Int) (sl:Ad) (Q:VK),Inv X b c H s->RelV x v->s.heap.IsSliceOf sl d e .none->IsPart d lo->IsPart e a->r x lo a H Q->
  ∃T id,typeLookup (.type T) "__getitem__"=pure (some (.builtin id))/\s.TypeIs v T/\wpAny (model X.prog X.w) X.A (getItem v (.ref sl)) (EP X b c Q) X.xe s
def QW(r:V->Option Int->Option Int->Hp->VK->Prop)(c:TE)(tl d:TO):TE:=λa H Q=>c a H λx b=>tl a b λl e=>d a e λu f=>r x l u f Q
def GS{r:V->Option Int->Option Int->Hp->VK->Prop}(n:KN X r)(o:PE X e c)(p:PO X lo tl)(t:PO X a d):PE X (.Subscript e (.Slice lo a none g) f) (QW r c tl d):=by
 intro i s j H Q I h;refine Subscript_ (bW (o i s j H _ I h) λv w ⟨x,y,z,A,B⟩=>?_);refine wpAny_Slice (bW (p i w j y _ z B) λk C ⟨l,D,E,G,J⟩=>bW (t i C j D _ E J) λvu s3 ⟨u,m,L,M,N⟩=>?_);rw[evalPart_none];refine bM ?_;have O:Inv X i j m {s3 with heap:=s3.heap.push {cls:= .type "slice",data:= .fields #v[k,vu,.none]}}:=L.kept (t':=s3.toks) λb Y q=>cM _ q;obtain⟨T,id,hT,ht,U⟩:=n i {s3 with heap:=s3.heap.push {cls:= .type "slice",data:= .fields #v[k,vu,.none]}} j m x v k vu l u s3.heap.objs.size Q O A (Heap.IsSliceOf.new ..) G M N;show wpAny (model X.prog X.w) X.A (subscriptTail e (.Slice lo a none g) v (.ref s3.heap.objs.size)) (EP X i j Q) X.xe {s3 with heap:=s3.heap.push {cls:= .type "slice",data:= .fields #v[k,vu,.none]}};exact tail_any (ops:=[.ref s3.heap.objs.size,v]) ht hT U (by with_unfolding_all rfl)
def pO(b:List V)(lo a:Option Int):List V:=(b.drop (HT.sIx b.length 0 lo)).take (HT.sIx b.length b.length a-HT.sIx b.length 0 lo)
def QZ(b:List V)(lo a:Option Int):(pO b lo a).length<=b.length:=by
 unfold pO;rw[fh,qg];lia
end
def nI(n:Nat)(i:Int):Option Nat:=if 0<=i then(if i<n then some i.toNat else none)else if -(n:Int)<=i then some (i+n).toNat else none
def fP{a:Type}(b:List a)(i:Int):Option a:=(nI b.length i).bind λj=>b[j]?
def JH{n:Nat}{i:Int}{j:Nat}(h:nI n i=some j):seqIndex? i n=some j/\j<n/\ -(n:Int)<=i/\i<n:=by
 unfold nI at h;by_cases b:0<=i
 .rw[wB b]at h;by_cases a:i<n
  .rw[wB a]at h;have e:i.toNat=j:=f' h;exact#[by rw[seqIndex_of b a,e],(),(),a]
  .rw[wA a]at h;cases h
 .rw[wA b]at h;by_cases a: -(n:Int)<=i
  .rw[wB a]at h;have e:(i+n).toNat=j:=f' h;exact#[by rw[seqIndex_neg () a,e],(),a,()]
  .rw[wA a]at h;cases h
def BK{b:Type}{a:List b}{i:Int}{v:b}(h:fP a i=some v):∃j,seqIndex? i a.length=some j/\a[j]?=some v/\j<a.length/\ -(a.length:Int)<=i/\i<a.length:=by
 unfold fP at h;cases e:nI a.length i with
 |none=>rw[e]at h;cases h
 |some j=>
  rw[e]at h;obtain⟨c,d,f,g⟩:=JH e;exact#[j,c,h,d,f,g]
def ge{b:Type}{a:List b}{j:Nat}{v:b}(h:a[j]?=some v):fP a (j:Int)=some v:=by
 have c:j<a.length:=(bU.mp h).1;have e:nI a.length (j:Int)=some j:=by
  unfold nI;rw[wB (),wB ()];simp
 unfold fP;rw[e];exact h
def Mo{b:Type}(a:List b)(v:b):fP (a++[v]) (-1)=some v:=by
 have c:(a++[v]).length=a.length+1:=by simp
 have e:nI (a++[v]).length (-1)=some a.length:=by
  unfold nI;rw[c,wA (by decide),wB ()]
  congr 1
  lia
 unfold fP;rw[e];show(a++[v])[a.length]?=some v;simp
def RJ(b:Expr):Prop:=∀o i,subscripted b false o i=operate [o,i] (getItem o i)
def IxR(X:Cx)(r:R2):Prop:=
 ∀(b a:Expr) (c:AO) (s:Sh) (d:St) (H:Hp) (x y:V) (v u:Vl) (Q:VK),Inv X c d H s->RelV x v->RelV y u->r x y H Q->
  subscripted a false v u=operate [v,u] (getItem v u)->wpAny (model X.prog X.w) X.A (subscriptTail b a v u) (EP X c d Q) X.xe s
def mP(X:Cx)(id:String)(r:V->List V->Hp->VK->Prop):Prop:=
 ∀(a:AO) (s:Sh) (b:St) (H:Hp) (x:V) (c:List V) (v:Vl) (d:Vs) (Q:VK),Inv X a b H s->RelV x v->Vals c d->r x c H Q->
  wpAny (model X.prog X.w) X.A (call (.builtin id) (v::d)) (EP X a b Q) X.xe s
section
variable{X:Cx}{a b:Expr}{D C:TE}{B:Pos}
def ck{r:R2}(c:IxR X r)(d:PE X a D)(e:PE X b C)(f:RJ b):PE X (.Subscript a b B) (xp r D C):=by
 intro g s i H Q I h;exact Subscript_ (va d e I h λv u j x y k l m n q=>c a b g j i k x y v u Q l m n q (f _ _))
inductive mj(K:S4)(x y:V)(H:Hp)(Q:VK):Prop|mk:∀p a i v,x=.ref p->y=.int i->SqL K H p a->fP a i=some v->Q v H->mj K x y H Q
inductive ud(K:S4)(x y:V)(H:Hp)(Q:VK):Prop|mk:∀p a i v,x=.ref p->y=.int i->SqT K H p a->fP a i=some v->Q v H->ud K x y H Q
inductive yf(x y:V)(H:Hp)(Q:VK):Prop|mk:∀z i c,x=.str z->y=.int i->z.length<=sizeLine->fP z.cps.toList i=some c->Q (.str #[#v[c]]) H->yf x y H Q
def d9:IxR X (mj X.K):=by
 intro b c k s l H x y v u Q I A B h m;obtain⟨p,N,i,z,rfl,rfl,C,D,q⟩:=h;cases A;obtain⟨t,rfl⟩:=B;obtain⟨d,r,e,O⟩:=I.list C;obtain⟨j,a,E,T,G,J⟩:=BK D;obtain⟨w,n,f⟩:=r.get E;have L:=r.length;have U:=tq;have fin:EP X k l Q w s:=#[z,H,I,f,q];by_cases o:0<=i
 .have g:i.toNat=j:=by
   rw[seqIndex_of o J]at a;exact f' a
  exact item_listR e.isList o () (by rw[g];simpa using n) fin m
 .have g:(i+(d.toArray.size:Int)).toNat=j:=by
   rw[seqIndex_neg () G]at a;rw[eE,<-L];exact f' a
  exact subscriptTail_builtinR (x:=w) e.isList.typeIs slot_list_getitem.lookup
   (wpAny_getItem_list_neg (Q:=λr M=>r=w/\EP X k l Q r M) e.isList () (by rw[eE]<;>lia) () (by rw[g];simpa using n) #[zZ,fin]) m
def dA:IxR X (ud X.K):=by
 intro a b d s e H x y v u Q I g k h l;obtain⟨p,G,i,z,rfl,rfl,m,n,q⟩:=h;cases g;obtain⟨t,rfl⟩:=k;obtain⟨o,r,f,J⟩:=I.tuple m;obtain⟨j,A,B,L,M,N⟩:=BK n;obtain⟨w,C,c⟩:=r.get B;have D:=r.length;have O:=tq;have fin:EP X d e Q w s:=#[z,H,I,c,q];exact subscriptTail_builtinR (x:=w) f.typeIs slot_tuple_getitem.lookup
  (getItem_tuple (j:=j) (Q:=λr E=>r=w/\EP X d e Q r E) f () () (by rw[eE,<-D];exact A) (by simpa using C) #[zZ,fin]) l
def Ku:IxR X yf:=by
 intro a b w s A H x y v u Q I e f h g;obtain⟨z,i,c,rfl,rfl,B,k,q⟩:=h;obtain⟨t,rfl⟩:=e;obtain⟨C,rfl⟩:=f;obtain⟨j,d,l,D,m,n⟩:=BK k;have o:z.cps.toList.length=z.length:=by simp[Str.length]
 rw[o]at d m n;have E:=tq;exact tail_any (ye s z t) slot_str_getitem.lookup (getItem_str (c:=c) (by
  have p:decide (i< -(2 ^ 63:Int))=false:=eW ();have r:decide (i>=2 ^ 63)=false:=eW ();rw[p,r,Bool.or_false]) (by rw[d];simpa using l) #[.str #[#v[c]],H,I.tok _,#[_,zZ],q]) g
def Nq(a:Vs)(n j:Nat)(u:Vl):Obj.mapSeq (·.setIfInBounds j u) {cls:= .type "list",data:= .seq a.toArray n}={cls:= .type "list",data:= .seq (a.set j u).toArray n}:=by
 simp[Obj.mapSeq]
def Inv.lst{b:AO}{c:St}{H:Hp}{s:Sh}{p:Ad}{a:List V}(I:Inv X b c H s)(h:H p=some (.lst a)):
  ∃(its:Vs) (n:Nat),Vals a its/\s.heap.get? p=some {cls:= .type "list",data:= .seq its.toArray n}/\a.length<=sizeLine:=by
 obtain⟨z,its,n,r,e⟩:=I.hok p _ h;exact#[its,n,r,e,z]
def Inv.lstUpd{i:AO}{j:St}{H:Hp}{s:Sh}{p:Ad}{l d:List V}{c a:Vs}{n g:Nat}{f:Obj->Obj}(I:Inv X i j H s)(h:H p=some (.lst l))(m:s.heap.get? p=some {cls:= .type "list",data:= .seq c.toArray n}) (k:f {cls:= .type "list",data:= .seq c.toArray n}={cls:= .type "list",data:= .seq a.toArray g}) (r:Vals d a) (o:d.length<=sizeLine) (t:Nat):
  Inv X i j (bC H p (.lst d)) {s with heap:=s.heap.update p f,toks:=t}:=by
 have e:(s.heap.update p f).get? p=some {cls:= .type "list",data:= .seq a.toArray g}:=by
  rw[vo f m (by rw[k]<;>rfl),k]
 refine I.write (x:=p) (e:=p) (by rw[h];trivial) (.inl zZ) (λb u v q=>(lW _ _ (dM v)).trans q) #[_,e] ?_;exact#[o,a,g,r,e]
inductive qc(o i v:V)(H:Hp)(Q:Hp->Prop):Prop|mk:∀p a k j,o=.ref p->i=.int k->H p=some (.lst a)->nI a.length k=some j->Q (bC H p (.lst (a.set j v)))->qc o i v H Q
def CD:zB X qc:=by
 intro x s y H o i v G J u Q I z A B h;obtain⟨p,C,k,j,rfl,rfl,f,D,q⟩:=h;cases z;obtain⟨t,rfl⟩:=A;obtain⟨a,n,r,c,E⟩:=I.lst f;obtain⟨b,L,g,l⟩:=JH D;have d:=r.length;have M:=tq;have m:Inv X x y (bC H p (.lst (C.set j v))) {s with heap:=s.heap.update p (Obj.mapSeq (·.setIfInBounds j u))}:=
  I.lstUpd f c (Nq a n j u) (r.set B j) (by rw[u4];exact E) s.toks
 by_cases w:0<=k
 .have e:k.toNat=j:=by
   rw[seqIndex_of w l]at b;exact f' b
  exact PySem.W.ki_setAt c w () (by rw[eE,<-d];exact l) (by rw[e];exact#[_,m,q])
 .have e:(k+(a.toArray.size:Int)).toNat=j:=by
   rw[seqIndex_neg () g]at b;rw[eE,<-d];exact f' b
  exact PySem.W.ki_setBack c () (by rw[eE,<-d];exact g) () (by rw[e];exact#[_,m,q])
def N2(lo a:Option Int)(n:Nat):(sliceBounds lo a none n).1=((HT.sIx n 0 lo:Nat):Int)/\(sliceBounds lo a none n).2.1=((HT.sIx n n a:Nat):Int)/\(sliceBounds lo a none n).2.2=1:=by
 refine#[?_,?_,zZ]
 .cases lo with
  |none=>simp[sliceBounds,HT.sIx]
  |some i=>
   simp only[sliceBounds,HT.sIx,Option.getD_none,show(1:Int)>0 by decide,if_true];by_cases h:i<0
   .simp only[h,if_true]<;>lia
   .simp only[h,if_false]<;>lia
 .cases a with
  |none=>simp[sliceBounds,HT.sIx]
  |some i=>
   simp only[sliceBounds,HT.sIx,Option.getD_none,show(1:Int)>0 by decide,if_true];by_cases h:i<0
   .simp only[h,if_true]<;>lia
   .simp only[h,if_false]<;>lia
def PX(a:Vs)(lo b:Option Int):slicePick a.toArray lo b none=((a.drop (HT.sIx a.length 0 lo)).take (HT.sIx a.length a.length b-HT.sIx a.length 0 lo)).toArray:=by
 obtain⟨c,d,e⟩:=N2 lo b a.toArray.size;unfold slicePick;rw[c,d,e];simp only[sliceRange_one,pick_run,List.size_toArray]<;>rfl
inductive xZ(K:S4)(x:V)(lo b:Option Int)(H:Hp)(Q:VK):Prop|mk:∀a c,x=.ref a->SqL K H a c->(∀p,H p=none->Q (.ref p) (bC H p (.lst (pO c lo b))))->xZ K x lo b H Q
def Lf:KN X (xZ X.K):=by
 intro n s p H x v t u lo e sl Q I f g i j h;obtain⟨a,c,rfl,k,q⟩:=h;cases f;obtain⟨l,r,ht,m⟩:=I.list k;have d:=r.length;refine#["list",_,slot_list_getitem.lookup,ht.isList.typeIs,?_];refine wpAny_getItem_list_slice ht.isList g i j .none (by simp) ?_ (by rw[List.size_toArray]<;>lia);rw[PX,<-d];refine#[.ref s.heap.objs.size,_,I.laid (t':=s.toks) (o:= .lst (pO c lo e)) (λb w q=>cM _ q) (bR _) ?_,zZ,q _ (I.hok.fresh (bR _))];exact#[cP (QZ c lo e) m,_,0,(r.drop (HT.sIx c.length 0 lo)).take (HT.sIx c.length c.length e-HT.sIx c.length 0 lo),dG _ zZ]
def iY:V->Bool
 |.non=>true
 |.bl _=>true
 |.int _=>true
 |.str _=>true
 |_=>false
def jj:V->V->Bool
 |.non,.non=>true
 |.bl a,.bl b=>a==b
 |.bl a,.int b=>(if a then 1 else 0)==b
 |.int a,.bl b=>a==(if b then 1 else 0)
 |.int a,.int b=>a==b
 |.str a,.str b=>a==b
 |_,_=>false
def Ac{A:Ar}{s:Sh}{y x:V}{u v:Vl}(e:RelV y u)(c:RelV x v)(g:iY y=true)(f:iY x=true):SeqAt.EqAt A s u v (jj y x):=by
 cases y with
 |non=>
  cases e;cases x with
  |non=>cases c;exact SeqAt.EqAt.same _
  |bl b=>cases c;exact SeqAt.EqAt.none_bool b
  |int b=>obtain⟨t,rfl⟩:=c;exact SeqAt.EqAt.none_int b t
  |str b=>obtain⟨t,rfl⟩:=c;exact SeqAt.EqAt.none_str b t
  |_=>exact wC (show false=true from f) fX
 |bl a=>
  cases e;cases x with
  |non=>cases c;exact SeqAt.EqAt.bool_none a
  |bl b=>cases c;exact SeqAt.EqAt.bool_bool a b
  |int b=>obtain⟨t,rfl⟩:=c;exact SeqAt.EqAt.bool_int a b t
  |str b=>obtain⟨t,rfl⟩:=c;exact SeqAt.EqAt.bool_str a b t
  |_=>exact wC (show false=true from f) fX
 |int a=>
  obtain⟨d,rfl⟩:=e;cases x with
  |non=>cases c;exact SeqAt.EqAt.int_none a d
  |bl b=>cases c;exact SeqAt.EqAt.int_bool a d b
  |int b=>obtain⟨t,rfl⟩:=c;exact SeqAt.EqAt.int_int a d b t
  |str b=>obtain⟨t,rfl⟩:=c;exact SeqAt.EqAt.int_str a d b t
  |_=>exact wC (show false=true from f) fX
 |str a=>
  obtain⟨d,rfl⟩:=e;cases x with
  |non=>cases c;exact SeqAt.EqAt.str_none a d
  |bl b=>cases c;exact SeqAt.EqAt.str_bool a d b
  |int b=>obtain⟨t,rfl⟩:=c;exact SeqAt.EqAt.str_int a d b t
  |str b=>obtain⟨t,rfl⟩:=c;exact SeqAt.EqAt.str_str a d b t
  |_=>exact wC (show false=true from f) fX
 |_=>exact wC (show false=true from g) fX
def j8(x:V)(u:Vl):Bool:=match u with
 |.none=>jj .non x
 |.bool b=>jj (.bl b) x
 |.int i _=>jj (.int i) x
 |.str z _=>jj (.str z) x
 |_=>false
def Kr{x y:V}{u:Vl}(r:RelV y u)(f:iY y=true):j8 x u=jj y x:=by
 cases y with
 |non=>cases r;rfl
 |bl b=>cases r;rfl
 |int i=>obtain⟨t,rfl⟩:=r;rfl
 |str z=>obtain⟨t,rfl⟩:=r;rfl
 |_=>exact wC (show false=true from f) fX
theorem yk{x:V}:∀{a:List V} {b:Vs},Vals a b->a.all iY=true->b.any (j8 x)=a.any λy=>jj y x
 |_,_,.nil,_=>rfl
 |y::a,u::b,.cons r t,f=>by
  rw[List.all_cons,mq]at f;rw[v4,v4,Kr r f.1,yk t f.2]
theorem yZ{A:Ar}{s:Sh}{x:V}{v:Vl}(c:RelV x v)(d:iY x=true):∀{a:List V} {b:Vs},Vals a b->a.all iY=true->∀u∈b,SeqAt.EqAt A s u v (j8 x u)
 |_,_,.nil,_=>λu hu=>by cases hu
 |y::a,u::b,.cons r t,f=>λe hu=>by
  rw[List.all_cons,mq]at f
  rcases cX.mp hu with rfl|hu
  .rw[Kr r f.1];exact Ac r c f.1 d
  .exact yZ c d t f.2 e hu
def vb(x:V)(a:List V):Bool:=a.any λy=>jj y x
inductive AX(K:S4)(a:Bool)(x y:V)(H:Hp)(Q:VK):Prop|mk:∀p b,y=.ref p->((SqL K H p b\/SqT K H p b))->iY x=true->b.all iY=true->(Q (.bl (if a then !vb x b else vb x b)) H)->AX K a x y H Q
def JS:OpR X (compareOp .In) (AX X.K false):=by
 intro g s i H x y v u Q I c e h;obtain⟨p,j,rfl,hq,d,fs,q⟩:=h;cases e
 rcases hq with hq|hq
 .obtain⟨a,r,b,f⟩:=I.list hq;refine SeqAt.in_listAt (j8 x) b.isList (λw hw=>yZ c d r fs w (by simpa using hw)) #[.bl _,H,I,zZ,?_];rw[show a.toArray.any (j8 x)=a.any (j8 x) by simp,yk r fs];exact q
 .obtain⟨a,r,b,f⟩:=I.tuple hq;refine SeqAt.in_tupleAt (j8 x) b (λw hw=>yZ c d r fs w (by simpa using hw)) #[.bl _,H,I,zZ,?_];rw[show a.toArray.any (j8 x)=a.any (j8 x) by simp,yk r fs];exact q
def K3:OpR X (compareOp .NotIn) (AX X.K true):=by
 intro g s i H x y v u Q I c e h;obtain⟨p,j,rfl,hq,d,fs,q⟩:=h;cases e
 rcases hq with hq|hq
 .obtain⟨a,r,b,f⟩:=I.list hq;refine SeqAt.notIn_listAt (j8 x) b.isList (λw hw=>yZ c d r fs w (by simpa using hw)) #[.bl _,H,I,zZ,?_];rw[show a.toArray.any (j8 x)=a.any (j8 x) by simp,yk r fs];exact q
 .obtain⟨a,r,b,f⟩:=I.tuple hq;refine SeqAt.notIn_tupleAt (j8 x) b (λw hw=>yZ c d r fs w (by simpa using hw)) #[.bl _,H,I,zZ,?_];rw[show a.toArray.any (j8 x)=a.any (j8 x) by simp,yk r fs];exact q
def fv:hA X (.builtin "len") (λf H Q=>∃p b,f=[.ref p]/\(SqL X.K H p b\/SqT X.K H p b)/\Q (.int b.length) H):=by
 intro j s k H f l Q I r h;obtain⟨p,b,rfl,hq,q⟩:=h;obtain⟨u,rfl,g⟩:=gA r;cases g;have m:=tq
 rcases hq with hq|hq
 .obtain⟨c,d,e,i⟩:=I.list hq;have a:=d.length;exact Calls.call_len_list e.isList (by simp only[List.size_toArray]<;>lia) #[.int b.length,H,I.tok _,#[s.toks+1,by rw[List.size_toArray,a]],q]
 .obtain⟨c,d,e,i⟩:=I.tuple hq;have a:=d.length;exact len_tuple e (by simp only[List.size_toArray]<;>lia) #[.int b.length,H,I.tok _,#[s.toks+1,by rw[List.size_toArray,a]],q]
def Kw:hA X (.builtin "len") (λa H Q=>∃z,a=[.str z]/\z.length<=sizeLine/\Q (.int z.length) H):=by
 intro b s c H a d Q I r h;obtain⟨z,rfl,e,q⟩:=h;obtain⟨u,rfl,t,rfl⟩:=gA r;have f:=tq;exact len_str () #[.int z.length,H,I.tok _,#[_,zZ],q]
def oy:hA X (.type "tuple") (λj H Q=>∃p c,j=[.ref p]/\((SqL X.K H p c/\∀l,H l=none->Q (.ref l) (bC H l (.tup c)))\/(SqT X.K H p c/\Q (.ref p) H))):=by
 intro k s m H j z Q I r h;obtain⟨p,c,rfl,h⟩:=h;obtain⟨u,rfl,w⟩:=gA r;cases w
 rcases h with⟨f,q⟩|⟨f,q⟩
 .obtain⟨a,g,i,n⟩:=I.list f;have t:=g.length;refine call_tuple_list i.isList (λd x=>?_) (by simp only[List.size_toArray]<;>lia);have v:Inv X k m H {s with heap:=d}:=I.kept (t':=s.toks) x;have y:Inv X k m (bC H d.objs.size (.tup c)) {s with heap:=d.push {cls:= .type "tuple",data:= .seq a.toArray}}:=
   v.laid (t':=s.toks) (λb o e=>cM _ e) (bR _) (show ObjOk X.prog X.w _ _ _ (.tup c)from#[n,a,g,TupD.new _ _])
  exact#[.ref d.objs.size,_,y,zZ,q _ (v.hok.fresh (bR _))]
 .obtain⟨a,g,i,n⟩:=I.tuple f;exact call_tuple_same i #[.ref p,H,I,zZ,q]
def C6(K:S4)(T:String)(x:V)(H:Hp):Prop:=match x with
 |.str _=>T="str"
 |.int _=>T="int"
 |.ref p=>(T="list"/\∃b,SqL K H p b)\/(T="tuple"/\∃o,K.lookup p=some o/\o.cls=.type "tuple"/\o.dict=none)\/
   (T="dict"/\((∃a,H p=some (.dK a))\/∃a,H p=some (.dT a)))\/(T="set"/\∃S n,H p=some (.set S n))
 |_=>False
def Ic{l:AO}{m:St}{H:Hp}{s:Sh}{T:String}{x:V}{v:Vl}(I:Inv X l m H s)(r:RelV x v)(ty:C6 X.K T x H):
  s.TypeIs v T/\∀a,v=.ref a->∃j,s.heap.get? a=some j/\j.dict=none:=by
 cases x with
 |str z=>
  obtain⟨t,rfl⟩:=r;cases(show T="str" from ty);exact#[ye s z t,λ_ e=>nomatch e]
 |int i=>
  obtain⟨t,rfl⟩:=r;cases(show T="int" from ty);exact#[typeIs_int s i t,λ_ e=>nomatch e]
 | ref p=>
  cases r
  rcases ty with⟨rfl,y,q⟩|⟨rfl,o,b,u,f⟩|⟨rfl,b⟩|⟨rfl,S,n,b⟩
  .obtain⟨w,_,k,_⟩:=I.list q;refine#[k.isList.typeIs,λa e=>?_];cases e;obtain⟨o,n,e,c,f,_⟩:=k;exact#[o,e,f]
  .refine#[#[o,I.kIn p o b,u],λa e=>?_];cases e;exact#[o,I.kIn _ o b,f]
  .have z:∃o,s.heap.get? p=some o/\o.ExactDict:=by
    rcases b with⟨g,b⟩|⟨g,b⟩
    .obtain⟨_,_,_,_,o,_,_,e,d,_⟩:=I.hok p _ b;exact#[o,e,d]
    .obtain⟨_,_,_,_,o,_,_,e,d,_⟩:=I.hok p _ b;exact#[o,e,d]
   obtain⟨o,e,d⟩:=z;refine#[#[o,e,d.1],λa h=>?_];cases h;exact#[o,e,d.2.1]
  .obtain⟨o,_,_,_,e,d,_⟩:=I.hok p _ b;refine#[#[o,e,d.1],λa h=>?_];cases h;exact#[o,e,d.2.1]
 |_=>exact wE ty
def E8(K:S4)(T:String)(r:V->List V->Hp->VK->Prop)(to:TE):TE:=λb H Q=>to b H λx a=>C6 K T x a/\r x [] a Q
def Ae(K:S4)(T:String)(r:V->List V->Hp->VK->Prop)(to:TE)(t:TA):TE:=λa H Q=>to a H λx b=>C6 K T x b/\t a b λc d=>r x c d Q
variable{o e:Expr}{m:List Expr}{to:TE}{t:TA}{name:Str}{g d:Pos}{T id:String}{r:V->List V->Hp->VK->Prop}
def L3(l:PlainAttrs T)(c:Slot T name id)(e:typeOf (.builtin id)=pure (.type "method_descriptor"))(m:mP X id r)(n:PE X o to)(a:attributeBase o name X.env (eval o X.env)=eval o X.env:=by rfl) (b:(g.endLine==d.line)=true:=by rfl):PE X (.Call (.Attribute o name g) [] [] d) (E8 X.K T r to):=by
 intro f s i H Q I h;refine wpAny_Call_method0_late a b (bW (n f s i H _ I h) λv p ⟨x,q,j,k,ty,t⟩=>?_);obtain⟨u,w⟩:=Ic j k ty;exact#[T,id,l,c,e,u,w,Eu zZ (PySem.evalArgs_none (m f p i q x [] v [] Q j k .nil t))]
def gJ(u:PlainAttrs T)(f:Slot T name id)(j:typeOf (.builtin id)=pure (.type "method_descriptor"))(w:mP X id r)(y:PE X o to)(z:PA X (e::m) t)(b:attributeBase o name X.env (eval o X.env)=eval o X.env:=by rfl)
  (i:((backTo d (starEach (e::m) X.env)).all (λx=> !x.1)&&(backToKw d (keywordEach [] X.env)).all (λx=>x.1.isSome)
   &&decide ((e::m).length+([]:List Keyword).length+(if([]:List Keyword).isEmpty then 0 else 1)<30))=true:=by rfl)
  (c:(g.endLine==d.line)=true:=by rfl) (A:starEach (e::m) X.env=(false,eval e X.env)::starEach m X.env:=by rfl) (a:(backTo d (starEach m X.env)).any (·.1)=false:=by rfl):
  PE X (.Call (.Attribute o name g) (e::m) [] d) (Ae X.K T r to t):=by
 intro k s l H Q I h;refine wpAny_Call_method_late b i c zZ (bW (y k s l H _ I h) λv B ⟨x,C,n,p,ty,D⟩=>?_);obtain⟨E,G⟩:=Ic n p ty;refine#[T,id,u,f,j,E,G,?_];have q:=z d k B l C _ n D;rw[A]at q|-;refine Eu (by show(false || (backTo d (starEach m X.env)).any (·.1))=false;rw[a]<;>rfl) (Calls.evalArgs_plain ?_);exact bW q λJ L ⟨M,N,O,U,Y⟩=>w k L l N x M v J Q O p U Y
end
def Ms(X:Cx)(id:String)(r:V->List V->Hp->VK->Prop):Prop:=
 ∀(a:AO) (s:Sh) (b:St) (H:Hp) (x:V) (c:List V) (v:Vl) (d:Vs) (Q:VK),Inv X a b H s->RelV x v->Vals c d->r x c H Q->
  wpAny (model X.prog X.w) X.A (call (.builtin id) (v::d)) (EP X a b Q) X.xe s
theorem Vals.one:∀{x:V} {a:Vs},Vals [x] a->∃u,a=[u]/\RelV x u
 |_,_,.cons r .nil=>#[_,zZ,r]
section
variable{X:Cx}{a:AO}{c:St}{H:Hp}{s:Sh}{l b:Ad}{g d h:List V}
def Inv.lset{b its':Vs}{n:Nat}{f:AV->Array Vl}{t':Nat}(I:Inv X a c H s)(h:H l=some (.lst g))(e:s.heap.get? l=some {cls:= .type "list",data:= .seq b.toArray n}) (i:f b.toArray=its'.toArray) (j:Vals d its') (k:d.length<=sizeLine):
  Inv X a c (bC H l (.lst d)) {s with heap:=s.heap.update l (Obj.mapSeq f),toks:=t'}:=by
 have q:=PySem.IsL.update e f;rw[i]at q;refine I.write (x:=l) (e:=l) (by rw[h];exact trivial) (.inl zZ) (λp u m o=>(lW s.heap (Obj.mapSeq f) (dM m)).trans o) #[_,q] ?_;exact#[k,its',_,j,q]
def Inv.lnew{b:Vs}{t':Nat}(I:Inv X a c H s)(e:Vals d b)(f:d.length<=sizeLine):
  Inv X a c (bC H s.heap.objs.size (.lst d)) {s with heap:=s.heap.push {cls:= .type "list",data:= .seq b.toArray},toks:=t'}:=
 I.laid (λ_ _ q=>cM _ q) (bR _) #[f,b,0,e,dG _ zZ]
def Inv.fresh(I:Inv X a c H s):H s.heap.objs.size=none:=I.hok.fresh (bR _)
def Inv.lstM(I:Inv X a c H s)(d:H l=some (.lst g)):g.length<=sizeLine/\∃(b:Vs) (n:Nat),Vals g b/\g.length=b.length/\s.heap.get? l=some {cls:= .type "list",data:= .seq b.toArray n}:=by
 obtain⟨z,b,n,r,e⟩:=I.hok l _ d;exact#[z,b,n,r,r.length,e]
end
section
variable{X:Cx}
inductive iN(x:V)(b:List V)(H:Hp)(Q:VK):Prop|mk:∀l a y,x=.ref l->b=[y]->H l=some (.lst a)->a.length<sizeLine->Q .non (bC H l (.lst (a++[y])))->iN x b H Q
def lL:Ms X "list.append" iN:=by
 intro g s i H x j v k Q I c d h;obtain⟨l,m,y,rfl,rfl,b,o,q⟩:=h;cases c;obtain⟨u,rfl,f⟩:=d.one;obtain⟨z,a,n,r,p,e⟩:=I.lstM b;refine uz F.slot_list_append #[_,e,zZ] F.entry_list_append (F.args_list_append_2 _ _) (PySem.list_append l a.toArray n u (by rw[eE];lia)) #[e,?_];refine#[.non,_,I.lset (its':=a++[u]) b e (by simp) (r.append (.cons f .nil)) ?_,zZ,q];rw[cI,yD];lia
end
end L2
namespace Att
open PySem PySem.W PySem.Calls PyProof.Rows
def Oe{P:Params}{h:Heap}:∀(c:Zs) (d:Vs),WellAll P h d (c.map WData.int)->IntsAre d c:=by
 intro c
 induction c with
 |nil=>
  intro d w;rw[CM]at w;cases w;exact .nil
 | cons n c e=>
  intro d w;rw[gv]at w;cases w with
  |cons a b=>
   cases a;exact .cons _ _ (e _ b)
def Sj{l:OpenLaw}{n:Nat}(s:l.most=some n){P:Params}{h:Heap}{args:List WData}{c:Vs}(e:l.row.toRowW.claim.pre args=true) (k:WellAll P h c args):
  ∃a o b,c=[Value.ref a]/\args=[WData.list (b.map WData.int)]/\h.get? a=some {cls:= .type "list",data:= .seq o.toArray}/\IntsAre o b/\b.length<=n:=by
 have m:WShape.hasAll [] args [.list .int]=true:=(pre_splitW e).1;have p:l.pre.holds [] {args:=args}=true:=(pre_splitW e).2;obtain⟨d,r,rfl,t,u⟩:=hasAllW_cons m;obtain rfl:=hasAllW_nil u;obtain⟨A,rfl,v⟩:=hasW_list t;obtain⟨b,rfl⟩:=items_int v;have f:b.length<=n:=by
  unfold OpenLaw.pre at p;have i:(WTm.not (.lt (.lit (.int (n:Int))) (.len (.arg 0)))).holds [] {args:=[.list (b.map .int)]}=true:=by
   have i:=(holds_andW p).1;rw[s]at i;exact i
  have j:=condW_of i (w_not (w_lt w_lit (w_len_list (w_arg zZ))));rw[bF]at j;refine AU λq=>?_;have w:(n:Int)<((b.length:Nat):Int):=by lia
  first
   |(rw[cG w]at j;exact wC j (by decide))
   |(simp at j;lia)
 cases k with
 |cons x y=>
  cases y;cases x with
  |list z g=>exact#[_,_,b,zZ,zZ,z,Oe b _ g,f]
def NX(l:OpenLaw)(args:List WData):l.row.toRowW.claim.post args (.bool true) args=true:=
 postW_of (r:=l.row.toRowW) (X:=(true==true))
  (show WShape.has [] (.bool true) .bool=true by first|rfl|decide|simp[WShape.has,WShape.arms,WShape.armsAll])
  (show(WTm.eq .res (.lit (.bool true))).value [] {args:=args,res:=some (.bool true),after:=args}=some (.bool (true==true))from w_eq_bool (w_res zZ) w_lit) rfl
def attach_call{l:OpenLaw}{n:Nat}{q:Pg}{c:Ss}{z:SV->Heap->Prop}{A:World->Heap->Prop}{d:DefRec}(E:l.most=some n) (u:d.params.defaults=[])(call:∀(w:World) (e b:Sh) (mg v:SV) (fa:Ad) (o:Obj) (pm p g:Vl) (a:Ad) (i:Vs) (s:Zs),
   Ground q c [] z w e mg v b.heap->A w b.heap->
   b.heap.get? fa=some o->o.data=.func (docDef d.name d.params d.body d.scope pm p g)->b.heap.CodeRec p d.name->mg d.name=some (.ref fa)->
   b.heap.get? a=some {cls:= .type "list",data:= .seq i.toArray}->IntsAre i s->s.length<=n->b.gens= #v[]->
   codeAny (model l.prog w) callerA (.call (.ref fa) #[[.ref a],[]]) (λr t=>r=.ok (.ret (.bool true))/\OldK b.heap t.heap/\t.os=b.os/\AllBare t.gens) b):
  WalkO q c z A l.row.toRowW d [] (λf i=>PySem.call f i):=by
 intro w e b mg v G Y fa o pm p g H kV I J x B hmg L args C as j D M y N;obtain rfl:H=.none:=Dflts.none B u;obtain rfl:kV=.none:=Dflts.noKw B;obtain⟨a,i,s,rfl,rfl,k,h,m⟩:=Sj E j y;refine enter_call (mX (call w e b mg v fa o pm p g a i s G Y I (fd_plain J) x hmg k h m L) λr t O=>?_);obtain⟨rfl,Q,T,U⟩:=O;exact#[.inl #[.bool true,.bool true,[],zZ,λ_=>rfl,.bool true,NX l _,λ_=>#[List.Pairwise.nil,λ_ hm=>(nomatch hm)]],Q,T,U]
end Att
namespace L2
open PySem PySem.Spec PyProof.Rows
theorem G2:∀{a:Vs} {b:Zs},IntsAre a b->Vals (b.map V.int) a
 |_,_,.nil=> .nil
 |_,_,.cons n t h=> .cons #[t,zZ] (G2 h)
abbrev SM{K:S4}{h:Heap}(_:K.In h):S4:=K
end L2
namespace L2
open PySem PySem.Spec PyProof.Rows
def jy(s:Stmt):Arguments:=match s with
 | .FunctionDef _ a _ _ _ _ _ _ _ _=>a
 |_=>{posonlyargs:=[],args:=[],vararg:=none,kwonlyargs:=[],kw_defaults:=[],kwarg:=none,defaults:=[]}
def iD(s:Stmt):List Stmt:=match s with
 | .FunctionDef _ _ b _ _ _ _ _ _ _=>b
 |_=>[]
def bT(s:Stmt):Scope:=match s with
 | .FunctionDef _ _ _ _ _ _ a _ _ _=>a
 |_=>{kind:= .function,names:=[],isGenerator:=false,isCoroutine:=false}
abbrev b9:pR:=λ_ _ _ _ _ _=>False
abbrev E0:XK:=λ_ _ _=>False
def zT{X:Cx}:tF b9 X E0:=λ_ _ _ _ _ _ _ h=>h.elim
structure Fun(K:S4)(x qual:Str)(st:Stmt)(f:Ad)(fd:Fd):Prop where
 ex:∃(oc:Vl) (od:Option Ad) (kV doc pm:Vl) (an:Option Ad) (cdv ct:Vl) (osl:Array (Option Vl)),
  fd=PySem.W.fnOf x qual (jy st) (iD st) (bT st) .none kV doc pm an cdv ct/\K.lookup f=some #[oc,od,.func fd,osl]/\PySem.W.codeIn K cdv qual=true
 kp:PySem.W.keepIn K (.ref f)=true
section
variable{P:Pg}{w:World}{K:S4}{mg:SV}{a:Heap}
def Fun.ok{x c:Str}{st:Stmt}{f:Ad}{m:Fd}{N g:Ss}{k:Nat}{i:Sp}(F:Fun K x c st f m)(S:FnScope N g (bT st))(e:∀(d:Vl) (A:Ar) (b:List Env) (s:Sh) (H:Hp) (vs:List V) (Q:VK) (E:XK),Room k (A.deeper (envOfC c (bT st) s.heap.objs.size f d))->i vs H Q E->
   ∃t,PSs (ul b9 P w K mg a N c (bT st) f d A b s H E).nox (iD st) t/\t {nx:=λ_ H'=>Q .non H',rt:=Q} (start N vs) H)(len:∀vs H Q E,i vs H Q E->vs.length=g.length:=by (intro _ _ _ _ h;first|(cases h;subst_vars;rfl)|((repeat obtain⟨_,h⟩:=h);subst_vars;rfl))):FnOk P w K mg a b9 (k+1) f m g i:=by
 obtain⟨r,u,kV,n,pm,v,d,y,o,rfl,lk,j⟩:=F.ex;refine J1 lk j S len λA b s H vs Q E p l=>?_;obtain⟨t,h,q⟩:=e d A b s H vs Q E p l;exact#[t,h.nox,q]
def Fun.binds{x a:Str}{st:Stmt}{f:Ad}{j:Fd}{d:Ss}(F:Fun K x a st f j)(h:∀(kV b pm:Vl) (e:Option Ad) (c g:Vl) (i:Vs),i.length=d.length->bindArgs (PySem.W.fnOf x a (jy st) (iD st) (bT st) .none kV b pm e c g) #[i,[]]=pure (d.zip i)):Binds K j d []:=by
 obtain⟨m,n,kV,b,pm,e,c,g,k,rfl,lk,l⟩:=F.ex;exact .all (h kV b pm e c g)
def c9p{x a:Str}{st:Stmt}{f:Ad}{i:Vl}{j g:Option Ad}{e:Array (Option Vl)}{kV d pm b h:Vl}(l:K.lookup f=some #[i,j,.func (PySem.W.fnOf x a (jy st) (iD st) (bT st) .none kV d pm g b h),e])(c:PySem.W.codeIn K b a=true) (k:PySem.W.keepIn K (.ref f)=true):Fun K x a st f (PySem.W.fnOf x a (jy st) (iD st) (bT st) .none kV d pm g b h):=#[#[i,j,kV,d,pm,g,b,h,e,zZ,l,c],k]
end
def ik{A:Ar}{k:Nat}(a:Room k A):A.units+1<cLine:=yW (yt (by decide:1<=64) _) a.units
def Sz{n:Nat}(h:n<=1000):n<sizeLine:=yW h (by decide)
section
variable{X:Cx}
def pv(i:Nat){x:Str}{a:Pos}(c:X.N[i]?=some x:=by rfl)(d:AF X.env.scope x:=by first|exact Or.inl rfl|exact Or.inr Z'|exact Or.inr Z0)(e:(x==("__debug__":Str))=false:=by decide)
  (b:(x==("__classdict__":Str))=false:=by decide):PE X (.Name x a) (cS i):=MF c d e b
end
def dv{A B:Prop}(h:B):if false=true then A else B:=by
 rw[wA fX];exact h
def eK{A B:Prop}(h:A):if true=true then A else B:=by
 rw[wB zZ];exact h
def lF{c A B:Prop}[Decidable c](a:c->A)(b: ¬c->B):if c then A else B:=by
 by_cases h:c
 .rw[wB h];exact a h
 .rw[wA h];exact b h
def zC{c A B:Prop}[Decidable c](a:c)(h:B):if(!decide c)=true then A else B:=by
 rw[cG a];exact dv h
def Same(H a:Hp):Prop:=∀b o,H b=some o->a b=some o
def Same.refl(H:Hp):Same H H:=λ_ _ h=>h
def Same.trans{H d e:Hp}(a:Same H d)(b:Same d e):Same H e:=λc o h=>b c o (a c o h)
def Same.free{H a:Hp}(e:Same H a){l:Ad}(h:a l=Option.none):H l=Option.none:=by
 cases q:H l with
 |none=>rfl
 |some o=>
  rw[e l o q]at h;cases h
def Same.seq{K:S4}{H b:Hp}{a:Ad}{c:List V}(e:Same H b)(h:SqL K H a c):SqL K b a c:=by
 rcases h with(h|⟨o,h⟩)|h
 .exact .inl (.inl (e _ _ h))
 .exact .inl (.inr #[o,e _ _ h])
 .exact .inr h
section
variable{a:Type}[DecidableEq a]
def hG(b:List (a×V))(k:a):Option V:=(b.find? λc=>decide (c.1=k)).map (·.2)
def i9(b:List (a×V))(k:a)(v:V):List (a×V):=
 if(b.any λc=>decide (c.1=k))=true then b.map (λc=>if c.1=k then(c.1,v)else c)else b++[(k,v)]
def A3{p:a×V}{r:List (a×V)}{k:a}(e:p.1=k):hG (p::r) k=some p.2:=by simp[hG,List.find?_cons,e]
def z7{p:a×V}{r:List (a×V)}{k:a}(e: ¬p.1=k):hG (p::r) k=hG r k:=by simp[hG,List.find?_cons,e]
theorem D'(k:a):∀b:List (a×V),(b.any λc=>decide (c.1=k))=(hG b k).isSome
 | []=>rfl
 |p::r=>by
  rw[v4];by_cases e:p.1=k
  .simp only[A3 e,decide_eq_true e,Bool.true_or,Option.isSome_some]
  .rw[z7 e,eW e,Bool.false_or];exact D' k r
def Lg(b:List (a×V))(k:a)(v:V):(i9 b k v).length<=b.length+1:=by
 unfold i9;split
 .rw[bF];lia
 .rw[cI,iL,List.length_nil];lia
def FR{b:List (a×V)}{k:a}(v:V)(h:hG b k=none):i9 b k v=b++[(k,v)]:=by
 unfold i9;rw[D',h];exact wA (by decide)
def RelO.isSome_eq{o:Option V}{u:Option Vl}(r:RelO o u):o.isSome=u.isSome:=by
 cases o with
 |none=>cases u with
  |none=>rfl
  |some _=>exact(show False from r).elim
 |some _=>cases u with
  |none=>exact(show False from r).elim
  |some _=>rfl
def KV.val{c:List (a×V)}{g:List (a×Vl)}(r:KV c g)(k:a):RelO (hG c k) (valueAt g k):=by
 unfold KV at r
 induction r with
 |nil=>exact True.intro
 | @cons p q m d h t j=>
  obtain⟨i,l⟩:=h;by_cases e:p.1=k
  .have f:q.1=k:=i.symm.trans e;have b:valueAt (q::d) k=some q.2:=by simp[valueAt,List.find?_cons,f]
   rw[A3 e,b];exact l
  .have f: ¬q.1=k:=λz=>e (i.trans z);have b:valueAt (q::d) k=valueAt d k:=by simp[valueAt,List.find?_cons,f]
   rw[z7 e,b];exact j
def KV.any{b:List (a×V)}{d:List (a×Vl)}(r:KV b d)(k:a):(b.any λc=>decide (c.1=k))=d.any λc=>decide (c.1=k):=by
 unfold KV at r
 induction r with
 |nil=>rfl
 |cons h t e=>rw[v4,v4,e,h.1]
def KV.repl{c:List (a×V)}{f:List (a×Vl)}(r:KV c f)(k:a){y:V}{u:Vl}(g:RelV y u):
  KV (c.map λb=>if b.1=k then(b.1,y)else b) (f.map λb=>if b.1=k then(b.1,u)else b):=by
 unfold KV at r|-
 induction r with
 |nil=>exact .nil
 | @cons p q l m h t i=>
  rw[gv,gv];refine .cons ?_ i;obtain⟨d,j⟩:=h;by_cases e:p.1=k
  .rw[wB e,wB (d.symm.trans e)];exact#[d,g]
  .rw[wA e,wA (λz=>e (d.trans z))];exact#[d,j]
def KV.put{b:List (a×V)}{c:List (a×Vl)}(r:KV b c)(k:a){y:V}{u:Vl}(d:RelV y u):KV (i9 b k y) (stored c k u):=by
 unfold i9 stored;rw[r.any k];by_cases e:(c.any λf=>decide (f.1=k))=true
 .rw[wB e,wB e];exact r.repl k d
 .rw[wA e,wA e];exact Paired.snoc r #[zZ,d]
def KV.length{b:List (a×V)}{vs:List (a×Vl)}(r:KV b vs):b.length=vs.length:=oM r
end
def z6{P:Pg}{w:World}{k:cD}{u:Vl}(r:RelV (kV k) u):(lP P w).is k u=true:=by
 cases k with
 |inl i=>obtain⟨t,e⟩:=(show ∃t,u=Value.int i t from r);subst e;exact RK P w i t
 |inr x=>obtain⟨t,e⟩:=(show ∃t,u=Value.str x t from r);subst e;exact OO P w x t
theorem HU{P:Pg}{w:World}:∀{a:List cD} {b:Vs},Vals (a.map kV) b->ItemsAre (lP P w) a b
 | [],_,r=>by rw[CM]at r;cases r;exact .nil
 |k::a,_,r=>by
  rw[gv]at r;cases r with
  |cons h t=>exact .cons (z6 h) (HU t)
abbrev KT(H:Hp):List (List cD×V)->List (List cD×Ad×Vl)->Prop:=Paired λp q=>p.1=q.1/\H q.2.1=some (.tup (p.1.map kV))/\RelV p.2 q.2.2
def KT.val{H:Hp}{a:List (List cD×V)}{f:List (List cD×Ad×Vl)}(r:KT H a f)(k:List cD):RelO (hG a k) ((atKey f k).map (·.2)):=by
 induction r with
 |nil=>exact True.intro
 | @cons p q l c h t i=>
  obtain⟨g,_,j⟩:=h;by_cases e:p.1=k
  .have d:q.1=k:=g.symm.trans e;have b:atKey (q::c) k=some q.2:=by simp[atKey,List.find?_cons,d]
   rw[A3 e,b];exact j
  .have d: ¬q.1=k:=λz=>e (g.trans z);have b:atKey (q::c) k=atKey c k:=by simp[atKey,List.find?_cons,d]
   rw[z7 e,b];exact i
def KT.repl{H:Hp}{a:List (List cD×V)}{d:List (List cD×Ad×Vl)}(r:KT H a d)(k:List cD){y:V}{u:Vl}(g:RelV y u):
  KT H (a.map λc=>if c.1=k then(c.1,y)else c) (d.map (putAt k u)):=by
 induction r with
 |nil=>exact .nil
 | @cons p q l m h t i=>
  rw[gv,gv];refine .cons ?_ i;obtain⟨b,f,j⟩:=h;unfold putAt;by_cases e:p.1=k
  .rw[wB e,wB (b.symm.trans e)];exact#[b,f,g]
  .rw[wA e,wA (λz=>e (b.trans z))];exact#[b,f,j]
def KT.put{H:Hp}{a:List (List cD×V)}{c:List (List cD×Ad×Vl)}(r:KT H a c)(k:List cD){b:Ad}{y:V}{u:Vl}(f:H b=some (.tup (k.map kV)))(d:RelV y u):
  KT H (i9 a k y) (storedH c k b u):=by
 have e:(a.any λg=>decide (g.1=k))=(atKey c k).isSome:=by
  rw[D',(r.val k).isSome_eq,Fp]
 unfold i9 storedH;rw[e];by_cases q:(atKey c k).isSome=true
 .rw[wB q,wB q];exact r.repl k d
 .rw[wA q,wA q];exact Paired.snoc r #[zZ,f,d]
def KT.keeps{H c:Hp}{a:List (List cD×V)}{d:List (List cD×Ad×Vl)}(r:KT H a d)(ht:∀b ys,H b=some (.tup ys)->c b=some (.tup ys)):KT c a d:=
 Paired.mapP r λ_ _ z=>#[z.1,ht _ _ z.2.1,z.2.2]
section
variable{P:Pg}{w:World}{H:Hp}{h:Heap}{a:Ad}
def Hx{u:HO}(ok:HOk P w H h)(e:Rd H a u):ObjOk P w H h a u:=e.ok ok
def ya{b:List (cD×V)}(ok:HOk P w H h)(e:Rd H a (.dK b)):b.length<=sizeLine/\(a==sysModules)=false/\∃c,KV b c/\h.DictOf (lP P w) a c:=
 show ObjOk P w H h a (.dK b)from Hx ok e
def yE{b:List (cD×V)}(ok:HOk P w H h)(e:H a=some (.dK b)):b.length<=sizeLine/\(a==sysModules)=false/\∃c,KV b c/\h.DictOf (lP P w) a c:=ya ok (.inl e)
def vh{b:List cD}(ok:HOk P w H h)(e:H a=some (.tup (b.map kV))):(tupleKind (lP P w)).is h b a:=by
 obtain⟨_,c,r,o,d,f,n,g,_⟩:=(show ObjOk P w H h a (.tup (b.map kV))from ok a _ e);exact#[o,c.toArray,n,d,f,g,by simpa using HU r]
def Av{b:List (List cD×V)}(ok:HOk P w H h)(e:Rd H a (.dT b)):b.length<=sizeLine/\(a==sysModules)=false/\
  ∃c,KT H b c/\h.DictOfH (tupleKind (lP P w)) a c:=by
 obtain⟨z,y,c,r,o,f,g,i,j,k,n,s⟩:=(show ObjOk P w H h a (.dT b)from Hx ok e);refine#[z,y,c,r,o,f,g,i,j,k,n,λx hx=>?_,s];have all:∀{l:List (List cD×V)} {m:List (List cD×Ad×Vl)},KT H l m->∀x∈m,(tupleKind (lP P w)).is h x.1 x.2.1:=by
  intro l m q
  induction q with
  |nil=>intro x hx;exact nomatch hx
  | @cons p q v A d t u=>
   intro x hx
   rcases cX.mp hx with e|hx
   .subst e;exact vh ok (by rw[<-d.1];exact d.2.1)
   .exact u x hx
 exact all r x hx
def Gz{b:List (List cD×V)}(ok:HOk P w H h)(e:H a=some (.dT b)):b.length<=sizeLine/\(a==sysModules)=false/\
  ∃c,KT H b c/\h.DictOfH (tupleKind (lP P w)) a c:=Av ok (.inl e)
end
def DGet(H:Hp)(a:Ad)(y:V)(r:Option V):Prop:=
 (∃c k,Rd H a (.dK c)/\y=kV k/\r=hG c k)\/∃c k b,Rd H a (.dT c)/\y=.ref b/\H b=some (.tup (k.map kV))/\r=hG c k
def DPut(H:Hp)(a:Ad)(y v:V)(d:Hp):Prop:=
 (∃c k,H a=some (.dK c)/\y=kV k/\c.length<sizeLine/\d=bC H a (.dK (i9 c k v)))\/
 ∃c k b,H a=some (.dT c)/\y=.ref b/\H b=some (.tup (k.map kV))/\c.length<sizeLine/\d=bC H a (.dT (i9 c k v))
def DGet.t{H:Hp}{a b:Ad}{c:List (List cD×V)}{k:List cD}(e:H a=some (.dT c))(d:H b=some (.tup (k.map kV))):DGet H a (.ref b) (hG c k):= .inr #[c,k,b,.inl e,zZ,d,zZ]
def DPut.t{H:Hp}{a b:Ad}{c:List (List cD×V)}{k:List cD}{v:V}(e:H a=some (.dT c))(d:H b=some (.tup (k.map kV)))(f:c.length<sizeLine):
  DPut H a (.ref b) v (bC H a (.dT (i9 c k v))):= .inr #[c,k,b,e,zZ,d,f,zZ]
section
variable{X:Cx}{d:AO}{f:St}{H:Hp}{s:Sh}{a:Ad}{y v:V}{u r:Vl}{o:Option V}{A:Ar}{E:VP}
def Inv.big(I:Inv X d f H s):sysModules<s.heap.objs.size:=by
 have h:mainGlobals<s.heap.objs.size:=(I.mod.glob.keeps I.bk).lt;exact Cg (by decide) h
def RM{Q:VP}(x:A.units+1<cLine)(I:Inv X d f H s)(g:DGet H a y (some v))(t:RelV y u)(h:∀j w,Inv X d f H w->RelV v j->Q j w):
  wpAny (model X.prog X.w) A (getItem (.ref a) u) Q E s:=by
 rcases g with⟨m,k,e,n,l⟩|⟨m,k,b,e,n,B,l⟩
 .subst n;obtain⟨z,C,D,c,q⟩:=ya I.hok e;obtain⟨j,hw,i⟩:=RelO.some_of (v:=v) (o:=valueAt D k) (by rw[l];exact c.val k);exact wpAny_getItem_of (z6 t) q.mapOf hw (h j _ (I.tok _) i)
 .subst n;cases(show u=Value.ref b from t);obtain⟨z,C,G,c,q⟩:=Av I.hok e;obtain⟨j,hw,i⟩:=RelO.some_of (v:=v) (o:=(atKey G k).map (·.2)) (by rw[l];exact c.val k);obtain⟨p,J,r⟩:=dm.mp hw;refine wpAny_getItem_heap (AJ x) (vh I.hok B) q J ?_;rw[r];exact h j _ (I.tok _) i
def FX{Q:VP}(t:A.units+1<cLine)(I:Inv X d f H s)(g:DGet H a y o)(p:RelV y u)(h:∀r,Inv X d f H r->Q (.bool o.isSome) r):
  wpAny (model X.prog X.w) A (compareOp .In u (.ref a)) Q E s:=by
 rcases g with⟨i,k,e,j,l⟩|⟨i,k,b,e,j,v,l⟩
 .subst j;obtain⟨z,m,w,c,n⟩:=ya I.hok e;refine wpAny_in_of (z6 p) m n.mapOf ?_;rw[<-(c.val k).isSome_eq,<-l];exact h _ (I.tok _)
 .subst j;cases(show u=Value.ref b from p);obtain⟨z,m,x,c,n⟩:=Av I.hok e;refine wpAny_in_heap (AJ t) (vh I.hok v) m n ?_;have q:=(c.val k).isSome_eq;rw[Fp]at q;rw[<-q,<-l];exact h _ (I.tok _)
def Qc{Q:VP}(t:A.units+1<cLine)(I:Inv X d f H s)(g:DGet H a y o)(p:RelV y u)(h:∀r,Inv X d f H r->Q (.bool (!o.isSome)) r):
  wpAny (model X.prog X.w) A (compareOp .NotIn u (.ref a)) Q E s:=by
 rcases g with⟨i,k,e,j,l⟩|⟨i,k,b,e,j,v,l⟩
 .subst j;obtain⟨z,m,w,c,n⟩:=ya I.hok e;refine wpAny_notIn_of (z6 p) m n.mapOf ?_;rw[<-(c.val k).isSome_eq,<-l];exact h _ (I.tok _)
 .subst j;cases(show u=Value.ref b from p);obtain⟨z,m,x,c,n⟩:=Av I.hok e;refine wpAny_notIn_heap (AJ t) (vh I.hok v) m n ?_;have q:=(c.val k).isSome_eq;rw[Fp]at q;rw[<-q,<-l];exact h _ (I.tok _)
def Em{c:Heap}{h:Nat}{g:HO}(I:Inv X d f H s)(i:x8 (H a))(j:Heap.SameBut a s.heap c)(k:∃q,c.get? a=some q)(new:ObjOk X.prog X.w (bC H a g) c a g):
  Inv X d f (bC H a g) {s with heap:=c,toks:=h}:=
 I.write (x:=a) (e:=a) i (.inl zZ) (λb q l z=>(j.2 b l).trans z) k new
def PB{P:Pg}{w:World}{f:Hp}{e:Heap}{b:List (cD×V)}{c:List (cD×Vl)}(z:b.length<=sizeLine)(g:(a==sysModules)=false)(d:KV b c)(h:e.DictOf (lP P w) a c):
  ObjOk P w f e a (.dK b):=#[z,g,c,d,h]
def Q5{D:Hp}{Q:Unit->Sh->Prop}(T:A.units+1<cLine)(I:Inv X d f H s)(g:DPut H a y v D)(G:RelV y u)(J:RelV v r)(h:∀L,Inv X d f D L->Q ⟨⟩ L):
  wpAny (model X.prog X.w) A (setItem (.ref a) u r) Q E s:=by
 rcases g with⟨i,k,e,o,l,p⟩|⟨i,k,b,e,o,M,l,p⟩
 .subst o p;obtain⟨z,t,U,j,w⟩:=yE I.hok e;have x:U.length<=sizeLine:=by rw[<-j.length];exact z
  have B:(i9 i k v).length<=sizeLine:=by have:=Lg i k v;lia
  refine wpAny_setItem_pairs (hsz:=x) (z6 G) w λN m C=>h _ ?_;have Y:∃q,N.get? a=some q:=let⟨q,_,_,n,_⟩:=m;#[q,n]
  exact Em I (by rw[e];exact True.intro) C Y (PB B t (j.put k J) m)
 .subst o p;cases(show u=Value.ref b from G);obtain⟨z,t,xs,j,w⟩:=Gz I.hok e;have x:xs.length<=sizeLine:=by rw[<-oM j];exact z
  have B:(i9 i k v).length<=sizeLine:=by have:=Lg i k v;lia
  refine wpAny_setItem_heap (hsz:=x) (AJ T) (vh I.hok M) w λN m C=>h _ ?_;obtain⟨q,es,ep,n,h2,h3,h4,_,h5⟩:=m;refine Em I (by rw[e];exact True.intro) C #[q,n] #[B,t,_,(j.put k M J).keeps λc ys O=>?_,q,es,ep,n,h2,h3,h4,h5];rw[bL (nE O e)];exact O
end
def zm(i:Expr):Prop:=∀a b,subscripted i false a b=operate [a,b] (getItem a b)
def Q0{a:Pg}{w:World}{A:Ar}{E:VP}{s:Sh}{j:Env}{c b:Expr}{m:Pos}{T id:String}{Q:VP}(n:typeLookup (.type T) "__getitem__"=pure (some (.builtin id))) (p:zm b)(h:wpAny (model a w) A (eval c j) (λo f=>wpAny (model a w) A (eval b j) (λi d=>d.TypeIs o T/\wpAny (model a w) A (getItem o i) Q E d) E f) E s):
  wpAny (model a w) A (eval (.Subscript c b m) j) Q E s:=by
 refine Subscript_ (h9 h (λo f k=>h9 k (λi d e=>?_) λ_ _ x=>x) λ_ _ x=>x);obtain⟨hT,e⟩:=e;unfold subscriptTail;refine bD ?_;rw[getitemInPython_of_ne hT.not_modules];refine bD (wpAny_specialOf hT n ?_);have fin:wpAny (model a w) A (subscripted b false o i) (λr g=>wpAny (model a w) A (letTemporaryGo c o r >>= λ_=>pure r) Q E g) E d:=by
  rw[p o i];exact wpAny_operating (h9 e (λr g l=>bD (wpAny_letTemporaryGo (bM l))) λ_ _ x=>x)
 first
  |exact bM (bD fin)
  |exact bD (bM (bD fin))
  |exact bD fin
def LV{X:Cx}{f:AO}{h:St}{H:Hp}{s:Sh}{a:Ad}{y:V}{o:Option V}(I:Inv X f h H s)(g:DGet H a y o):s.TypeIs (.ref a) "dict":=by
 rcases g with⟨c,k,e,_,_⟩|⟨c,k,b,e,_,_,_⟩
 .obtain⟨_,_,i,_,d⟩:=ya I.hok e;exact d.typeIs
 .obtain⟨_,_,j,_,d⟩:=Av I.hok e;exact d.typeIs
def JW(d ty:TE):TE:=λb H Q=>d b H λx e=>ty b e λy c=>∃a v,x=.ref a/\DGet c a y (some v)/\Q v c
def DB(ty d:TE):TE:=λb H Q=>ty b H λy e=>d b e λx c=>∃a o,x=.ref a/\DGet c a y o/\Q (.bl o.isSome) c
def JD(ty d:TE):TE:=λb H Q=>ty b H λy e=>d b e λx c=>∃a o,x=.ref a/\DGet c a y o/\Q (.bl (!o.isSome)) c
def IQ(d ty e:TE):TS:=λD b H=>e b H λv f=>d b f λx g=>ty b g λy h=>∃a c,x=.ref a/\DPut h a y v c/\D.nx b c
section
variable{X:Cx}{o i e b:Expr}{f d k:Pos}{c ty j:TE}
def oY(k:X.A.units+1<cLine)(l:PE X o c)(m:PE X i ty)(n:zm i):PE X (.Subscript o i f) (JW c ty):=by
 intro d s e H Q I h;refine Q0 PySem.F.slot_dict_getitem.lookup n (bW (l d s e H _ I h) λu p ⟨x,q,r,t,w⟩=>bW (m d p e q _ r w) λE G ⟨y,z,j,A,a,v,B,g,C⟩=>?_);subst B;obtain rfl:u=Value.ref a:=t;exact#[LV j g,RM k j g A λJ L D b=>#[v,z,D,b,C]]
def zJ(e:X.A.units+1<cLine)(f:PE X i ty)(j:PE X o c):PC X .In i o (DB ty c):=by
 intro b s d H Q I h;refine bW (f b s d H _ I h) λB k ⟨y,l,m,n,p⟩=>bW (j b k d l _ m p) λu C ⟨x,q,r,t,a,v,w,g,z⟩=>?_;subst w;obtain rfl:u=Value.ref a:=t;exact FX e r g n λD A=>#[.bl v.isSome,q,A,zZ,z]
def Db(e:X.A.units+1<cLine)(f:PE X i ty)(j:PE X o c):PC X .NotIn i o (JD ty c):=by
 intro b s d H Q I h;refine bW (f b s d H _ I h) λB k ⟨y,l,m,n,p⟩=>bW (j b k d l _ m p) λu C ⟨x,q,r,t,a,v,w,g,z⟩=>?_;subst w;obtain rfl:u=Value.ref a:=t;exact Qc e r g n λD A=>#[.bl (!v.isSome),q,A,zZ,z]
def xQ(l:X.A.units+1<cLine)(m:PE X o c)(n:PE X i ty)(p:PE X b j)(q:swapsWith b (some (.Subscript o i d)) f.line X.env=pure false):
  PS X (.Assign [.Subscript o i d] b f) (IQ c ty j):=by
 intro k s e H D I h;refine wpAny_Assign_Subscript (bW (p k s e H _ I h) λr t ⟨v,w,z,A,B⟩=>bW (m k t e w _ z B) λu C ⟨x,E,G,J,L⟩=>bW (n k C e E _ G L) λY s3 ⟨y,H3,M,N,a,O,Q,g,T⟩=>?_) q;subst Q;obtain rfl:u=Value.ref a:=J;exact Q5 l M g N A λs4 U=>#[e,O,U,T]
end
def HN{P:Pg}{w:World}{H:Hp}(h:Heap)(a:sysModules<h.objs.size):ObjOk P w H (h.push {cls:= .type "dict",data:= .dict #v[]}) h.objs.size (.dT []):=
 #[iW _,o0.mpr (dM (dj a)),[],.nil,_,#v[],0,dG _ zZ,#[zZ,zZ,zZ],zZ,zZ,List.nodup_nil]
def OP:TE:=λ_ H Q=>∀p,H p=none->Q (.ref p) (bC H p (.dT []))
section
variable{X:Cx}{b:Pos}
def Ci:PE X (.Dict [] [] b) OP:=λc s d H Q I h=>
 wpAny_Dict_empty #[.ref s.heap.objs.size,_,I.laid (a:=s.heap.objs.size) (o:= .dT []) (t':=s.toks) (λ_ _ q=>cM _ q) (bR _) (HN s.heap I.big),zZ,h _ (I.hok.fresh (bR _))]
end
def J0:List (TE×TE)->St->Hp->(List (V×V)->Hp->Prop)->Prop
 | [],_,H,Q=>Q [] H
 |(b,c)::r,a,H,Q=>b a H λx d=>c a d λy e=>J0 r a e λf g=>Q ((x,y)::f) g
abbrev VV:List (V×V)->List (Vl×Vl)->Prop:=Paired λp q=>RelV p.1 q.1/\RelV p.2 q.2
def Er(X:Cx)(b:Pos)(keys:List (Option Expr))(a:List Expr)(c:List (TE×TE)):Prop:=
 ∀(e:AO) (s:Sh) (d:St) (H:Hp) (Q:List (V×V)->Hp->Prop),Inv X e d H s->J0 c d H Q->
  wpAny (model X.prog X.w) X.A (evalPairs (pairTrees keys a X.env b)) (λh i=>∃f g,Inv X e d g i/\VV f h/\Q f g) X.xe s
def L8{X:Cx}{a:Pos}:Er X a [] [] []:=λb s c H Q I h=>pairTrees_nil_walk #[[],H,I,.nil,h]
def RQ{X:Cx}{pos:Pos}{k v:Expr}{e:List (Option Expr)}{f:List Expr}{g i:TE}{a:List (TE×TE)}(j:PE X k g)(l:PE X v i)(m:Er X pos e f a):
  Er X pos (some k::e) (v::f) ((g,i)::a):=λb s c H Q I h=>
 pairTrees_cons_walk (bW (j b s c H _ I h) λu n ⟨x,o,p,q,r⟩=>bW (l b n c o _ p r) λJ t ⟨y,w,z,A,B⟩=>
  bW (m b t c w _ z B) λL M ⟨C,D,E,d,G⟩=>#[(x,y)::C,D,E,.cons #[q,A] d,G])
structure M1(X:Cx)(o:Expr)(m:Str)(apos:Pos)(e:Expr)(cpos:Pos):Prop where
 base:attributeBase o m X.env (eval o X.env)=eval o X.env
 few:((backTo cpos (starEach [e] X.env)).all (λx=> !x.1)&&(backToKw cpos (keywordEach [] X.env)).all (λx=>x.1.isSome)
  &&decide (([e]:List Expr).length+([]:List Keyword).length+(if([]:List Keyword).isEmpty then 0 else 1)<30))=true
 line:(apos.endLine==cpos.line)=true
 trees:backTo cpos (starEach [e] X.env)=[(false,eval e X.env)]
structure M2(X:Cx)(o:Expr)(m:Str)(apos:Pos)(e f:Expr)(cpos:Pos):Prop where
 base:attributeBase o m X.env (eval o X.env)=eval o X.env
 few:((backTo cpos (starEach [e,f] X.env)).all (λx=> !x.1)&&(backToKw cpos (keywordEach [] X.env)).all (λx=>x.1.isSome)
  &&decide (([e,f]:List Expr).length+([]:List Keyword).length+(if([]:List Keyword).isEmpty then 0 else 1)<30))=true
 line:(apos.endLine==cpos.line)=true
 trees:backTo cpos (starEach [e,f] X.env)=[(false,eval e X.env),(false,eval f X.env)]
theorem K4{b a:Type}{f:b->a->Sem (ForInStep a)}{g:a->b->a}:∀{l:List b} (c:a),(∀x∈l,∀c,f x c=pure (.yield (g c x)))->forIn l c f=pure (l.foldl g c)
 | [],_,_=>rfl
 |x::l,c,h=>by
  rw[List.forIn_cons,h x (cR ..),pure_bind];exact K4 (g c x) λy d=>h y (dS _ d)
def ov(b:Env)(a:List (Str×Ad))(y:Str×NameKind):List (Str×Ad):=
 if y.2== .free then(match b.cells.lookup y.1 with|some c=>(y.1,c)::a|none=>a)else a
def pS(a:Env)(b:Scope):List (Str×Ad):=b.names.foldl (ov a) []
def Nf{a:Env}{b:Scope}(h:∀y∈b.names,y.2=.free->∃c,a.cells.lookup y.1=some c):closureFor b a=pure (pS a b):=by
 simp only[closureFor];rw[K4 (g:=ov a) [] λx i c=>?_]
 .rfl
 .obtain⟨n,k⟩:=x;by_cases f:k=.free
  .subst f;obtain⟨d,j⟩:=h _ i rfl;have e:a.cells.lookup n=some d:=j;simp only[ov,cellOf,e,beq_self_eq_true,if_true,pure_bind]
  .have l:(k==NameKind.free)=false:=by simpa using f
   simp only[ov,l,Bool.false_eq_true,if_false]
theorem Co{a:Env}:∀(names:List (Str×NameKind)) (b:List (Str×Ad)),(∀y c,b.lookup y=some c->a.cells.lookup y=some c)->
  ∀y c,(names.foldl (ov a) b).lookup y=some c->a.cells.lookup y=some c
 | [],_,h=>h
 | (n,k)::r,b,h=>by
  refine Co r _ λy c e=>?_;unfold ov at e;split at e
  .split at e
   .rename_i d i
    rw[oK]at e;cases f:y==n with
    |true=>
     rw[f]at e;have g:y=n:=eq_of_beq f;cases e;rw[g];exact i
    |false=>rw[f]at e;exact h y c e
   .exact h y c e
  .exact h y c e
theorem KH{e:Env}:∀(a:List (Str×NameKind)) (b:List (Str×Ad)) (y:Str),(∃c,b.lookup y=some c)->∃c,(a.foldl (ov e) b).lookup y=some c
 | [],_,_,h=>h
 | (n,k)::r,b,y,h=>by
  refine KH r _ y ?_;unfold ov;split
  .split
   .rename_i d f
    rw[oK];cases g:y==n with
    |true=>exact#[_,zZ]
    |false=>exact h
   .exact h
  .exact h
theorem HW{d:Env}:∀(a:List (Str×NameKind)) (b:List (Str×Ad)) (y:Str),a.lookup y=some .free->(∃c,d.cells.lookup y=some c)->∃c,(a.foldl (ov d) b).lookup y=some c
 | [],_,_,h,_=>by simp at h
 | (n,k)::r,b,y,h,e=>by
  rw[oK]at h;cases f:y==n with
  |true=>
   rw[f]at h;cases h;have g:y=n:=eq_of_beq f;subst g;obtain⟨c,e⟩:=e;refine KH r _ y ?_;refine#[c,?_];unfold ov;rw[wB (by rfl)];show List.lookup y (match d.cells.lookup y with|some c=>(y,c)::b|none=>b)=_
   rw[e];simp
  |false=>
   rw[f]at h;exact HW r _ y h e
theorem CP{a:Env}:∀{names:List (Str×NameKind)} {y:Str} {k:NameKind},
  (names.map λ(n,k)=>if(k==NameKind.free&&a.scope.kind== .function&&a.kindOf n==some .cell)then(n,NameKind.cell)else(n,k)).lookup y=some k->
   names.lookup y=some k\/(names.lookup y=some .free/\k=.cell)
 | [],_,_,h=>by simp at h
 | (n,c)::r,y,k,h=>by
  have g:=@CP a r y k;rw[gv]at h;by_cases f:(c==NameKind.free&&a.scope.kind== .function&&a.kindOf n==some .cell)=true
  .have b:List.lookup y ((n,NameKind.cell)::(r.map λ(n,k)=>if(k==NameKind.free&&a.scope.kind== .function&&a.kindOf n==some .cell)then(n,NameKind.cell)else(n,k)))=some k:=by
    have e:(if(c==NameKind.free&&a.scope.kind== .function&&a.kindOf n==some .cell)=true then(n,NameKind.cell)else(n,c))=(n,NameKind.cell):=wB f;rw[<-e];exact h
   rw[oK]at b|-;cases d:y==n with
   | true=>
    rw[d]at b;cases b;have i:c=.free:=by
     rw[mq,mq]at f;exact eq_of_beq f.1.1
    exact .inr #[by rw[i],zZ]
   |false=>rw[d]at b;exact g b
  .have b:List.lookup y ((n,c)::(r.map λ(n,k)=>if(k==NameKind.free&&a.scope.kind== .function&&a.kindOf n==some .cell)then(n,NameKind.cell)else(n,k)))=some k:=by
    have e:(if(c==NameKind.free&&a.scope.kind== .function&&a.kindOf n==some .cell)=true then(n,NameKind.cell)else(n,c))=(n,c):=wA f;rw[<-e];exact h
   rw[oK]at b|-;cases d:y==n with
   |true=>rw[d]at b;exact .inl b
   |false=>rw[d]at b;exact g b
def Ft(y:Str):Str:=#[#v[46]++y.cps]
def n6(a:Ss)(y:Str):Str:=if a.contains y=true then Ft y else y
structure CompScope(X:Cx)(vs:Ss)(sc:Scope):Prop where
 kind:sc.kind=.function
 cell:∀y∈sc.names,y.2≠ .cell
 locs:∀y∈sc.names,y.2=.local->sc.names.lookup y.1=some .local
 own:∀y∈X.N.map (n6 vs),sc.names.lookup y≠some .local
 hid:∀y∈vs,sc.names.lookup (Ft y)=none
 nd:(vs++X.N.map (n6 vs)).Nodup
 free:∀y∈sc.names,y.2=.free->X.env.kindOf y.1=some .cell\/X.env.kindOf y.1=some .free
def gn(X:Cx)(a:Ss)(b:Scope)(C:Ad)(s:Sh)(H:Hp)(c:As):Cx where
 prog:=X.prog
 w:=X.w
 K:=X.K
 mg:=X.mg
 base:=X.base
 A:=X.A
 N:=a++X.N.map (n6 a)
 s₀:=s
 H₀:=H
 env:=compEnvC b (pS X.env b) C X.env
 outer:=X.stack
 stack:=X.stack
 ex:=c
 fn:=λ_=>false
 calm:=X.calm
 pn:=X.pn
 xe:=λ_ _=>False
def i7(a:Ss)(b:St):St:=List.replicate a.length none++b
section
variable{X:Cx}{g:AO}{h:St}{H:Hp}{s:Sh}{f:Ss}{a:Scope}
def Oq{C:Ad}{L:As}{E:Heap}{tk:Nat}{m0:SV}(S:CompScope X f a)(I:Inv X g h H s)(M:∀b∈L,FpOk X g H b)(ho:∀b∈L,∃o,s.heap.get? b=some o)(k:∀b o,s.heap.get? b=some o->E.get? b=some o) (N:E.Ns C m0) (G:s.heap.objs.size<=C):Inv (gn X f a C s H L) g (i7 f h) H {s with heap:=E,toks:=tk}:=by
 have j:∀y c,(pS X.env a).lookup y=some c->X.env.cells.lookup y=some c:=Co a.names [] λy c e=>by simp at e
 have fr:∀y,a.names.lookup y=some .free->X.env.kindOf y=some .cell\/X.env.kindOf y=some .free:=λy e=>S.free (y,.free) (oC e) rfl;have O:∀y,(X.env.kindOf y=some .cell\/X.env.kindOf y=some .free)->∃c,X.env.cells.lookup y=some c:=λy e=>I.ok.has y e;have l:∀{y:Str} {J:NameKind},(relabel a X.env).names.lookup y=some J->J=.cell\/J=.free->a.names.lookup y=some .free:=λ{y J} e hk=>by
  rcases CP (names:=a.names) e with z|⟨z,_⟩
  .rcases hk with q|q
   .subst q;exact wC zZ (S.cell _ (oC z))
   .subst q;exact z
  .exact z
 have has:∀y,a.names.lookup y=some .free->∃c,(pS X.env a).lookup y=some c:=λy e=>HW a.names [] y e (O y (fr y e));have aa:∀y c,X.env.cells.lookup y=some c->c<s.heap.objs.size:=λy c e=>let⟨_,z⟩:=I.cell y c e;z.lt
 have kc:∀{c v},s.heap.IsCell c v->E.IsCell c v:=λ{c v} ⟨o,e,d⟩=>#[o,k _ _ e,d];refine#[#[I.ok.mod,S.kind,I.ok.glob,I.ok.blt,G,λy z c Q T=>I.ok.inj y z c (j y c Q) (j z c T),λy hy=>?_,λy c z _=>(nomatch z),I.ok.hd,I.ok.frames,.inl zZ,λb A=>#[?_,λy c e=>?_],I.bs,cP I.ok.bsz I.sz,λb o e A=>?_,λb A hs=>?_,I.stack,I.stkFree],
  rfl,I.bare,Un.kept k,#[m0,N,λi y v e1 B e3=>?_],λy c e=>?_,I.hok.fresh G,λy c e=>I.freeC y c (j y c e),λp hp=>?_,I.hok.kept k,?_]
 .have U:(relabel a X.env).names.lookup y=some .cell\/(relabel a X.env).names.lookup y=some .free:=hy
  rcases U with z|z
  .exact has y (l z (.inl zZ))
  .exact has y (l z (.inr zZ))
 .obtain⟨o,e⟩:=ho b A;exact dj (f7 (cy e) G)
 .exact(M b A).2.2.2.2.1 y c (j y c e)
 .obtain⟨_,_,_,z,_⟩:=M b A
  rcases z with z|z
  .exact I.ok.noex b o e z
  .exact wC (f7 (cy (I.ok.bs b o e).1) z) (mR _)
 .obtain⟨_,Q,T,_⟩:=M b A
  rcases cX.mp (I.stkSub b hs)with z|z
  .exact Q z
  .exact T z
 .have t:(f++X.N.map (n6 f))[i]?=some y:=e1;have w:(List.replicate f.length none++h)[i]?=some (some v):=B;have hi:f.length<=i:=by
   by_cases z:i<f.length
   .rw[dN (by simpa using z),List.getElem?_replicate]at w;split at w<;>cases w
   .lia
  rw[dO hi]at t;rw[dO (by simpa using hi),List.length_replicate]at w;have yN:y∈X.N.map (n6 f):=cb t;have D:(relabel a X.env).names.lookup y=some .local\/(relabel a X.env).names.lookup y=some .cell\/(relabel a X.env).names.lookup y=some .free:=e3;have x:a.names.lookup y=some .free:=by
   rcases D with z|z|z
   .rcases CP (names:=a.names) z with q|⟨_,q⟩
    .exact wC q (S.own y yN)
    .cases q
   .exact l z (.inl zZ)
   .exact l z (.inr zZ)
  have t:X.N[i-f.length]?=some y:=by
   rw[bZ]at t;cases e:X.N[i-f.length]? with
   |none=>rw[e]at t;cases t
   | some y0=>
    rw[e]at t;have B:n6 f y0=y:=f' t;unfold n6 at B
    split at B
    .rename_i Y
     rw[<-B,S.hid y0 (by simpa using Y)]at x;cases x
    .rw[B]
  have ok:=fr y x;obtain⟨m,_,hl⟩:=I.loc;obtain⟨u,r,lk⟩:=hl (i-f.length) y v t w (.inr ok);refine#[u,r,?_]
  rcases lk with⟨q,_⟩|⟨_,c,ec,Y⟩
  .rcases ok with z|z<;>rw[z]at q<;>cases q
  .obtain⟨c',e'⟩:=has y x;have:c'=c:=f' ((j y c' e').symm.trans ec);subst this;refine .inr #[?_,c',e',kc Y]
   rcases D with z|z|z
   .rcases CP (names:=a.names) z with q|⟨_,q⟩
    .exact wC q (S.own y yN)
    .cases q
   .exact .inl z
   .exact .inr z
 .obtain⟨v,z⟩:=I.cell y c (j y c e);exact#[v,kc z]
 .obtain⟨e,n,ne,nf,d⟩:=I.pin p hp;refine#[k _ _ e,n,dj (f7 (cy e) G),λz=>?_,d]
  rcases cX.mp (I.stkSub p.1 z)with q|q
  .exact ne q
  .exact nf q
 .show(List.replicate f.length none++h).length=(f++X.N.map (n6 f)).length;rw[cI,cI,List.length_replicate,bF,I.len]
def Inv.adopt{D:Ad}{f:List V}{a:Vs}{n:Nat}(I:Inv X g h H s)(i:f.length<=sizeLine)(j:Vals f a)(k:H D=none)(e:s.heap.get? D=some {cls:= .type "list",data:= .seq a.toArray n})
  (l:X.s₀.heap.objs.size<=D) (r:D≠X.env.locals) (t:∀x c,X.env.cells.lookup x=some c->c≠D) (v:∀p∈X.pn++g,p.1≠D):Inv X g h (bC H D (.lst f)) s:=by
 have nd:∀b u,H b=some u->b≠D:=λb u q z=>by rw[z,k]at q;cases q
 have q:=I.step (h':=s.heap) (H':=bC H D (.lst f)) (g':=s.gens) (t':=s.toks) (d':=s.drawn) (ch:=[D]) (λb d=>by
   have z:b=D:=by simpa using d
   subst z;exact#[.inr l,r,t,v])
  (λb o _ _ _ e _=>e) (λb o _ _ _ e _=>#[o.slots,e]) (λb o d _ n=>by rw[bL (λz=>d (by simp[z]))];exact n) (λb o _ e=>#[o,e])
  (λb w q=>by rw[bL (nd b _ q)];exact q) (λb o u q=>by rw[bL (nd b _ q)];exact q) (λb A q=>#[#v[],by rw[bL (nd b _ q),q];simp]) (λm y=>y) (λb u q=>?_) I.bare
 .exact q
 .by_cases d:b=D
  .subst d;rw[bG]at q;cases q;exact#[i,a,n,j,e]
  .rw[bL d]at q;exact(I.hok b u q).stay (λ_ _ _ z=>z) (λc z=>by rw[bL (nd c _ z)];exact z) λc w z=>by rw[bL (nd c _ z)];exact z
end
def si(X:Cx)(a:List Expr)(t:TT):Prop:=
 ∀(d:AO) (s:Sh) (b:St) (H:Hp) (Q:Bool->Hp->Prop),Inv X d b H s->t b H Q->
  wpAny (model X.prog X.w) X.A (forIn a true λc r=>if r=true then do let ok <-isTrue c X.env (eval c X.env);pure (ForInStep.yield ok)else pure (ForInStep.yield r)) (TP X d b Q) X.xe s
def v7:TT:=λ_ H Q=>Q true H
def i5{c:St}{H:Hp}{F G:Hp->Prop}(h:F H):v7 c H (λb a=>if b=true then F a else G a):=by
 show(if true=true then F H else G H);exact eK h
def fG{X:Cx}:si X [] v7:=λ_ _ _ H _ I h=>bM #[H,I,h]
def zf{X:Cx}{c:Expr}{t:TT}(h:PT X c t):si X [c] t:=λa s b H Q I q=>wpAny_tests_one (h a s b H Q I q)
theorem Me{a:Pg}{w:World}{A:Ar}{R:Result->Sh->Prop}{s:Sh}{e l d:Expr}{f:List Expr}{t:Scope}{i:Pos}{o g:Vl}{b:Env}(j:Nat->Sh->Prop)(turn:∀n s,j n s->wpAny (model a w) A (pyNext o) (λr k=>match r with
   |none=>R (.ok .next) k
   | some v=>wpAny (model a w) A (letOwnedTupleGo l o v) (λ_ k=>wpAny (model a w) A (assign l b v) (λ_ u=>
     wpAny (model a w) A (forIn f true λc r=>if r=true then do let ok <-isTrue c b (eval c b);pure (ForInStep.yield ok)else pure (ForInStep.yield r)) (λok p=>
      if ok=true then wpAny (model a w) A (eval e b) (λy B=>wpAny (model a w) A (call (.builtin "list.append") [g,y]) (λ_ C=>∃m,m<n/\j m C) (λ_ _=>False) B) (λ_ _=>False) p
      else ∃m,m<n/\j m p) (λ_ _=>False) u) (λ_ _=>False) k) (λ_ _=>False) k) (λ_ _=>False) s)(n:Nat) (h:j n s):codeAny (model a w) A (.compLoop (.ListComp e [#[l,d,f,0]] t i) 0 o g b) R s:=by
 refine codeAny_loop zZ j (λn s H=>?_) n h;show wpAny _ A ((compTurn (.ListComp e [#[l,d,f,0]] t i) 0 o g b).onRaise (λx=>do noteFrame x b;theTreesLotGoes x)) _ _ s;refine wpAny_noted (h9 (E:=λ_ _=>False) ?_ (λ_ _ q=>q) λ_ _ z=>z.elim);rw[compTurn_list];refine bD (Bc (bD (bW (turn n s H) λr k D=>?_)));cases r with
 |none=>exact bM D
 |some v=>
  refine bD (bW D λ_ u I=>bD (bW I λ_ p J=>bD (bW J λok B G=>?_)));cases ok with
  |false=>exact bM #[zZ,G]
  |true=>exact bD (bD (bW G λy C L=>bD (bW L λ_ N M=>bM (bM #[zZ,M]))))
def qr(b a:St):Prop:=∀(i:Nat) v,b[i]?=some (some v)->a[i]?=some (some v)
theorem iI{a:St}{x:Option V}:qr (none::a) (x::a):=λi v e=>by
 cases i with
 |zero=>cases e
 |succ i=>exact e
theorem DD{a:St}{x y:Option V}:qr (none::none::a) (x::y::a):=λi v e=>by
 match i,e with
 |0,e=>cases e
 |1,e=>cases e
 |_+2,e=>exact e
section
variable{X:Cx}{w:AO}{A:St}{H:Hp}{s:Sh}{l:Ss}{k:Scope}{M t f:Expr}{q:List Expr}{B:Pos}{g:TG}{G:TT}{L:TE}
def nh(l:Ss)(g:TG)(G:TT)(L:TE)(A:St)(J:It)(H:Hp)(Fin:List V->Hp->Prop):Prop:=
 ∃W:Nat->Nat->List V->Hp->Prop,(∃m,W 0 m [] H)/\∀i m c H,W i m c H->
  (J.stop i H/\c.length<=sizeLine/\Fin c H)\/(J.go i H/\c.length<sizeLine/\∃N:List V->Hp->Prop,(∀e d,N e d->∃f,f<m/\W (i+1) f e d)/\
   ∀v d,J.yld i H v d->g v (i7 l A) d λa j=>qr (i7 l A) a/\G a j λb h=>if b=true then L a h λy k=>N (c++[y]) k else N c h)
def Ig{J:It}{h:As}{it:Ad}{tn:Nat->Heap->Prop}{E:VP}{RR:Vl->Ad->Result->Sh->Prop}{Fin:List V->Hp->Prop}(S:CompScope X l k) (hc:X.calm=true) (hg:∀C s H h,PG (gn X l k C s H h) M g) (ht:∀C s H h,si (gn X l k C s H h) q G) (he:∀C s H h,PE (gn X l k C s H h) t L)(I:Inv X w A H s) (T:Turn X.prog X.w X.K M J h it tn) (st:tn 0 s.heap) (hf:∀b∈h,FpOk X w H b) (hW:nh l g G L A J H Fin)(av:∀D C Q a U m',Inv X w A (bC a D (.lst U)) Q->a D=none->FpOk X w (bC a D (.lst U)) C->Q.heap.Ns C m'->Fin U a->RR (.ref D) C (.ok .next) Q):
  wpAny (model X.prog X.w) X.A (newList []) (λar s3=>wpAny (model X.prog X.w) X.A (newFunctionEnv k X.env.globals (pS X.env k) [] X.env.qual none .none (some X.env)) (λcenv s4=>
   codeAny (model X.prog X.w) X.A (.compStart (.ListComp t [#[M,f,q,0]] k B) 0 (.ref it) ar {cenv with scope:=relabel k X.env}) (RR ar cenv.locals) s4) E s3) E s:=by
 obtain⟨W,⟨m0,w0⟩,turn⟩:=hW;refine oR (wpAny_newFunctionEnv S.cell (by intro y hy;simp at hy) (λh1 ab Y=>?_) S.kind);dsimp only at ab Y|-;generalize am:s.heap.push {cls:= .type "list",dict:=none,data:= .seq ([]:Vs).toArray}=H2 at ab Y|-;have hC:H2.objs.size=s.heap.objs.size+1:=by rw[<-am,wg]
 generalize aI:H2.objs.size=C at ab Y hC|-;generalize ae:s.heap.objs.size=D at hC|-;have af:D≠C:=by lia
 have below:∀b o,s.heap.get? b=some o->b≠D/\b≠C:=λb o e=>by
  have z:b<s.heap.objs.size:=cy e;rw[ae]at z;exact#[dj z,dj (by rw[hC];exact A1 z)]
 have old:∀b o,s.heap.get? b=some o->h1.get? b=some o:=λb o e=>Y.extBut b o (below b o e).2 (cM _ (am▸cM _ e));have aw:h1.get? D=some {cls:= .type "list",data:= .seq ([]:Vs).toArray}:=
  Y.extBut _ _ af (cM _ (by rw[<-am,<-ae];exact dG _ zZ))
 have ai:∀b∈h,∃o,s.heap.get? b=some o:=λb m=>let⟨o,e,_⟩:=T.obj 0 _ st b m;#[o,e]
 have an:∀b∈h,b≠D/\b≠C:=λb m=>let⟨o,e⟩:=ai b m;below b o e
 have fD:∀a,a D=none->FpOk X w a D:=λa n=>I.fpOk () n;have fC:∀a,a C=none->FpOk X w a C:=λa n=>I.fpOk () n;have ax:∀p∈X.pn++w,p.1≠D:=λp hp=>(below _ _ (I.pin p hp).1).1;have ao:∀y c,(pS X.env k).lookup y=some c->c≠D:=λy c e=>by
  have e':=Co k.names [] (λy c e=>by simp at e) y c e;obtain⟨v,z⟩:=I.cell y c e';have z':c<s.heap.objs.size:=z.lt;rw[ae]at z';exact dj z'
 have ay:∀b,b∈lN X.stack->∃o,s.heap.get? b=some o:=λb m=>let⟨_,o,ho,_⟩:=I.stack.mem m;#[o,ho]
 have az:D∉lN X.stack:=λz=>let⟨o,e⟩:=ay D z;(below _ _ e).1 rfl
 have ap:∀{pl:AO} {a:Hp},(∀p∈pl,p.1=D)->(∀b∈h,a b=none)->∀b∈h,FpOk (gn X l k C s H h) (w++pl) a b:=λ{pl a} aA hn b m=>by
  obtain⟨_,q1,q2,q3,q4,q5⟩:=hf b m;refine#[hn b m,(an b m).2,λz=>?_,.inl m,λy c e=>q4 y c (Co k.names [] (λy c e=>by simp at e) y c e),λp hp=>?_]
  .rcases cX.mp (I.stkSub b z)with y|y
   .exact q1 y
   .exact q2 y
  .rcases cF.mp hp with z|z
   .exact q5 p (oZ _ z)
   .rcases cF.mp z with y|y
    .exact q5 p (ga _ y)
    .rw[aA p y];exact dM (an b m).1
 have aj:∀s3:Sh,s3={s with heap:=h1,toks:=s.toks+([]:List (Str×Vl)).length}->
   codeAny (model X.prog X.w) X.A (.compLoop (.ListComp t [#[M,f,q,0]] k B) 0 (.ref it) (.ref D) (compEnvC k (pS X.env k) C X.env)) (RR (.ref D) C) s3:=by
  rintro s3 rfl;have I0:Inv (gn X l k C s H h) w (i7 l A) H {s with heap:=h1,toks:=s.toks+([]:List (Str×Vl)).length}:=Oq S I hf ai old ab ();refine Me (λn Q=>∃i U j no a,Inv (gn X l k C s H h) w (i7 l A) a Q/\tn i Q.heap/\(∀b∈h,a b=none)/\a D=none/\
   Q.heap.get? D=some {cls:= .type "list",data:= .seq j.toArray no}/\Vals U j/\W i n U a) ?_ m0
   #[0,[],[],0,H,I0,T.keep 0 _ _ st λb m o e=>old b o e,λb m=>(hf b m).1,I.hok.fresh (),aw,.nil,w0]
  rintro n Q ⟨i,U,j,no,a,I1,as,au,ag,aB,ah,w1⟩;have ak:Inv (gn X l k C s H h) (w++[(D,{cls:= .type "list",data:= .seq j.toArray no})]) (i7 l A) a Q:=I1.pins_of λp hp=>by
   rcases cF.mp hp with z|z
   .exact I1.pin p (ga _ z)
   .have e:p=(D,{cls:= .type "list",data:= .seq j.toArray no}):=by simpa using z
    subst e;exact#[aB,ag,af,az,λv z=>by have z':Data.seq _ _=Data.cell v:=z;cases z']
  have O:∀p∈[((D,{cls:= .type "list",data:= .seq j.toArray no}):Ad×Obj)],p.1=D:=λp hp=>by
   have e:p=(D,{cls:= .type "list",data:= .seq j.toArray no}):=by simpa using hp
   rw[e]
  rcases turn i n U a w1 with⟨stop,hz,fin⟩|⟨go,hz,N,hN,step⟩
  .refine bW (T.done (gn X l k C s H h) zZ zZ zZ hc i _ Q _ a (λ_ _=>False) ak (ap O au) as stop) λr s4 ⟨hr,I4⟩=>?_;subst hr;have d4:s4.heap.get? D=some {cls:= .type "list",data:= .seq j.toArray no}:=(I4.pin (D,_) (ga _ (ga _ (cR ..)))).1;have Io:Inv X w A a s4:=I.call' (H':=a) (ch:=h) I4.os I4.base I4.hok I4.bare λb m=>by
    obtain⟨_,q1,_,q3,q4,q5⟩:=hf b m;exact#[q3,q1,q4,q5]
   obtain⟨_,a1,_,a3,a4,a5⟩:=fD a ag;have Ia:=Io.adopt hz ah ag d4 (cP I.sz ()) a1 a4 a5;obtain⟨m4,aC,_⟩:=I4.loc;refine av D C s4 a U m4 Ia ag (fC _ ?_) aC fin;rw[bL (dM af)];exact I4.free
  .refine bW (T.item (gn X l k C s H h) zZ zZ zZ hc i _ Q _ a (λ_ _=>False) ak (ap O au) as go) λr s4 ⟨u,hr,h4⟩=>?_;subst hr;refine bW h4 λ_ s5 ⟨x,H5,I5,r5,y5,aq,aD⟩=>?_;have aE:=I5.pinned (ap O aD) (T.obj _ _ aq);refine bW (hg C s H h _ s5 _ H5 x u _ aE r5 (step x H5 y5)) λ_ s6 ⟨aa,H6,I6,k6,q6⟩=>?_;refine bW (ht C s H h _ s6 aa H6 _ I6 q6) λok s7 ⟨H7,I7,q7⟩=>?_;have al:(i7 l A).length=aa.length:=by rw[I1.len,I6.len]
   have pinned:∀{H8:Hp} {s8:Sh},Inv (gn X l k C s H h) (w++[(D,{cls:= .type "list",data:= .seq j.toArray no})]++yo h s5.heap) aa H8 s8->
     tn (i+1) s8.heap/\(∀b∈h,H8 b=none)/\H8 D=none/\s8.heap.get? D=some {cls:= .type "list",data:= .seq j.toArray no}:=λ{H8 s8} I8=>by
    refine#[T.keep _ _ _ aq λb m o e=>(I8.pin (b,o) (ga _ (ga _ (Cf m e)))).1,λb m=>?_,?_,?_]
    .obtain⟨o,e,d⟩:=T.obj _ _ aq b m;exact(I8.pin (b,o) (ga _ (ga _ (Cf m e)))).2.1
    .exact(I8.pin (D,_) (ga _ (oZ _ (ga _ (cR ..))))).2.1
    .exact(I8.pin (D,_) (ga _ (oZ _ (ga _ (cR ..))))).1
   cases ok with
   |false=>
    rw[wA (by decide)]at q7|-;obtain⟨m',hm,w7⟩:=hN _ _ q7;obtain⟨a1,a2,a3,a4⟩:=pinned I7;exact#[m',hm,i+1,U,j,no,H7,(I7.unpinned.unpinned).weak al k6,a1,a2,a3,a4,ah,w7]
   | true=>
    rw[wB zZ]at q7|-;refine bW (he C s H h _ s7 aa H7 _ I7 q7) λyv s8 ⟨y,H8,I8,r8,n8⟩=>?_;obtain⟨m',hm,w8⟩:=hN _ _ n8;obtain⟨a1,a2,a3,a4⟩:=pinned I8;have aF:j.toArray.size<=sizeLine:=by
     have:=ah.length;rw[eE];lia
    refine wpAny_list_append_plain #[no,a4] (λh' pl sb=>?_) aF;obtain⟨aG,aH⟩:=pl;have I9:Inv (gn X l k C s H h) w aa H8 {s8 with heap:=h'}:=(I8.unpinned.unpinned).turned (t':=s8.toks) (it:=D) (λb o m e=>(sb.2 b m).trans e) a3 af (.inr (tr ae)) ao ax;refine#[m',hm,i+1,U++[y],j++[yv],aG,H8,I9.weak al k6,T.keep _ _ _ a1 λb m o e=>(sb.2 b (an b m).1).trans e,a2,a3,?_,ah.append (.cons r8 .nil),w8];rw[aH]
    simp
 exact codeAny_compStart_list (aj _ zZ) (T.self _ 0 _ _ _ (T.keep 0 _ _ st λb m o e=>old b o e) (aj _ zZ))
def Ck(l:Ss)(b:TI)(g:TG)(G:TT)(L:TE):TE:=λA H Q=>b A H λJ c=>nh l g G L A J c λd a=>∀p,a p=none->Q (.ref p) (bC a p (.lst d))
def CompScope.clos{w:AO}{A:St}{H:Hp}{s:Sh}(S:CompScope X l k)(I:Inv X w A H s):closureFor k X.env=pure (pS X.env k):=
 Nf λy a b=>I.ok.has y.1 (S.free y a b)
def A5{i:TI}(S:CompScope X l k)(j:X.calm=true)(m:PI X M f i)(n:∀C s H a,PG (gn X l k C s H a) M g)(ht:∀C s H a,si (gn X l k C s H a) q G)(p:∀C s H a,PE (gn X l k C s H a) t L) (r:∀x,foldedSetIterable f X.env x=pure x:=by intro _;rfl):PE X (.ListComp t [#[M,f,q,0]] k B) (Ck l i g G L):=by
 intro w s A H Q I h;rw[eval_ListComp];refine wpAny_comprehension_free (use:=none) zZ r (S.clos I) S.kind S.locs ?_;refine bW (m w s A H _ I h) λv s1 u=>bW u λy s2 z=>?_;obtain⟨it,a,tn,J,H2,e,E,T,c,N,O⟩:=z;subst e;refine Ig (RR:=λd C=>compPost (model X.prog X.w) X.A X.xe none (EP X w A Q) d C) S j n ht p E T c N O λD C U H' ys Y I' hD fC ns fin=>?_;obtain⟨c0,c1,c2,c3,c4,c5⟩:=fC;refine#[Y,ns,λh' sb=>#[.ref D,_,?_,zZ,fin D hD]];exact I'.turned (t':=U.toks) (it:=C) (λb o hb e=>(sb.2 b hb).trans e) c0 c1 c3 c4 c5
def G7{x:Str}{p:Pos}(S:CompScope X [x] k)(a:k.names.lookup x=some .local):∀C s H b,PG (gn X [x] k C s H b) (.Name x p) (gZ 0):=λC s H b=>
 eR S.nd zZ (.inl (w9 a)) (.inr (w9 a))
def gK{b:TI}{x:Str}{p:Pos}(S:CompScope X [x] k)(c:X.calm=true)(d:k.names.lookup x=some .local)(e:PI X (.Name x p) f b)(ht:∀C s H a,si (gn X [x] k C s H a) q G)(g:∀C s H a,PE (gn X [x] k C s H a) t L) (h:∀x,foldedSetIterable f X.env x=pure x:=by intro _;rfl):PE X (.ListComp t [#[.Name x p,f,q,0]] k B) (Ck [x] b (gZ 0) G L):=
 A5 S c e (G7 S d) ht g h
def OA{O:TI}{j:Nat}{y:Str}{d c:Pos}(S:CompScope X l k)(hc:X.calm=true)(hN:X.N.Nodup)(hj:X.N[j]?=some y)(U:X.env.scope.names.lookup y=some .local)(hi:PI X M f O)(hg:∀C s H i,PG (gn X l k C s H i) M g)(ht:∀C s H i,si (gn X l k C s H i) q G)(he:∀C s H i,PE (gn X l k C s H i) t L) (p:swapsWith (.ListComp t [#[M,f,q,0]] k B) (some (.Name y d)) c.line X.env=pure true:=by rfl) (hs:∀x,foldedSetIterable f X.env x=pure x:=by intro _;rfl):
  PS X (.Assign [.Name y d] (.ListComp t [#[M,f,q,0]] k B) c) (ow (Ck l O g G L) (gZ j)):=by
 intro w s A H D I h;rw[exec_Assign_Name_used _ _ _ _ p];refine bD (Bc (bD ?_));show wpAny _ X.A (do let _ <-comprehension (.ListComp t [#[M,f,q,0]] k B) k X.env _ (newList []) false (eval f X.env) (some (assign (.Name y d) X.env))) _ _ s;refine bD (h9 (wpAny_comprehension_free (use:=some (assign (.Name y d) X.env)) (Q:=λ_ m=>SP X w D .next m) zZ hs (S.clos I) S.kind S.locs ?_) (λ_ m hq=>bM (bM hq)) λ_ _ e=>e);refine bW (hi w s A H _ I h) λv s1 h1=>bW h1 λaa s2 h2=>?_;obtain⟨it,i,tn,J,H2,e,I2,T,r,f2,hW⟩:=h2;subst e;refine Ig (RR:=λu C=>compPost (model X.prog X.w) X.A X.xe (some (assign (.Name y d) X.env)) (λ_ m=>SP X w D .next m) u C) S hc hg ht he I2 T r f2 hW λn C m H' ys m' I' hD fC ns fin=>?_;obtain⟨c0,Y,c2,c3,c4,c5⟩:=fC;show wpAny _ X.A (assign (.Name y d) X.env (.ref n)) _ _ _;refine wpAny_assign_Name (Jx (v:= .ref n) I' hN hj (.inl U) (show RelV (.ref n) (.ref n)from rfl) (λs3 I3 ⟨a,sb,ha⟩=>?_) (.inr U));have E:a≠C:=by
  rcases ha with z|z
  .rw[z];exact dM Y
  .exact c4 y a z
 refine#[m',ns.sameBut sb (dM E),λh' N=>#[_,_,I3.turned (t':=s3.toks) (it:=C) (λb o hb e=>(N.2 b hb).trans e) c0 Y c3 c4 c5,fin n hD]]
def u6{d:TI}{j:Nat}{x y:Str}{p e a:Pos}(S:CompScope X [x] k)(g:X.calm=true)(h:k.names.lookup x=some .local)(i:X.N.Nodup)(l:X.N[j]?=some y)(m:X.env.scope.names.lookup y=some .local)(n:PI X (.Name x p) f d)(ht:∀C s H b,si (gn X [x] k C s H b) q G) (o:∀C s H b,PE (gn X [x] k C s H b) t L)(c:swapsWith (.ListComp t [#[.Name x p,f,q,0]] k B) (some (.Name y e)) a.line X.env=pure true:=by rfl) (r:∀x,foldedSetIterable f X.env x=pure x:=by intro _;rfl):
  PS X (.Assign [.Name y e] (.ListComp t [#[.Name x p,f,q,0]] k B) a) (ow (Ck [x] d (gZ 0) G L) (gZ j)):=OA S g i l m n (G7 S h) ht o c r
end
section
variable{K:S4}{a:Ad}{xs:List V}{h:Ss}{g:TG}{j:TT}{d:TE}{c:St}{H:Hp}{Fin:List V->Hp->Prop}
def QX(Pv:Nat->List V->Hp->Prop)(B:xs.length<=sizeLine)(o:Pv 0 [] H)(r:∀i f H,i<=xs.length->Pv i f H->SqT K H a xs/\f.length<=i)(s:∀i v f H,xs[i]?=some v->Pv i f H->g v (i7 h c) H λk t=>qr (i7 h c) k/\j k t λb n=>if b=true then d k n λy u=>Pv (i+1) (f++[y]) u else Pv (i+1) f n)(w:∀f H,Pv xs.length f H->Fin f H):nh h g j d c (tm K a) H Fin:=by
 refine#[λi m f H=>m=xs.length-i/\i<=xs.length/\Pv i f H,#[xs.length,by simp,Nat.zero_le _,o],?_];rintro i m f H ⟨rfl,x,p⟩;obtain⟨q,C⟩:=r i f H x p;by_cases l:i<xs.length
 .refine .inr #[#[xs,xs[i],q,by simp[l]],(),Pv (i+1),λD z A=>#[xs.length-(i+1),Nat.sub_succ_lt_self _ _ l,zZ,l,A],λv z y=>?_];obtain⟨e,y⟩:=y;subst e;exact s i v f _ (y xs q) p
 .have e:i=xs.length:=by lia
  subst e;exact .inl #[#[xs,q,bR _],(),w f H p]
def j7(Pv:Nat->List V->Hp->Prop)(B:xs.length<=sizeLine)(o:Pv 0 [] H)(r:∀i f H,i<=xs.length->Pv i f H->SqL K H a xs/\f.length<=i)(s:∀i v f H,xs[i]?=some v->Pv i f H->g v (i7 h c) H λk t=>qr (i7 h c) k/\j k t λb n=>if b=true then d k n λy u=>Pv (i+1) (f++[y]) u else Pv (i+1) f n)(w:∀f H,Pv xs.length f H->Fin f H):nh h g j d c (rq K a) H Fin:=by
 refine#[λi m f H=>m=xs.length-i/\i<=xs.length/\Pv i f H,#[xs.length,by simp,Nat.zero_le _,o],?_];rintro i m f H ⟨rfl,x,p⟩;obtain⟨q,C⟩:=r i f H x p;by_cases l:i<xs.length
 .refine .inr #[#[xs,xs[i],q,by simp[l]],(),Pv (i+1),λD z A=>#[xs.length-(i+1),Nat.sub_succ_lt_self _ _ l,zZ,l,A],λv z y=>?_];obtain⟨e,y⟩:=y;subst e;exact s i v f _ (y xs q) p
 .have e:i=xs.length:=by lia
  subst e;exact .inl #[#[xs,q,bR _],(),w f H p]
def CA{lo:Int}{n:Nat}(Pv:Nat->List V->Hp->Prop)(A:n<=sizeLine)(o:Pv 0 [] H)(q:∀i a H,i<=n->Pv i a H->a.length<=i)(r:∀i a H,i<n->Pv i a H->g (.int (lo+i)) (i7 h c) H λk s=>qr (i7 h c) k/\j k s λb l=>if b=true then d k l λy t=>Pv (i+1) (a++[y]) t else Pv (i+1) a l)(u:∀a H,Pv n a H->Fin a H):nh h g j d c (qp lo n) H Fin:=by
 refine#[λi m a H=>m=n-i/\i<=n/\Pv i a H,#[n,by simp,Nat.zero_le _,o],?_];rintro i m a H ⟨rfl,w,p⟩;have B:=q i a H w p;by_cases f:i<n
 .refine .inr #[f,(),Pv (i+1),λC x z=>#[n-(i+1),Fg _ _ f,zZ,f,z],λv x y=>?_];obtain⟨e,y⟩:=y;subst e y;exact r i a _ f p
 .have e:i=n:=by lia
  subst e;exact .inl #[bR _,(),u a H p]
def uh{x:Str}{xs:List V}{f:V->V}(k:xs.length<=sizeLine)(l:SqT K H a xs)(m:∀v (Q:VK),v∈xs->Q (f v) H->d (some v::c) H Q)(n:Fin (xs.map f) H):
  nh [x] (gZ 0) v7 d c (tm K a) H Fin:=by
 refine QX (λi g h=>h=H/\g=(xs.take i).map f) k #[zZ,zZ] (λi g h o ⟨e,b⟩=>?_) (λi v g h j ⟨e,b⟩=>#[iI,?_]) (λg h ⟨e,b⟩=>?_)
 .subst e b;exact#[l,by simp;lia]
 .subst e b;refine i5 (m v _ (cb j) #[zZ,?_]);rw[gQ,j,dC];rfl
 .subst e b;rw[fZ];exact n
def Fn{x:Str}{xs:List V}{f:V->V}(k:xs.length<=sizeLine)(l:SqL K H a xs)(m:∀v (Q:VK),v∈xs->Q (f v) H->d (some v::c) H Q)(n:Fin (xs.map f) H):
  nh [x] (gZ 0) v7 d c (rq K a) H Fin:=by
 refine j7 (λi g h=>h=H/\g=(xs.take i).map f) k #[zZ,zZ] (λi g h o ⟨e,b⟩=>?_) (λi v g h j ⟨e,b⟩=>#[iI,?_]) (λg h ⟨e,b⟩=>?_)
 .subst e b;exact#[l,by simp;lia]
 .subst e b;refine i5 (m v _ (cb j) #[zZ,?_]);rw[gQ,j,dC];rfl
 .subst e b;rw[fZ];exact n
def FI{x:Str}{lo:Int}{n:Nat}{f:Nat->V}(h:n<=sizeLine)(j:∀i (Q:VK),i<n->Q (f i) H->d (some (.int (lo+(i:Nat)))::c) H Q)(k:Fin ((List.range n).map f) H):
  nh [x] (gZ 0) v7 d c (qp lo n) H Fin:=by
 refine CA (λi b g=>g=H/\b=(List.range i).map f) h #[zZ,zZ] (λi b g m ⟨e,a⟩=>?_) (λi b g l ⟨e,a⟩=>#[iI,?_]) (λb g ⟨e,a⟩=>?_)
 .subst e a;simp
 .subst e a;refine i5 (j i _ l #[zZ,?_]);rw[List.range_succ,dC];rfl
 .subst e a;exact k
end
inductive Dt where
 |non|int (i:Int)|str (x:Str)|lst (ds:List Dt)|tup (ds:List Dt)
inductive Rep (K:S4) (H:Hp):Nat->Dt->V->Prop where
 |non (n:Nat):Rep K H n .non .non
 |int (n:Nat) (i:Int):Rep K H n (.int i) (.int i)
 |str (n:Nat) (x:Str):Rep K H n (.str x) (.str x)
 |lst {n:Nat} {ds:List Dt} {a:Ad} {xs:List V} (h:SqL K H a xs) (hl:xs.length=ds.length) (hi:∀(i:Nat) d v,ds[i]?=some d->xs[i]?=some v->Rep K H n d v):Rep K H (n+1) (.lst ds) (.ref a)
 |tup {n:Nat} {ds:List Dt} {a:Ad} {xs:List V} (h:SqT K H a xs) (hl:xs.length=ds.length) (hi:∀(i:Nat) d v,ds[i]?=some d->xs[i]?=some v->Rep K H n d v):Rep K H (n+1) (.tup ds) (.ref a)
def yT{e:Type}{c d:List e}(f:c.length=d.length)(h:∀(i:Nat) a b,c[i]?=some a->d[i]?=some b->a=b):c=d:=by
 refine AS f λi g j=>?_;exact h i _ _ (by simp[g]) (by simp[j])
section
variable{X:Cx}{c:AO}{k:St}{H:Hp}{s:Sh}
def Kx{a:Ad}{b d:List V}(I:Inv X c k H s)(h:SqL X.K H a b)(e:SqT X.K H a d):False:=by
 obtain⟨_,_,p,_⟩:=I.list h;obtain⟨_,_,q,_⟩:=I.tuple e;exact SeqAt.ne_of_list_tuple p.isList (show s.heap.IsTuple a _ from q) rfl
def Eo(I:Inv X c k H s):∀(n:Nat) {d f:Dt} {v:V},Rep X.K H n d v->Rep X.K H n f v->d=f:=by
 intro n
 induction n with
 |zero=>
  intro d f v r g;cases r<;>cases g<;>rfl
 | succ n y=>
  intro d f v r g;cases r with
  |non=>cases g;rfl
  |int=>cases g;rfl
  |str=>cases g;rfl
  | @lst _ z a j h p t=>
   cases g with
   | @lst _ u _ w l m o=>
    have e:=I.list_inj h l;subst e;refine cK Dt.lst (yT (p.symm.trans m) λi d f q x=>?_);have b:i<j.length:=by rw[p];exact(bU.mp q).1
    exact y (t i d j[i] q (bE b)) (o i f j[i] x (bE b))
   |tup l _ _=>exact(Kx I h l).elim
  | @tup _ z a j h p t=>
   cases g with
   |lst l _ _=>exact(Kx I l h).elim
   | @tup _ u _ w l m o=>
    have e:=I.tuple_inj h l;subst e;refine cK Dt.tup (yT (p.symm.trans m) λi d f q x=>?_);have b:i<j.length:=by rw[p];exact(bU.mp q).1
    exact y (t i d j[i] q (bE b)) (o i f j[i] x (bE b))
def Kn{f c:List Dt}(n:f.length=c.length){e:Nat->Bool}{N:Nat}(o:N=f.length)(k:∀(j:Nat) d l,f[j]?=some d->c[j]?=some l->(e j=true↔d=l)):((List.range N).all e=true↔f=c):=by
 subst o;rw[oA];constructor
 .intro h;refine yT n λi a b m p=>?_;exact(k i a b m p).mp (h i (fb.mpr (bU.mp m).1))
 .intro h i q;have g:=fb.mp q;subst h;exact(k i f[i] f[i] (by simp[g]) (by simp[g])).mpr rfl
def Rs{P:Nat->Bool->Prop}(h:∀j,∃b,P j b):∃e:Nat->Bool,∀j,P j (e j):=#[λj=>Classical.choose (h j),λj=>ss (h j)]
def JB{A:Ar}{its its':Vs}{ds ds':List Dt}(o:its.length=ds.length)(p:its'.length=ds'.length)(h:∀(j:Nat) u f d a,its[j]?=some u->its'[j]?=some f->ds[j]?=some d->ds'[j]?=some a->∃b,SeqAt.EqAt A s u f b/\(b=true↔d=a)):
  ∃e:Nat->Bool,(∀j (i:j<its.toArray.size) (k:j<its'.toArray.size),SeqAt.EqAt A s its.toArray[j] its'.toArray[j] (e j))/\∀(j:Nat) d a,ds[j]?=some d->ds'[j]?=some a->(e j=true↔d=a):=by
 obtain⟨e,l⟩:=Rs (P:=λj b=>(∀u f,its[j]?=some u->its'[j]?=some f->SeqAt.EqAt A s u f b)/\∀d a,ds[j]?=some d->ds'[j]?=some a->(b=true↔d=a)) λj=>by
  by_cases g:j<its.length/\j<its'.length
  .obtain⟨b,m,n⟩:=h j its[j] its'[j] (ds[j]'()) (ds'[j]'()) (by simp[g.1]) (by simp[g.2]) (List.getElem?_eq_getElem _) (List.getElem?_eq_getElem _);refine#[b,λu f q c=>?_,λd a q c=>?_]
   .rw[bE g.1]at q;rw[bE g.2]at c;cases q;cases c;exact m
   .rw[bE ()]at q;rw[bE ()]at c;cases q;cases c;exact n
  .refine#[true,λu f q c=>wC #[(bU.mp q).1,(bU.mp c).1] g,λd a q c=>?_];have r:=(bU.mp q).1;have t:=(bU.mp c).1;exact wC #[(),()] g
 refine#[e,λj i k=>?_,λj=>(l j).2];simp only[List.size_toArray]at i k;exact(l j).1 _ _ (by simp[i]) (by simp[k])
def EM(I:Inv X c k H s){n:Nat}{A:Ar}(m:A.units<cLine){d o:Dt}{a t:Ad}(r:Rep X.K H (n+1) d (.ref a))(r':Rep X.K H (n+1) o (.ref t))(ih:∀{d o:Dt} {v v':V} {u O:Vl},Rep X.K H n d v->Rep X.K H n o v'->RelV v u->RelV v' O->∃b,SeqAt.EqAt A.in1 s u O b/\(b=true↔d=o)):
  ∃b,SeqAt.RcAt A s (.ref a) (.ref t) b/\SeqAt.RcNeAt A s (.ref a) (.ref t) (!b)/\(b=true↔d=o):=by
 cases r with
 | @lst _ ds _ y h hl Q=>
  obtain⟨its,B,p,_⟩:=I.list h;have l1:=B.length;cases r' with
  | @lst _ ds' _ f w x l=>
   obtain⟨its',g,i,_⟩:=I.list w;have l2:=g.length;by_cases C:ds.length=ds'.length
   .obtain⟨e,D,T⟩:=JB (A:=A.in1) (s:=s) (its:=its) (its':=its') (ds:=ds) (ds':=ds') () () λj u O d o U Y E G=>by
     have g1:=(bU.mp E).1;have g2:=(bU.mp G).1;have J:y[j]?=some (y[j]'()):=bE _;have L:f[j]?=some (f[j]'()):=bE _;obtain⟨w1,M,y1⟩:=B.get J;obtain⟨w2,N,y2⟩:=g.get L;rw[U]at M;rw[Y]at N;cases M;cases N;exact ih (Q j d _ E J) (l j o _ G L) y1 y2
    have q:its.toArray.size=its'.toArray.size:=by simp only[List.size_toArray];lia
    refine#[_,SeqAt.RcAt.lists p.isList i.isList q m D,SeqAt.RcNeAt.lists p.isList i.isList q m D,?_];rw[Kn C (by simp only[List.size_toArray];lia) T];exact#[λz=>by rw[z],λz=>by cases z;rfl]
   .have q:(its.toArray.size != its'.toArray.size)=true:=by
     rw[bne_iff_ne];simp only[List.size_toArray];lia
    refine#[false,SeqAt.RcAt.lists_lengths p.isList i.isList q m,SeqAt.RcNeAt.lists_lengths p.isList i.isList q m,#[λz=>(by cases z),λz=>?_]];cases z;exact wC zZ C
  | @tup _ ds' _ f w x l=>
   obtain⟨its',g,i,_⟩:=I.tuple w;exact#[false,SeqAt.RcAt.list_tuple p.isList (show s.heap.IsTuple t _ from i) m,SeqAt.RcNeAt.list_tuple p.isList (show s.heap.IsTuple t _ from i) m,#[λz=>(by cases z),λz=>(by cases z)]]
 | @tup _ ds _ y h hl Q=>
  obtain⟨its,B,p,_⟩:=I.tuple h;have l1:=B.length;cases r' with
  | @lst _ ds' _ f w x l=>
   obtain⟨its',g,i,_⟩:=I.list w;exact#[false,SeqAt.RcAt.tuple_list (show s.heap.IsTuple a _ from p) i.isList m,SeqAt.RcNeAt.tuple_list (show s.heap.IsTuple a _ from p) i.isList m,#[λz=>(by cases z),λz=>(by cases z)]]
  | @tup _ ds' _ f w x l=>
   obtain⟨its',g,i,_⟩:=I.tuple w;have l2:=g.length;obtain⟨e,D,T⟩:=JB (A:=A.in1) (s:=s) (its:=its) (its':=its') (ds:=ds) (ds':=ds') () () λj u O d o U Y E G=>by
     have g1:=(bU.mp E).1;have g2:=(bU.mp G).1;have J:y[j]?=some (y[j]'()):=bE _;have L:f[j]?=some (f[j]'()):=bE _;obtain⟨w1,M,y1⟩:=B.get J;obtain⟨w2,N,y2⟩:=g.get L;rw[U]at M;rw[Y]at N;cases M;cases N;exact ih (Q j d _ E J) (l j o _ G L) y1 y2
   refine#[_,SeqAt.RcAt.tuples (show s.heap.IsTuple a _ from p) (show s.heap.IsTuple t _ from i) m D,SeqAt.RcNeAt.tuples (show s.heap.IsTuple a _ from p) (show s.heap.IsTuple t _ from i) m D,?_];by_cases C:ds.length=ds'.length
   .have q:(its.toArray.size==its'.toArray.size)=true:=by
     rw[oz];simp only[List.size_toArray];lia
    rw[q,Bool.and_true,Kn C (by simp only[List.size_toArray];lia) T];exact#[λz=>by rw[z],λz=>by cases z;rfl]
   .have q:(its.toArray.size==its'.toArray.size)=false:=by
     rw[o0];simp only[List.size_toArray];lia
    rw[q,Bool.and_false];refine#[λz=>(by cases z),λz=>?_];cases z;exact wC zZ C
def IC{n m:Nat}{d b:Dt}{v a:V}(r:Rep X.K H n d v)(c:Rep X.K H m b a)(f:iY v=true)(e:iY a=true):(jj v a=true↔d=b):=by
 cases r<;>first|(cases f;done)|skip
 all_goals (cases c<;>first|(cases e;done)|skip)
 all_goals first|exact#[λ_=>rfl,λ_=>rfl]|exact#[λz=>Bool.noConfusion z,λz=>by cases z]|exact#[λz=>cK Dt.int (eq_of_beq z),λz=>by injection z with z;exact oz.mpr z]|exact#[λz=>cK Dt.str (eq_of_beq z),λz=>by injection z with z;exact oz.mpr z]
def Ab(I:Inv X c k H s):∀(n:Nat) {A:Ar},A.units+n<cLine->∀{d y:Dt} {v o:V} {u B:Vl},Rep X.K H n d v->Rep X.K H n y o->RelV v u->RelV o B->∃b,SeqAt.EqAt A s u B b/\(b=true↔d=y):=by
 intro n
 induction n with
 |zero=>
  intro A M d y v o u B r g q j;have f:iY v=true:=by cases r<;>rfl
  have e:iY o=true:=by cases g<;>rfl
  exact#[_,Ac q j f e,IC r g f e]
 | succ n N=>
  intro A M d y v o u B r g q j;by_cases f:iY v=true
  .by_cases e:iY o=true
   .exact#[_,Ac q j f e,IC r g f e]
   .refine#[false,?_,#[λz=>(by cases z),λz=>?_]]
    .cases g with
     |non=>exact wC zZ e
     |int=>exact wC zZ e
     |str=>exact wC zZ e
     | @lst _ C a D h E G=>
      cases j;obtain⟨l,_,p,_⟩:=I.list h;cases r with
      |non=>cases q;exact SeqAt.EqAt.none_list p.isList ()
      |int _ i=>obtain⟨t,rfl⟩:=q;exact SeqAt.EqAt.int_list i t p.isList ()
      |str _ x=>obtain⟨t,rfl⟩:=q;exact SeqAt.EqAt.str_list x t p.isList ()
      |lst _ _ _=>cases f
      |tup _ _ _=>cases f
     | @tup _ C a D h E G=>
      cases j;obtain⟨l,_,p,_⟩:=I.tuple h;have w:s.heap.IsTuple a l.toArray:=p;cases r with
      |non=>cases q;exact SeqAt.EqAt.none_tuple w ()
      |int _ i=>obtain⟨t,rfl⟩:=q;exact SeqAt.EqAt.int_tuple i t w ()
      |str _ x=>obtain⟨t,rfl⟩:=q;exact SeqAt.EqAt.str_tuple x t w ()
      |lst _ _ _=>cases f
      |tup _ _ _=>cases f
    .subst z;cases r<;>first|(cases f;done)|skip
     all_goals (cases g;exact wC zZ e)
  .by_cases e:iY o=true
   .refine#[false,?_,#[λz=>(by cases z),λz=>?_]]
    .cases r with
     |non=>exact wC zZ f
     |int=>exact wC zZ f
     |str=>exact wC zZ f
     | @lst _ C a D h E G=>
      cases q;obtain⟨l,_,p,_⟩:=I.list h;cases g with
      |non=>cases j;exact SeqAt.EqAt.list_none p.isList ()
      |int _ i=>obtain⟨t,rfl⟩:=j;exact SeqAt.EqAt.list_int i t p.isList ()
      |str _ x=>obtain⟨t,rfl⟩:=j;exact SeqAt.EqAt.list_str x t p.isList ()
      |lst _ _ _=>cases e
      |tup _ _ _=>cases e
     | @tup _ C a D h E G=>
      cases q;obtain⟨l,_,p,_⟩:=I.tuple h;have w:s.heap.IsTuple a l.toArray:=p;cases g with
      |non=>cases j;exact SeqAt.EqAt.tuple_none w ()
      |int _ i=>obtain⟨t,rfl⟩:=j;exact SeqAt.EqAt.tuple_int i t w ()
      |str _ x=>obtain⟨t,rfl⟩:=j;exact SeqAt.EqAt.tuple_str x t w ()
      |lst _ _ _=>cases e
      |tup _ _ _=>cases e
    .subst z;cases g<;>first|(cases e;done)|skip
     all_goals (cases r;exact wC zZ f)
   .have J:∀{m:Nat} {d:Dt} {v:V},Rep X.K H m d v-> ¬iY v=true->∃a,v=.ref a:=λ{m d v} r f=>by
     cases r<;>first|exact#[_,zZ]|exact wC zZ f
    obtain⟨a,rfl⟩:=J r f;obtain⟨O,rfl⟩:=J g e;cases q;cases j;by_cases L:a=O
    .subst L;exact#[true,SeqAt.EqAt.same _,#[λ_=>Eo I (n+1) r g,λ_=>rfl]]
    .obtain⟨b,Q,_,T⟩:=EM I (A:=A) () r g λr g q j=>N (A:=A.in1) (by show A.units+1+n<cLine;lia) r g q j;exact#[b,.of_refs L Q,T]
inductive j3(K:S4)(c:Bool)(x y:V)(H:Hp)(Q:VK):Prop|mk:∀a e n d f,x=.ref a->y=.ref e->Rep K H (n+1) d (.ref a)->Rep K H (n+1) f (.ref e)->n<=30->(∀b,(b=true↔d=f)->Q (.bl (if c then !b else b)) H)->j3 K c x y H Q
def EJ(m:X.A.units+64<cLine):OpR X (compareOp .Eq) (j3 X.K false):=by
 intro c s k H x y v u Q I f g h;obtain⟨a,o,n,d,p,rfl,rfl,r,e,t,q⟩:=h;cases f;cases g;obtain⟨b,i,_,j⟩:=EM I (A:=X.A) () r e λr e q l=>Ab I n (A:=X.A.in1) (by show X.A.units+1+n<cLine;lia) r e q l;exact i _ _ _ _ #[.bl b,H,I,zZ,q b j]
def AM(m:X.A.units+64<cLine):OpR X (compareOp .NotEq) (j3 X.K true):=by
 intro c s k H x y v u Q I f g h;obtain⟨a,o,n,d,p,rfl,rfl,r,e,t,q⟩:=h;cases f;cases g;obtain⟨b,_,i,j⟩:=EM I (A:=X.A) () r e λr e q l=>Ab I n (A:=X.A.in1) (by show X.A.units+1+n<cLine;lia) r e q l;exact i _ _ _ _ #[.bl (!b),H,I,zZ,q b j]
end
def MB{K:S4}{H:Hp}{n:Nat}{is:Zs}(i:Nat)(d:Dt)(v:V)(a:(is.map Dt.int)[i]?=some d)(b:(is.map V.int)[i]?=some v):Rep K H n d v:=by
 rw[bZ]at a b;cases e:is[i]? with
 |none=>rw[e]at a;cases a
 |some k=>
  rw[e]at a b;cases a;cases b;exact .int n k
def Ec{K:S4}{H:Hp}{n:Nat}{is:Zs}{a:Ad}(h:SqT K H a (is.map V.int)):Rep K H (n+1) (.tup (is.map Dt.int)) (.ref a):= .tup h (by simp) MB
theorem vi{e i:Type}{f:e->i}(g:∀a b,f a=f b->a=b):∀{c d:List e},c.map f=d.map f->c=d
 | [],[],_=>rfl
 | [],_::_,h=>by simp at h
 |_::_,[],h=>by simp at h
 |a::c,b::d,h=>by
  simp only[List.map_cons,List.cons.injEq]at h;rw[g a b h.1,vi g h.2]
def nM{c d:Zs}:Dt.tup (c.map Dt.int)=Dt.tup (d.map Dt.int)↔c=d:=
 #[λh=>by injection h with h;exact vi (λa b e=>by injection e) h,λh=>by rw[h]]
def mD(n:Nat):List V:=(List.range n).map λ(i:Nat)=>V.int (i:Int)
section
variable{X:Cx}
inductive ni(a:List V)(H:Hp)(Q:VK):Prop|mk:∀j:Int,a=[.int j]->(∀p,H p=none->Q (.ref p) (bC H p (.rng 0 j)))->ni a H Q
def JJ:hA X (.type "range") ni:=by
 intro a s c H d f Q I r h;obtain⟨j,rfl,q⟩:=h;obtain⟨u,rfl,t,rfl⟩:=gA r;refine call_range_1 #[.ref s.heap.objs.size,_,I.laid (t':=s.toks+1+1) (λb o e=>cM _ e) (bR _) (show ObjOk X.prog X.w _ _ _ (.rng 0 j)from#[_,_,_,dG _ zZ]),zZ,q _ (I.hok.fresh (bR _))]
def Ip{n:Nat}{f:AV}(h:ItemsOf (λi v=>∃t,v=Value.int ((0:Int)+(i:Nat) * 1) t) f n):Vals (mD n) f.toList:=by
 obtain⟨l,m⟩:=h;have go:∀(d:List V) (c:Vs),d.length=c.length->(∀(j:Nat) x u,d[j]?=some x->c[j]?=some u->RelV x u)->Vals d c:=by
  intro d
  induction d with
  |nil=>intro c g _;cases c with
   |nil=>exact .nil
   |cons=>simp at g
  |cons x d o=>
   intro c g h;cases c with
   |nil=>simp at g
   |cons u c=>exact .cons (h 0 x u zZ zZ) (o c (by simpa using g) λj a b e k=>h (j+1) a b (by simpa using e) (by simpa using k))
 refine go _ _ (by simp[mD,l]) λj x u e k=>?_;obtain⟨t,rfl⟩:=m j u (by simpa using k);unfold mD at e;rw[bZ]at e;have p:j<n:=by
  have:=(bU.mp k).1;simpa[l]using this
 rw[nB p]at e;cases e;refine#[t,?_]
 congr 1
 lia
def Iw{j:Int}(a:0<=j)(b:j<=1000000):Builtin.Range.small 0 j 1=true:=small_one (by decide) (by decide) () ()
def Hu{j:Int}(a:0<=j):Builtin.Range.rangeSize 0 j 1=(j.toNat:Nat):=by
 rw[rangeSize_one];split<;>lia
inductive jc(a:List V)(H:Hp)(Q:VK):Prop|mk:∀p j,a=[.ref p]->H p=some (.rng 0 j)->0<=j->j<=1000000->(∀l,H l=none->Q (.ref l) (bC H l (.lst (mD j.toNat))))->jc a H Q
def Qp(g:X.calm=true):hA X (.type "list") jc:=by
 intro w s x H y z Q I r h;obtain⟨p,j,rfl,i,c,k,q⟩:=h;obtain⟨u,rfl,l⟩:=gA r;cases l;obtain⟨A,B,C,e⟩:=I.hok p _ i;refine call_list_range (I.ok.hd g) e (Iw c k) (Hu c) () λd m a f n o b=>?_;have t:=Ip b;have v:d.get? s.heap.objs.size=some {cls:= .type "list",data:= .seq a.toList.toArray f}:=by simpa using o
 exact#[.ref s.heap.objs.size,_,I.laid (t':=m) n (bR _) (show ObjOk X.prog X.w _ d _ (.lst (mD j.toNat))from#[by rw[cH];simp[mD];lia,a.toList,f,t,v]),zZ,q _ (I.hok.fresh (Nat.le_refl _))]
end
section
open AutoSeq1 (wpAny_loadPart')
abbrev Cr(j:Int)(a:AV):Prop:=ItemsOf (λi v=>∃t,v=Value.int ((0:Int)+(i:Nat) * 1) t) a j.toNat
def Sc{k:Pg}{w:World}{A:Ar}{E:VP}{s:Sh}{Q:Vs->Sh->Prop}{r:Ad}{j:Int}{t u v:Tok}(C:A.handled=none)(y:IsRange s.heap r 0 j 1 t u v)(B:0<=j)(D:j<=1000000)(G:∀d i c,(∀b o,s.heap.get? b=some o->d.get? b=some o)->Cr j c->Q c.toList {s with heap:=d,toks:=i}):wpAny (model k w) A (collect (.ref r)) Q E s:=by
 have H:(s.heap.push {cls:= .type "list",data:= .seq ([]:Vs).toArray}).get? s.heap.objs.size=some {cls:= .type "list",data:= .seq #v[] 0}:=by exact dG _ rfl
 unfold collect;refine wpAny_bind (wpAny_runValue (codeAny_builtin F.entry_proto_collect ?_));rw[Around.under_plainId F.plain_proto_collect _];show wpAny _ A.in1 (newList [] >>= λl=>again (.builtin "list.__iadd__" #[[l,.ref r],[]])) _ _ s;refine bD (oR (bM #[sv F.plain_list_iadd _,oq F.entry_list_iadd ?_]));rw[pQ F.plain_list_iadd _];show wpAny _ A.in1 (Builtin.List.listExtendWith (.ref s.heap.objs.size) (.ref r) (.ref s.heap.objs.size)) _ _ _;have m:∀n,(∃d i c p,n={s with heap:=d,toks:=i}/\(∀b o,s.heap.get? b=some o->d.get? b=some o)/\d.get? s.heap.objs.size=some {cls:= .type "list",dict:=none,data:= .seq c p,slots:= #v[]}/\Cr j c)->
   wpAny (model k w) A (match Value.ref s.heap.objs.size with
    | Value.ref a=>do
     let o <-load a
     match o.data with
      |Data.seq I _=>pure I.toList
      |_=>unsupported "internal:collect"
    |_=>unsupported "internal:collect") Q E n:=by
  rintro n ⟨d,i,c,p,rfl,z,q,x⟩;show wpAny _ A (load s.heap.objs.size >>= _) _ _ _;exact bD (wpAny_load q (bM (G d i c z x)))
 refine h9 (wpAny_extend_range (A:=A) (R:=λr n=>r=.ok (.ret (.ref s.heap.objs.size))/\∃d i c p,n={s with heap:=d,toks:=i}/\(∀b o,s.heap.get? b=some o->d.get? b=some o)/\d.get? s.heap.objs.size=some {cls:= .type "list",dict:=none,data:= .seq c p,slots:= #v[]}/\Cr j c)
  (s:={s with heap:=s.heap.push {cls:= .type "list",data:= .seq ([]:Vs).toArray}}) C (cM _ y) (Iw B D) (Hu B) () _ (.ref s.heap.objs.size) 0 H λd i c p z q x=>
   #[zZ,d,i,c,p,zZ,λb o e=>z b o (dj (cy e)) (cM _ e),q,x]) (λfin n h=>?_) (λe n h=>wC h.1 (by simp))
 cases fin with
 |done f=>obtain⟨e,g⟩:=h;cases e;exact m _ g
 |again p=>exact#[h.1,mX h.2 λr J y=>by obtain⟨rfl,g⟩:=y;exact m _ g]
def Qk(r:Ad)(j:Int)(t u v:Tok)(q:0<=j)(x:j<=1000000):Meets (Builtin.«tuple.__new__» #[[.type "tuple",.ref r],[]]) (λA R s=>A.handled=none/\IsRange s.heap r 0 j 1 t u v/\∀(c:Heap) i a,(∀b o,s.heap.get? b=some o->c.get? b=some o)->Cr j a->
   R (.ok (.ret (.ref c.objs.size))) {s with heap:=c.push {cls:= .type "tuple",data:= .seq a},toks:=i}):=
 .of_wp λn w A R s h=>by
  obtain⟨y,g,d,i,os⟩:=s;obtain⟨z,k,h⟩:=h;have p:=sub_tuple_self;have l:=init_tuple_lookup;have B:=madeHere_tuple
  have hT:Shared.TypeIs #[y,g,d,i,os] (.ref r) "range":=#[_,k,zZ]
  wp_walk using Bu k,wpAny_typeOf hT,Sc (A:=A.in1) z k q x
  intro c m a C f;show wpAny _ _ (Builtin.Tuple.tupleExact a.toList.toArray >>= λv=>ret v) _ _ _;have D:a.toList.toArray.size<=sizeLine:=by
   have:=f.1;rw[cH];simp only[List.size_toArray,Array.length_toList];lia
  unfold Builtin.Tuple.tupleExact;refine wpAny_bind (wpAny_newObj_type (wpAny_pure #[_,zZ,?_]) D);have e:a.toList.toArray=a:=by simp
  rw[e];exact h c m a C f
end
section
variable{X:Cx}
inductive lB(a:List V)(H:Hp)(Q:VK):Prop|mk:∀p j,a=[.ref p]->H p=some (.rng 0 j)->0<=j->j<=1000000->(∀l,H l=none->Q (.ref l) (bC H l (.tup (mD j.toNat))))->lB a H Q
def Pu(m:X.calm=true):hA X (.type "tuple") lB:=by
 intro i s k H E G Q I r h;obtain⟨p,j,rfl,n,t,v,q⟩:=h;obtain⟨u,rfl,w⟩:=gA r;cases w;obtain⟨x,y,z,e⟩:=I.hok p _ n;refine callType_new F.called_tuple (by decide) (F.typeCall_tuple_1 _) (F.newCall_tuple_1 _) (λd=>F.args_object_init_2 d _) F.entry_tuple_new (Qk p j x y z t v) #[I.ok.hd m,e,λc f a A g=>#[#[_,dG _ zZ,zZ],?_]];have B:=Ip g;have l:Inv X i k H {s with heap:=c,toks:=f}:=I.kept A;have C:(mD j.toNat).length<=sizeLine:=by rw[cH];simp[mD];lia
 have D:Inv X i k (bC H c.objs.size (.tup (mD j.toNat))) {s with heap:=c.push {cls:= .type "tuple",data:= .seq a},toks:=f}:=
  l.laid (t':=f) (λb o e=>cM _ e) (bR _) (show ObjOk X.prog X.w _ _ _ (.tup (mD j.toNat))from#[C,a.toList,B,by simpa using TupD.new c a])
 exact#[.ref c.objs.size,_,D,zZ,q _ (l.hok.fresh (bR _))]
inductive yG(K:S4)(a:List V)(H:Hp)(Q:VK):Prop|mk:∀x n t b,a=[x,.ty n]->TyOf K H x t->PySem.W.kitOne K t (.type n)=some b->Q (.bl b) H->yG K a H Q
def rB:hA X (.builtin "isinstance") (yG X.K):=by
 intro f s g H i j Q I r h;obtain⟨x,n,t,b,rfl,ty,e,q⟩:=h;obtain⟨u,k,rfl,a,c⟩:=yi r;cases c;exact QU I a ty e λd=>#[.bl b,H,I.tok d,zZ,q]
end
structure CompSc(N:Ss)(osc:Scope)(vs:Ss)(sc:Scope):Prop where
 kind:sc.kind=.function:=by rfl
 cell:∀y∈sc.names,y.2≠ .cell:=by decide+kernel
 locs:∀y∈sc.names,y.2=.local->sc.names.lookup y.1=some .local:=by decide+kernel
 own:∀y∈N.map (n6 vs),sc.names.lookup y≠some .local:=by decide+kernel
 hid:∀y∈vs,sc.names.lookup (Ft y)=none:=by decide+kernel
 nd:(vs++N.map (n6 vs)).Nodup:=by decide+kernel
 free:∀y∈sc.names,y.2=.free->osc.names.lookup y.1=some .cell\/osc.names.lookup y.1=some .free:=by decide+kernel
def CompSc.to{X:Cx}{N:Ss}{osc:Scope}{vs:Ss}{a:Scope}(h:CompSc N osc vs a)(b:X.N=N:=by rfl)(c:X.env.scope=osc:=by rfl):CompScope X vs a:=by
 subst b c;exact#[h.kind,h.cell,h.locs,h.own,h.hid,h.nd,h.free]
def cE(P:Pg)(w:World)(K:S4)(mg:SV)(a:Heap)(x:Str)(k:Nat)(b:Ss)(d:Sp):Prop:=
 ∃f c,FnOk P w K mg a b9 k f c b d/\mg x=some (.ref f)/\PySem.W.keepIn K (.ref f)=true/\Binds K c b []
def cC{X:Cx}{x:Str}{k:Nat}{h:Ss}{g:Sp}{e:Expr}{a:List Expr}{t:TA}{p d:Pos}(c:cE X.prog X.w X.K X.mg X.base x k h g)(i:Room k X.A)(j:Gl X x)(l:PA X (e::a) t)(n:(x==("__debug__":Str))=false:=by decide) (o:starEach (e::a) X.env=(false,eval e X.env)::starEach a X.env:=by rfl) (q:(backTo d (starEach a X.env)).any (·.1)=false:=by rfl):
  PE X (.Call (.Name x p) (e::a) [] d) (Be g [] E0 t):=by
 obtain⟨f,s,F,m,r,b⟩:=c;exact Rv F i j m r b .nil zT l n o q
def ug{X:Cx}{x:Str}{n:String}{a:Pos}(b:Gl X x)(c:X.mg x=none)(d:bootBuiltins x=some (.type n))(e:x≠"__name__":=by decide)(f:(x==("__debug__":Str))=false:=by decide):PE X (.Name x a) (tC (.ty n)):=
 Oc (v:= .ty n) b c d (show RelV (.ty n) (.type n)from rfl) e f
def IxR.k{X:Cx}{K:S4}(r:S4->R2)(h:IxR X (r X.K))(a:X.K=K):IxR X (r K):=a▸h
def OpR.k{X:Cx}{K:S4}{f:Vl->Vl->Sem Vl}(r:S4->R2)(h:OpR X f (r X.K))(a:X.K=K):OpR X f (r K):=a▸h
def bV{H:Hp}{p:Ad}(h:H p=none)(o:HO):Same H (bC H p o):=λb u q=>by rw[bL (cV q h)];exact q
def small{n:Nat}(h:n<=1000):n<=sizeLine:=eM (Sz h)
abbrev nv(n:Nat):V:= .int (n:Int)
def Rk(a:bB):a.map nv=(a.map λ(n:Nat)=>(n:Int)).map V.int:=by rw[eJ];rfl
def R7{c d:bB}:(c.map λ(n:Nat)=>(n:Int))=(d.map λ(n:Nat)=>(n:Int))↔c=d:=
 #[λh=>vi (λa b e=>Ap e) h,λh=>by rw[h]]
def iS{K:S4}{H:Hp}{n:Nat}{is:bB}{a:Ad}(h:SqT K H a (is.map nv)):Rep K H (n+1) (.tup ((is.map λ(n:Nat)=>(n:Int)).map Dt.int)) (.ref a):=Ec (by rw[<-Rk];exact h)
def cO{a b:bB}:Dt.tup ((a.map λ(n:Nat)=>(n:Int)).map Dt.int)=Dt.tup ((b.map λ(n:Nat)=>(n:Int)).map Dt.int)↔a=b:=nM.trans R7
def q0{a:bB}{k:Nat}(h:k<a.length):fP (a.map nv) (k:Int)=some (nv (a.getD k 0)):=ge (by rw[bZ,bE h,cZ,bE h];rfl)
def xT(H:Hp)(b:List V)(Q:VK):Prop:=∀r a,Same H a->a r=some (.tup b)->Q (.ref r) a
def yI(t:TS):TS:=λD c H=>∃S:St->Hp->Prop,t {D with nx:=S} c H/\∀a b,S a b->D.nx a b
def ua{X:Cx}{st:Stmt}{t:TS}(h:PS X st t):PS X st (yI t):=by
 intro c s d H D I q;obtain⟨S,e,g⟩:=q;refine bW (h c s d H _ I e) λf j z=>?_;cases f with
 |next=>obtain⟨a,b,i,z⟩:=z;exact#[a,b,i,g a b z]
 |brk=>exact z
 |cont=>exact z
 |ret u=>exact z
def yP{c A B:Prop}[Decidable c](a:c)(h:A):if decide c=true then A else B:=by
 rw[wB (cG a)];exact h
def zA{c A B:Prop}[Decidable c](a: ¬c)(h:B):if decide c=true then A else B:=by
 rw[wA (by rw[eW a];exact fX)];exact h
def gk{H a:Hp}{l:Ad}{o:HO}(g:Same H a)(c:H l=none):Same H (bC a l o):=λb u e=>by rw[bL (cV e c)];exact g b u e
def HG{a:Zs}{k:Nat}(h:k<a.length):fP (a.map V.int) (k:Int)=some (.int (a.getD k 0)):=ge (by rw[bZ,bE h,cZ,bE h];rfl)
def Cc{n k:Nat}(h:k<n):nI n (k:Int)=some k:=by
 unfold nI;rw[wB (),wB (),hY]
def cY(c:Int){n:Nat}(h:1<=n):V.int (c%(n:Int))=nv (c%(n:Int)).toNat/\(c%(n:Int)).toNat<n:=by
 have a:=Gy c (by lia:(n:Int)≠0);have b:=Ge c (by lia:(0:Int)<(n:Int));refine#[?_,()];show V.int _=V.int (((c%(n:Int)).toNat:Nat):Int);rw[Int.toNat_of_nonneg a]
def Bb(a:bB)(j v:Nat):(a.map nv).set j (nv v)=(a.set j v).map nv:=(List.map_set).symm
def A'{a:bB}{j v n:Nat}(h:∀y∈a,y<n)(b:v<n):∀y∈a.set j v,y<n:=by
 intro y c
 rcases List.mem_or_eq_of_mem_set c with z|z
 .exact h y z
 .rw[z];exact b
def wD{a:bB}{j n:Nat}(h:∀y∈a,y<n)(b:j<a.length):a.getD j 0<n:=by
 rw[cZ,bE b];exact h _ (gh b)
def QJ{K:S4}:PySem.W.kitOne K (.type "int") (.type "int")=some true:=by rfl
def LJ{K:S4}:PySem.W.kitOne K (.type "int") (.type "bool")=some false:=by rfl
def Dy{K:S4}:PySem.W.kitOne K (.type "tuple") (.type "tuple")=some true:=by rfl
def QV{P:Pg}{w:World}{a:Ad}{c:Type}[DecidableEq c]{kd:HeapKind P w c}(d:(a==sysModules)=false):
  MeetsIn P w (Builtin.«dict.__len__» #[[.ref a],[]]) λ_ R s=>∃b,s.heap.DictOfH kd a b/\R (.ok (.ret (.int b.length s.toks))) {s with toks:=s.toks+1}:=
 .of_wp λA R s ⟨b,e,q⟩=>by
  obtain⟨k,f,l,g,m,h,i,_⟩:=e;have j:f.size=b.length:=Bv i;show wpAny _ _ (dictSize a >>= _) _ _ s;unfold dictSize;refine bD (bD (tu g h (bM (bD (wpAny_pendingCount_other d (wpAny_ret_mkInt ?_))))));rw[Au,j];exact q
def M0{P:Pg}{w:World}{A:Ar}{E:VP}{s:Sh}{a:Ad}{c:Type}[DecidableEq c]{e:HeapKind P w c}{b:List (c×Ad×Vl)}{Q:VP}(f:(a==sysModules)=false)(d:s.heap.DictOfH e a b) (few:(b.length:Int)<2 ^ 63) (q:Q (.int b.length (s.toks+1)) {s with toks:=s.toks+1+1}):wpAny (model P w) A (Builtin.«len» #[[.ref a],[]]) (λfin g=>∃r,fin=.done (.ret r)/\Q r g) E s:=by
 have h: ¬((b.length:Nat):Int)<0:=by lia
 have i: ¬((b.length:Nat):Int)>=2 ^ 63:=by lia
 unfold Builtin.«len»;refine bD (m:=oneArg "len" _) (bM (bD (m:=callSpecial? (.ref a) (Str.ofString "__len__")) ?_));refine t7 (name:=Str.ofString "__len__") d.typeIs F.slot_dict_len (call_meetsIn F.slot_dict_len d.typeIs F.entry_dict_len (F.args_dict_len_1 _) (QV (kd:=e) f) #[b,d,?_]);show wpAny _ _ _ _ _ {s with toks:=s.toks+1};refine bD (iQ (bM (bD (wpAny_letGo ?_))));show wpAny _ _ (if((b.length:Nat):Int)<0 then _ else(if((b.length:Nat):Int)>=2 ^ 63 then _ else _)) _ _ _;rw[wA h,wA i];exact bD (mG (bM #[_,zZ,q]))
section
variable{X:Cx}
def O2:hA X (.builtin "len") (λd H Q=>∃a b,d=[V.ref a]/\H a=some (.dT b)/\Q (.int b.length) H):=by
 intro l s m H d n Q I r h;obtain⟨a,b,rfl,f,q⟩:=h;obtain⟨u,rfl,g⟩:=gA r;cases g;obtain⟨z,i,j,c,k⟩:=Gz I.hok f;have e:b.length=j.length:=oM c;refine FF kind_len plain_len entry_len (args_len1 _) (M0 i k (by rw[<-e];rw[cH]at z;lia) ?_);exact#[.int b.length,H,I.tok _,#[_,by rw[e]],q]
end
def nk(a:bB):List cD:=a.map λ(n:Nat)=>(Sum.inl (n:Int):cD)
def jd(a:bB):(nk a).map kV=a.map nv:=by
 unfold nk;rw[eJ];rfl
def By{c d:bB}(h:nk c=nk d):c=d:=by
 unfold nk at h;exact vi (λa b e=>by injection e with e;exact Ap e) h
section
variable{X:Cx}
inductive nC(K:S4)(x y:V)(H:Hp)(Q:VK):Prop|mk:∀l b a c,x=.ref l->y=.ref b->SqL K H l a->SqL K H b c->a.length+c.length<=sizeLine->(∀p,H p=none->Q (.ref p) (bC H p (.lst (a++c))))->nC K x y H Q
def GB:OpR X (binaryOp .Add) (nC X.K):=by
 intro E s G H x y v u Q I p t h;obtain⟨l,b,J,L,rfl,rfl,w,z,M,q⟩:=h;cases p;cases t;obtain⟨c,r,⟨⟨N,O,T,A⟩,n,e,i,j,k⟩,_⟩:=I.list w;obtain⟨a,m,⟨⟨U,Y,k2,B⟩,C,o,d,f,g⟩,_⟩:=I.list z;simp only at i j k d f g;subst i j k d f g;have l1:=r.length;have l2:=m.length;have D:c.toArray++a.toArray=(c++a).toArray:=by simp
 refine concat_meets #[_,e,zZ] #[_,o,zZ] noFill_list_add seq_list_add F.slot_list_add F.entry_list_add (F.args_list_add_2 _ _) (list_addW l b c.toArray a.toArray n C none none A B (by simp only[List.size_toArray];lia)) #[e,o,?_];rw[D];exact#[.ref _,_,I.lnew (t':=s.toks) (r.append m) (by rw[cI];lia),zZ,q _ I.fresh]
end
section
variable{X:Cx}
inductive y8(K:S4)(a:List V)(H:Hp)(Q:VK):Prop|mk:∀(p:Ad) (bs:List Bool),a=[.ref p]->SqL K H p (bs.map V.bl)->Q (.bl (bs.all id)) H->y8 K a H Q
def D0(n:X.calm=true):hA X (.builtin "all") (y8 X.K):=by
 intro G s J H L M Q I r h;obtain⟨p,bs,rfl,t,q⟩:=h;obtain⟨u,rfl,w⟩:=gA r;cases w;obtain⟨a,g,j,_⟩:=I.list t;have k:=j.isList;have f:p<s.heap.objs.size:=j.lt;have c:a.length=bs.length:=by rw[<-g.length,bF]
 refine call_all_walk (Ba k #[_,_,_,_,_,_,λi=>bs.getD i false,zZ,Walks.list (A:=X.A.in1) (I.ok.hd n) _ p (dj f) a.toArray,#[#[_,dG _ zZ,zZ,zZ],k.push _],?_,λN O y=>?_])
 .intro i v T U Y B C;have d:a[i]?=some v:=by simpa using B
  have l:i<bs.length:=by rw[<-c];exact(bU.mp d).1
  obtain⟨u2,m,D⟩:=g.get (i:=i) (x:= .bl (bs.getD i false)) (by rw[bZ,bE l,cZ,bE l];rfl);rw[d]at m;cases m;cases(show v=Value.bool _ from D);exact m9 C
 .have e:(List.range a.toArray.size).all (λi=>bs.getD i false)=bs.all id:=by
   rw[eE,c];have:bs=(List.range bs.length).map λi=>bs.getD i false:=by
    refine AS (by simp) λi E h2=>?_;simp[List.getD_eq_getElem?_getD,E]
   conv=>rhs;rw[this,xh]
   rfl
  rw[e];exact#[.bl (bs.all id),H,I.kept λb o z=>y b o (by simp only[List.mem_singleton];exact Nat.ne_of_lt (Heap.lt_size z)) (Heap.get?_push_of_some _ z),zZ,q]
def Rm{a:Ss}:∀{b:Vs},Vals (a.map V.str) b->StrsAre b a:=by
 induction a with
 |nil=>intro b r;cases r;exact .nil
 | cons x a c=>
  intro b r;cases r with
  |cons d e=>
   obtain⟨t,rfl⟩:=d;exact .cons x t (c e)
inductive pZ(K:S4)(x:V)(b:List V)(H:Hp)(Q:VK):Prop|mk:∀(z:Str) (l:Ad) (a:Ss),x=.str z->b=[.ref l]->SqL K H l (a.map V.str)->z.length<=16->(a.map (·.length)).sum+a.length<=1048576->Q (.str (Txt.join z a)) H->pZ K x b H Q
def yB:mP X "str.join" (pZ X.K):=by
 intro j s m H x n v o Q I a b h;obtain⟨z,l,c,rfl,rfl,d,e,hw,q⟩:=h;obtain⟨t,rfl⟩:=a;obtain⟨u,rfl,f⟩:=b.one;cases f;obtain⟨g,r,i,_⟩:=I.list d;exact join_listW i.isList (by simpa using Rm r) e hw λp k=>#[.str (Txt.join z c),H,I.tok _,#[_,zZ],q]
end
structure PL(X:Cx)(es:List Expr)(t:TA):Prop where
 pa:PA X es t
structure QE(X:Cx)(e:Expr)(t:TE):Prop where
 pe:PE X e t
structure QS(X:Cx)(st:Stmt)(t:TS):Prop where
 ps:PS X st t
structure QSs(X:Cx)(b:List Stmt)(t:TS):Prop where
 pss:PSs X b t
section
variable{X:Cx}{e a b:Expr}{c:List Expr}{d i g:TE}{t:TA}{f:Pos}
def ce:PL X [] lO:=#[bJ]
def bI(a:PE X e d)(b:PL X c t)(f:starEach (e::c) X.env=(false,eval e X.env)::starEach c X.env):PL X (e::c) (lJ d t):=#[bK a b.pa f]
def cf(h:PL X c t):PA X c t:=h.pa
def yg(a:QE X e d)(b:PL X c t)(f:starEach (e::c) X.env=(false,eval e X.env)::starEach c X.env):PL X (e::c) (lJ d t):=#[bK a.pe b.pa f]
def mK(h:PE X e d):QE X e d:=#[h]
def yj{c:Operator}{r:R2}(d:OpR X (binaryOp c) r)(e:QE X a i)(h:QE X b g):QE X (.BinOp a c b f) (xp r i g):=#[cu d e.pe h.pe]
end
section
variable{X:Cx}{e:Expr}{f:TE}{st:Stmt}{rest:List Stmt}{t u:TS}{d:Pos}
def gX(h:PS X st t):QS X st t:=#[h]
def BJ(a:QE X e f):QS X (.Return (some e) d) (su f):=#[cr a.pe]
def Rp{i:Nat}{x:Str}{a:Pos}(b:X.N.Nodup)(c:X.N[i]?=some x)(g:xi X.env.scope x)(h:QE X e f)(j:swapsWith e (some (.Name x a)) d.line X.env=pure false)(k:X.fn x=true\/X.env.scope.names.lookup x=some .local):
  QS X (.Assign [.Name x a] e d) (ow f (gZ i)):=#[cj b c g h.pe j k]
def zG{c:Expr}{a b:List Stmt}{e:TT}(f:PT X c e)(g:QSs X a t)(h:QSs X b u):QS X (.If c a b d) (um e t u):=#[dq f g.pss h.pss]
def NT(h:QS X st t):QS X st (yI t):=#[ua h.ps]
def oG(a:QS X st t):QSs X [st] t:=#[bS a.ps]
def hX(a:QS X st t)(b:QSs X rest u):QSs X (st::rest) (mV t u):=#[bQ a.ps b.pss]
def xN{b:List Stmt}(h:QSs X b t):PSs X b t:=h.pss
end
def yJ(op:CmpOp)(A:Ar)(s:Sh)(x y:Vl)(r:Bool):Prop:=
 ∀(P:Pg) (w:World) (E:VP) (Q:VP),Q (.bool r) s->wpAny (model P w) A (richCompare op x y) Q E s
inductive Cmp (op:CmpOp) (A:Ar) (s:Sh):List (Vl×Vl)->Option Bool->Prop where
 |nil:Cmp op A s [] none
 |eq {x y zs o}:SeqAt.EqAt A s x y true->Cmp op A s zs o->Cmp op A s ((x,y)::zs) o
 |ne {x y zs r}:SeqAt.EqAt A s x y false->yJ op A s x y r->Cmp op A s ((x,y)::zs) (some r)
def SeqObj(c:String)(h:Heap)(a:Ad)(b:Vs):Prop:=∃n d sl,h.get? a=some #[.type c,d,.seq b.toArray n,sl]
section
variable{P:Pg}{w:World}{A:Ar}{E:VP}{s:Sh}{a:CmpOp}
def Pp{i:Type}{f:Vl×Vl->i->Sem (ForInStep i)}{d:i}{Q:i->Sh->Prop}{j:List (Vl×Vl)}{o:Option Bool}(h:Cmp a A s j o)(k:∀x y Q,SeqAt.EqAt A s x y true->Q (.yield d) s->wpAny (model P w) A (f (x,y) d) Q E s)(no:∀x y r,SeqAt.EqAt A s x y false->yJ a A s x y r->o=some r->wpAny (model P w) A (f (x,y) d) (λt g=>match t with|.yield _=>False|.done b=>Q b g) E s)(fin:o=none->Q d s):wpAny (model P w) A (forIn j d f) Q E s:=by
 refine wpAny_forIn_list f (λrest b g=>b=d/\g=s/\Cmp a A s rest o) Q (λz rest b g q=>?_) (λb g q=>?_) j d #[zZ,zZ,h]
 .obtain⟨rfl,rfl,c⟩:=q;cases c with
  |eq e c=>exact k _ _ _ e #[zZ,zZ,c]
  |ne e c=>
   refine h9 (no _ _ _ e c zZ) (λt l z=>?_) λ_ _ z=>z;cases t with
   |yield _=>exact z.elim
   |done _=>exact z
 .obtain⟨rfl,rfl,c⟩:=q;cases c;exact fin rfl
end
section
open AutoSeq1
open MeetsSeq MeetsSeq2 MeetsSeq3 SeqRoads2 SeqAt
variable{l b:Ad}{d a:Vs}
def LM:Meets (Builtin.«tuple.__lt__» #[[.ref l,.ref b],[]]) (λA R s=>SeqObj "tuple" s.heap l d/\SeqObj "tuple" s.heap b a/\∃o,Cmp .Lt A.in1 s (d.zip a) o/\R (.ok (.ret (.bool (o.getD (decide (d.length<a.length)))))) s):=by
 refine .of_wp λP w A R ⟨h,p,t,k,os⟩ ⟨⟨n,u,sl,f⟩,⟨m,v,tl,i⟩,o,c,q⟩=>?_;have sub:=AutoSeq1.sub_tuple_tuple
 wp_walk using Bu f,Bu i
 refine Pp c (λx y Q e z=>?_) (λx y r e j z=>?_) (λz=>?_)
 .refine bD (e P w _ _ ?_)
  wp_walk
  exact z
 .refine bD (e P w _ _ ?_);generalize g:richCompare .Lt x y=ask
  wp_walk
  subst g;refine j P w _ _ ?_
  wp_walk
  subst z;exact#[_,zZ,q]
 .subst z
  wp_walk
  exact#[_,zZ,by simpa[Builtin.Tuple.tupleCompareSizes]using q]
end
def gc:bB->List Nat->Option Bool
 |a::c,b::d=>if a=b then gc c d else some (decide (a<b))
 |_,_=>none
def dF(a b:bB):Bool:=(gc a b).getD (decide (a.length<b.length))
def pK(b:bB):dF b b=false:=by
 have no:gc b b=none:=by
  induction b with
  |nil=>rfl
  |cons a b c=>rw[gc,wB zZ,c]
 unfold dF;rw[no];simp
section
variable{A:Ar}{s:Sh}{l b:Ad}{a d:Vs}{o:Option Bool}
def Nr{i j:Int}{t u:Tok}:yJ .Lt A s (.int i t) (.int j u) (decide (i<j)):=λP w E Q q=>show wpAny _ _ (compareOp .Lt _ _) _ _ _ from PyProof.Rows.lt_int q
def fq{i j:Int}{t u:Tok}:SeqAt.EqAt A s (.int i t) (.int j u) (decide (i=j)):=by
 have z:=Ac (A:=A) (s:=s) (y:= .int i) (x:= .int j) (u:= .int i t) (v:= .int j u) #[t,zZ] #[u,zZ] zZ rfl;have e:jj (.int i) (.int j)=decide (i=j):=by
  show(i==j)=_;by_cases h:i=j<;>simp[h]
 rwa[e]at z
theorem G'{op:CmpOp}{F:Bool->Bool}(f:∀(i j:Nat) (t u:Tok),i≠j->yJ op A s (.int (i:Int) t) (.int (j:Int) u) (F (decide (i<j)))):
  ∀{c b:bB} {a d:Vs},Vals (c.map nv) a->Vals (b.map nv) d->Cmp op A s (a.zip d) ((gc c b).map F)
 | [],b,_,_,.nil,_=>by rw[List.zip_nil_left,show gc [] b=none by cases b<;>rfl];exact .nil
 |n::c,[],_,_,.cons _ _,.nil=>by rw[List.zip_nil_right];exact .nil
 | n::c,m::b,_,_,.cons ⟨t,g⟩ h,.cons ⟨u,k⟩ l=>by
  subst g k;have z:=fq (A:=A) (s:=s) (i:=(n:Int)) (j:=(m:Int)) (t:=t) (u:=u);by_cases e:n=m
  .rw[cG ()]at z;rw[gc,wB e];exact .eq z (G' f h l)
  .rw[eW ()]at z;rw[gc,wA e];exact .ne z (f n m t u e)
def QO{c f:bB}(g:Vals (c.map nv) a)(h:Vals (f.map nv) d):Cmp .Lt A s (a.zip d) (gc c f):=by
 have z:=G' (A:=A) (s:=s) (op:= .Lt) (F:=λb=>b) (λi j t u _=>by
  have e:decide ((i:Int)<(j:Int))=decide (i<j):=by simp
  exact e▸Nr) g h
 rwa[Option.map_id']at z
def SH(h:s.heap.IsTuple l a.toArray):SeqObj "tuple" s.heap l a:=by
 obtain⟨⟨c,b,g,sl⟩,e,d,n,f⟩:=h;cases d;cases f;exact#[n,b,sl,e]
def SeqObj.ty{c:String}(h:SeqObj c s.heap l a):s.TypeIs (.ref l) c:=let⟨_,_,_,e⟩:=h;#[_,e,zZ]
def M5(e:SeqObj "tuple" s.heap l a)(f:SeqObj "tuple" s.heap b d)(g:A.units<cLine)(c:Cmp .Lt A.in1 s (a.zip d) o):yJ .Lt A s (.ref l) (.ref b) (o.getD (decide (a.length<d.length))):=λP w E Q q=>
 richCompare_meets_room (op:= .Lt) e.ty f.ty F.slot_tuple_lt F.entry_tuple_lt (F.args_tuple_lt_2 _ _) LM #[e,f,o,c,(λz=>nomatch z),q] g
end
section
variable{X:Cx}
def sr(i:Int)(a:bB)(j:Int)(b:bB):Bool:=if i=j then dF a b else decide (i<j)
end
def bX(m:Nat):bB:=(List.range 5).filter λi=>m.testBit i
def gi(led:Bool)(a:bB):SetTable:={mask:=if a.length=5 then 31 else 7,place:=a.toArray,dummies:= #v[],finger:=0,led,moves:=if a.length=5 then 1 else 0,plain:=true}
def mZ(a:bB)(k:Nat):Nat:=(a.filter (· <k)).length
def mw(a:Bool)(m k:Nat):SetTable:={gi a (bX m)with place:=(bX (m |||2 ^ k)).toArray}
def xW:∀(a:Bool) (m:Fin 32),(gi a (bX m)).fits (bX m).length=true:=by decide+kernel
def Sw:∀(a:Bool) (m:Fin 32) (k:Fin 5),(m:Nat).testBit k=false->(gi a (bX m)).freeSlot ((k:Nat):Int)=some ((k:Nat),false):=by decide+kernel
def Ny:∀(a:Bool) (m:Fin 32) (k:Fin 5),(m:Nat).testBit k=false->(gi a (bX m)).put k=(mw a m k,mZ (bX m) k)/\(mw a m k).fits ((bX m).length+1)=true:=by decide+kernel
def Qu:∀(m:Fin 32) (k:Fin 5),(m:Nat).testBit k=false->bX (m |||2 ^ (k:Nat))=(bX m).take (mZ (bX m) k)++(k:Nat)::(bX m).drop (mZ (bX m) k):=by decide+kernel
def NJ:∀(m:Fin 32) (k:Fin 5),(k:Nat)∈bX m->(m |||2 ^ (k:Nat):Nat)=m:=by decide+kernel
def Pb:∀(m:Fin 32) (k:Fin 5),(k:Nat)∉bX m->(m:Nat).testBit k=false:=by decide+kernel
def He:∀(m:Fin 32) (k:Fin 5),(m |||2 ^ (k:Nat):Nat)<32:=by decide+kernel
def yH:∀m:Fin 32,(bX m).length<=5:=by decide+kernel
def Sv:∀(a:Bool) (m:Fin 32) (k:Fin 5),(m:Nat).testBit k=false->(bX m).length≠4->mw a m k=gi a (bX (m |||2 ^ (k:Nat)))/\(mw a m k).tooFull=false:=by decide+kernel
def NY:∀(a:Bool) (m:Fin 32) (k:Fin 5),(m:Nat).testBit k=false->(bX m).length=4->(mw a m k).tooFull=true/\
  (mw a m k).relaid #v[0,1,2,3,4] (SetTable.grown 5)=some (gi a (bX (m |||2 ^ (k:Nat))),#v[0,1,2,3,4])/\bX (m |||2 ^ (k:Nat))=[0,1,2,3,4]/\(gi a (bX (m |||2 ^ (k:Nat)))).fits 5=true:=by decide+kernel
def Dg:∀k:Fin 5,hashInt ((k:Nat):Int)=((k:Nat):Int):=by decide+kernel
def Ents:bB->List (Int×Vl)->Prop:=Paired λn e=>e.1=(n:Int)/\∃t,e.2=.int (n:Int) t
def nA(a:List (Int×Vl))(b:Nat)(t:SetTable):Obj:={cls:= .type "set",data:= .set a.toArray b t}
def IsSet5(h:Heap)(a:Ad)(b:Bool)(m:Nat):Prop:=m<32/\∃c d,h.get? a=some (nA c d (gi b (bX m)))/\Ents (bX m) c
theorem Ents.take:∀{a:bB} {b:List (Int×Vl)} (p:Nat),Ents a b->Ents (a.take p) (b.take p)
 |_,_,0,_=> .nil
 |_,_,_+1,.nil=> .nil
 |_,_,p+1,.cons r t=> .cons r (Ents.take p t)
theorem Ents.drop:∀{a:bB} {b:List (Int×Vl)} (p:Nat),Ents a b->Ents (a.drop p) (b.drop p)
 |_,_,0,r=>r
 |_,_,_+1,.nil=> .nil
 |_,_,p+1,.cons _ t=>Ents.drop p t
theorem Ents.app:∀{a b:bB} {c fs:List (Int×Vl)},Ents a c->Ents b fs->Ents (a++b) (c++fs)
 |_,_,_,_,.nil,r=>r
 |_,_,_,_,.cons q t,r=> .cons q (Ents.app t r)
def Ents.len{a:bB}{b:List (Int×Vl)}(h:Ents a b):b.length=a.length:=(oM h).symm
theorem Ents.keys:∀{a:bB} {b:List (Int×Vl)},Ents a b->b.map (·.1)=a.map λ(n:Nat)=>(n:Int)
 |_,_,.nil=>rfl
 |_,_,.cons q t=>by rw[gv,gv,q.1,Ents.keys t]
theorem Ents.mem:∀{a:bB} {b:List (Int×Vl)} {e:Int×Vl},Ents a b->e∈b->∃n∈a,e.1=(n:Int)/\∃t,e.2=.int (n:Int) t
 | _,_,_,.cons q t,h=>by
  rcases cX.mp h with z|z
  .subst z;exact#[_,cR,q]
  .obtain⟨n,c,d⟩:=Ents.mem t z;exact#[n,dS _ c,d]
theorem Ents.has:∀{a:bB} {b:List (Int×Vl)} {n:Nat},Ents a b->n∈a->∃e∈b,∃t,e.2=.int (n:Int) t
 | _,_,_,.cons q t,h=>by
  rcases cX.mp h with z|z
  .subst z;exact#[_,cR,q.2]
  .obtain⟨e,c,d⟩:=Ents.has t z;exact#[e,dS _ c,d]
def Ents.elems{P:Pg}{w:World}{m:Fin 32}{b:List (Int×Vl)}(h:Ents (bX m) b):ElemsOf (intKind P w) b:=λe d=>by
 obtain⟨n,f,g,t,c⟩:=h.mem d;have a:n<5:=fb.mp (cQ.mp f).1;exact#[#[(n:Int),by rw[c];exact yu _ _ _ _,by rw[g];exact(Dg #[n,a]).symm],by rw[c];rfl]
def RH{b:Type}(a:List b)(p:Nat)(x:b):(SetTable.insertAt a.toArray p x)=(a.take p++x::a.drop p).toArray:=by
 unfold SetTable.insertAt;apply Array.ext';simp;exact vg (by simp)
section
variable{P:Pg}{w:World}{A:Ar}{E:VP}{s:Sh}{a:Ad}{b:Bool}{m k:Nat}{t:Tok}
def IZ{h:Heap}{c fs:List (Int×Vl)}{b:Nat}{t u:SetTable}(e:h.get? a=some (nA c b t)):(h.update a (Obj.putSet fs.toArray u)).get? a=some (nA fs (b+1) u):=vo _ e rfl
def zd{b:Type}{fs:List b}{n:Nat}(h:fs.length=n+1):∃a r,fs=a::r/\r.length=n:=by
 cases fs with
 |nil=>cases h
 |cons a r=>exact#[a,r,zZ,Nat.succ.inj h]
def yl{a:Type}{fs:List a}(h:fs.length=5):(#v[0,1,2,3,4]:Array Nat).filterMap (fs.toArray[·]?)=fs.toArray:=by
 obtain⟨_,_,rfl,b⟩:=zd h;obtain⟨_,_,rfl,c⟩:=zd b;obtain⟨_,_,rfl,d⟩:=zd c;obtain⟨_,_,rfl,e⟩:=zd d;obtain⟨_,_,rfl,f⟩:=zd e;cases pU.mp f;rfl
def Sd{Q:Sh->Prop}(l:k<5)(hS:IsSet5 s.heap a b m)(q:∀G,IsSet5 G a b (m |||2 ^ k)->Heap.SameBut a s.heap G->Q {s with heap:=G}):
  wpAny (model P w) A (setAddHashed a (.int (k:Int) t) (k:Int)) (λ_ s'=>Q s') E s:=by
 obtain⟨f,c,H,e,r⟩:=hS;have I:=r.len;have J:=xW b #[m,f];have el:ElemsOf (intKind P w) c.toArray.toList:=Ents.elems (m:=#[m,f]) r;have m5:(bX m).length<=5:=yH #[m,f];have p:(gi b (bX m)).fits c.toArray.size=true:=by rw[eE,I];exact J
 have sc:byScan (.int (k:Int) t) c.toArray=true:=by
  unfold byScan;have e3:c.toArray.all (·.2.scannable)=true:=by
   rw[Array.all_eq_true_iff_forall_mem];exact λx L=>(el x (by simpa using L)).2
  rw[e3];have e4:decide (c.toArray.size<scanBound)=true:=cG (by rw[eE,I];unfold scanBound;lia);rw[e4];rfl
 have hh:(intKind P w).hash (k:Int)=(k:Int):=Dg #[k,l];unfold setAddHashed setAddHashedIn;refine iQ (bD (rj e zZ p ?_));dsimp only;rw[sc,wB zZ];unfold setAddByScan;refine bD (bD (ph (bD ?_)));have scan:∀{R:ScanMet->Sh->Prop},R (match c.toArray.toList.findIdx? (λe=>(intKind P w).is (k:Int) e.2)with|some j=> .found (0+j)|none=> .absent) s->wpAny (model P w) A (setScan a (.int (k:Int) t) (k:Int) true c.toArray) R E s:=λz=>by
  have y:=wpAny_setScan_of (prog:=P) (w:=w) (A:=A) (E:=E) (knd:=intKind P w) (k:=(k:Int)) (x:= .int (k:Int) t) (adding:=true) (yu _ _ _ _) e zZ p el z;rw[hh]at y;exact y
 refine scan ?_;rw[vw];by_cases o:k∈bX m
 .obtain⟨x,L,tx,ex⟩:=r.has o;cases M:c.findIdx? λe=>(intKind P w).is (k:Int) e.2 with
  |none=>
   have z:=List.findIdx?_eq_none_iff.mp M x L;rw[ex,yu]at z;cases z
  |some j=>
   refine bM (bM ?_);have z:=q s.heap (by rw[NJ #[m,f] #[k,l] o];exact#[f,c,H,e,r]) (Heap.SameBut.refl a s.heap);cases s;exact z
 .have B:=Pb #[m,f] #[k,l] o;cases M:c.findIdx? λe=>(intKind P w).is (k:Int) e.2 with
  |some j=>
   obtain⟨hj,C,_⟩:=List.findIdx?_eq_some_iff_getElem.mp M;obtain⟨n,hn,_,tn,N⟩:=r.mem (gh hj);rw[N]at C;have z:(k:Int)=(n:Int):=(intKind P w).inj _ _ _ C (yu _ _ _ tn);have z':k=n:=by lia
   exact wC (z'▸hn) o
  | none=>
   obtain⟨pu,pf⟩:=Ny b #[m,f] #[k,l] B;have sa:=Qu #[m,f] #[k,l] B;have d:=He #[m,f] #[k,l];dsimp only at pu pf sa d;have g:Ents (bX (m |||2 ^ k)) (c.take (mZ (bX m) k)++((k:Int),Value.int (k:Int) t)::c.drop (mZ (bX m) k)):=by
    rw[sa];exact(r.take _).app (.cons #[zZ,t,zZ] (r.drop _))
   have pN:layNew (gi b (bX m)) c.toArray (k:Int) (.int (k:Int) t)=((c.take (mZ (bX m) k)++((k:Int),Value.int (k:Int) t)::c.drop (mZ (bX m) k)).toArray,mw b m k,false,false):=by
    unfold layNew;rw[Sw b #[m,f] #[k,l] B];dsimp only;rw[pu];dsimp only;rw[RH];have sz:(c.take (mZ (bX m) k)++((k:Int),Value.int (k:Int) t)::c.drop (mZ (bX m) k)).toArray.size=(bX m).length+1:=by
     rw[eE,cI,iL,fh,qg,I];lia
    rw[sz];unfold SetTable.orStandIn;rw[pf];rfl
   generalize c.take (mZ (bX m) k)++((k:Int),Value.int (k:Int) t)::c.drop (mZ (bX m) k)=fs at g pN;have lf:=g.len;have f5:fs.length<=5:=by rw[lf];exact yH #[_,d]
   dsimp only;rw[pN];dsimp only;refine bD (show wpAny _ _ (pure Unit.unit) _ _ _ from bM ?_);refine bD (show wpAny _ _ (pure true) _ _ _ from bM ?_);refine bD (wpAny_storeSet_of e zZ ?_ (by rw[eE,cH];lia));have O:=IZ (h:=s.heap) (fs:=fs) (u:=mw b m k) e;have i:Heap.SameBut a s.heap (s.heap.update a (Obj.putSet fs.toArray (mw b m k))):=Heap.SameBut.update ..;by_cases h4:(bX m).length=4
   .obtain⟨D,rl,T,ff⟩:=NY b #[m,f] #[k,l] B h4;dsimp only at D rl T ff;have U:fs.length=5:=by rw[lf,T];rfl
    have ks:fs.toArray.map (·.1)= #v[0,1,2,3,4]:=by
     rw[List.map_toArray,g.keys,T];rfl
    have pick:(#v[0,1,2,3,4]:Array Nat).filterMap (fs.toArray[·]?)=fs.toArray:=yl U;have Y:relayAll (mw b m k) fs.toArray (SetTable.grown fs.toArray.size)=(fs.toArray,gi b (bX (m |||2 ^ k)),false):=by
     unfold relayAll;rw[ks,eE,U,rl];dsimp only;rw[pick,eE,U,ff,Bool.and_true,wB (by decide+kernel)]
    show wpAny _ _ (if(!false&&(mw b m k).tooFull)=true then _ else _) _ _ _;rw[D,wB (by decide)];simp only[if_true];rw[Y];dsimp only;refine bD (show wpAny _ _ (pure Unit.unit) _ _ _ from bM ?_);refine bD (wpAny_storeSet_of O zZ ?_ (by rw[eE,cH];lia));have N:=IZ (fs:=fs) (u:=gi b (bX (m |||2 ^ k))) O;have v:=Heap.SameBut.trans i (Heap.SameBut.update (s.heap.update a (Obj.putSet fs.toArray (mw b m k))) a (Obj.putSet fs.toArray (gi b (bX (m |||2 ^ k)))));exact bM (bM (q _ #[d,fs,H+1+1,N,g] v))
   .obtain⟨te,D⟩:=Sv b #[m,f] #[k,l] B h4;dsimp only at te D;show wpAny _ _ (if(!false&&(mw b m k).tooFull)=true then _ else _) _ _ _
    rw[D,wA (by decide)];refine bM (bM (q _ #[d,fs,H+1,?_,g] i));rw[<-te];exact O
end
def mT(m:Nat)(a:bB):Nat:=a.foldl (λm n=>m |||2 ^ n) m
section
variable{P:Pg}{w:World}{A:Ar}{E:VP}{S d l:Ad}{led:Bool}{a:bB}{vs:Vs}
theorem JV{R:Result->Sh->Prop}(M:A.handled=none)(j:S≠d)(N:S≠l)(O:d≠l)(v:Vals (a.map nv) vs)(Q:∀n∈a,n<5):
  ∀(rest:bB) (i m:Nat) (s:Sh),a.drop i=rest->s.heap.IsListIter d l i->s.heap.IsList l vs.toArray->IsSet5 s.heap S led m->
   (∀c y,IsSet5 c S led (mT m rest)->(∀b o,b≠S->b≠d->s.heap.get? b=some o->c.get? b=some o)->R (.ok (.ret .none)) {s with heap:=c,toks:=y})->
   codeAny (model P w) A (.builtin "set.update.loop" #[[.ref S,.ref d],[]]) R s
 | [],i,m,s,p,z,r,B,q=>by
  have T:vs.length<=i:=by
   have U:vs.length=a.length:=by simpa using v.length.symm
   have C:=List.drop_eq_nil_iff.mp p;lia
  refine oq C4 ?_;rw[pQ v6 _];show wpAny _ A.in1 (pyNext (.ref d) >>= _) _ _ s;refine bD (wpAny_pyNext_list_end (by simpa using M) z r (by simp;lia) λc keep=>?_);refine bM (q c s.toks ?_ λb o _ C e=>keep b o C e);obtain⟨D,E,G,e,H⟩:=B;exact#[D,E,G,keep _ _ j e,H]
 | n::rest,i,m,s,p,z,r,B,q=>by
  have h:a[i]?=some n:=by rw[<-List.head?_drop,p];rfl
  have next:a.drop (i+1)=rest:=by rw[<-List.tail_drop,p];rfl
  have Y:=Q n (cb h);obtain⟨u,hu,t,rfl⟩:=v.get (i:=i) (x:=nv n) (by rw[bZ,h];rfl);refine oq C4 ?_;rw[pQ v6 _];show wpAny _ A.in1 (pyNext (.ref d) >>= _) _ _ s;refine bD (wpAny_pyNext_list_item z r (x:= .int (n:Int) t) (by simpa using hu) λU nS f=>?_);show wpAny _ A.in1 (holding [Value.int (n:Int) t] (setAdd S (.int (n:Int) t)) >>= _) _ _ _;refine bD (iQ ?_);unfold setAdd;refine iQ (bD ((intKind P w).pyHash (k:=(n:Int)) (yu _ _ _ _) ?_));rw[show(intKind P w).hash (n:Int)=(n:Int)from Dg #[n,Y]];have I:IsSet5 U S led m:=by
   obtain⟨D,E,G,e,H⟩:=B;exact#[D,E,G,f.extBut _ _ j e,H]
  refine Sd Y I λC J g=>?_;refine bM #[sv v6 _,JV M j N O v Q rest (i+1) (m |||2 ^ n) _ next (nS.extBut g.extBut j.symm) ((r.extBut f.extBut O.symm).extBut g.extBut N.symm) J λc y L keep=>?_];exact q c y L λb o b1 b2 e=>keep b o b1 b2 (g.extBut _ _ b1 (f.extBut _ _ b2 e))
def Nh{s:Sh}{x:Vl}{Q:VP}(q:Q (.ref s.heap.objs.size) {s with heap:=s.heap.push (nA [] 0 (gi (!w.params.followText "set-order") []))}):
  codeAny (model P w) A (.call (.builtin "set.__new__") #[[.type "set",x],[]]) (wants Q E) s:=by
 refine F3 ?_;show wpAny _ A.in1 (checkBuiltinCall "set.__new__" #[[.type "set",x],[]] >>= λ_=>again (.builtin "set.__new__" #[[.type "set",x],[]])) _ _ s;refine bD (BL (F.newCall_set_1 x) (bM #[sv F.plain_set_new _,oq F.entry_set_new ?_]));rw[pQ F.plain_set_new _];have sub:=sub_set_self;unfold Builtin.«set.__new__» Builtin.Frozenset.newClass
 wp_walk
 refine xY (bM ?_);dsimp only;simp only[newObj];refine bD (wpAny_alloc (bM (bM ?_)));exact q
abbrev yO(led:Bool):Obj:={cls:= .type "set",dict:=none,data:= .set #v[] 0 (.fresh 0 0 led)}
set_option maxHeartbeats 4000000 in
def Rn{h:Heap}{i:Array GenState}{j:Drawn}{k:Nat}{os:OsState}{R:PySem.Fin->Sh->Prop}(v:A.handled=none)(m:h.IsList l vs.toArray)(x:Vals (a.map nv) vs)(y:∀n∈a,n<5)(q:∀c f,IsSet5 c h.objs.size led (mT 0 a)->(∀b o,h.get? b=some o->c.get? b=some o)->R (.done (.ret .none)) #[c,i,j,f,os]):
  wpAny (model P w) A (Builtin.«set.__init__» #[[.ref h.objs.size,.ref l],[]]) R E #[h.push (yO led),i,j,k,os]:=by
 obtain⟨⟨H,dl,z,sl⟩,p,r,B,s⟩:=id m;simp only at r s;subst r s;have I:(h.push (yO led)).get? l=some #[.type "list",dl,.seq vs.toArray B,sl]:=cM _ p;have C:(h.push (yO led)).get? h.objs.size=some {cls:= .type "set",dict:=none,data:= .set #v[] 0 (.fresh 0 0 led)}:=dG _ rfl;have J:=F.sub_list_set;have L:=F.sub_list_frozenset;have M:(Value.type "list"==Value.type "dict")=false:=by decide
 unfold Builtin.«set.__init__» noKeywords Builtin.Frozenset.updateFrom;generalize g:pyIter=t
 wp_walk
 subst g;have d:(h.push (yO led)).IsList l vs.toArray:=m.push _;refine Ba d (bD (wpAny_runValue ?_));have lt:l<h.objs.size:=cy p;have sz:(h.push (yO led)).objs.size=h.objs.size+1:=wg ..;refine JV (vs:=vs) (led:=led) (by simpa using v) (by rw[sz];exact Nat.ne_of_lt (Nat.lt_succ_self _)) (Nat.ne_of_gt lt) (by rw[sz];exact Nat.ne_of_gt (Nat.lt_succ_of_lt lt)) x y a 0 0 _ zZ #[_,Heap.get?_push_size _ zZ,zZ,zZ] (d.push _) #[by decide,[],0,Heap.get?_push_of_some _ C,.nil] λc f D G=>?_;refine bM (bM (q c f D λb o e=>?_));have u:=cy e;exact G b o (dj u) (by rw[sz];exact dj (A1 u)) (cM _ (cM _ e))
def Oy{s:Sh}{Q:VP}(B:A.handled=none)(u:s.heap.IsList l vs.toArray)(C:Vals (a.map nv) vs)(D:∀n∈a,n<5)(q:∀d g,IsSet5 d s.heap.objs.size (!w.params.followText "set-order") (mT 0 a)->(∀b o,s.heap.get? b=some o->d.get? b=some o)->Q (.ref s.heap.objs.size) {s with heap:=d,toks:=g}):
  wpAny (model P w) A (call (.type "set") [.ref l]) Q E s:=by
 have lt:l<s.heap.objs.size:=let⟨_,e,_⟩:=u;cy e
 obtain⟨c,tl,G⟩:=jr.mro;have made:=jr.made;have sub:=jr.sub;have h:=jr.notType;have H:=jr.canCreate;have args:=F.typeCall_set_1 (.ref l);have look:=jr.init.lookup;have I:=jr.init.bind (.ref s.heap.objs.size);generalize i:nA [] 0 (gi (!w.params.followText "set-order") [])=j;have J:(s.heap.push j).get? s.heap.objs.size=some j:=dG _ (by rw[<-i];rfl);have ty:Shared.TypeIs {s with heap:=s.heap.push j} (.ref s.heap.objs.size) "set":=#[_,J,by rw[<-i];rfl];refine vv (F3 (show wpAny _ _ (callAny (.type "set") _) _ _ _ from bM #[Code.quiet_builtin _ (by decide+kernel),oq F.entry_type_call ?_]));rw[Around.under_plain (weight_type_call_type "set" [.ref l] []) zZ]
 repeat (any_goals (first|assumption|wp_step))
 refine mX (Nh (w:=w) (E:=E) (Q:=λv x=>v=.ref s.heap.objs.size/\x={s with heap:=s.heap.push j}) (by rw[i];exact#[zZ,zZ])) λr x z=>?_;cases r with
 |error _=>exact z
 | ok f=>
  cases f<;>first|exact z.elim|skip
  obtain⟨k,m⟩:=z;subst k m
  repeat (any_goals (first|assumption|wp_step))
  refine mX (codeAny_call_builtin (R:=wants (λv y=>v=.none/\∃d g,y={s with heap:=d,toks:=g}/\IsSet5 d s.heap.objs.size (!w.params.followText "set-order") (mT 0 a)/\∀b o,s.heap.get? b=some o->d.get? b=some o) E)
   jr.init.plain F.entry_set_init (check_set_init_1 ty ?_)) λr y z=>?_
  .subst i;exact Rn (A:=A.in1.in1) (by simpa using B) u C D λd g p t=>#[zZ,d,g,zZ,p,t]
  .cases r with
   |error _=>exact z
   |ok f=>
    cases f<;>first|exact z.elim|skip
    obtain⟨k,d,g,m,p,t⟩:=z;subst k m
    repeat (any_goals (first|assumption|wp_step))
    exact q d g p t
end
def eO:Slot "set_iterator" "__next__" "set_iterator.__next__":=Slot.of (owner:="set_iterator") (n:="__next__") (by rw[zU,yC];kernel_rfl) (by decide+kernel) (by decide+kernel) (by decide+kernel) (by first|exact .inl (by decide+kernel)|exact .inr (by decide+kernel)) (by rw[isSubtype_type];kernel_rfl)
def Jl:Slot "set_iterator" "__iter__" "set_iterator.__iter__":=Slot.of (owner:="set_iterator") (n:="__iter__") (by rw[zU,yC];kernel_rfl) (by decide+kernel) (by decide+kernel) (by decide+kernel) (by first|exact .inl (by decide+kernel)|exact .inr (by decide+kernel)) (by rw[isSubtype_type];kernel_rfl)
def Kb:entryFor table "set_iterator.__next__"=some Builtin.«set_iterator.__next__»:=entryFor_of_tree (by kernel_rfl)
def Rc:entryFor table "set_iterator.__iter__"=some Builtin.«dict_keyiterator.__iter__»:=entryFor_alias (id':="dict_keyiterator.__iter__") (by kernel_rfl) (by first|rfl|decide+kernel|(unfold String.splitOn;simp+decide [String.splitOnAux])) (by decide+kernel) (by kernel_rfl)
def Rg:entryFor table "set.__iter__"=some Builtin.«frozenset.__iter__»:=entryFor_alias (id':="frozenset.__iter__") (by kernel_rfl) (by first|rfl|decide+kernel|(unfold String.splitOn;simp+decide [String.splitOnAux])) (by decide+kernel) (by kernel_rfl)
def La(a:Vl):argsOk "set_iterator.__next__" #[[a],[]]:=by unfold argsOk;kernel_rfl
def O0(a:Vl):argsOk "set_iterator.__iter__" #[[a],[]]:=by unfold argsOk;kernel_rfl
theorem Im{c:Type}(f:Nat->Nat):∀(fuel k:Nat) (left:List c) (b:Array c),left.length=fuel->(pickOrder.go f fuel k left b).toList.Perm (b.toList++left)
 |0,k,left,b,h=>by
  rw[List.eq_nil_of_length_eq_zero h];simp[pickOrder.go]
 | fuel+1,k,left,b,h=>by
  have lt:f k%left.length<left.length:=Nat.mod_lt _ ();unfold pickOrder.go;rw[bE lt];dsimp only;refine(Im f fuel (k+1) (left.eraseIdx (f k%left.length)) (b.push left[f k%left.length]) (by rw[List.length_eraseIdx_of_lt lt];lia)).trans ?_;rw[xj,dR];refine zQ _ ?_;rw[List.eraseIdx_eq_take_drop_succ];have e:left=left.take (f k%left.length)++left[f k%left.length]::left.drop (f k%left.length+1):=by
   rw[<-AT lt,mY]
  have z:=(List.perm_middle (a:=left[f k%left.length]) (l₁:=left.take (f k%left.length)) (l₂:=left.drop (f k%left.length+1))).symm;rw[<-e]at z;exact z
def mL(w:World)(a:Ad)(c:Nat)(b:List (Int×Vl)):List (Int×Vl):=if w.params.followText "set-order" then(pickOrder (w.params.setOrder a c) b.toArray).toList else b
def E2(w:World)(a:Ad)(c:Nat)(b:List (Int×Vl)):(mL w a c b).Perm b:=by
 unfold mL;cases w.params.followText "set-order" with
 |true=>
  have z:=Im (w.params.setOrder a c) b.toArray.size 0 b.toArray.toList #v[] (by simp);simpa[pickOrder]using z
 |false=>exact List.Perm.refl _
def mI(a:Bool)(b:bB):Nat->Nat
 |0=>0
 |i+1=>if a then 0 else b.getD i 0+1
def Ma:∀(m:Fin 32) (i:Fin 6),(i:Nat)<=(bX m).length->SetTable.below (bX m).toArray (mI false (bX m) i)=i:=by decide+kernel
def uu(b i n c:Nat)(a:Ad):Obj:={cls:= .type "set_iterator",data:= .fields #v[rawInt b,rawInt i,.ref a,rawInt n,rawInt c]}
section
variable{P:Pg}{w:World}{A:Ar}{E:VP}{s:Sh}{a d:Ad}{m c i:Nat}{b:List (Int×Vl)}
def Hi{Q:Option (Vl×Nat)->Sh->Prop}(g:m<32)(h:s.heap.get? a=some (nA b c (gi (!w.params.followText "set-order") (bX m))))(k:Ents (bX m) b)(l:i<=(bX m).length)(q:Q (((mL w a c b)[i]?).map λe=>(e.2,mI (w.params.followText "set-order") (bX m) (i+1))) s):wpAny (model P w) A (setNext a (mI (w.params.followText "set-order") (bX m) i) i c) Q E s:=by
 have n:=k.len;have d:(gi (!w.params.followText "set-order") (bX m)).fits b.toArray.size=true:=by rw[eE,n];exact xW _ #[m,g]
 have r:(bX m).length<=5:=yH #[m,g];unfold setNext setsByText;refine bD (rj h zZ d ?_);refine bD (bD (xY (bM ?_)));show wpAny _ _ (if w.params.followText "set-order"=true then _ else _) _ _ _;unfold mL at q;generalize o:w.params.followText "set-order"=p at q h d|-;cases p with
 |true=>
  rw[wB zZ];rw[wB zZ]at q;rw[wA (by simp)];unfold setWalk setsByText;refine bD (bD (rj h zZ d (bD (bD (xY (bM ?_))))));show wpAny _ _ (if w.params.followText "set-order"=true then _ else _) _ _ _;rw[o,wB zZ];refine bD (xY (bM (bM ?_)));rw[j4]at q;cases i<;>exact q
 | false=>
  rw[wA (by decide)];rw[wA (by decide)]at q;rw[wA (by show ¬((!true&&_)=true);simp)];refine bD ?_;show wpAny _ _ (if(!true&& !b.toArray.isEmpty)=true then _ else _) _ _ _;rw[wA (by simp)];refine bM (bM ?_);show Q (match b.toArray[SetTable.below (bX m).toArray (mI false (bX m) i)]?,(bX m).toArray[SetTable.below (bX m).toArray (mI false (bX m) i)]? with|some (_,x),some j=>some (x,j+1)|_,_=>none) s;rw[Ma #[m,g] #[i,()] l]
  rcases vd i (bX m).length with z|z
  .have f:i<b.length:=by lia
   rw[bE f]at q;simp only[List.getElem?_toArray,List.getElem?_eq_getElem f,List.getElem?_eq_getElem z];have e:mI false (bX m) (i+1)=(bX m)[i]+1:=by
    show(if false=true then 0 else(bX m).getD i 0+1)=_;rw[wA (by decide),cZ,bE z];rfl
   rw[e]at q;exact q
  .have f:b.length<=i:=by lia
   rw[iM f]at q;simp only[List.getElem?_toArray,List.getElem?_eq_none f];exact q
end
section
variable{P:Pg}{w:World}{A:Ar}{E:VP}{a d:Ad}{m f:Nat}{c:List (Int×Vl)}
def Ni{s:Sh}{i:Nat}{e:Int×Vl}{Q:Option Vl->Sh->Prop}(r:a≠d)(l:m<32)(n:Ents (bX m) c)(b:s.heap.get? d=some (uu (mI (w.params.followText "set-order") (bX m) i) i (bX m).length f a))(o:s.heap.get? a=some (nA c f (gi (!w.params.followText "set-order") (bX m))))(t:i<(bX m).length) (u:(mL w a f c)[i]?=some e)(q:∀g,g.get? d=some (uu (mI (w.params.followText "set-order") (bX m) (i+1)) (i+1) (bX m).length f a)->Heap.SameBut d s.heap g->Q (some e.2) {s with heap:=g}):wpAny (model P w) A (pyNext (.ref d)) Q E s:=by
 have ty:s.TypeIs (.ref d) "set_iterator":=#[_,b,zZ];have p:=n.len;have h:(gi (!w.params.followText "set-order") (bX m)).fits c.toArray.size=true:=by rw[eE,p];exact xW _ #[m,l]
 unfold pyNext;refine bD (qa (t7 (name:=Str.ofString "__next__") ty eO (lX eO ty Kb ?_ (La _))));unfold uu at b;unfold Builtin.«set_iterator.__next__»;refine bD (m:=slotArgs _ _ _) (bM ?_);refine bD (vm b zZ ?_);show wpAny _ _ (setEntries a >>= _) _ _ _;unfold setEntries;refine bD (bD (rj o zZ h (bM ?_)));have v:((((c.toArray.size:Nat):Int) != (((bX m).length:Nat):Int)))=false:=by rw[eE,p];simp
 show wpAny _ _ (if((((c.toArray.size:Nat):Int) != (((bX m).length:Nat):Int)))=true then _ else _) _ _ _;rw[v,wA (by decide)];show wpAny _ _ (setNext a ((mI (w.params.followText "set-order") (bX m) i:Nat):Int).toNat ((i:Nat):Int).toNat ((f:Nat):Int).toNat >>= _) _ _ _;simp only[Int.toNat_natCast];refine bD (Hi l o n (eM t) ?_);rw[u];show wpAny _ _ (setField (.ref d) 0 (rawInt _) >>= _) _ _ _;refine bD (oh b (by simp) λB x j=>?_);refine bD (oh x (by simp) λy z k=>?_);exact bM #[_,zZ,bM (q y z (j.trans k))]
def PR{s:Sh}{Q:Option Vl->Sh->Prop}(r:A.handled=none)(t:a≠d)(j:m<32)(k:Ents (bX m) c)(g:s.heap.get? d=some (uu (mI (w.params.followText "set-order") (bX m) (bX m).length) (bX m).length (bX m).length f a))(l:s.heap.get? a=some (nA c f (gi (!w.params.followText "set-order") (bX m))))(q:∀n,Heap.ExtBut d s.heap n->Q none {s with heap:=n}):wpAny (model P w) A (pyNext (.ref d)) Q E s:=by
 have ty:s.TypeIs (.ref d) "set_iterator":=#[_,g,zZ];have p:=k.len;have h:(gi (!w.params.followText "set-order") (bX m)).fits c.toArray.size=true:=by rw[eE,p];exact xW _ #[m,j]
 have u:(mL w a f c)[(bX m).length]?=none:=iM (by rw[(E2 w a f c).length_eq];lia);unfold pyNext;refine bD (qa (t7 (name:=Str.ofString "__next__") ty eO (lX eO ty Kb ?_ (La _))));unfold uu at g;unfold Builtin.«set_iterator.__next__»;refine bD (m:=slotArgs _ _ _) (bM ?_);refine bD (vm g zZ ?_);show wpAny _ _ (setEntries a >>= _) _ _ _;unfold setEntries;refine bD (bD (rj l zZ h (bM ?_)));have v:((((c.toArray.size:Nat):Int) != (((bX m).length:Nat):Int)))=false:=by rw[eE,p];simp
 show wpAny _ _ (if((((c.toArray.size:Nat):Int) != (((bX m).length:Nat):Int)))=true then _ else _) _ _ _;rw[v,wA (by decide)];show wpAny _ _ (setNext a ((mI (w.params.followText "set-order") (bX m) (bX m).length:Nat):Int).toNat (((bX m).length:Nat):Int).toNat ((f:Nat):Int).toNat >>= _) _ _ _;simp only[Int.toNat_natCast];refine bD (Hi j l k (bR _) ?_);rw[u];show wpAny _ _ (setField (.ref d) 2 .none >>= _) _ _ _;refine bD (oh g (by simp) λy z i=>?_);refine bD (m:=newExc _ _) ?_;simp only[newExc,newTuple];refine bD (oR ?_ (by size_fits));refine bD (m:=firstArgMember _ _) (BL (a:=Value.none) (by first|rfl|(unfold firstArgMember;rfl)) (wpAny_newObj_type ?_ (by size_fits)));refine Ei (by simpa using r) (wpAny_bind (wpAny_isInstance (T:="StopIteration") (b:=true) #[_,Heap.get?_push_size _ zZ,zZ] isSubtype_stop (wpAny_pure ?_)));exact q _ λb o x e=>cM _ (cM _ (i.extBut b o x e))
def OJ(u:A.handled=none)(g:a≠d)(p:m<32)(l:Ents (bX m) c):Walks P w A d [d,a] [d] (bX m).length (λi v=>∃e,(mL w a f c)[i]?=some e/\v=e.2) (λi h=>h.get? d=some (uu (mI (w.params.followText "set-order") (bX m) i) i (bX m).length f a)/\h.get? a=some (nA c f (gi (!w.params.followText "set-order") (bX m)))) where
 sub:=λb y=>cX.mpr (.inl (ci.mp y))
 frame:=λi h j st k=>#[k d (cR ..) _ st.1,k a (dS _ (ci.mpr zZ)) _ st.2]
 item:=λi s Q E B st q=>by
  have D:(mL w a f c).length=(bX m).length:=by rw[(E2 w a f c).length_eq,l.len]
  obtain⟨e,r⟩:∃e,(mL w a f c)[i]?=some e:=#[_,bE ()];refine Ni g p l st.1 st.2 B r λj C t=>q e.2 j s.toks #[e,r,zZ] #[C,t.extBut _ _ g st.2] λb o n e=>t.extBut _ _ (λz=>n (ci.mpr z)) e
 done:=λs Q E st q=>PR u g p l st.1 st.2 λj x=>q j s.toks λb o n e=>x b o (λz=>n (ci.mpr z)) e
 self:=λi s Q E st q=>by
  have ty:s.TypeIs (.ref d) "set_iterator":=#[_,st.1,zZ];refine vz ty Jl (lX Jl ty Rc ?_ (O0 _));exact show wpAny _ _ (ret (.ref d)) _ _ s from bM #[_,zZ,"set_iterator",_,ty,eO.lookup,q]
def zR{s:Sh}{Q:VP}(g:m<32)(h:Ents (bX m) c)(d:s.heap.get? a=some (nA c f (gi (!w.params.followText "set-order") (bX m))))(q:Q (.ref s.heap.objs.size) {s with heap:=s.heap.push (uu 0 0 (bX m).length f a)}):wpAny (model P w) A (pyIter (.ref a)) Q E s:=by
 have ty:s.TypeIs (.ref a) "set":=#[_,d,zZ];have e:=h.len;have b:(gi (!w.params.followText "set-order") (bX m)).fits c.toArray.size=true:=by rw[eE,e];exact xW _ #[m,g]
 refine vz ty F.slot_set_iter (lX F.slot_set_iter ty Rg ?_ (F.args_set_iter_1 _));unfold Builtin.«frozenset.__iter__»;refine bD (m:=Builtin.Frozenset.slot0 _ _) (bM ?_);unfold Builtin.Frozenset.sizeOf setEntries;refine bD (bD (bD (rj d zZ b (bM (bM ?_)))));unfold setDrawn setsByText;refine bD (bD (rj d zZ b (bD (bD (xY (bM (bM ?_)))))));have nd:(!w.params.followText "set-order"&&(!true&&decide (c.toArray.size>1)))=false:=by simp
 show wpAny _ _ (if(!w.params.followText "set-order"&&(!true&&decide (c.toArray.size>1)))=true then _ else _) _ _ _;rw[nd,wA (by decide)];refine bD (bM (bD (wpAny_setEpoch_of d zZ b ?_)));refine bD (m:=newFields _ _) ?_;unfold newFields;refine oR ?_ (by size_fits);rw[<-e]at q;exact bM #[_,zZ,"set_iterator",_,#[_,dG _ zZ,zZ],eO.lookup,q]
def z9{s:Sh}{Q:Bool->Sh->Prop}(ty:s.TypeIs (.ref a) "set")(q:Q false s):wpAny (model P w) A (Builtin.List.listLengthHint (.ref a)) Q E s:=by
 unfold Builtin.List.listLengthHint;refine bD (wpAny_specialOf ty F.slot_set_len.lookup ?_);generalize g:("set.__len__":String)=name
 wp_delta
 rw[show splitId name=some ("set","__len__") by subst g;decide+kernel];subst g;refine bD (wpAny_isInstance (T:="set") (b:=true) ty (by rw[isSubtype_type];kernel_rfl) (FA (λz=>wC z (by decide)) λ_=>?_));exact FA (λ_=>bD (wpAny_typeOf ty (bM q))) λz=>wC (by decide+kernel) z
def Gr(b:m<32)(d:Ents (bX m) c):PySem.W.KdlSrc P w "set" a a (bX m).length (λi v=>∃e,(mL w a f c)[i]?=some e/\v=e.2) (λh=>h.get? a=some (nA c f (gi (!w.params.followText "set-order") (bX m)))) where
 type:=λ_ e=>#[_,e,zZ]
 there:=λ_ e=>#[cy e,cy e]
 keep:=λ_ _ e k=>k a (.inl zZ) _ e
 notList:=by decide
 notTuple:=by decide
 hint:=λ_ _ _ _ e q=>z9 #[_,e,zZ] q
 iter:=λ_ _ g e=>#[_,_,λ_ _ q=>zR b d e q,OJ g (dj (cy e)) b d,dG _ zZ,cM _ e]
end
def eZ(a:bB):bB:=(List.range 5).filter λi=>a.contains i
theorem Hw(i:Nat):∀(ns:bB) (m:Nat),(mT m ns).testBit i=(m.testBit i || ns.contains i)
 | [],m=>by simp[mT]
 |n::ns,m=>by
  show(mT (m |||2 ^ n) ns).testBit i=_;rw[Hw i ns,Nat.testBit_or,Nat.testBit_two_pow,List.contains_cons,Bool.or_assoc]
  congr 2
  by_cases h:n=i
  .simp[h]
  .simp[h,Ne.symm h]
def K7(a:bB):bX (mT 0 a)=eZ a:=by
 unfold bX eZ
 congr 1
 funext i
 rw[Hw];simp
def SE(m:Nat):(bX m).Pairwise (· <= ·):=by
 unfold bX;exact List.Pairwise.filter _ (by decide)
theorem KY:∀{a:Vs} {is:Zs},IntsAre a is->Vals (is.map V.int) a
 |_,_,.nil=> .nil
 |_,_,.cons n t h=> .cons #[t,zZ] (KY h)
theorem Ix:∀{a:List (Int×Vl)},(∀e∈a,∃t,e.2=.int e.1 t)->IntsAre (a.map (·.2)) (a.map (·.1))
 | [],_=> .nil
 |e::a,h=>by
  obtain⟨t,b⟩:=h e (cR ..);rw[gv,gv,b];exact .cons _ _ (Ix λx c=>h x (dS _ c))
section
variable{P:Pg}{w:World}{A:Ar}{E:VP}{a:Ad}{m:Nat}
def QA{s:Sh}{Q:VP}(M:A.handled=none)(N:IsSet5 s.heap a (!w.params.followText "set-order") m)(q:∀(j r:Heap) u d n,Vals ((bX m).map nv) d->(∀b o,s.heap.get? b=some o->j.get? b=some o)->(∀b o,j.get? b=some o->r.get? b=some o)->r.get? j.objs.size=some {cls:= .type "list",data:= .seq d.toArray n}->Q (.ref j.objs.size) {s with heap:=r,toks:=u}):
  wpAny (model P w) A (call (.builtin "sorted") [.ref a]) Q E s:=by
 obtain⟨I,v,B,O,p⟩:=N;have m5:(bX m).length<=5:=yH #[m,I];have J:=p.len;have c:=E2 w a B v;refine FF kind_sorted plain_sorted entry_sorted (args_sorted1 _) ?_;unfold Builtin.«sorted»;refine bD (m:=checkCount "sorted" 1 1 _) (bM ?_);refine bD (PySem.W.kdu_collect (A:=A.in1) (Gr I p) (by simpa using M) O (by rw[sizeLine_eq];lia) λj u f keep l=>?_);have g:f.toList=(mL w a B v).map (·.2):=by
  refine yT (by rw[dr,l.1,bF,c.length_eq];exact J.symm) λi x y T L=>?_;obtain⟨e,C,D⟩:=l.2 i x (by rw[<-j4];exact T);rw[bZ,C]at L;cases L;exact D
 have G:IntsAre f.toList ((mL w a B v).map (·.1)):=by
  rw[g];refine Ix λe U=>?_;obtain⟨n,_,C,t,D⟩:=p.mem (c.mem_iff.mp U);exact#[t,by rw[C,D]]
 have Y:f.toList.length=(bX m).length:=by rw[g,bF,c.length_eq,J]
 refine bD (zx ?_ (by rw[Y,cH];lia));have H:(j.push (seqObj "list" f.toList.toArray 0)).get? j.objs.size=some (seqObj "list" f.toList.toArray 0):=dG _ rfl;refine bD (iQ (lX slot_list_sort #[_,H,zZ] Fe (list_sort_tree H G () λd js o1 o2 o3=>#[_,zZ,?_]) (args_list_sort _)));have k:js=(bX m).map λ(n:Nat)=>(n:Int):=by
  refine List.Perm.eq_of_pairwise (le:=(· <= ·)) (λx y _ _=>Int.le_antisymm) o3 ?_ (o2.trans ?_)
  .exact v8.mpr ((SE m).imp λh=>by lia)
  .rw[<-p.keys];exact c.map _
 obtain⟨n,eN⟩:=sortedHeap_at (out:=d) H;refine bM #[_,zZ,q j _ u d.toList n ?_ keep (λb o e=>?_) (by simpa using eN)]
 .have z:=KY o1;rw[k,eJ]at z;exact z
 .have lt:=cy e;rw[sortedHeap_old (dj lt) (f7 lt (by rw[wg];exact ub _))];exact cM _ e
end
section
variable{X:Cx}
def tD(w:World)(a:Ad)(m:Nat):HO:= .ext λh=>IsSet5 h a (!w.params.followText "set-order") m
def IsSet5.ok{w:World}{h:Heap}{a:Ad}{m:Nat}{P:Pg}{d:World}{H:Hp}(x:IsSet5 h a (!w.params.followText "set-order") m):ObjOk P d H h a (tD w a m):=by
 obtain⟨j,l,n,e,o⟩:=id x;exact#[x,#[_,e],λp q ⟨f,b,c,g,i⟩ k=>#[f,b,c,k _ g,i]]
def Inv.track{d:AO}{f:St}{H:Hp}{s:Sh}{D:Ad}{o:HO}(I:Inv X d f H s)(g:H D=none)(ok:ObjOk X.prog X.w (bC H D o) s.heap D o)(h:X.s₀.heap.objs.size<=D) (i:D≠X.env.locals) (j:∀x c,X.env.cells.lookup x=some c->c≠D) (k:∀p∈X.pn++d,p.1≠D):Inv X d f (bC H D o) s:=by
 have nd:∀b u,H b=some u->b≠D:=λb u q z=>by rw[z,g]at q;cases q
 have q:=I.step (h':=s.heap) (H':=bC H D o) (g':=s.gens) (t':=s.toks) (d':=s.drawn) (ch:=[D]) (λb a=>by
   have z:b=D:=by simpa using a
   subst z;exact#[.inr h,i,j,k])
  (λb o _ _ _ e _=>e) (λb o _ _ _ e _=>#[o.slots,e]) (λb o a _ n=>by rw[bL (λz=>a (by simp[z]))];exact n) (λb o _ e=>#[o,e])
  (λb l q=>by rw[bL (nd b _ q)];exact q) (λb o u q=>by rw[bL (nd b _ q)];exact q) (λb t q=>#[#v[],by rw[bL (nd b _ q),q];simp]) (λm r=>r) (λb u q=>?_) I.bare
 .exact q
 .by_cases a:b=D
  .subst a;rw[bG]at q;cases q;exact ok
  .rw[bL a]at q;exact(I.hok b u q).stay (λ_ _ _ z=>z) (λc z=>by rw[bL (nd c _ z)];exact z) λc l z=>by rw[bL (nd c _ z)];exact z
def Inv.trackNew{a:AO}{c:St}{H:Hp}{s s1:Sh}{o:HO}(I:Inv X a c H s)(d:Inv X a c H s1)(ok:ObjOk X.prog X.w (bC H s.heap.objs.size o) s1.heap s.heap.objs.size o):Inv X a c (bC H s.heap.objs.size o) s1:=by
 obtain⟨e,f,i,j,g,h⟩:=I.fpOk (b:=s.heap.objs.size) (H':=H) (bR _) (I.hok.fresh (bR _));exact d.track e ok I.sz f g h
inductive qw(K:S4)(w:World)(c:List V)(H:Hp)(Q:VK):Prop|mk:∀p b,c=[.ref p]->SqL K H p (b.map nv)->(∀n∈b,n<5)->(∀a,H a=none->Q (.ref a) (bC H a (tD w a (mT 0 b))))->qw K w c H Q
def Nc(a:X.calm=true):hA X (.type "set") (qw X.K X.w):=by
 intro b s c H n o Q I r h;obtain⟨p,t,rfl,d,e,q⟩:=h;obtain⟨u,rfl,f⟩:=gA r;cases f;obtain⟨g,i,j,_⟩:=I.list d;refine Oy (I.ok.hd a) j.isList i e λk l z keep=>?_;have m:Inv X b c H {s with heap:=k,toks:=l}:=I.kept keep;exact#[.ref s.heap.objs.size,_,Inv.trackNew I m z.ok,zZ,q _ I.fresh]
inductive m7(w:World)(b:List V)(H:Hp)(Q:VK):Prop|mk:∀a m,b=[.ref a]->H a=some (tD w a m)->(∀l,H l=none->Q (.ref l) (bC H l (.lst ((bX m).map nv))))->m7 w b H Q
def Po(k:X.calm=true):hA X (.builtin "sorted") (m7 X.w):=by
 intro f s g H x y Q I r h;obtain⟨a,m,rfl,l,q⟩:=h;obtain⟨u,rfl,o⟩:=gA r;cases o;obtain⟨z,_,_⟩:=I.hok a _ l;refine QA (I.ok.hd k) z λb i j c n p t v e=>?_;have d:Inv X f g H {s with heap:=b,toks:=j}:=I.kept t;have w:Inv X f g H {s with heap:=i,toks:=j}:=d.kept v;have A:(bX m).length<=5:=yH #[m,z.1];have ok:ObjOk X.prog X.w (bC H b.objs.size (.lst ((bX m).map nv))) i b.objs.size (.lst ((bX m).map nv)):=#[by rw[bF,cH];lia,c,n,p,e];exact#[.ref b.objs.size,_,Inv.trackNew d w ok,zZ,q _ d.fresh]
end
section
variable{X:Cx}
inductive Aj(K:S4)(a:List V)(H:Hp)(Q:VK):Prop|mk:∀(p:Ad) (bs:List Bool),a=[.ref p]->SqL K H p (bs.map V.bl)->Q (.bl (bs.any id)) H->Aj K a H Q
def G6(n:X.calm=true):hA X (.builtin "any") (Aj X.K):=by
 intro G s J H L M Q I r h;obtain⟨p,bs,rfl,t,q⟩:=h;obtain⟨u,rfl,w⟩:=gA r;cases w;obtain⟨a,g,j,_⟩:=I.list t;have k:=j.isList;have f:p<s.heap.objs.size:=j.lt;have c:a.length=bs.length:=by rw[<-g.length,bF]
 refine call_any_walk (Ba k #[_,_,_,_,_,_,λi=>bs.getD i false,zZ,Walks.list (A:=X.A.in1) (I.ok.hd n) _ p (dj f) a.toArray,#[#[_,dG _ zZ,zZ,zZ],k.push _],?_,λN O y=>?_])
 .intro i v T U Y B C;have d:a[i]?=some v:=by simpa using B
  have l:i<bs.length:=by rw[<-c];exact(bU.mp d).1
  obtain⟨u2,m,D⟩:=g.get (i:=i) (x:= .bl (bs.getD i false)) (by rw[bZ,bE l,cZ,bE l];rfl);rw[d]at m;cases m;cases(show v=Value.bool _ from D);exact m9 C
 .have e:(List.range a.toArray.size).any (λi=>bs.getD i false)=bs.any id:=by
   rw[eE,c];have:bs=(List.range bs.length).map λi=>bs.getD i false:=by
    refine AS (by simp) λi E h2=>?_;simp[List.getD_eq_getElem?_getD,E]
   conv=>rhs;rw[this,zg]
   rfl
  rw[e];exact#[.bl (bs.any id),H,I.kept λb o z=>y b o (by simp only[List.mem_singleton];exact Nat.ne_of_lt (Heap.lt_size z)) (Heap.get?_push_of_some _ z),zZ,q]
end
def drop(H:Hp)(c:Ad):Hp:=λb=>if b=c then none else H b
def ky{H:Hp}{c:Ad}:drop H c c=none:=by unfold drop;rw[wB zZ]
def db{H:Hp}{b c:Ad}(h:b≠c):drop H c b=H b:=by unfold drop;rw[wA h]
def rb{H:Hp}{b c:Ad}(h:H b=none):drop H c b=none:=by
 by_cases e:b=c
 .rw[e];exact ky
 .rw[db e];exact h
def gt(c m:Ad)(o:Obj):HO:= .ext λh=>h.get? c=some o/\o.data=.cell (some (.ref m))
def j9(c:Ad)(q:Str):HO:= .ext λh=>h.CodeRec (.ref c) q
def iO(f:Ad)(a:Fd):HO:= .ext λh=>h.get? f=some {cls:= .type "function",data:= .func a}
def HOk.drop{P:Pg}{w:World}{H:Hp}{h:Heap}{c:Ad}{g:Heap->Prop}(x:HOk P w H h)(a:H c=some (.ext g)):HOk P w (drop H c) h:=λb o e=>by
 by_cases f:b=c
 .rw[f,ky]at e;cases e
 .rw[db f]at e;refine(x b o e).stay (λ_ _ _ z=>z) (λd z=>?_) λd i z=>?_
  .rw[db (λq=>by rw[q,a]at z;cases z)];exact z
  .rw[db (λq=>by rw[q,a]at z;cases z)];exact z
def HOk.back{P:Pg}{w:World}{H:Hp}{h:Heap}{c:Ad}{o:HO}(x:HOk P w H h)(a:H c=none)(ok:ObjOk P w (bC H c o) h c o):HOk P w (bC H c o) h:=λb u e=>by
 by_cases f:b=c
 .subst f;rw[bG]at e;cases e;exact ok
 .rw[bL f]at e;exact(x b u e).stay (λ_ _ _ z=>z) (λd z=>by rw[bL (cV z a)];exact z) λd g z=>by rw[bL (cV z a)];exact z
def J8{P:Pg}{w:World}{H:Hp}{h:Heap}{c m:Ad}{o:Obj}(x:h.get? c=some o)(d:o.data=.cell (some (.ref m))):ObjOk P w H h c (gt c m o):=#[#[x,d],#[o,x],λa b e k=>#[k _ e.1,e.2]]
def KQ{P:Pg}{w:World}{H:Hp}{h:Heap}{f:Ad}{a:Fd}(x:h.get? f=some {cls:= .type "function",data:= .func a}):ObjOk P w H h f (iO f a):=#[x,#[_,x],λb c e k=>k _ e]
def R'{P:Pg}{w:World}{H:Hp}{h:Heap}{c:Ad}{q:Str}(x:h.CodeRec (.ref c) q):ObjOk P w H h c (j9 c q):=by
 obtain⟨b,o,m,t,d,e,n⟩:=id x;cases d;refine#[x,#[o,e],λp r ⟨b,f,a,g,i,j,l⟩ k=>?_];cases i;exact#[c,f,a,g,zZ,k _ j,l]
structure LamScope(ps:Ss)(y:Str)(sc:Scope):Prop where
 kind:sc.kind=.function
 co:sc.isCoroutine=false
 gen:sc.isGenerator=false
 nd:(ps++[y]).Nodup
 par:∀x∈ps,sc.names.lookup x=some .local
 fre:sc.names.lookup y=some .free
 only:∀z∈sc.names,z.2≠ .cell/\(z.2=.free->z.1=y)
abbrev gS(d:Str)(a:Arguments)(e:Expr)(b:Scope)(y:Str)(c:Ad)(pm f g:Vl):Fd:=PySem.W.kla_fn "<lambda>" d a e b [(y,c)] pm f g
def py(P:Pg)(w:World)(K:S4)(mg:SV)(base:Heap)(N:Ss)(b:Str)(a:Scope)(f:Ad)(c:Vl)(d:List (Str×Ad))(A:Ar)(outer:List Env)(s:Sh)(H:Hp):Cx where
 prog:=P
 w:=w
 K:=K
 mg:=mg
 base:=base
 A:=A.deeper (PySem.W.envX b a s.heap.objs.size f c d)
 N:=N
 s₀:=s
 H₀:=H
 env:=PySem.W.envX b a s.heap.objs.size f c d
 outer:=outer
 stack:=PySem.W.envX b a s.heap.objs.size f c d::outer
 ex:=[]
 calm:=true
 fn:=λ_=>false
 pn:=[]
 xe:=λ_ _=>False
theorem KD{x:Str}{u:Vl}:∀{l:List (Str×Vl)},(l.map (·.1)).Nodup->(x,u)∈l->l.lookup x=some u
 | (a,b)::l,nd,h=>by
  rw[gv,lE]at nd;rw[oK]
  rcases cX.mp h with e|e
  .cases e;rw[xL]
  .have c:(x==a)=false:=o0.mpr λq=>nd.1 (b8.mpr #[(x,u),e,q]);rw[c];exact KD nd.2 e
def NW{c:Ss}{d:Vs}{i:Nat}{x:Str}{u:Vl}(nd:c.Nodup)(e:c[i]?=some x)(f:d[i]?=some u):(c.zip d).reverse.lookup x=some u:=by
 refine KD ?_ (nJ.mpr (fB.mpr #[i,List.getElem?_zip_eq_some.mpr #[e,f]]));have sub:∀(c:Ss) (d:Vs),((c.zip d).map (·.1)).Sublist c:=λc=>by
  induction c with
  |nil=>intro d;simp
  |cons a c g=>
   intro d;cases d with
   |nil=>simp
   |cons b d=>rw[List.zip_cons_cons,gv];exact(g d).cons₂ a
 rw[List.map_reverse];show List.Pairwise (· ≠ ·) _;rw[List.pairwise_reverse];exact(nd.sublist (sub c d)).imp dM
def LQ{P:Pg}{w:World}{K:S4}{mg:SV}{l:Heap}{n:Ss}{y B:Str}{g:Scope}{f c m:Ad}{O:Vl}{A:Ar}{k:List Env}{s:Sh}{H:Hp}{Q:Vs}{I:List V}{E:Heap}{U:Nat}(S:LamScope n y g) (Y:A.handled=none) (t:Env0 P w K mg l A k s H) (T:I.length=n.length) (r:Vals I Q) (hc:H c=none) (ic:s.heap.IsCell c (some (.ref m)))(L:E.Ns s.heap.objs.size (λx=>(n.zip Q).reverse.lookup x)) (sb:Heap.SameBut s.heap.objs.size (s.heap.push {cls:= .type "frame",data:= .dict #v[]}) E):
  Inv (py P w K mg l (n++[y]) B g f O [(y,c)] A k s H) [] (I.map some++[some (.ref m)]) H {s with heap:=E,toks:=U}:=by
 have M:∀b o,s.heap.get? b=some o->E.get? b=some o:=λb o e=>sb.extBut _ _ (dj (cy e)) (cM _ e);have J:E.IsCell c (some (.ref m)):=let⟨o,e,d⟩:=ic;#[o,M _ _ e,d]
 have one:∀{x:Str} {d:Ad},([(y,c)]:List (Str×Ad)).lookup x=some d->x=y/\d=c:=λ{x d} h=>by
  rw[oK]at h;cases q:x==y with
  |true=>rw[q]at h;cases h;exact#[eq_of_beq q,zZ]
  |false=>rw[q]at h;cases h
 have C:([(y,c)]:List (Str×Ad)).lookup y=some c:=by rw[oK,xL]
 have G:∀b:Ad,b∉(py P w K mg l (n++[y]) B g f O [(y,c)] A k s H).ex:=λb z=>wC (show b∈([]:As)from z) (by simp);refine#[#[t.mod,S.kind,zZ,zZ,bR _,λa b d E h2=>(one E).1.trans (one h2).1.symm,λa ha=>?_,λa d h _=>wC (show false=true from h) fX,λ_=>Y,Around.frames_deeper t.frames,.inr #[zZ,zZ],λb z=>wC z (G b),t.bs,t.bsz,λb _ _=>G b,λb z=>wC z (G b),t.funs,t.frf],
  rfl,t.bare,Un.kept M,#[_,L,λi x v q1 D q3=>?_],λa d h=>?_,t.hok.fresh (bR _),λa d h=>?_,λp hp=>wC (show p∈([]:AO)from hp) (by simp),t.hok.kept M,?_]
 .have N:g.names.lookup a=some .cell\/g.names.lookup a=some .free:=ha
  rcases N with z|z
  .exact wC zZ (S.only _ (oC z)).1
  .have e:=(S.only _ (oC z)).2 rfl;exact#[c,by rw[show a=y from e];exact C]
 .have j:(n++[y])[i]?=some x:=q1
  rcases vd i n.length with z|z
  .rw[dN z]at j;rw[dN (by rw[bF];lia),bZ]at D;cases e:I[i]? with
   |none=>rw[e]at D;cases D
   |some a=>
    rw[e]at D;cases D;obtain⟨u,hu,rv⟩:=r.get e;have kx:=S.par x (cb j);refine#[u,rv,.inl #[kx,?_]];exact NW (S.nd.sublist (List.sublist_append_left _ _)) j hu
  .rw[dO z]at j;rw[dO (by rw[bF];lia),bF]at D;have e:i-n.length=0:=by
    rcases Nat.eq_zero_or_pos (i-n.length)with y0|y0
    .exact y0
    .rw[iM (by simp;lia)]at j;cases j
   rw[e]at j;rw[T,e]at D;cases j;cases D;exact#[.ref m,zZ,.inr #[.inr S.fre,c,C,J]]
 .obtain⟨rfl,rfl⟩:=one (show([(y,c)]:List (Str×Ad)).lookup a=some d from h);exact#[_,J]
 .obtain⟨rfl,rfl⟩:=one (show([(y,c)]:List (Str×Ad)).lookup a=some d from h);exact hc
 .show(I.map some++[some (V.ref m)]).length=(n++[y]).length;simp[T]
def HX{P:Pg}{w:World}{K:S4}{mg:SV}{j:Heap}{k:Nat}{D:Ss}{y g:Str}{l:Arguments}{p:Expr}{a:Scope}{f c m G:Ad}{oc:Obj}{pm ct:Vl}{Y:Sp}(S:LamScope D y a) (len:∀B H Q E,Y B H Q E->B.length=D.length) (here:∀B H Q E,Y B H Q E->H f=some (iO f (gS g l p a y c pm (.ref G) ct))/\H c=some (gt c m oc)/\H G=some (j9 G g))(L:∀(A:Ar) (d:List Env) (s:Sh) (H:Hp) (B:List V) (Q:VK) (E:XK),Room k (A.deeper (PySem.W.envX g a s.heap.objs.size f (.ref G) [(y,c)]))->Y B H Q E->
   ∃t,PE (py P w K mg j (D++[y]) g a f (.ref G) [(y,c)] A d s (drop H c)) p t/\t (B.map some++[some (.ref m)]) (drop H c) λv U=>U c=none->Q v (bC U c (gt c m oc))):
  FnOk P w K mg j b9 (k+1) f (gS g l p a y c pm (.ref G) ct) D Y:=by
 refine#[len,λA d s H args us B Q E hr h M r N=>?_];obtain⟨hf,O,aa⟩:=here _ _ _ _ N;have hl:=len _ _ _ _ N;obtain⟨ef,_,_⟩:=h.hok f _ hf;obtain⟨i,_,_⟩:=h.hok c _ O;obtain⟨T,_,_⟩:=h.hok G _ aa;have e1:Env0 P w K mg j A d s (drop H c):=#[h.frames,h.mod,λb o e=>#[(h.bs b o e).1,rb (h.bs b o e).2],h.bsz,h.funs,λb M=>rb (h.frf b M),h.hok.drop O,h.bare];have ab:s.heap.NoLimit:=h.mod.nolimit.keeps λb o e=>(h.bs b o e).1;refine PySem.W.kla_callFunE hr.depth ef zZ S.co S.gen zZ T (M _ _ _ _ ?_);refine wpAny_newFunctionEnv (λx hx=>(S.only x hx).1) (λx hx=>S.par _ (BY hx).1) (λh1 ae sb=>?_) S.kind;have hk:∀b o,s.heap.get? b=some o->h1.get? b=some o:=λb o e=>sb.extBut _ _ (dj (cy e)) (cM _ e);refine#[ab.keeps hk,PySem.W.kla_codeExpr ?_];obtain⟨t,ht,hq⟩:=L A d s H B Q E (hr.deeper _) N;have I:Inv (py P w K mg j (D++[y]) g a f (.ref G) [(y,c)] A d s (drop H c)) [] (B.map some++[some (.ref m)]) (drop H c) {s with heap:=h1,toks:=s.toks+(D.zip us).length}:=LQ S hr.hd e1 hl r ky #[oc,i] ae sb;refine h9 (ht [] _ _ _ _ I hq) (λv s' ⟨x,U,J,rx,q⟩=>?_) λe s' z=>wE z;have Hc:U c=none:=J.freeC y c (by show([(y,c)]:List (Str×Ad)).lookup y=some c;rw[oK,xL]);have af:s'.heap.get? c=some oc:=J.base.keep c oc i.1 ky (λz=>?_) (by simp[py])
 .refine#[x,bC U c (gt c m oc),J.os,J.bare,#[λb o e n M _=>?_,λb o e n M _=>?_,λb o e n _=>?_,λb o e _=>J.base.there b o e (by simp[py]),λb xs e=>?_,λb o u e=>?_,λb D e=>?_],J.hok.back Hc (J8 af i.2),rx,q Hc]
  .exact J.base.keep b o e (rb n) M (by simp[py])
  .exact J.base.slot b o e (rb n) M (by simp[py])
  .have C:b≠c:=λz=>by rw[z,O]at n;cases n
   rw[bL C];exact J.base.free b o e (rb n) (by simp[py])
  .have C:b≠c:=λz=>by rw[z,O]at e;cases e
   rw[bL C];exact J.base.tups b xs (by show drop H c b=_;rw[db C];exact e)
  .have C:b≠c:=λz=>by rw[z,O]at e;cases e
   rw[bL C];exact J.base.frzs b o u (by show drop H c b=_;rw[db C];exact e)
  .have C:b≠c:=λz=>by rw[z,O]at e;cases e
   rw[bL C];exact J.base.tbls b D (by show drop H c b=_;rw[db C];exact e)
 .have:=h.frf c z;rw[O]at this;cases this
section
variable{X:Cx}
def KC(X:Cx)(i:Nat)(t:TA):TE:=λb H Q=>cS i b H λv c=>∃st a,v=.ref st/\c st=some (iO st a)/\t b c λg d=>d st=some (iO st a)/\∃k e f,FnOk X.prog X.w X.K X.mg X.base b9 k st a e f/\Room k X.A/\Binds X.K a e []/\f g d Q E0
def Ld{a:AO}{b:St}{H:Hp}{s:Sh}{st:Ad}{c:Fd}(I:Inv X a b H s)(h:H st=some (iO st c)):PySem.W.FnAt st s.heap:=by
 obtain⟨e,_,_⟩:=I.hok st _ h;exact#[_,_,_,_,e]
def Qi(i:Nat){x:Str}{e:Expr}{b:List Expr}{t:TA}{p a:Pos}(l:PE X (.Name x p) (cS i))(m:PA X (e::b) t)(n:starEach (e::b) X.env=(false,eval e X.env)::starEach b X.env:=by rfl)(c:(backTo a (starEach b X.env)).any (·.1)=false:=by rfl):
  PE X (.Call (.Name x p) (e::b) [] a) (KC X i t):=by
 intro d s f H Q I h;refine uj (bW (l d s f H _ I h) λu o ⟨v,w,g,y,st,L,A,B,q⟩=>?_);subst A;cases y;refine PySem.W.callWith_F (Ld g B) (bW (m a d o f w _ g q) λM N C=>?_) n c;obtain⟨O,T,j,r,D,k,U,Y,F,E,G,J⟩:=C;refine#[Ld j D,?_];have z:=A4 (dvs:=[]) (ds:=[]) F E G .nil zT j r (by rw[i'];exact J);exact z
def IF(g:Sp)(a:List V)(j:Nat)(c:Ad)(t:TA):TE:=λb H Q=>t b H λh d=>∃m,b[j]?=some (some (.ref m))/\∀e,d c=none->g (h++a) (bC d c (gt c m e)) (λr f=>f c=some (gt c m e)/\Q r (drop f c)) E0
def Inv.afterC{p:AO}{t:St}{H:Hp}{s x:Sh}{c m:Ad}{i:Obj}{Q:VK}{u:Vl}(I:Inv X p t H s)(k:H c=none)(y:s.heap.get? c=some i)(h:CE X.stack X.prog X.w (bC H c (gt c m i)) s (λr j=>j c=some (gt c m i)/\Q r (drop j c)) u x):EP X p t Q u x:=by
 obtain⟨v,j,os,a,un,d,B,A,q⟩:=h;obtain⟨⟨f,_⟩,_,_⟩:=d c _ A;refine I.after #[v,drop j c,os,a,#[λb o e n l g=>?_,λb o e n l g=>?_,λb o e n g=>?_,un.there,λb C e=>?_,λb o w e=>?_,λb D e=>?_],d.drop A,B,q]
 .by_cases z:b=c
  .subst z;rw[y]at e;cases e;exact f
  .exact un.keep b o e (by rw[bL z];exact n) l g
 .by_cases z:b=c
  .subst z;rw[y]at e;cases e;exact#[i.slots,f]
  .exact un.slot b o e (by rw[bL z];exact n) l g
 .by_cases z:b=c
  .rw[z];exact ky
  .exact rb (un.free b o e (by rw[bL z];exact n) g)
 .have z:b≠c:=λz=>by rw[z,k]at e;cases e
  rw[db z];exact un.tups b C (by rw[bL z];exact e)
 .have z:b≠c:=λz=>by rw[z,k]at e;cases e
  rw[db z];exact un.frzs b o w (by rw[bL z];exact e)
 .have z:b≠c:=λz=>by rw[z,k]at e;cases e
  rw[db z];exact un.tbls b D (by rw[bL z];exact e)
def RN{x:Str}{k j:Nat}{L:Ss}{T:Sp}{f c:Ad}{U:Fd}{g:List V}{v:Vs}{y:Str}{e:Expr}{A:List Expr}{t:TA}{p pos:Pos}(F:FnOk X.prog X.w X.K X.mg X.base b9 k f U L T)(hr:Room k X.A)(hg:Gl X x)(hm:X.mg x=some (.ref f))(hk:PySem.W.keepIn X.K (.ref f)=true) (n:Binds X.K U L v) (hd:Vals g v) (hN:X.N[j]?=some y) (G:X.env.cells.lookup y=some c) (B:X.env.scope.names.lookup y=some .cell) (M:X.fn y=true) (ha:PA X (e::A) t)(N:(x==("__debug__":Str))=false:=by decide) (he:starEach (e::A) X.env=(false,eval e X.env)::starEach A X.env:=by rfl) (O:(backTo pos (starEach A X.env)).any (·.1)=false:=by rfl):
  PE X (.Call (.Name x p) (e::A) [] pos) (IF T g j c t):=by
 intro za s σ H Q I h;refine uj (xP I hg hm ?_ N);refine C0 (h₀:=X.base) I.ok.mod.kin hk (bW (ha pos za s σ H _ I h) λC J ⟨Y,H1,a,r,m,hj,q⟩=>#[a.kIn,?_]) he O;have l:H1 c=none:=a.freeC y c G;obtain⟨mm,hn,look⟩:=a.loc;obtain⟨u,ru,lk⟩:=look j y (.ref m) hN hj (.inr (.inl B));cases ru;obtain⟨oc,ec,dc⟩:J.heap.IsCell c (some (.ref m)):=by
  rcases lk with⟨z,_⟩|⟨_,c',D,ic⟩
  .have z':X.env.scope.names.lookup y=some .local:=z;rw[B]at z';cases z'
  .rw[G]at D;cases D;exact ic
 have q1:=q oc l;have r2:Vals (Y++g) (C++v):=r.append hd;have hl:(C++v).length=L.length:=by rw[<-r2.length];exact F.len _ _ _ _ q1
 have e1:Env0 X.prog X.w X.K X.mg X.base X.A X.stack J (bC H1 c (gt c m oc)):=by
  have i:=a.env0;have d:=a.ok.cab y c M G;have nb:∀b o,X.base.get? b=some o->b≠c:=λb o e z=>by
   subst z;exact wC (f7 (cy e) (cP a.ok.bsz d)) (mR _)
  have nf:∀b∈lN X.stack,b≠c:=λb n z=>by
   subst z
   rcases cX.mp (a.stkSub b n)with w|w
   .exact a.cne y b G w
   .obtain⟨_,o,ho,_⟩:=a.ok.funs.mem w;exact wC (f7 (cy ho) d) (mR _)
  exact#[i.frames,i.mod,λb o e=>#[(i.bs b o e).1,by rw[bL (nb b o e)];exact(i.bs b o e).2],i.bsz,i.funs,λb n=>by rw[bL (nf b n)];exact i.frf b n,i.hok.back l (J8 ec dc),i.bare]
 refine vv (mX (F.run X.A X.stack J _ #[C,[]] (C++v) (Y++g) _ E0 hr e1 (n J C a.kIn hl) r2 q1) λr s' E=>?_);cases r with
 |error e=>exact E.elim
 |ok fl=>
  cases fl with
  |ret u=>exact a.afterC l ec E
  |next=>exact wE E
  |brk=>exact wE E
  |cont=>exact wE E
end
section
variable{X:Cx}
def oQ(mg:SV)(h:Heap):Prop:=∃a o,mg "__builtins__"=some (.ref a)/\a≠builtinsNs/\h.get? a=some o/\o.cls=.type "module"/\o.dict=some builtinsNs/\o.data=.plain
abbrev jv(a:Pos)(b:Ad):AV:= #v[rawInt a.line,rawInt a.col,.ref b]
def FE(P:Ad)(a:Str)(b:Arguments)(g:Expr)(d:Scope)(y:Str)(c:Ad)(pm:Vl)(h:Pos):TE:=λ_ H Q=>
 (H P=some (.tbl #v[])/\∀f e i,H f=none->H e=none->f≠e->Q (.ref f) (bC (bC (bC H P (.tbl (jv h e))) e (j9 e a)) f (iO f (gS a b g d y c pm (.ref e) i))))\/
 ∃e,H P=some (.tbl (jv h e))/\H e=some (j9 e a)/\∀f i,H f=none->Q (.ref f) (bC H f (iO f (gS a b g d y c pm (.ref e) i)))
def IS{P cd c:Ad}{qual y:Str}{a:Arguments}{g:Expr}{f:Scope}{i:Pos}(G:X.env.code=.ref cd)(C:PySem.W.CodeHd X.base cd P)(bm:oQ X.mg X.base)(J:∀D E H s,Inv X D E H s->closureFor f X.env=pure [(y,c)])(aa:defaultsOf a X.env=([],[])) (hq:X.env.qual++"<lambda>"=qual):PE X (.Lambda a g f i) (FE P qual a g f y c ((X.mg "__name__").getD .none) i):=by
 intro D s E H Q I h;rw[arm_eval_Lambda,aa,hq];have C':PySem.W.CodeHd s.heap cd P:=C.keeps I.bk;have hg:s.heap.Ns mainGlobals X.mg:=I.mod.glob.keeps I.bk;refine bD (m:=evalAll []) (bM (bD (m:=holding _ (evalAllOpt [])) (iQ (bM ?_))));have track:∀L,H P=some (.tbl L)->s.heap.get? P=some (PySem.W.tabObj L)/\mainGlobals≠P/\s.heap.BuiltinsAt X.mg P:=λL e=>by
  have M:s.heap.get? P=some (PySem.W.tabObj L):=I.hok P _ e;have ng:mainGlobals≠P:=λz=>by
   obtain⟨o,es,ep,e1,_⟩:=I.mod.glob;have:=(I.bs _ _ e1).2
   rw[z,e]at this;cases this
  obtain⟨b,o,b1,b2,b3,b4,b5,b6⟩:=bm;refine#[M,ng,b,o,b1,b2,λz=>?_,λz=>?_,I.bk _ _ b3,b4,b5,b6]
  .obtain⟨o',es,ep,e1,d1,_⟩:=I.mod.glob;rw[z,e1]at b3;cases b3;rw[d1]at b6;cases b6
  .have:=(I.bs _ _ b3).2;rw[z,e]at this;cases this
 rcases h with⟨e,q⟩|⟨j,e,ag,q⟩
 .obtain⟨M,ng,hb⟩:=track _ e;refine PySem.W.kla_makeFunction (J D E H s I) I.ok.glob hg G C' M (by trivial) zZ ng hb λj p k tk hx r t N ab=>?_;have x:H j=none:=I.hok.fresh r;have A:H k.objs.size=none:=I.hok.fresh (cP r (eM t));have ae:P≠j:=cV e x;have af:P≠k.objs.size:=cV e A;have O:k.objs.size≠j:=n9 t;generalize eo:PySem.W.kla_obj "<lambda>" qual a g f [(y,c)] ((X.mg "__name__").getD .none) j p=ob;have old:∀b u,H b=some u->b≠j/\b≠k.objs.size:=λb u z=>#[cV z x,cV z A];have T:∀b o,s.heap.get? b=some o->b≠j/\b≠k.objs.size:=λb o z=>#[dj (f7 (cy z) r),dj (f7 (cy z) (cP r (eM t)))];have U:∀b o,b≠P->s.heap.get? b=some o->(k.push ob).get? b=some o:=λb o n z=>cM _ (hx b o n z);have l:∀b,b≠P->b≠j->b≠k.objs.size->bC (bC (bC H P (.tbl (jv i j))) j (j9 j qual)) k.objs.size (iO k.objs.size (gS qual a g f y c ((X.mg "__name__").getD .none) (.ref j) p)) b=H b:=λb n1 n2 n3=>by rw[bL n3,bL n2,bL n1]
  have Y:bC (bC (bC H P (.tbl (jv i j))) j (j9 j qual)) k.objs.size (iO k.objs.size (gS qual a g f y c ((X.mg "__name__").getD .none) (.ref j) p)) P=some (.tbl (jv i j)):=by rw[bL af,bL ae,bG]
  have tP:(k.push ob).get? P=some (PySem.W.tabObj (jv i j)):=by
   refine cM _ ?_;rw[ab];rfl
  refine#[.ref k.objs.size,_,?_,zZ,q k.objs.size j p A x O];refine I.step (ch:=[]) (λ_ z=>nomatch z) (λb o _ _ _ z n=>U b o (λw=>by rw[w,e]at n;cases n) z) (λb o _ _ _ z n=>#[o.slots,U b o (λw=>by rw[w,e]at n;cases n) z])
   (λb o _ z n=>?_) (λb o _ z=>?_) (λb xs z=>?_) (λb o u z=>?_) (λb L z=>?_) (λm hm=>?_) (λb u z=>?_) I.bare
  .rw[l b (λw=>by rw[w,e]at n;cases n) (T b o z).1 (T b o z).2];exact n
  .by_cases w:b=P
   .rw[w];exact#[_,tP]
   .exact#[o,U b o w z]
  .rw[l b (λw=>by rw[w,e]at z;cases z) (old b _ z).1 (old b _ z).2];exact z
  .rw[l b (λw=>by rw[w,e]at z;cases z) (old b _ z).1 (old b _ z).2];exact z
  .by_cases w:b=P
   .subst w;rw[e]at z;cases z;exact#[jv i j,by rw[Y];rfl]
   .exact#[#v[],by rw[l b w (old b _ z).1 (old b _ z).2,z];simp]
  .exact hm.at' λo z=>U _ o (λw=>by have:=I.free;rw[w,e]at this;cases this) z
  .by_cases w3:b=k.objs.size
   .rw[w3,bG]at z;cases z;rw[w3];exact KQ (by rw[<-eo];exact dG _ zZ)
   .by_cases w2:b=j
    .rw[w2,bL O.symm,bG]at z;cases z;rw[w2];exact R' (N.push _)
    .by_cases w1:b=P
     .rw[w1,Y]at z;cases z;rw[w1];exact tP
     .rw[l b w1 w2 w3]at z;refine(I.hok b u z).stay (λd o hd y=>U d o (λw=>?_) y) (λd y=>?_) λd xs y=>?_
      .rcases hd with v|v
       .exact w1 (v.symm.trans w)
       .rw[w,e]at v;cases v
      .rw[l d (λw=>by rw[w,e]at y;cases y) (old d _ y).1 (old d _ y).2];exact y
      .rw[l d (λw=>by rw[w,e]at y;cases y) (old d _ y).1 (old d _ y).2];exact y
 .obtain⟨M,ng,hb⟩:=track _ e;have B:codeAmong i (jv i j).toList=some (.ref j):=by
   show(if((i.line:Int)==(i.line:Int)&&(i.col:Int)==(i.col:Int))=true then _ else _)=_;rw[wB (by simp)]
  refine PySem.W.kla_makeFunctionHit (J D E H s I) I.ok.glob hg G C' M (by trivial) B hb λp k tk keep sz=>?_;have I1:Inv X D E H {s with heap:=k,toks:=tk}:=I.kept keep;have I2:Inv X D E H {s with heap:=k.push {cls:= .type "function",data:= .func (gS qual a g f y c ((X.mg "__name__").getD .none) (.ref j) p)},toks:=tk}:=I1.kept λb o z=>cM _ z;have ok:ObjOk X.prog X.w (bC H k.objs.size (iO k.objs.size (gS qual a g f y c ((X.mg "__name__").getD .none) (.ref j) p))) (k.push {cls:= .type "function",data:= .func (gS qual a g f y c ((X.mg "__name__").getD .none) (.ref j) p)}) k.objs.size (iO k.objs.size (gS qual a g f y c ((X.mg "__name__").getD .none) (.ref j) p)):=KQ (dG _ zZ);exact#[.ref k.objs.size,_,Inv.trackNew I1 I2 ok,zZ,q _ p I1.fresh]
end
def RP(K:S4)(c:As)(a:Ad)(o:Obj)(d:Zs):Hp:=λb=>if b∈c then some (.tbl #v[])else if b=a/\K.lookup a=none then some (.frz o (.lst (d.map V.int)))else none
def Qd{P:Pg}{w:World}{K:S4}{mg mb:SV}{k:Nat}{fa a:Ad}{fd:Fd}{x:Str}{sp:Sp}{f:Sh}{A:Vs}{D:Zs}{tabs:As}(KX:K.In f.heap) (I:f.heap.Ns mainGlobals mg) (g:f.heap.Ns builtinsNs mb) (aa:∀x:Str,x≠"__name__"->mb x=bootBuiltins x) (J:f.heap.NoLimit) (hg:f.gens= #v[]) (ab:oQ mg f.heap)(E:f.heap.get? a=some {cls:= .type "list",data:= .seq A.toArray}) (hi:IntsAre A D) (hl:D.length<=sizeLine) (hr:Room k callerA) (hT:∀q∈tabs,K.lookup q=none/\∃c,f.heap.TableAt c q #v[])
  (F:∀l:Heap,K.In l->l.Ns mainGlobals mg->oQ mg l->FnOk P w K mg l b9 k fa fd [x] sp) (G:∀(s:Sh) (u:Vl),BindsTo s fd #[[u],[]] [(x,u)])
  (ae:∀H:Hp,(∀q∈tabs,H q=some (.tbl #v[]))->SqL K H a (D.map V.int)->sp [.ref a] H (λv _=>v=.bl true) λ_ _ _=>False):
  codeAny (model P w) callerA (.call (.ref fa) #[[.ref a],[]]) (λr L=>r=.ok (.ret (.bool true))/\OldK f.heap L.heap/\L.os=f.os/\AllBare L.gens) f:=by
 have rv:=G2 hi;have M:=hi.length;have i:∀q∈tabs,f.heap.get? q=some (PySem.W.tabObj #v[]):=λq N=>let⟨_,c,t⟩:=hT q N;t.2
 have na:a∉tabs:=λN=>by
  have:=i a N;rw[E]at this;cases this
 generalize eH:RP K tabs a {cls:= .type "list",data:= .seq A.toArray} D=H;have O:∀q∈tabs,H q=some (.tbl #v[]):=λq N=>by rw[<-eH];exact wB N
 have B:∀b,b∉tabs->H b=if b=a/\K.lookup a=none then some (.frz {cls:= .type "list",data:= .seq A.toArray} (.lst (D.map V.int)))else none:=λb g=>by rw[<-eH];exact wA g
 have j:∀b u,H b=some u->(b∈tabs/\u=.tbl #v[])\/(b=a/\K.lookup a=none/\u=.frz {cls:= .type "list",data:= .seq A.toArray} (.lst (D.map V.int))):=λb u e=>by
  by_cases g:b∈tabs
  .rw[O b g]at e;cases e;exact .inl #[g,zZ]
  .rw[B b g]at e;by_cases h:b=a/\K.lookup a=none
   .rw[wB h]at e;cases e;exact .inr #[h.1,h.2,zZ]
   .rw[wA h]at e;cases e
 have af:HOk P w H f.heap:=λb u e=>by
  rcases j b u e with⟨g,rfl⟩|⟨rfl,_,rfl⟩
  .exact i b g
  .exact#[E,by rw[bF];exact hl,A,_,rv,E]
 have hS:SqL K H a (D.map V.int):=by
  cases Q:K.lookup a with
  |some o=>
   have e:=KX a o Q;rw[E]at e;cases e;exact .inr #[_,A.toArray,_,Q,zZ,zZ,zZ,by rw[eE,M];exact hl,by simpa using rv]
  |none=>exact .inl (.inr #[{cls:= .type "list",data:= .seq A.toArray},by rw[B a na,wB #[zZ,Q]]])
 have free:∀{b:Ad} {o:Obj},f.heap.get? b=some o->o.cls≠ .none->(∀T n,o.data≠ .seq T n)->H b=none:=λ{b o} e hc hd=>by
  cases q:H b with
  |none=>rfl
  | some u=>
   rcases j b u q with⟨g,_⟩|⟨rfl,_,_⟩
   .rw[i b g]at e;cases e;exact wC zZ hc
   .rw[E]at e;cases e;exact wC zZ (hd _ _)
 have p:∀{b:Ad} {m:SV},f.heap.Ns b m->(oP f.heap H).Ns b m:=λ{b m} ⟨o,es,ep,e,d,r⟩=>by
  refine#[o,es,ep,Gk e ?_,d,r];cases q:H b with
  |none=>rfl
  | some u=>
   rcases j b u q with⟨g,_⟩|⟨rfl,_,_⟩
   .rw[i b g]at e;cases e;cases d
   .rw[E]at e;cases e;cases d
 have U:K.In (oP f.heap H):=λb o e=>Gk (KX b o e) (by
  cases q:H b with
  |none=>rfl
  | some u=>
   rcases j b u q with⟨g,_⟩|⟨rfl,Q,_⟩
   .rw[(hT b g).1]at e;cases e
   .rw[Q]at e;cases e)
 have ag:oQ mg (oP f.heap H):=by
  obtain⟨bm,o,b1,b2,b3,b4,b5,b6⟩:=ab;exact#[bm,o,b1,b2,Gk b3 (free b3 (by rw[b4];nofun) (λT n z=>by rw[b6]at z;cases z)),b4,b5,b6]
 have hM:Mod K mg (oP f.heap H):=#[U,p I,#[mb,p g,aa],let⟨mc,h1,h2⟩:=J;#[mc,p h1,h2]];have e0:Env0 P w K mg (oP f.heap H) callerA [] f H:=#[zZ,hM,λb o e=>Ra e,tr (Nt _ _),trivial,λb g=>wC (show b∈([]:As)from g) (by simp),af,.of_eq hg];refine mX ((F _ U (p I) ag).run callerA [] f H #[[.ref a],[]] [.ref a] [.ref a] _ _ hr e0 (G f (.ref a)) (.cons zZ .nil) (ae H O hS)) λr L h=>?_;cases r with
 |error e=>exact h.elim
 | ok fl=>
  cases fl with
  |next=>exact wE h
  |brk=>exact wE h
  |cont=>exact wE h
  | ret u=>
   obtain⟨v,H',os,Y,un,C,r',q⟩:=h;have q':v=.bl true:=q;subst q'
   obtain rfl:u=Value.bool true:=r';refine#[zZ,#[λb o e=>?_,λb o e=>un.there b o e (by simp)],os,Y];cases z:H b with
   |none=>exact .inl (un.keep b o e z (by intro y;exact wC (show b∈([]:As)from y) (by simp)) (by simp))
   | some u=>
    rcases j b u z with⟨g,rfl⟩|⟨rfl,_,rfl⟩
    .obtain⟨more,z2⟩:=un.tbls b _ z;have e2:L.heap.get? b=some (PySem.W.tabObj (#v[]++more)):=C b _ z2;rw[i b g]at e;cases e;obtain⟨_,c,t⟩:=hT b g;exact .inr (.inl #[t.isCodeTable,zZ,#v[],more,zZ,e2])
    .obtain⟨e2,_⟩:=C b _ (un.frzs b _ _ z);rw[E]at e;cases e;exact .inl e2
def d5m{l:PySem.W.OpenLaw}{n k:Nat}{q:Pg}{i:Ss}{L:SV->Heap->Prop}{D:World->Heap->Prop}{d:DefRec}{K:Params->S4}{sp:World->Sp}{x:Str}{tabs:List (Str×Ad)}(M:l.most=some n) (y:n<=sizeLine) (z:d.params.defaults=[]) (N:Room k callerA) (O:∀(w:World) (h:Heap),D w h->(K w.params).In h)(hT:∀w:World,∀t∈tabs,(K w.params).lookup t.2=none/\(∃c,PySem.W.tabIn (K w.params) t.1=some (c,t.2))/\∃e,(recsOf q).find? (λr=>r.name==t.1)=some e)(F:∀(w:World) (mg:SV) (fa:Ad) (h:Heap),(K w.params).In h->h.Ns mainGlobals mg->mg d.name=some (.ref fa)->
   ∃A:Fd,(∀(s:Sh) (u:Vl),BindsTo s A #[[u],[]] [(x,u)])/\∀b:Heap,(K w.params).In b->b.Ns mainGlobals mg->oQ mg b->FnOk l.prog w (K w.params) mg b b9 k fa A [x] (sp w))(B:∀(w:World) (H:Hp) (a:Ad) (p:Zs),p.length<=n->(∀t∈tabs,H t.2=some (.tbl #v[]))->SqL (K w.params) H a (p.map V.int)->sp w [.ref a] H (λv _=>v=.bl true) λ_ _ _=>False):
  PySem.W.WalkO q i L D l.row.toRowW d [] (λf E=>PySem.call f E):=by
 refine Att.attach_call M z λw I J mg mb fa o pm cd Q a E p G Y ho hd T hmg m j g U=>?_;have KX:=O w _ Y;obtain⟨A,hb,hF⟩:=F w mg fa _ KX G.T.g hmg;refine Qd (tabs:=tabs.map (·.2)) KX G.T.g G.T.b G.T.builtins G.T.nolimit U G.T.bmain m j (cP g y) N (λq hq=>?_) hF hb (λH hH hS=>B w H a p g (λt ht=>hH _ (List.mem_map_of_mem ht)) hS);obtain⟨t,ht,rfl⟩:=b8.mp hq;obtain⟨h1,⟨c,h2⟩,e,h3⟩:=hT w t ht;obtain⟨C,eP⟩:=PySem.W.tab_of G.T KX h3 h2;exact#[h1,c,C.tab eP]
def sl(u v:bB):Prop:=u.length<v.length\/(u.length=v.length/\dF u v=true)
def j6{a b:Nat}{c d:bB}(h:a≠b):dF (a::c) (b::d)=decide (a<b):=by
 unfold dF;rw[gc,wA h];rfl
def rf{a:Nat}{c d:bB}:dF (a::c) (a::d)=dF c d:=by
 unfold dF;rw[gc,wB zZ];cases gc c d with
 |none=>simp
 |some b=>rfl
theorem JN:∀{i e j:bB},i.length=e.length->e.length=j.length->dF i e=true->dF e j=true->dF i j=true
 | [],[],_,_,_,h,_=>by rw[pK]at h;cases h
 | [],_::_,_,h,_,_,_=>by simp at h
 |_::_,[],_,h,_,_,_=>by simp at h
 |_::_,_::_,[],_,h,_,_=>by simp at h
 | a::i,b::e,c::j,l,m,f,d=>by
  by_cases k:a=b
  .subst k;rw[rf]at f;by_cases g:a=c
   .subst g;rw[rf]at d|-;exact JN (by simpa using l) (by simpa using m) f d
   .rw[j6 g]at d|-;exact d
  .rw[j6 k]at f;have n:a<b:=hE f;by_cases g:b=c
   .subst g;rw[j6 k];exact f
   .rw[j6 g]at d;have o:b<c:=hE d;rw[j6 ()];exact cG ()
theorem J5:∀{c d g i:bB},c.length=d.length->dF c d=true->dF (c++g) (d++i)=true
 | [],[],_,_,_,h=>by rw[pK]at h;cases h
 | [],_::_,_,_,h,_=>by simp at h
 |_::_,[],_,_,h,_=>by simp at h
 | a::c,b::d,g,i,j,e=>by
  by_cases f:a=b
  .subst f;rw[xo,xo,rf];rw[rf]at e;exact J5 (by simpa using j) e
  .rw[xo,xo,j6 f];rw[j6 f]at e;exact e
def SF(c:bB){a b:Nat}(h:a<b):dF (c++[a]) (c++[b])=true:=by
 induction c with
 |nil=>exact(j6 ()).trans (cG h)
 |cons x c d=>rw[xo,xo,rf];exact d
def x4{u v x:bB}(a:sl u v)(b:sl v x):sl u x:=by
 rcases a with a|⟨c,d⟩<;>rcases b with b|⟨e,f⟩
 .exact .inl ()
 .exact .inl ()
 .exact .inl ()
 .exact .inr #[(),JN c e d f]
def Bt{u:bB}(h:sl u u):False:=by
 rcases h with h|⟨_,h⟩
 .lia
 .rw[pK]at h;cases h
def JC{u v:bB}{a b:Nat}(h:sl u v):sl (u++[a]) (v++[b]):=by
 rcases h with h|⟨e,l⟩
 .exact .inl (by simp;lia)
 .exact .inr #[by simp[e],J5 e l]
def Gx(u:bB){a b:Nat}(h:a<b):sl (u++[a]) (u++[b]):= .inr #[by simp,SF u h]
def pz(u v:bB):Prop:=u=v\/sl u v
def LK{u v x:bB}(h1:pz u v)(h2:pz v x):pz u x:=by
 rcases h1 with rfl|h1
 .exact h2
 .rcases h2 with rfl|h2
  .exact .inr h1
  .exact .inr (x4 h1 h2)
def N1{u v:bB}{a:Nat}(h:pz u v):pz (u++[a]) (v++[a]):=by
 rcases h with rfl|h
 .exact .inl rfl
 .exact .inr (JC h)
section
variable(f:bB->Nat->List Nat)(L:Nat)(x0:bB)
abbrev TW:=List (bB×bB)
def cw(word:bB):bB:=word.foldl f x0
def Goes(a:TW)(p:bB×bB)(l:Nat):Prop:=∃u,(f p.1 l,u)∈a/\pz u (p.2++[l])
structure Told(ws:TW):Prop where
 head:ws[0]?=some (x0,[])
 keys:(ws.map (·.1)).Nodup
 run:∀p∈ws,(∀l∈p.2,l<L)/\cw f x0 p.2=p.1
 up:ws.Pairwise λp q=>sl p.2 q.2
 all:∀p∈ws,∀l,l<L->Goes f ws p l
 short:∀p∈ws,p.2.length<ws.length
structure Bfs(d:Nat)(ws wv fo:TW)(i j:Nat):Prop where
 head:ws[0]?=some (x0,[])
 keys:(ws.map (·.1)).Nodup
 run:∀p∈ws,(∀l∈p.2,l<L)/\cw f x0 p.2=p.1
 up:ws.Pairwise λp q=>sl p.2 q.2
 len:∀p∈ws,p.2.length<=d+1
 wave:∀p∈wv,p∈ws/\p.2.length=d
 wup:wv.Pairwise λp q=>sl p.2 q.2
 foll:∀p∈fo,p∈ws/\p.2.length=d+1
 fup:fo.Pairwise λp q=>sl p.2 q.2
 front:∀p∈ws,∀t,wv[i]?=some t->sl p.2 (t.2++[j])
 done:∀p∈ws,p∈fo\/(∃a,i<=a/\wv[a]?=some p)\/∀l,l<L->Goes f ws p l
 part:∀t,wv[i]?=some t->∀l,l<j->Goes f ws t l
 short:∀p∈ws,p.2.length<ws.length
variable{f L x0}{d i j:Nat}{ws wv fo:TW}{t:bB×bB}
def Goes.more{p q:bB×bB}{l:Nat}(h:Goes f ws p l):Goes f (ws++[q]) p l:=by
 obtain⟨u,a,b⟩:=h;exact#[u,oZ _ a,b]
def Bfs.start:Bfs f L x0 0 [(x0,[])] [(x0,[])] [] 0 0 where
 head:=rfl
 keys:=by simp
 run:=λp a=>by
  rw[ci.mp a];exact#[λ_ h=>(nomatch h),zZ]
 up:=td _ _
 len:=λp a=>by rw[ci.mp a];simp
 wave:=λp a=>#[a,by rw[ci.mp a];rfl]
 wup:=td _ _
 foll:=λ_ h=>nomatch h
 fup:= .nil
 front:=λp a t _=>by
  rw[ci.mp a];exact .inl (by simp)
 done:=λp a=> .inr (.inl #[0,bR _,by rw[ci.mp a];rfl])
 part:=λ_ _ _ h=>wC h (qm _)
 short:=λp a=>by rw[ci.mp a];simp
def Bfs.old(b:Bfs f L x0 d ws wv fo i j)(ht:wv[i]?=some t)(h:f t.1 j∈ws.map (·.1)):Bfs f L x0 d ws wv fo i (j+1):=by
 obtain⟨p,g,e⟩:=b8.mp h;refine {b with front:=λq k t' a=>?_,part:=λt' a l c=>?_}
 .exact x4 (b.front q k t' a) (Gx _ (rc _))
 .rcases Nat.lt_succ_iff_lt_or_eq.mp c with c|rfl
  .exact b.part t' a l c
  .rw[ht]at a;cases a;exact#[p.2,by rw[<-e];exact g,.inr (b.front p g t ht)]
def Bfs.new(b:Bfs f L x0 d ws wv fo i j)(ht:wv[i]?=some t)(o:j<L)(r:f t.1 j∉ws.map (·.1)):
  Bfs f L x0 d (ws++[(f t.1 j,t.2++[j])]) wv (fo++[(f t.1 j,t.2++[j])]) i (j+1):=by
 obtain⟨c,tl⟩:=b.wave t (cb ht);obtain⟨s,k⟩:=b.run t c;have m:(t.2++[j]).length=d+1:=by simp[tl]
 have e:0<ws.length:=C1 c;refine#[?_,?_,λp hp=>?_,?_,λp hp=>?_,λp hp=>#[oZ _ (b.wave p hp).1,(b.wave p hp).2],b.wup,λp hp=>?_,?_,λp hp u a=>?_,λp hp=>?_,λu a l hl=>?_,λp hp=>?_]
 .rw[dN e];exact b.head
 .rw[dC,yq];refine#[b.keys,by simp,λx v y n z=>?_];simp at n;subst n;exact r (z▸v)
 .rcases cF.mp hp with hp|hp
  .exact b.run p hp
  .rw[ci.mp hp];refine#[λl hl=>?_,?_]
   .rcases cF.mp hl with hl|hl
    .exact s l hl
    .rw[ci.mp hl];exact o
   .show cw f x0 (t.2++[j])=f t.1 j;unfold cw at k|-;rw[oJ,k];rfl
 .rw[iX];refine#[b.up,td _ _,λp hp q g=>?_];rw[ci.mp g];exact b.front p hp t ht
 .rcases cF.mp hp with hp|hp
  .exact b.len p hp
  .rw[ci.mp hp];exact tr m
 .rcases cF.mp hp with hp|hp
  .exact#[oZ _ (b.foll p hp).1,(b.foll p hp).2]
  .exact#[ga _ hp,by rw[ci.mp hp];exact m]
 .rw[iX];refine#[b.fup,td _ _,λp hp q g=>?_];rw[ci.mp g];exact b.front p (b.foll p hp).1 t ht
 .rw[ht]at a;cases a
  rcases cF.mp hp with hp|hp
  .exact x4 (b.front p hp t ht) (Gx _ (rc _))
  .rw[ci.mp hp];exact Gx _ (rc _)
 .rcases cF.mp hp with hp|hp
  .rcases b.done p hp with h|h|h
   .exact .inl (oZ _ h)
   .exact .inr (.inl h)
   .exact .inr (.inr λl hl=>(h l hl).more)
  .exact .inl (ga _ hp)
 .rw[ht]at a;cases a
  rcases Nat.lt_succ_iff_lt_or_eq.mp hl with hl|rfl
  .exact(b.part t ht l hl).more
  .exact#[t.2++[l],ga _ (ci.mpr zZ),.inl zZ]
 .rw[cI,yD]
  rcases cF.mp hp with hp|hp
  .exact A1 (b.short p hp)
  .rw[ci.mp hp];have z:=b.short t c;show(t.2++[j]).length<_
   rw[cI,yD];lia
def Bfs.next(b:Bfs f L x0 d ws wv fo i L)(ht:wv[i]?=some t):Bfs f L x0 d ws wv fo (i+1) 0:=by
 refine {b with front:=λp g n j=>?_,done:=λp g=>?_,part:=λ_ _ l k=>wC k (qm _)}
 .have m:=b.front p g t ht;have c:sl t.2 n.2:=by
   obtain⟨o,q⟩:=bU.mp ht;obtain⟨r,s⟩:=bU.mp j;rw[<-q,<-s];exact oi.mp b.wup i (i+1) o r (rc _)
  exact x4 m (JC c)
 .rcases b.done p g with h|⟨a,m,c⟩|h
  .exact .inl h
  .rcases Nat.eq_or_lt_of_le m with e|e
   .subst e;rw[ht]at c;cases c;exact .inr (.inr λl k=>b.part t ht l k)
   .exact .inr (.inl #[a,e,c])
  .exact .inr (.inr h)
def Bfs.wave'(b:Bfs f L x0 d ws wv fo wv.length 0):Bfs f L x0 (d+1) ws fo [] 0 0:=by
 refine#[b.head,b.keys,b.run,b.up,λp c=>Nat.le_succ_of_le (b.len p c),b.foll,b.fup,λ_ h=>(nomatch h),.nil,λp c t ht=>?_,λp c=>?_,λ_ _ l j=>wC j (qm _),b.short]
 .have i:=b.len p c;have g:=(b.foll t (cb ht)).2;exact .inl (by simp;lia)
 .rcases b.done p c with h|⟨a,i,g⟩|h
  .obtain⟨a,e⟩:=fB.mp h;exact .inr (.inl #[a,iW _,e])
  .rw[iM i]at g;cases g
  .exact .inr (.inr h)
def Bfs.told(b:Bfs f L x0 d ws [] [] 0 0):Told f L x0 ws:=#[b.head,b.keys,b.run,b.up,λp c=>by
 rcases b.done p c with h|⟨a,_,h⟩|h
 .nomatch h
 .simp at h
 .exact h,b.short]
theorem Told.least(T:Told f L x0 ws):∀(n:Nat) (v:bB),v.length=n->(∀l∈v,l<L)->∃u,(cw f x0 v,u)∈ws/\pz u v
 |0,v,a,_=>by
  have e:v=[]:=pU.mp a;subst e;exact#[[],cb T.head,.inl zZ]
 | n+1,v,a,c=>by
  obtain⟨b,l,rfl⟩:∃b l,v=b++[l]:=#[v.dropLast,v.getLast (by intro z;rw[z]at a;cases a),(GO _).symm];obtain⟨u,d,g⟩:=T.least n b (by simp at a;lia) λx h=>c x (List.mem_append_left _ h);obtain⟨i,j,k⟩:=T.all _ d l (c l (ga _ (ci.mpr zZ)));refine#[i,?_,LK k (N1 g)];have e:cw f x0 (b++[l])=f (cw f x0 b) l:=by
   unfold cw;rw[oJ];rfl
  rw[e];exact j
def wj{U:LN}(b:x0∈U)(c:∀x∈U,∀l,l<L->f x l∈U):∀word:bB,(∀l∈word,l<L)->cw f x0 word∈U:=by
 have go:∀(word:bB) (x:bB),x∈U->(∀l∈word,l<L)->word.foldl f x∈U:=by
  intro word
  induction word with
  |nil=>intro x a _;exact a
  |cons l word d=>intro x a h;exact d _ (c x a l (h l (cR ..))) λy e=>h y (dS _ e)
 exact λword h=>go word x0 b h
def nR{U:LN}{l:LN}(nd:l.Nodup)(h:∀x∈l,x∈U):l.length<=U.length:=wn nd h
end
def JZ{u v:bB}(a:sl u v)(b:sl v u):False:=Bt (x4 a b)
def P9{u v:bB}(h1:pz u v)(h2:pz v u):u=v:=by
 rcases h1 with h1|h1
 .exact h1
 .rcases h2 with h2|h2
  .exact h2.symm
  .exact(JZ h1 h2).elim
theorem Hf:∀{a b:TW},(a.Pairwise λp q=>sl p.2 q.2)->(b.Pairwise λp q=>sl p.2 q.2)->(∀p,p∈a↔p∈b)->a=b
 | [],[],_,_,_=>rfl
 | [],q::b,_,_,h=>wC ((h q).mpr (cR ..)) (by simp)
 |p::a,[],_,_,h=>wC ((h p).mp (cR ..)) (by simp)
 | p::a,q::b,g,i,h=>by
  obtain⟨d,j⟩:=ww.mp g;obtain⟨f,k⟩:=ww.mp i;have l:p=q:=by
   rcases cX.mp ((h p).mp (cR ..))with e|e
   .exact e
   .rcases cX.mp ((h q).mpr (cR ..))with e'|e'
    .exact e'.symm
    .exact(JZ (f p e) (d q e')).elim
  subst l;have rest:a=b:=Hf j k λr=>by
   constructor
   .intro c
    rcases cX.mp ((h r).mp (dS _ c))with e|e
    .subst e;exact(Bt (d r c)).elim
    .exact e
   .intro c
    rcases cX.mp ((h r).mpr (dS _ c))with e|e
    .subst e;exact(Bt (f r c)).elim
    .exact e
  rw[rest]
def Told.sub{f:bB->Nat->List Nat}{L:Nat}{b:bB}{g h:TW}(T:Told f L b g)(k:Told f L b h){p:bB×bB}(l:p∈g):p∈h:=by
 obtain⟨o,q⟩:=T.run p l;obtain⟨u,a,r⟩:=k.least _ p.2 zZ o;rw[q]at a;obtain⟨s,t⟩:=k.run _ a;obtain⟨v,m,n⟩:=T.least _ u zZ s;have e:cw f b u=p.1:=t;rw[e]at m;have same:v=p.2:=by
  obtain⟨i,c⟩:=fB.mp m;obtain⟨j,d⟩:=fB.mp l;have w:i=j:=(jf (by rw[bF];exact(bU.mp c).1) T.keys).mp (by rw[bZ,bZ,c,d];rfl);subst w;rw[c]at d;have z:=f' d;rw[<-z]
 rw[same]at n;have x:u=p.2:=P9 r n;rw[x]at a;exact a
def Told.uniq{f:bB->Nat->List Nat}{L:Nat}{b:bB}{c d:TW}(T:Told f L b c)(a:Told f L b d):c=d:=Hf T.up a.up λp=>#[λh=>T.sub a h,λh=>a.sub T h]
section
variable{P:Pg}{w:World}{A:Ar}{E:VP}{s:Sh}{f d:Ad}{i j:Nat}{p:Array DictEntry}
abbrev ko(k v:Vl):Obj:={cls:= .type "tuple",data:= .seq #v[k,v]}
abbrev qt(a:Vl)(b:Bool)(d:Ad)(i n j:Nat)(k v:Vl):Obj:={cls:= .type "dict_itemiterator",data:= .fields #v[a,.bool b,.ref d,.int i 0,.int n 0,.int j 0,k,v]}
def Lies(h:Heap)(d:Ad)(p:Array DictEntry)(j:Nat):Prop:=∃o,h.get? d=some o/\o.ExactDict/\o.data=.dict p j
def Goer(h:Heap)(f d:Ad)(i n j:Nat):Prop:=∃b c k v,h.get? f=some (qt b c d i n j k v)/\(b=.none\/∃a:Nat,b=rawInt a/\a≠f/\∃o,h.get? a=some o)
def Goer.keep{h m:Heap}{n:Nat}(g:Goer h f d i n j)(k:∀o,h.get? f=some o->m.get? f=some o)(l:∀b o,h.get? b=some o->∃r,m.get? b=some r):Goer m f d i n j:=by
 obtain⟨p,q,x,v,e,c⟩:=g;refine#[p,q,x,v,k _ e,c.imp id ?_];rintro⟨a,s,t,o,u⟩;exact#[a,s,t,l a o u]
def Oa{l:Vl}{g:Bool}{n:Nat}{C D k v:Vl}{Q:VP}(e:s.heap.get? f=some (qt l g d i n j C D))(c:l=.none\/∃a:Nat,l=rawInt a/\a≠f/\∃o,s.heap.get? a=some o)(q:∀y,Goer y f d i n j->y.get? s.heap.objs.size=some (ko k v)->(∀b o,b≠f->s.heap.get? b=some o->y.get? b=some o)->Q (.ref s.heap.objs.size) {s with heap:=y}):
  wpAny (model P w) A (Builtin.Dict_items.pairFromOwner (.ref f) 6 k v) Q E s:=by
 have lt:f<s.heap.objs.size:=cy e;unfold Builtin.Dict_items.pairFromOwner;refine bD (wpAny_newTuple ?_);have h:=cM (ko k v) e;have p:(s.heap.push (ko k v)).get? s.heap.objs.size=some (ko k v):=dG _ rfl;have B:∀b o,s.heap.get? b=some o->(s.heap.push (ko k v)).get? b=some o:=λb o z=>cM _ z;have G:s.heap.objs.size≠f:=n9 lt
 rcases c with rfl|⟨a,rfl,H,o,T⟩
 .have free:∀{R:Bool->Sh->Prop} {I:Sh},I.heap.get? f=some (qt .none g d i n j C D)->R true I->wpAny (model P w) A (Builtin.Dict_items.ownedTupleIsFree (.ref f)) R E I:=λe r=>by
   unfold Builtin.Dict_items.ownedTupleIsFree;exact bD (wu e zZ (x:= .none) zZ (bM r))
  refine bD (free h ?_);rw[wB zZ];refine bD (wu h zZ (x:=C) zZ (bD (wu h zZ (x:=D) zZ ?_)));refine bD (oh h (by simp) λN J t=>wpAny_bind (wpAny_setField_rec J (by simp) λh3 U Y=>?_));refine bD (oh U (by simp) λh4 e4 s4=>wpAny_bind (wpAny_setField_rec e4 (by simp) λh5 e5 s5=>wpAny_bind (wpAny_letGo (wpAny_pure ?_))));have O:=((t.trans Y).trans s4).trans s5;have u:=O.extBut _ _ G p;exact q h5 #[_,_,_,_,e5,.inr #[_,zZ,G,_,u]] u λb o L z=>O.extBut _ _ L (B b o z)
 .have M:=B a o T;refine bD (m:=Builtin.Dict_items.ownedTupleIsFree _) ?_;unfold Builtin.Dict_items.ownedTupleIsFree;refine bD (wu h zZ (x:=rawInt a) zZ ?_);have alive:∀{R:Option Obj->Sh->Prop},R (some o) {s with heap:=s.heap.push (ko k v)}->wpAny (model P w) A (loadIfAlive ((a:Int).toNat)) R E {s with heap:=s.heap.push (ko k v)}:=λ{R} r=>by
   rw[hY];exact λ_ _ _=>show R ((s.heap.push (ko k v)).get? a) _ by rw[M];exact r
  refine show wpAny _ _ (loadIfAlive ((a:Int).toNat) >>= _) _ _ _ from bD (alive ?_)
  refine bD (m:=field _ _) (wu h zZ (x:= .bool g) zZ ?_);cases g with
  |true=>exact bM (bM (q _ #[_,_,_,_,h,.inr #[a,zZ,H,o,M]] p λb o _ z=>B b o z))
  |false=>
   refine bD (m:=setField _ _ _) (oh h (by simp) λN J t=>wpAny_pure (wpAny_pure ?_));exact q N #[_,_,_,_,J,.inr #[a,zZ,H,o,t.extBut _ _ H M]] (t.extBut _ _ G p) λb o L z=>t.extBut _ _ L (B b o z)
end
section
variable{P:Pg}{w:World}{A:Ar}{E:VP}{s:Sh}{f d:Ad}{i h:Nat}{g:Array DictEntry}
def ML{j:DictEntry}{Q:Option Vl->Sh->Prop}(G:Goer s.heap f d i g.size h)(L:Lies s.heap d g h)(y:g[i]?=some j)(q:∀p,Goer p f d (i+1) g.size h->p.get? s.heap.objs.size=some (ko j.key j.val)->(∀b o,b≠f->s.heap.get? b=some o->p.get? b=some o)->Q (some (.ref s.heap.objs.size)) {s with heap:=p}):
  wpAny (model P w) A (pyNext (.ref f)) Q E s:=by
 obtain⟨r,t,J,M,e,c⟩:=G;obtain⟨o,B,_,C⟩:=L;have ty:s.TypeIs (.ref f) "dict_itemiterator":=#[_,e,zZ];have lt:i<g.size:=(zq.mp y).1;unfold pyNext;refine bD (qa (t7 (name:=Str.ofString "__next__") ty yy (lX yy ty GX ?_ (Hg _))));refine bD (bM (bD (bD ?_)));refine bD (CF ty (bM (bD (vm e zZ ?_))));have l:Builtin.Dict_items.ownsTuple "dict_itemiterator"=true:=by decide
 simp only[l,if_true];refine show wpAny _ _ (if(Value.ref d==Value.none)=true then _ else _) _ _ s from(wA (show ¬((Value.ref d==Value.none)=true)from fX))▸bD (bM (bD (tu B C ?_)))
 rw[wA (by simp)];refine bD (bM (bD (wx B C ?_)));rw[wA (by simp)];refine bM ?_;have u:(if((i:Nat):Int)<0 then none else g[((i:Nat):Int).toNat]?)=some j:=by
  rw[wA (),hY];exact y
 show wpAny _ _ (match (if((i:Nat):Int)<0 then none else g[((i:Nat):Int).toNat]?)with|some e=>_|none=>_) _ _ s;rw[u];refine bD (bD (CF ty (bM (bD (Gb ty ?_)))));refine show wpAny _ _ (setField (.ref f) 3 (rawInt ((i:Int)+1)) >>= _) _ _ s from bD (oh e (by simp) λk N v=>wpAny_bind (wpAny_holding ?_))
 have m:k.get? f=some (qt r t d (i+1) g.size h J M):=by
  have z:((i+1:Nat):Int)=(i:Int)+1:=by lia
  unfold qt;rw[z];simpa[rawInt]using N
 have n:Shared.TypeIs {s with heap:=k} (.ref f) "dict_itemiterator":=#[_,m,rfl];refine bD (Gb n (bD (Gb n ?_)));have sz:k.objs.size=s.heap.objs.size:=v.1;refine show wpAny _ _ (Builtin.Dict_items.pairFromOwner (.ref f) 6 j.key j.val) _ _ {s with heap:=k}from Oa (s:={s with heap:=k}) m (c.imp id ?_) λD O T U=>?_
 .rintro⟨a,Y,H,oa,z⟩;exact#[a,Y,H,oa,v.extBut _ _ H z]
 .have x:D.get? s.heap.objs.size=some (ko j.key j.val):=by rw[<-sz];exact T
  show wpAny _ _ (ret (.ref k.objs.size)) _ _ _;rw[sz];exact bM #[_,zZ,bM (q D O x λb o I z=>U b o I (v.extBut _ _ I z))]
def Ro{Q:Option Vl->Sh->Prop}(r:A.handled=none)(G:Goer s.heap f d i g.size h)(L:Lies s.heap d g h)(t:g[i]?=none)(q:∀l,Heap.ExtBut f s.heap l->Q none {s with heap:=l}):wpAny (model P w) A (pyNext (.ref f)) Q E s:=by
 obtain⟨u,v,B,C,e,c⟩:=G;obtain⟨o,n,_,p⟩:=L;have ty:s.TypeIs (.ref f) "dict_itemiterator":=#[_,e,zZ];unfold pyNext;refine bD (qa (t7 (name:=Str.ofString "__next__") ty yy (lX yy ty GX ?_ (Hg _))));refine bD (bM (bD (bD ?_)));refine bD (CF ty (bM (bD (vm e zZ ?_))));have j:Builtin.Dict_items.ownsTuple "dict_itemiterator"=true:=by decide
 simp only[j,if_true];refine show wpAny _ _ (if(Value.ref d==Value.none)=true then _ else _) _ _ s from(wA (show ¬((Value.ref d==Value.none)=true)from fX))▸bD (bM (bD (tu n p ?_)))
 rw[wA (by simp)];refine bD (bM (bD (wx n p ?_)));rw[wA (by simp)];refine bM ?_;have k:(if((i:Nat):Int)<0 then none else g[((i:Nat):Int).toNat]?)=none:=by
  rw[wA (),hY];exact t
 show wpAny _ _ (match (if((i:Nat):Int)<0 then none else g[((i:Nat):Int).toNat]?)with|some e=>_|none=>_) _ _ s;rw[k];refine bD (bD (CF ty (bM ?_)));refine show wpAny _ _ (setField (.ref f) 2 .none >>= _) _ _ s from bD (oh e (by simp) λD H x=>?_)
 refine bD (m:=newExc _ _) ?_;simp only[newExc,newTuple];refine bD (oR ?_ (by size_fits));refine bD (m:=firstArgMember _ _) (BL (a:=Value.none) (by first|rfl|(unfold firstArgMember;rfl)) (wpAny_newObj_type ?_ (by size_fits)));refine Ei (by simpa using r) (wpAny_bind (wpAny_isInstance (T:="StopIteration") (b:=true) #[_,Heap.get?_push_size _ zZ,zZ] isSubtype_stop (wpAny_pure ?_)));exact q _ λb o y z=>cM _ (cM _ (x.extBut b o y z))
end
structure PMade(es:Array DictEntry)(lo:Ad)(h:Heap)(as:As):Prop where
 far:∀a∈as,lo<a
 up:as.Pairwise (· < ·)
 is:∀(j:Nat) (a:Ad),as[j]?=some a->∃en:DictEntry,es[j]?=some en/\h.get? a=some (ko en.key en.val)
def PMade.nil{a:Array DictEntry}{lo:Ad}{h:Heap}:PMade a lo h []:=#[λ_ z=>(nomatch z),.nil,λ_ _ z=>by simp at z]
def PMade.here{c:Array DictEntry}{lo:Ad}{h:Heap}{b:As}(m:PMade c lo h b):∀a∈b,a<h.objs.size:=λa d=>by
 obtain⟨j,e⟩:=fB.mp d;obtain⟨_,_,g⟩:=m.is j a e;exact cy g
def PMade.keep{c:Array DictEntry}{lo:Ad}{h d:Heap}{f:As}(m:PMade c lo h f)(k:∀b o,lo<b->h.get? b=some o->d.get? b=some o):PMade c lo d f:=
 #[m.far,m.up,λj a e=>by
  obtain⟨i,x,g⟩:=m.is j a e;exact#[i,x,k a _ (m.far a (cb e)) g]]
def PMade.more{i:Array DictEntry}{lo a:Ad}{h:Heap}{d:As}{f:DictEntry}(m:PMade i lo h d)(o:lo<a)(new:∀b∈d,b<a)(x:i[d.length]?=some f)(g:h.get? a=some (ko f.key f.val)):PMade i lo h (d++[a]):=
  #[λb k=>by
    rcases cF.mp k with z|z
    · exact m.far b z
    · rw[ci.mp z];exact o,
   iX.mpr #[m.up,td _ _,λb k c p=>by rw[ci.mp p];exact new b k],
   λj b e=>by
    by_cases l:j<d.length
    · rw[dN l]at e
      exact m.is j b e
    · rw[dO (AU l)]at e
      obtain⟨z,n⟩:=bU.mp e;have r:j-d.length=0:=by simp at z;lia
      have q:j=d.length:=by lia
      subst q;simp at n;subst n;exact#[f,x,g]]
section
variable{P:Pg}{w:World}{A:Ar}{R:Result->Sh->Prop}{S I d:Ad}{g:Nat}{a:Array DictEntry}{f:Vl}
abbrev x6(h:Heap)(S:Ad)(a:AV)(c:Nat):Prop:=h.get? S=some {cls:= .type "list",data:= .seq a c}
def DW(U:A.handled=none)(H:S<I)(Y:d≠S)(dI:d≠I)(aa:a.size<=sizeLine):∀(r i:Nat) (s:Sh) (h:As) (c:Nat),i+r=a.size->h.length=i->Goer s.heap I d i a.size g->Lies s.heap d a g->
      x6 s.heap S (h.map Value.ref).toArray c->PMade a I s.heap h->
      (∀j bs v,bs.length=a.size->PMade a I j bs->x6 j S (bs.map Value.ref).toArray v->(∀b o,b≠S->b≠I->s.heap.get? b=some o->j.get? b=some o)->R (.ok (.ret f)) {s with heap:=j})->
      codeAny (model P w) A (.builtin "list.extend.loop" #[[.ref S,.ref I,f],[]]) R s:=by
  have k:S≠I:=dj H;intro r
  induction r with
  | zero=>
    intro i s h c hi y G L t M q;refine oq F.entry_extend_loop ?_;rw[pQ y7 _];refine show wpAny _ A.in1 (pyNext (.ref I) >>= _) _ _ s from bD (Ro (by simpa using U) G L (Array.getElem?_eq_none ()) λj x=>wpAny_pure ?_)
    exact q j h c () (M.keep λb o l e=>x b o (n9 l) e) (x S _ k t) λb o _ z e=>x b o z e
  | succ r ih=>
    intro i s h c hi y G L t M q;obtain⟨J,N⟩:∃J,a[i]?=some J:=#[a[i]'(),ke ()];have B:I<s.heap.objs.size:=by
      obtain⟨_,_,_,_,e,_⟩:=G;exact cy e
    have C:S<s.heap.objs.size:=cy t;refine oq F.entry_extend_loop ?_;rw[pQ y7 _];refine show wpAny _ A.in1 (pyNext (.ref I) >>= _) _ _ s from bD (ML G L N λm G1 p1 u=>?_)
    have n:=u S _ k t;refine show wpAny _ A.in1 (updateSeq S (·.push (Value.ref s.heap.objs.size)) >>= _) _ _ {s with heap:=m}from bD (AR n rfl (bM #[sv y7 _,?_]) ?_ ?_)
    · have off:∀b o,b≠S->m.get? b=some o->(m.update S (Obj.mapSeq (·.push (Value.ref s.heap.objs.size)))).get? b=some o:=λb o z e=>(lW _ _ (dM z)).trans e
      have p:=vo (Obj.mapSeq (·.push (Value.ref s.heap.objs.size))) n rfl;obtain⟨D,h0,x0,y0⟩:=L;have M1:PMade a I m h:=M.keep λb o l e=>u b o (n9 l) e
      refine ih (i+1) {s with heap:=m.update S (Obj.mapSeq (·.push (Value.ref s.heap.objs.size)))} (h++[s.heap.objs.size]) _ () (by simp[y]) (G1.keep (λo e=>off I o (Ne.symm k) e) λb o e=>?_)
        #[D,off d D Y (u d D dI h0),x0,y0] (by simpa[Obj.mapSeq,List.map_append]using p) ?_ λj bs v l' M' E k'=>q j bs v l' M' E λb o O Q e=>k' b o O Q (off b o O (u b o Q e))
      · by_cases T:b=S
        · subst T
          exact#[_,p]
        · exact#[o,off b o T e]
      · exact(M1.keep λb o l e=>off b o (n9 (Cg H l)) e).more B M.here (y▸N) (off _ _ (n9 C) p1)
    · simp;lia
    · simp;lia
end
section
variable{P:Pg}{w:World}{A:Ar}{E:VP}{s:Sh}{v d:Ad}{g:Nat}{f:Array DictEntry}
abbrev sk(d:Ad):Obj:={cls:= .type "dict_items",data:= .fields #v[.ref d]}
def Lies.typeIs{s:Sh}(L:Lies s.heap d f g):s.TypeIs (.ref d) "dict":=let⟨o,h,x,_⟩:=L;#[o,h,x.1]
def Oo{Q:VP}(nd:(d==sysModules)=false)(L:Lies s.heap d f g)(q:Q (.ref s.heap.objs.size) {s with heap:=s.heap.push (sk d)}):wpAny (model P w) A (call (.builtin "dict.items") [.ref d]) Q E s:=by
 refine call_meetsIn (S:=λ_ R s=>Lies s.heap d f g/\R (.ok (.ret (.ref s.heap.objs.size))) {s with heap:=s.heap.push (sk d)}) F.slot_dict_items L.typeIs F.entry_dict_items (F.args_dict_items_1 _) (.of_wp λA R s ⟨L,r⟩=>?_) #[L,q];unfold Builtin.«dict.items» Builtin.Dict.noArgs;refine bD (bD (wpAny_notOrdered_dict L.typeIs ?_));refine show wpAny _ _ (pure d) _ _ s from bM (show wpAny _ _ (Builtin.Dict.showsAll d >>= _) _ _ s from ?_)
 have all:Builtin.Dict.showsAll d=pure Unit.unit:=by
  unfold Builtin.Dict.showsAll;rw[nd];rfl
 rw[all];exact bD (bM (bD (oR (bM #[_,zZ,r]))))
def LF{Q:VP}(a:s.heap.get? v=some (sk d))(L:Lies s.heap d f g)(q:Q (.ref s.heap.objs.size) {s with heap:=s.heap.push (qt .none false d 0 f.size g .none .none)}):wpAny (model P w) A (pyIter (.ref v)) Q E s:=by
 have ty:s.TypeIs (.ref v) "dict_items":=#[_,a,zZ];obtain⟨o,b,_,c⟩:=L;refine vz ty F.slot_dict_items_iter (lX F.slot_dict_items_iter ty F.entry_dict_items_iter ?_ (F.args_dict_items_iter_1 _));unfold Builtin.«dict_items.__iter__» Builtin.Dict_items.dictOf Builtin.Dict_items.newIterator;refine bD (bM (bD (bD (wu a zZ (x:= .ref d) zZ (bM (bD (bD (tu b c (bD (wx b c ?_))))))))));refine show wpAny _ _ (newFields "dict_itemiterator" [.none,.bool false,.ref d,rawInt 0,rawInt (f.size:Nat),rawInt (g:Nat),.none,.none]) _ _ s from oR (bM #[_,zZ,"dict_itemiterator",_,#[_,dG _ zZ,zZ],yy.lookup,q]) (by size_fits)
def Ry{Q:Bool->Sh->Prop}(ty:s.TypeIs (.ref v) "dict_items")(q:Q false s):wpAny (model P w) A (Builtin.List.listLengthHint (.ref v)) Q E s:=PySem.W.kdx_hint ty q
def Sk{Q:VP}(hh:A.handled=none)(Y:s.heap.get? v=some (sk d))(L:Lies s.heap d f g)(H:f.size<=sizeLine)(q:∀j n c k,n.length=f.size->PMade f s.heap.objs.size j n->x6 j s.heap.objs.size (n.map Value.ref).toArray c->(∀b o,s.heap.get? b=some o->j.get? b=some o)->Q (.ref s.heap.objs.size) {s with heap:=j,toks:=k}):
  wpAny (model P w) A (call (.type "list") [.ref v]) Q E s:=by
 let S:=s.heap.objs.size
 obtain⟨o,I,x,hd⟩:=id L;have ld:d<S:=cy I;have lv:v<S:=cy Y;refine callType_codes (Q₁:=λp t=>p=.ref S/\t={s with heap:=s.heap.push {cls:= .type "list",data:= .seq #v[]}}) F.called_list (F.typeCall_list_1 _) F.entry_list_init (code_list_new _ #[rfl,rfl]) λp s1 z=>?_;obtain⟨rfl,rfl⟩:=z;have G:x6 (s.heap.push {cls:= .type "list",data:= .seq #v[]}) S #v[] 0:=dG _ rfl;refine#[#[_,G,zZ],F.args_list_init_2 _ _,?_];unfold Builtin.«list.__init__» Builtin.List.listItems;refine bD (bD (wpAny_seqItems G zZ (bM ?_)));refine bD (m:=updateSeq S _) (AR G zZ (bD (wpAny_letGo ?_)));have J:=vo (Obj.mapSeq (λ_=>(#v[]:AV))) G rfl
 let u:=(s.heap.push {cls:= .type "list",data:= .seq #v[]}).update S (Obj.mapSeq (λ_=>(#v[]:AV)))
 have M:∀b o,s.heap.get? b=some o->u.get? b=some o:=λb o e=>(lW _ _ (n9 (cy e))).trans (cM _ e);have N:u.objs.size=S+1:=by
  show(Heap.update _ _ _).objs.size=_;simp[Heap.update,Heap.push,S]
 have go:∀(l:Heap) (c k:Nat),x6 l S #v[] c->(∀b o,b≠S->(u.push (qt .none false d 0 f.size g .none .none)).get? b=some o->l.get? b=some o)->
   codeAny (model P w) A.in1 (.builtin "list.extend.loop" #[[.ref S,.ref u.objs.size,.none],[]]) (wants (λr y=>r=Value.none/\Q (Value.ref S) y) E) {s with heap:=l,toks:=k}:=λl c k l2 k2=>by
  have B:S<u.objs.size:=by rw[N];exact rc _
  have C:∀b o,s.heap.get? b=some o->l.get? b=some o:=λb o e=>k2 b o (dj (cy e)) (cM _ (M b o e));refine DW (by simpa using hh) B (Nat.ne_of_lt ld) (Nat.ne_of_lt (Nat.lt_trans ld B)) H f.size 0 {s with heap:=l,toks:=k} [] c () rfl #[_,_,_,_,k2 _ _ (Nat.ne_of_gt B) (Heap.get?_push_size _ rfl),.inl rfl] #[o,C d o I,x,hd] l2 .nil λj n c' l' O U k'=>?_;refine#[zZ,q j n c' k l' #[λa ha=>Cg B (O.far a ha),O.up,O.is] U λb o e=>?_];have lb:b<S:=cy e;exact k' b o (dj lb) (dj (Cg lb B)) (C b o e)
 refine show wpAny _ _ (Builtin.List.listExtendWith (.ref S) (.ref v) .none) _ _ _ from ?_
 unfold Builtin.List.listExtendWith;have h:=M v _ Y;refine bD (wpAny_typeOf (T:="dict_items") #[_,h,zZ] ?_);have no:(Builtin.List.listSameRef (.ref S) (.ref v) || Value.type "dict_items"==Value.type "list" || Value.type "dict_items"==Value.type "tuple")=false:=by
  have z:Builtin.List.listSameRef (.ref S) (.ref v)=false:=by simp[Builtin.List.listSameRef,Nat.ne_of_gt lv]
  rw[z];decide
 rw[no,wA (by decide)];refine bD (LF h #[o,M d o I,x,hd] (bD (iQ (Ry #[_,cM _ h,zZ] ?_))));have i:=cM (qt .none false d 0 f.size g .none .none) J;refine FA (λ_=>?_) λ_=>bM #[sv y7 _,go _ _ _ i λ_ _ _ e=>e];unfold Builtin.List.listTouch Builtin.List.listUpdate;refine bD (ph (bD (bD (m:=updateSeq S _) (AR i zZ ?_))));have D:=vo (Obj.mapSeq (·.push Value.none)) i rfl;refine show wpAny _ _ (updateSeq S (·.pop)) _ _ _ from AR (hz:=by seq_fits) D zZ (bM #[sv y7 _,go _ _ _ (vo (Obj.mapSeq (·.pop)) D zZ) λb o nb e=>?_])
 rw[lW _ _ (dM nb),lW _ _ (dM nb)];exact e
end
def pN(H:Hp):List (Ad×HO)->Hp
 | []=>H
 |p::l=>pN (bC H p.1 p.2) l
theorem D1:∀{l:List (Ad×HO)} {H:Hp} {b:Ad},(∀p∈l,b≠p.1)->pN H l b=H b
 | [],_,_,_=>rfl
 |p::l,H,b,n=>by
  show pN (bC H p.1 p.2) l b=_;rw[D1 λq a=>n q (dS _ a),bL (n p (cR ..))]
theorem Dd:∀{l:List (Ad×HO)} {H:Hp} {p:Ad×HO},(l.map (·.1)).Nodup->p∈l->pN H l p.1=some p.2
 | q::l,H,p,nd,hp=>by
  obtain⟨a,b⟩:=lE.mp nd
  rcases cX.mp hp with rfl|hp
  .show pN (bC H p.1 p.2) l p.1=_;rw[D1 λr c z=>a (b8.mpr #[r,c,z.symm]),bG]
  .exact Dd (l:=l) b hp
def Cq{c d:Type}{F:c->d->Prop}{l:List c}{m:List d}{j:Nat}{a:c}(r:Paired F l m)(e:l[j]?=some a):∃b,m[j]?=some b/\F a b:=by
 induction r generalizing j with
 |nil=>simp at e
 | cons h _ f=>
  cases j with
  |zero=>
   have z:=f' e;subst z;exact#[_,zZ,h]
  |succ j=>exact f (by simpa using e)
section
variable{X:Cx}
theorem Inv.tracks{a:AO}{c:St}{h:Hp}{s s1:Sh}(I:Inv X a c h s):∀(l:List (Ad×HO)) (H:Hp),Inv X a c H s1->(∀p∈l,s.heap.objs.size<=p.1/\H p.1=none/\∀i,ObjOk X.prog X.w i s1.heap p.1 p.2)->(l.map (·.1)).Nodup->
  Inv X a c (pN H l) s1
 | [],_,d,_,_=>d
 |p::l,H,d,ok,nd=>by
  obtain⟨j,k⟩:=lE.mp nd;obtain⟨f,n,o⟩:=ok p (cR ..);obtain⟨u,m,v,w,r,t⟩:=I.fpOk (b:=p.1) (H':=H) f n;refine Inv.tracks I l _ (d.track n (o _) (cP I.sz f) m r t) (λq g=>?_) k;obtain⟨x,y,z⟩:=ok q (dS _ g);exact#[x,by rw[bL λe=>j (b8.mpr #[q,g,e])];exact y,z]
structure Listed(H H':Hp)(kvs:List (List cD×V))(l:Ad)(as:As):Prop where
 new:H l=none
 news:∀a∈as,H a=none
 out:l∉as
 nd:as.Nodup
 len:as.length=kvs.length
 lst:H' l=some (.lst (as.map .ref))
 is:∀(j:Nat) (a:Ad),as[j]?=some a->∃k v b,kvs[j]?=some (k,v)/\H b=some (.tup (k.map kV))/\H' a=some (.tup [.ref b,v])
 rest:∀b,b≠l->b∉as->H' b=H b
def zD(v d:Ad):HO:= .ext λh=>h.get? v=some (sk d)
def So:V->List V->Hp->VK->Prop:=λx c H Q=>c=[]/\∃a b,x=.ref a/\H a=some (.dT b)/\∀v,H v=none->Q (.ref v) (bC H v (zD v a))
def PQ:mP X "dict.items" So:=by
 intro n s p H x r u t Q I b c h;obtain⟨rfl,a,d,rfl,f,q⟩:=h;cases b;cases c;obtain⟨z,g,v,i,o,w,A,j,l,m,_⟩:=I.hok a _ f;refine Oo g #[o,j,l,m] #[.ref s.heap.objs.size,_,I.laid (a:=s.heap.objs.size) (o:=zD s.heap.objs.size a) (t':=s.toks) (λ_ _ q=>cM _ q) (bR _) ?_,zZ,q _ I.fresh];have e:(s.heap.push (sk a)).get? s.heap.objs.size=some (sk a):=dG _ rfl;exact#[e,#[_,e],λB C y k=>k _ y]
inductive gq(c:List V)(H:Hp)(Q:VK):Prop|mk:∀v a b,c=[.ref v]->H v=some (zD v a)->H a=some (.dT b)->(∀l e d,Listed H d b l e->Q (.ref l) d)->gq c H Q
def Sg(hc:X.calm=true):hA X (.type "list") gq:=by
 intro za s σ H xs us Q I r h;obtain⟨v,a,t,rfl,hv,ha,q⟩:=h;obtain⟨u,rfl,ru⟩:=gA r;cases ru;obtain⟨ev,_,_⟩:=I.hok v _ hv;obtain⟨z,na,ys,E,o,es,ep,e1,e2,e3,e4,_⟩:=I.hok a _ ha;have el:es.size=t.length:=by rw[Bv e4,<-oM E]
 refine Sk (I.ok.hd hc) ev #[o,e1,e2,e3] () λD f c tk ln M lS k=>?_;have I1:Inv X za σ H {s with heap:=D,toks:=tk}:=I.kept k;have big:∀b,s.heap.objs.size<=b->H b=none:=λb n=>I.hok.fresh n;have nd:f.Nodup:=M.up.imp λz=>dj z;have A:s.heap.objs.size∉f:=λm=>mR _ (M.far _ m);have G:∀(j:Nat) (b:Ad),f[j]?=some b->∃k x y,t[j]?=some (k,x)/\H y=some (.tup (k.map kV))/\∃u,RelV x u/\D.get? b=some (ko (.ref y) u):=λj b d=>by
  obtain⟨en,ee,g⟩:=M.is j b d;obtain⟨jl,_⟩:=bU.mp d;obtain⟨⟨k,x⟩,ek⟩:∃p,t[j]?=some p:=#[_,bE ()];obtain⟨⟨k',y,u⟩,ey,p1,p2,p3⟩:=Cq E ek;rw[entry_at e4,ey]at ee;cases ee;exact#[k,x,y,ek,p2,u,p3,g]
 have w:∀b,∃o:HO,∀j:Nat,f[j]?=some b->∃k x y,t[j]?=some (k,x)/\H y=some (.tup (k.map kV))/\o=.tup [.ref y,x]/\∃u,RelV x u/\D.get? b=some (ko (.ref y) u):=λb=>by
  by_cases n:b∈f
  .obtain⟨j,d⟩:=fB.mp n;obtain⟨k,x,y,L,N,u,O,T⟩:=G j b d;refine#[.tup [.ref y,x],λi ei=>?_];have ij:j=i:=jf (bU.mp d).1 nd |>.mp (d.trans ei.symm)
   subst ij;exact#[k,x,y,L,N,zZ,u,O,T]
  .exact#[.tup [],λj d=>wC (cb d) n]
 let J:Ad->HO:=λb=>Classical.choose (w b)
 have B:∀(j:Nat) (b:Ad),f[j]?=some b->∃k x y,t[j]?=some (k,x)/\H y=some (.tup (k.map kV))/\J b=.tup [.ref y,x]/\∃u,RelV x u/\D.get? b=some (ko (.ref y) u):=λj b d=>ss (w b) j d;have C:(f.map λb=>(b,J b)).map (·.1)=f:=by simp[List.map_map,Function.comp_def]
 have U:∀b∈f,∀Y,ObjOk X.prog X.w Y D b (J b):=λb n Y=>by
  obtain⟨j,d⟩:=fB.mp n;obtain⟨k,x,y,L,N,O,u,T,h5⟩:=B j b d;rw[O];exact#[by show 2<=sizeLine;decide,[.ref y,u],.cons zZ (.cons T .nil),_,h5,zZ,0,zZ,zZ]
 have vs:∀l:As,Vals (l.map V.ref) (l.map Value.ref):=λl=>by
  induction l with
  |nil=>exact .nil
  |cons x l ih=>exact .cons zZ ih
 have I2:=Inv.tracks (s1:={s with heap:=D,toks:=tk}) I ((s.heap.objs.size,.lst (f.map .ref))::f.map λb=>(b,J b)) H I1 (λp hp=>by
   rcases cX.mp hp with rfl|hp
   .exact#[bR _,big _ (bR _),λY=>#[by rw[bF];lia,_,c,vs f,lS]]
   .obtain⟨b,n,rfl⟩:=b8.mp hp;exact#[eM (M.far b n),big _ (eM (M.far b n)),U b n]) (by
   rw[gv,C];exact lE.mpr #[A,nd])
 refine#[.ref s.heap.objs.size,_,I2,zZ,q _ f _ #[big _ (bR _),λb n=>big _ (eM (M.far b n)),A,nd,(),?_,λj b d=>?_,λb L N=>?_]]
 .exact Dd (p:=(s.heap.objs.size,.lst (f.map .ref))) (by rw[gv,C];exact lE.mpr #[A,nd]) (cR ..)
 .obtain⟨k,x,y,g1,g2,g3,_⟩:=B j b d;refine#[k,x,y,g1,g2,?_];rw[<-g3];exact Dd (p:=(b,J b)) (by rw[gv,C];exact lE.mpr #[A,nd]) (dS _ (b8.mpr #[b,cb d,zZ]))
 .refine D1 λp hp=>?_
  rcases cX.mp hp with rfl|hp
  .exact L
  .obtain⟨y,hy,rfl⟩:=b8.mp hp;exact λe=>N (e▸hy)
end
def a4k(b:TW)(c:As):List (List cD×V):=List.zipWith (λp a=>(nk p.1,V.ref a)) b c
def DM{ws:TW}{as:As}{p:bB×bB}{a:Ad}(h:as.length=ws.length):a4k (ws++[p]) (as++[a])=a4k ws as++[(nk p.1,.ref a)]:=by
 unfold a4k;rw[List.zipWith_append h.symm];rfl
def J'{a:TW}{b:As}(h:b.length=a.length):(a4k a b).length=a.length:=by
 unfold a4k;rw[AQ];lia
def RF{b:TW}{c:As}{j:Nat}{p:bB×bB}{a:Ad}(d:b[j]?=some p)(e:c[j]?=some a):(a4k b c)[j]?=some (nk p.1,.ref a):=by
 unfold a4k;rw[FQ,d,e]
theorem ut:∀{b:TW} {c:As} {x:bB},x∉b.map (·.1)->hG (a4k b c) (nk x)=none
 | [],_,_,_=>rfl
 |_::_,[],_,_=>rfl
 |p::b,a::c,x,h=>by
  have d: ¬(nk p.1:List cD)=nk x:=λz=>h (b8.mpr #[p,cR ..,By z]);exact(z7 (p:=(nk p.1,V.ref a)) (r:=a4k b c) d).trans (ut λz=>h (dS _ z))
theorem Cj:∀{c:TW} {d:As} {j:Nat} {p:bB×bB} {a:Ad},(c.map (·.1)).Nodup->c[j]?=some p->d[j]?=some a->hG (a4k c d) (nk p.1)=some (.ref a)
 |q::c,b::d,0,p,a,_,e,f=>by
  cases e;cases f;exact A3 (p:=(nk q.1,V.ref b)) (r:=a4k c d) rfl
 |q::c,b::d,j+1,p,a,nd,e,f=>by
  obtain⟨h,i⟩:=lE.mp nd;have g:c[j]?=some p:=by simpa using e
  have n: ¬(nk q.1:List cD)=nk p.1:=λz=>h (b8.mpr #[p,cb g,(By z).symm]);exact(z7 (p:=(nk q.1,V.ref b)) (r:=a4k c d) n).trans (Cj i g (by simpa using f))
 | [],_,_,_,_,_,e,_=>by simp at e
 |_::_,[],_,_,_,_,_,f=>by simp at f
structure WordsAt(H:Hp)(D:Ad)(ws:TW)(as:As):Prop where
 len:as.length=ws.length
 dict:H D=some (.dT (a4k ws as))
 list:∀(j:Nat) (a:Ad) (p:bB×bB),as[j]?=some a->ws[j]?=some p->H a=some (.lst (p.2.map nv))
def WordsAt.same{H b:Hp}{D:Ad}{c:TW}{d:As}(W:WordsAt H D c d)(g:Same H b):WordsAt b D c d:=#[W.len,g _ _ W.dict,λj a p e f=>g _ _ (W.list j a p e f)]
def WordsAt.word{H:Hp}{D:Ad}{b:TW}{c:As}{p:bB×bB}(W:WordsAt H D b c)(nd:(b.map (·.1)).Nodup)(f:p∈b):∃a,hG (a4k b c) (nk p.1)=some (.ref a)/\H a=some (.lst (p.2.map nv)):=by
 obtain⟨j,e⟩:=fB.mp f;obtain⟨g,_⟩:=bU.mp e;obtain⟨a,d⟩:∃a,c[j]?=some a:=#[_,bE (by rw[W.len];exact g)];exact#[a,Cj nd e d,W.list j a p d e]
def WordsAt.put{H:Hp}{D l:Ad}{c:TW}{e:As}{p:bB×bB}(W:WordsAt H D c e)(f:H l=some (.lst (p.2.map nv))):WordsAt (bC H D (.dT (a4k c e++[(nk p.1,.ref l)]))) D (c++[p]) (e++[l]):=by
 have g:∀{a:Ad} {k:List V},H a=some (.lst k)->a≠D:=λh=>nE h W.dict;refine#[by simp[W.len],by rw[bG,DM W.len],λj a q d b=>?_];by_cases i:j<c.length
 .rw[dN (by rw[W.len];exact i)]at d;rw[dN i]at b;have z:=W.list j a q d b;rw[bL (g z)];exact z
 .rw[dO (by rw[W.len];lia)]at d;rw[dO ()]at b;have z:j-c.length=0:=by
   have:=(bU.mp b).1;simp at this;lia
  rw[W.len,z]at d;rw[z]at b;cases d;cases b;rw[bL (g f)];exact f
def noT(H:Hp):Hp:=λa=>match H a with
 |some (.tbl _)=>none
 |o=>o
def qo{H:Hp}{a:Ad}{o:HO}(h:H a=some o)(n:∀b,o≠ .tbl b):noT H a=some o:=by
 unfold noT;rw[h];cases o<;>first|rfl|exact wC zZ (n _)
def OY:HO->Bool
 |.tbl _=>true
 |_=>false
def nU{H:Hp}{a:Ad}{o:HO}(h:H a=some o)(d:OY o=false:=by rfl):noT H a=some o:=qo h λb e=>by subst e;cases d
def vx{H:Hp}{a:Ad}{o:HO}(h:noT H a=some o):H a=some o/\∀b,o≠ .tbl b:=by
 unfold noT at h;split at h
 .cases h
 .rename_i n
  exact#[h,λb z=>n b (by rw[h,z])]
def IT{H:Hp}{a:Ad}(h:H a=none):noT H a=none:=by
 unfold noT;rw[h]
def Keeps(H a:Hp):Prop:=Same (noT H) a
def Same.keeps{H b:Hp}(g:Same H b):Keeps H b:=λa o h=>g a o (vx h).1
def Keeps.refl(H:Hp):Keeps H H:=(Same.refl H).keeps
def Keeps.trans{H d e:Hp}(a:Keeps H d)(b:Keeps d e):Keeps H e:=λc o h=>b c o (qo (a c o h) (vx h).2)
def TabOk(a:Str)(b:Pos)(H:Hp)(T:Ad):Prop:=H T=some (.tbl #v[])\/∃c,H T=some (.tbl (jv b c))/\H c=some (j9 c a)
def TabOk.same{a:Str}{b:Pos}{H c:Hp}{T:Ad}(t:TabOk a b H T)(g:Same H c):TabOk a b c T:=by
 rcases t with t|⟨d,e,f⟩
 .exact .inl (g _ _ t)
 .exact .inr #[d,g _ _ e,g _ _ f]
def DefAt(K:S4)(x:Str)(st:Stmt)(f:Ad)(b:Fd)(g e:Vl):Prop:=
 PySem.W.codeIn K e x=true/\(∃kV a pm h i,b=PySem.W.fnOf x x (jy st) (iD st) (bT st) g kV a pm h e i)/\∃c d sl,K.lookup f=some #[c,d,.func b,sl]
section
variable{P:Pg}{w:World}{K:S4}{mg:SV}{a:Heap}{x:Str}{st:Stmt}{f:Ad}{l:Fd}{n m:Vl}{N i:Ss}{k:Nat}{g:Sp}
def Rq(P:Pg)(w:World)(K:S4)(mg:SV)(a:Heap)(x:Str)(st:Stmt)(f:Ad)(m:Vl)(N:Ss)(k:Nat)(g:Sp):Prop:=
 ∀A b s H c Q E,g c H Q E->Room k (A.deeper (envOfC x (bT st) s.heap.objs.size f m))->∃t:TS,t #[λ_ d=>Q .non d,Q,λ_ _=>False,λ_ _=>False] (start N c) H/\PSs (ul b9 P w K mg a N x (bT st) f m A b s H E).nox (iD st) t
def DefAt.fnOk(d:DefAt K x st f l n m)(p:FnScope N i (bT st))(len:∀j H Q E,g j H Q E->j.length=i.length)(b:Rq P w K mg a x st f m N k g):FnOk P w K mg a b9 (k+1) f l i g:=by
 obtain⟨c,⟨kV,r,pm,v,y,rfl⟩,_,_,_,lk⟩:=d;refine J1 lk c p len λA e s H j Q E u o=>?_;obtain⟨t,q,h⟩:=b A e s H j Q E o u;exact#[t,h.nox,q]
def Cv(P:Pg)(w:World)(K:S4)(mg:SV)(a:Heap)(x:Str)(k:Nat)(i:Ss)(g:Sp)(b:List V):Prop:=
 ∃f l c,FnOk P w K mg a b9 k f l i g/\mg x=some (.ref f)/\PySem.W.keepIn K (.ref f)=true/\Binds K l i c/\Vals b c
def JT{X:Cx}{x y:Str}{k j:Nat}{i:Ss}{g:Sp}{c:Ad}{a:List V}{e:Expr}{b:List Expr}{t:TA}{p d:Pos}(q:Cv X.prog X.w X.K X.mg X.base x k i g a)(r:Room k X.A)(s:Gl X x)(u:X.N[j]?=some y)(v:X.env.cells.lookup y=some c)(h:X.env.scope.names.lookup y=some .cell) (m:X.fn y=true) (w:PA X (e::b) t) (n:(x==("__debug__":Str))=false:=by decide) (z:starEach (e::b) X.env=(false,eval e X.env)::starEach b X.env:=by rfl)
  (o:(backTo d (starEach b X.env)).any (·.1)=false:=by rfl):PE X (.Call (.Name x p) (e::b) [] d) (IF g a j c t):=by
 obtain⟨f,l,E,F,A,B,C,D⟩:=q;exact RN F r s A B C D u v h m w n z o
end
section
variable{X:Cx}
def HA(d e:TE):TE:=λc H Q=>∀p,H p=none->d c (bC H p (.dT [])) λx f=>e c f λy a=>a p=some (.dT [])/\∃b k,x=.ref b/\a b=some (.tup (k.map kV))/\Q (.ref p) (bC a p (.dT [(k,y)]))
def QD{k v:Expr}{A B:TE}{pos:Pos}(hu:X.A.units+1<cLine)(D:PE X k A)(E:PE X v B):PE X (.Dict [some k] [v] pos) (HA A B):=by
 intro J s L H Q I q;have M:=I.hok.fresh (bR s.heap.objs.size);have N:=I.laid (a:=s.heap.objs.size) (o:= .dT []) (h':=s.heap.push {cls:= .type "dict",data:= .dict #v[]}) (t':=s.toks) (λ_ _ q=>cM _ q) (bR _) (HN s.heap I.big);have pairs:=RQ (X:=X) (pos:=pos) D E L8;have O:=q s.heap.objs.size M;rw[arm_eval_Dict];refine bD (Bc ?_);have d:(evalEachOpt [some k] X.env).zip ((evalEach [v] X.env).map λv=>do let x <-v;standAt pos;pure x)=(pairTrees [some k] [v] X.env pos).map λp=>(some p.1,p.2):=rfl;rw[d,dictDisplay_pairs _ (by intro z;cases z) (by show 1<17;decide)];refine bD ?_;unfold subDict;refine bD (wpAny_alloc (bD (iQ ?_)));rw[wB (by show 1<=15;decide)]
 let G:List (V×V)->Hp->Prop:=λf i=>match f with| [(x,y)]=>i s.heap.objs.size=some (.dT [])/\∃b k,x=.ref b/\i b=some (.tup (k.map kV))/\Q (.ref s.heap.objs.size) (bC i s.heap.objs.size (.dT [(k,y)]))|_=>False
 refine bD (bW (pairs J _ L _ G N O) λT s2 ⟨f,i,l,m,g⟩=>?_);obtain⟨x,y,rfl⟩:∃x y,f=[(x,y)]:=by
  cases f with
  |nil=>exact wE g
  |cons p f=>
   cases f with
   |nil=>exact#[p.1,p.2,zZ]
   |cons _ _=>exact wE g
 obtain⟨e,b,c,rfl,n,U⟩:=g;obtain⟨u,r,rfl,Y,rr⟩:∃u r,T=[(u,r)]/\RelV (.ref b) u/\RelV y r:=by
  cases m with
  | @cons _ q _ qs h t=>
   cases t;exact#[q.1,q.2,zZ,h.1,h.2]
 cases Y;obtain⟨z,hd,xs,kt,dd⟩:=Gz l.hok e;cases kt;refine iQ ?_;simp only[List.forIn_cons,List.forIn_nil];refine bD (bD (bD (wpAny_dictSet_heap (show X.A.units<cLine by lia) (vh l.hok n) dd (λh' w hs=>?_) (by show 0<=_;exact iW _))));refine bM (bM (bM (bM ?_)));obtain⟨o,es,ep,C,h2,h3,h4,_,h5⟩:=w;have j:bC i s.heap.objs.size (.dT [(c,y)]) b=some (.tup (c.map kV)):=by
  rw[bL (nE n e)];exact n
 have ok:ObjOk X.prog X.w (bC i s.heap.objs.size (.dT [(c,y)])) h' s.heap.objs.size (.dT [(c,y)]):=#[by show 1<=sizeLine;decide,hd,_,.cons #[zZ,j,rr] .nil,o,es,ep,C,h2,h3,h4,h5];exact bM #[.ref s.heap.objs.size,_,Em l (by rw[e];exact True.intro) hs #[o,C] ok,rfl,U]
end
inductive dW(b:List V)(H:Hp)(Q:VK)(a:XK):Prop|mk:∀d:Ad,b=[.ref d,.non]->Q .non H->dW b H Q a
inductive dL(G:Hp->Prop)(U:LN)(L:Nat)(g:bB->Nat->List Nat)(b:List V)(H:Hp)(Q:VK)(a:XK):Prop|mk:∀(t:Ad) (x:bB) (l:Nat),b=[.ref t,nv l]->G H->H t=some (.tup (x.map nv))->x∈U->l<L->xT H ((g x l).map nv) Q->dL G U L g b H Q a
def ThAt(H:Hp)(l:Ad)(b:TW):Prop:=∃a:As,H l=some (.lst (a.map .ref))/\a.length=b.length/\∀(j:Nat) (t:Ad) (p:bB×bB),a[j]?=some t->b[j]?=some p->H t=some (.tup (p.1.map nv))
def ThAt.same{H a:Hp}{l:Ad}{b:TW}(h:ThAt H l b)(g:Same H a):ThAt a l b:=by
 obtain⟨c,d,e,f⟩:=h;exact#[c,g _ _ d,e,λj t p i k=>g _ _ (f j t p i k)]
def ThAt.more{H:Hp}{l t:Ad}{c:TW}{d:As}{p:bB×bB}(i:H l=some (.lst (d.map .ref)))(f:d.length=c.length)(k:∀(j:Nat) (t:Ad) (p:bB×bB),d[j]?=some t->c[j]?=some p->H t=some (.tup (p.1.map nv)))(ht:H t=some (.tup (p.1.map nv))):
  ThAt (bC H l (.lst (d.map .ref++[.ref t]))) l (c++[p]):=by
 have g:∀{a:Ad} {m:List V},H a=some (.tup m)->a≠l:=λh=>nE h i;refine#[d++[t],by rw[bG,dC];rfl,by simp[f],λj a q e b=>?_];by_cases n:j<c.length
 .rw[dN ()]at e;rw[dN n]at b;have z:=k j a q e b;rw[bL (g z)];exact z
 .rw[dO ()]at e;rw[dO ()]at b;have z:j-c.length=0:=by
   have:=(bU.mp b).1;simp at this;lia
  rw[f,z]at e;rw[z]at b;cases e;cases b;rw[bL (g ht)];exact ht
structure Srch(H0 H:Hp)(D wa fa:Ad)(ts:As)(ws wv fo:TW)(as:As):Prop where
 g:Same H0 H
 nD:H0 D=none
 nF:H0 fa=none
 W:WordsAt H D ws as
 wl:H wa=some (.lst (ts.map .ref))
 wt:∀(j:Nat) (t:Ad) (p:bB×bB),ts[j]?=some t->wv[j]?=some p->H t=some (.tup (p.1.map nv))
 foll:ThAt H fa fo
 wf:wa≠fa
 fas:fa∉as
 new:∀b∈as,H0 b=none
def Srch.same{a H b:Hp}{D c fa:Ad}{d:As}{e f g:TW}{h:As}(S:Srch a H D c fa d e f g h)(k:Same H b):Srch a b D c fa d e f g h:=
 #[S.g.trans k,S.nD,S.nF,S.W.same k,k _ _ S.wl,λj t p i l=>k _ _ (S.wt j t p i l),S.foll.same k,S.wf,S.fas,S.new]
def Srch.more{k H:Hp}{D n fa l t:Ad}{v:As}{f w g:TW}{i d:As}{p:bB×bB}(S:Srch k H D n fa v f w g i)(A:H l=some (.lst (p.2.map nv)))(x:l≠fa)(B:k l=none)(ht:H t=some (.tup (p.1.map nv)))(o:H fa=some (.lst (d.map .ref))) (C:d.length=g.length) (E:∀(j:Nat) (t:Ad) (p:bB×bB),d[j]?=some t->g[j]?=some p->H t=some (.tup (p.1.map nv))):
  Srch k (bC (bC H D (.dT (a4k f i++[(nk p.1,.ref l)]))) fa (.lst (d.map .ref++[.ref t]))) D n fa v (f++[p]) w (g++[p]) (i++[l]):=by
 have y:fa≠D:=nE o S.W.dict;have r:∀{a:Ad} {s:List V},H a=some (.tup s)->a≠D:=λh=>nE h S.W.dict;have G:n≠D:=nE S.wl S.W.dict;have I:∀{a:Ad} {s:List V},H a=some (.tup s)->a≠fa:=λh=>nE h o;have u:=S.W.put (l:=l) (p:=p) A;have J:(bC H D (.dT (a4k f i++[(nk p.1,.ref l)]))) fa=some (.lst (d.map .ref)):=by rw[bL y];exact o
 refine#[gk (gk S.g S.nD) S.nF,S.nD,S.nF,#[u.len,?_,λj a q c e=>?_],?_,λj a q c e=>?_,?_,S.wf,?_,λb L=>(cF.mp L).elim (S.new b) λm=>by rw[ci.mp m];exact B]
 .rw[bL (dM y)];exact u.dict
 .have M:a≠fa:=λz=>by
   subst z
   rcases cF.mp (cb c)with m|m
   .exact S.fas m
   .exact x (ci.mp m).symm
  rw[bL M];exact u.list j a q c e
 .rw[bL S.wf,bL G];exact S.wl
 .have z:=S.wt j a q c e;rw[bL (I z),bL (r z)];exact z
 .refine ThAt.more J C (λj a q c e=>?_) ?_
  .have z:=E j a q c e;rw[bL (r z)];exact z
  .rw[bL (r ht)];exact ht
 .intro m
  rcases cF.mp m with m|m
  .exact S.fas m
  .exact x (ci.mp m).symm
section
variable{X:Cx}{n:Hp}{a st D r fa:Ad}{s:Fd}{u:Ss}{o:bB}{L:Nat}{U:LN}{g:bB->Nat->List Nat}
abbrev Hd(X:Cx):TS:=mV (ow (KC X 2 (lJ (cS 7) (lJ (cS 8) lO))) (gZ 9)) (um (tB (JD (cS 9) (cS 4)))
 (mV (IQ (cS 4) (cS 9) (xp (nC X.K) (JW (cS 4) (cS 7)) (Aq (lJ (cS 8) lO)))) (mV (zu (Be dW [] E0 (lJ (cS 4) (lJ (cS 3) lO)))) (zu (Ae X.K "list" iN (cS 6) (lJ (cS 9) lO))))) HV)
def Ml{d i j:Nat}{k M I:TW}{as ts:As}{y:Ad}{t:bB×bB}{H:Hp}{En:Ends}{o9:Option V}(hr:Room 5 X.A)(N:n st=some (iO st s))(h0:o∈U)(hU:∀x∈U,∀l,l<L->g x l∈U)(few:U.length<=4000)(hF:FnOk X.prog X.w X.K X.mg X.base b9 5 st s u (dL (Same n) U L g)) (hB:Binds X.K s u []) (B:Bfs g L o d k M I i j) (ht:M[i]?=some t) (hj:j<L) (hd:d+1<=k.length) (S:Srch n H D r fa ts k M I as) (O:H y=some (.tup (t.1.map nv)))(next:∀C E ab H' v,Bfs g L o d C M E i (j+1)->Srch n H' D r fa ts C M E ab->C.length+I.length=k.length+E.length->H' y=some (.tup (t.1.map nv))->En.nx [some (.ref a),some (nv L),some (.ref st),some .non,some (.ref D),some (.ref r),some (.ref fa),some (.ref y),some (nv j),some v] H'):
  Hd X En [some (.ref a),some (nv L),some (.ref st),some .non,some (.ref D),some (.ref r),some (.ref fa),some (.ref y),some (nv j),o9] H:=by
 have tw:=(B.wave t (cb ht)).1;have tU:t.1∈U:=by
  obtain⟨r1,r2⟩:=B.run t tw;rw[<-r2];exact wj h0 hU t.2 r1
 have ag:k.length<=4000:=by
  have z:(k.map (·.1)).length<=U.length:=nR B.keys λx hx=>by
   obtain⟨p,w,rfl⟩:=b8.mp hx;obtain⟨r1,r2⟩:=B.run p w;rw[<-r2];exact wj h0 hU p.2 r1
  rw[bF]at z;lia
 refine#[_,zZ,st,s,zZ,S.g _ _ N,_,zZ,_,zZ,S.g _ _ N,5,u,_,hF,hr,hB,y,t.1,j,zZ,S.g,O,tU,hj,λfn H1 g1 J=>?_];have A:=S.same g1;have m:=g1 _ _ O;refine#[_,zZ,_,zZ,D,_,zZ,DGet.t A.W.dict (by rw[jd];exact J),_,zZ,?_];by_cases Q:g t.1 j∈k.map (·.1)
 .obtain⟨p,w,e⟩:=b8.mp Q;obtain⟨c,v1,_⟩:=A.W.word B.keys w;rw[<-e,v1];rw[wA (by simp)];exact next k I as H1 _ (B.old ht Q) A zZ m
 .rw[ut Q];refine eK ?_;obtain⟨tw,tl⟩:=B.wave t (cb ht);obtain⟨c,v1,v2⟩:=A.W.word B.keys tw;have dg:DGet H1 D (.ref y) (some (.ref c)):=v1▸DGet.t A.W.dict (by rw[jd];exact m);refine#[_,zZ,_,zZ,D,_,zZ,dg,_,zZ,by show 1<=sizeLine;decide,λp w=>?_];have k2:=bV w (.lst [nv j]);refine#[c,p,_,_,zZ,zZ,S1 (k2 _ _ v2),S1 bG,by rw[bF,tl,cH];show d+1<=_;lia,λl hl=>?_];have k3:=k2.trans (bV hl (.lst (t.2.map nv++[nv j])));have G:=A.same k3;have e3:=k3 _ _ J;have T:bC (bC H1 p (.lst [nv j])) l (.lst (t.2.map nv++[nv j])) l=some (.lst ((t.2++[j]).map nv)):=by rw[bG,dC];rfl
  have b:=k3 _ _ m;obtain⟨tf,Y,f2,f3⟩:=G.foll;have lf:l≠fa:=λz=>by
   obtain⟨_,q1,_⟩:=A.foll;have q2:=k2 _ _ q1;rw[<-z,hl]at q2;cases q2
  generalize bC (bC H1 p (.lst [nv j])) l (.lst (t.2.map nv++[nv j]))=H3 at G e3 T b Y f3|-;refine#[_,zZ,_,zZ,D,_,zZ,DPut.t G.W.dict (by rw[jd];exact e3) (by rw[J' G.W.len,cH];lia),?_];rw[FR _ (ut Q)];have fD:fa≠D:=nE Y G.W.dict;have ae:y≠D:=nE b G.W.dict;have af:y≠fa:=nE b Y;have aa:(bC H3 D (.dT (a4k k as++[(nk (g t.1 j),.ref l)]))) fa=some (.lst (tf.map .ref)):=by rw[bL fD];exact Y
  have fl:tf.length<=4000:=by
   have z:(I.map (·.1)).length<=k.length:=by
    rw[<-bF (f:=(·.1)) (as:=k)];refine nR ?_ λx hx=>?_
    .refine(v8.mpr (B.fup.imp_of_mem λ{p q} w hq h z=>?_));have r1:=(B.run p (B.foll p w).1).2;have r2:=(B.run q (B.foll q hq).1).2;obtain⟨i1,J⟩:=fB.mp (B.foll p w).1;obtain⟨i2,e2⟩:=fB.mp (B.foll q hq).1;have ii:i1=i2:=(jf (by rw[bF];exact(bU.mp J).1) B.keys).mp (by rw[bZ,bZ,J,e2];exact cK some z);subst ii;rw[J]at e2;cases e2;exact Bt h
    .obtain⟨p,w,rfl⟩:=b8.mp hx;exact b8.mpr #[p,(B.foll p w).1,zZ]
   rw[bF]at z;lia
  refine#[_,zZ,_,zZ,D,zZ,_,zZ,.inl #[zZ,_,S1 aa],_,zZ,fa,_,_,zZ,zZ,aa,by rw[bF,cH];lia,?_];exact next (k++[(g t.1 j,t.2++[j])]) (I++[(g t.1 j,t.2++[j])]) (as++[l]) _ _ (B.new ht hj Q) (G.more (p:=(g t.1 j,t.2++[j])) T lf ((A.g.trans k2).free hl) e3 Y f2 f3) (by simp;lia) (by rw[bL af,bL ae];exact b)
abbrev Jp(X:Cx):TS:=tc (HR X.K (cS 5)) (gZ 7) (tc (Kg (lJ (cS 1) lO)) (gZ 8) (Hd X))
def Pa{d:Nat}{b f:TW}{C y:As}{H:Hp}{En:Ends}{A k m:Option V}(hr:Room 5 X.A)(Q:n st=some (iO st s))(h0:o∈U)(hU:∀x∈U,∀l,l<L->g x l∈U)(few:U.length<=4000)(aa:L<=4000)(hF:FnOk X.prog X.w X.K X.mg X.base b9 5 st s u (dL (Same n) U L g)) (hB:Binds X.K s u []) (B:Bfs g L o d b f [] 0 0) (hd:d+1<=b.length) (S:Srch n H D r fa y b f [] C) (lt:y.length=f.length)(next:∀c e h q A k m,Bfs g L o d c f e f.length 0->Srch n q D r fa y c f e h->c.length=b.length+e.length->En.nx [some (.ref a),some (nv L),some (.ref st),some .non,some (.ref D),some (.ref r),some (.ref fa),A,k,m] q):
  Jp X En [some (.ref a),some (nv L),some (.ref st),some .non,some (.ref D),some (.ref r),some (.ref fa),A,k,m] H:=by
 let Pv:Nat->L2.St->Hp->Prop:=λi w q=>∃c e h A k m,Bfs g L o d c f e i 0/\Srch n q D r fa y c f e h/\c.length=b.length+e.length/\
  w=[some (.ref a),some (nv L),some (.ref st),some .non,some (.ref D),some (.ref r),some (.ref fa),A,k,m]
 refine#[_,zZ,r,zZ,#[_,S1 S.wl],oo (xs:=y.map .ref) Pv #[b,[],C,A,k,m,B,S,by simp,zZ] (λi w q _ p=>?_) (λi x w q hx p=>?_) (λw q p=>?_)]
 .obtain⟨_,_,_,_,_,_,_,E,_⟩:=p;exact S1 E.wl
 .obtain⟨c,e,h,p7,T,Y,N,E,l1,rfl⟩:=p;rw[bZ]at hx;obtain⟨th,G,rfl⟩:=dm.mp hx;obtain⟨hi,_⟩:=bU.mp G;obtain⟨t,ht⟩:∃t,f[i]?=some t:=#[_,bE ()]
  let Pj:Nat->L2.St->Hp->Prop:=λj w H2=>∃c e h k m,Bfs g L o d c f e i j/\Srch n H2 D r fa y c f e h/\c.length=b.length+e.length/\
   w=[some (.ref a),some (nv L),some (.ref st),some .non,some (.ref D),some (.ref r),some (.ref fa),some (.ref th),k,m]
  refine#[_,zZ,(L:Int),zZ,(),(),oB Pj #[c,e,h,T,Y,N,E,l1,zZ] (λj w H2 hj p=>?_) (λw H2 p=>?_)]
  .obtain⟨I,J,M,q8,q9,B2,O,l2,rfl⟩:=p;have z:(0:Int)+((j:Nat):Int)=((j:Nat):Int):=by lia
   rw[z];refine Ml (t:=t) hr Q h0 hU few hF hB B2 ht (by simpa using hj) () O (O.wt i th t G ht) λw3 f3 a3 H3 v B3 S3 l3 _=>#[w3,f3,a3,_,_,B3,S3,(),zZ]
  .obtain⟨I,J,M,q8,q9,B2,O,l2,rfl⟩:=p;exact#[I,J,M,_,_,_,Bfs.next (by simpa using B2) ht,O,l2,zZ]
 .obtain⟨c,e,h,p7,T,Y,N,E,l1,rfl⟩:=p;rw[bF,lt]at N;exact next c e h q p7 T Y N E l1
abbrev MQ(X:Cx):TS:=mV (ow (HA (cS 0) (Aq lO)) (gZ 4)) (mV (zu (Be dW [] E0 (lJ (cS 4) (lJ (cS 3) lO)))) (mV (ow (Aq (lJ (cS 0) lO)) (gZ 5))
 (mV (Ib (λc a Q=>cS 5 c a λx b=>∃k,u8 X.K x b k/\Q k b) (mV (ow (Aq lO) (gZ 6)) (mV (Jp X) (ow (cS 6) (gZ 5))))) (su (cS 4)))))
def N8{d i j:Nat}{a b c:TW}(e:o∈U)(h:∀x∈U,∀l,l<L->g x l∈U)(B:Bfs g L o d a b c i j):a.length<=U.length:=by
 rw[<-bF (f:=(·.1)) (as:=a)];exact nR B.keys λx k=>by
  obtain⟨p,m,rfl⟩:=b8.mp k;obtain⟨n,q⟩:=B.run p m;rw[<-q];exact wj e h p.2 n
def M3{En:Ends}(hr:Room 5 X.A)(ha:n a=some (.tup (o.map nv)))(T:n st=some (iO st s))(h0:o∈U)(hU:∀x∈U,∀l,l<L->g x l∈U)(few:U.length<=4000)(E:L<=4000)(hF:FnOk X.prog X.w X.K X.mg X.base b9 5 st s u (dL (Same n) U L g)) (hB:Binds X.K s u []) (q:∀D f k C,Same n C->WordsAt C D f k->(∀b∈D::k,n b=none)->Told g L o f->En.rt (.ref D) C):
  MQ X En [some (.ref a),some (nv L),some (.ref st),some .non,none,none,none,none,none,none] n:=by
 intro D M;have Y:=bV M (.dT []);refine#[_,zZ,by show 0<=sizeLine;decide,λl N=>?_];have kl:=bV N (.lst []);refine#[kl _ _ bG,a,nk o,zZ,by rw[jd];exact(Y.trans kl) _ _ ha,?_];have lD:l≠D:=λz=>by
  subst z;rw[bG]at N;cases N
 have W0:WordsAt (bC (bC (bC n D (.dT [])) l (.lst [])) D (.dT [(nk o,.ref l)])) D [(o,[])] [l]:=#[zZ,bG,λj b p v G=>by
  cases j with
  |zero=>
   cases v;cases G;rw[bL lD,bG];rfl
  |succ j=>simp at v]
 have g0:Same n (bC (bC (bC n D (.dT [])) l (.lst [])) D (.dT [(nk o,.ref l)])):=gk (Y.trans kl) M;generalize bC (bC (bC n D (.dT [])) l (.lst [])) D (.dT [(nk o,.ref l)])=H1 at W0 g0|-;refine#[_,zZ,_,zZ,D,zZ,_,zZ,by show 1<=sizeLine;decide,λr hw=>?_];have kw:=bV hw (.lst [.ref a])
 let Wv:Nat->L2.St->Hp->Prop:=λm σ H=>∃(d:Nat) (f y:TW) (k:As) (r:Ad) (i:As) (o6 o7 o8 o9:Option V),Bfs g L o d f y [] 0 0/\WordsAt H D f k/\H r=some (.lst (i.map .ref))/\(∀(j:Nat) (t:Ad) (p:bB×bB),i[j]?=some t->y[j]?=some p->H t=some (.tup (p.1.map nv)))/\i.length=y.length/\Same n H/\(∀b∈k,n b=none)/\
   (y≠[]->d+1<=f.length)/\m=2 * (U.length-f.length)+(if y=[]then 0 else 1)/\σ=[some (.ref a),some (nv L),some (.ref st),some .non,some (.ref D),some (.ref r),o6,o7,o8,o9]
 refine#[Wv,#[_,0,[(o,[])],[(o,[])],[l],r,[a],none,none,none,none,Bfs.start,W0.same kw,bG,?_,zZ,g0.trans kw,λb hb=>(by rw[ci.mp hb];exact Y.free N),λ_=>bR _,zZ,zZ],λm σ H P=>?_]
 .intro j t p v G;cases j with
  |zero=>
   cases v;cases G;exact(g0.trans kw) _ _ ha
  |succ j=>simp at v
 .obtain⟨d,f,y,k,r,i,o6,o7,o8,o9,B,W,wl,wt,lt,gg,nw,A,hm,rfl⟩:=P;refine#[_,zZ,!(i.map V.ref).isEmpty,.inl #[_,S1 wl,zZ],?_];by_cases c:y=[]
  .subst c;have e:i=[]:=pU.mp lt;subst e;rw[wA (by simp)];exact#[_,zZ,q D f k H gg W (λb hb=>(cX.mp hb).elim (λe=>e▸M) (nw b)) B.told]
  .have ne:i≠[]:=λz=>c (pU.mp (by rw[<-lt,z];rfl));have c1:(!(i.map V.ref).isEmpty)=true:=by
    cases i with
    |nil=>exact wC zZ ne
    |cons=>rfl
   rw[c1];refine eK ?_;refine#[λI C=>∃m',m'<m/\Wv m' I C,λI C h=>h,by show 0<=sizeLine;decide,λfa w=>?_];have O:=bV w (.lst []);have aa:fa∉k:=λm=>by
    obtain⟨j,e⟩:=fB.mp m;obtain⟨hj,_⟩:=bU.mp e;have z:=W.list j fa _ e (bE (by rw[<-W.len];exact hj));rw[w]at z;cases z
   have S:Srch n (bC H fa (.lst [])) D r fa i f y [] k:=#[gg.trans O,M,gg.free w,W.same O,O _ _ wl,λj t p v G=>O _ _ (wt j t p v G),#[[],bG,zZ,λj t p v _=>by simp at v],cV wl w,aa,nw];refine Pa (En:={En with nx:=_,ct:=_,bk:=_}) hr T h0 hU few E hF hB B (A c) S lt λJ fo ab C p7 p8 p9 B' Q l'=>?_;obtain⟨tf,f1,f2,f3⟩:=Q.foll;have z1:=N8 h0 hU B';have z2:=A c;refine#[_,zZ,2 * (U.length-J.length)+(if fo=[]then 0 else 1),?_,d+1,J,fo,ab,fa,tf,_,_,_,_,B'.wave',Q.W,f1,f3,f2,Q.g,Q.new,λnf=>?_,zZ,zZ]
   .rw[hm,wA c];by_cases hf:fo=[]
    .subst hf;rw[wB zZ];simp at l';lia
    .have:=List.length_pos_iff.mpr hf;rw[wA hf];lia
   .have:=List.length_pos_iff.mpr nf;lia
end
def L9{g:TW}{d:As}{k:List cD}{a:Ad}(h:hG (a4k g d) k=some (.ref a)):a∈d:=by
 unfold hG at h;obtain⟨m,j,l⟩:=dm.mp h;obtain⟨i,c⟩:=fB.mp (List.mem_of_find?_eq_some j);unfold a4k at c;rw[FQ]at c;cases e:g[i]? with
 |none=>rw[e]at c;cases c
 | some p=>
  cases f:d[i]? with
  |none=>rw[e,f]at c;cases c
  |some b=>
   rw[e,f]at c;cases c;cases l;exact cb f
section
variable{X:Cx}
inductive z8(K:S4)(a:Bool)(x y:V)(H:Hp)(Q:VK):Prop|mk:∀(l:Ad) (n:Nat) (d:Dt) (c:List Dt) (e:List V),y=.ref l->SqL K H l e->e.length=c.length->Rep K H n d x->((∀(i:Nat) f v,c[i]?=some f->e[i]?=some v->Rep K H n f v))->n<=30->(∀b,(b=true↔d∈c)->Q (.bl (if a then !b else b)) H)->z8 K a x y H Q
def IA{K:S4}{H:Hp}{n:Nat}{d f:Dt}{y z:V}{u:Vl}(g:Rep K H n d y)(j:Rep K H n f z)(k:RelV y u)(l:RelV z u):y=z:=by
 have c:∀{y:V} {d:Dt},Rep K H n d y->RelV y u->(y=.non/\u=.none)\/(∃i t,y=.int i/\u=.int i t)\/(∃x t,y=.str x/\u=.str x t)\/∃a,y=.ref a/\u=.ref a:=λh r=>by
  cases h with
  |non=>exact .inl #[zZ,r]
  |int _ i=>
   obtain⟨t,e⟩:=r;exact .inr (.inl #[i,t,zZ,e])
  |str _ x=>
   obtain⟨t,e⟩:=r;exact .inr (.inr (.inl #[x,t,zZ,e]))
  |lst=>exact .inr (.inr (.inr #[_,zZ,r]))
  |tup=>exact .inr (.inr (.inr #[_,zZ,r]))
 rcases c g k with⟨rfl,e⟩|⟨i,t,rfl,e⟩|⟨x,t,rfl,e⟩|⟨a,rfl,e⟩<;>rcases c j l with⟨rfl,b⟩|⟨o,m,rfl,b⟩|⟨p,m,rfl,b⟩|⟨q,rfl,b⟩<;>rw[e]at b<;>cases b<;>rfl
def Nu{M:AO}{N:St}{H:Hp}{s:Sh}{x:V}{v:Vl}{n:Nat}{d:Dt}{k:List Dt}{l:List V}{c:Vs}(hu:X.A.units+64<cLine)(I:Inv X M N H s)(O:RelV x v)(r:Vals l c)(hl:l.length=k.length)(Q:Rep X.K H n d x)(q:∀(i:Nat) a v,k[i]?=some a->l[i]?=some v->Rep X.K H n a v) (hn:n<=30):∃e:Vl->Bool,(∀u∈c,SeqAt.EqAt X.A.in1 s u v (e u))/\(c.any e=true↔d∈k):=by
 have one:∀(i:Nat) u,c[i]?=some u->∃b a,k[i]?=some a/\SeqAt.EqAt X.A.in1 s u v b/\(b=true↔a=d):=λi u g=>by
  obtain⟨C,_⟩:=bU.mp g;have t:=r.length;obtain⟨y,m⟩:∃y,l[i]?=some y:=#[_,bE ()];obtain⟨a,o⟩:∃a,k[i]?=some a:=#[_,bE ()];obtain⟨u',p,T⟩:=Vals.get r m;rw[g]at p;cases p;obtain⟨b,w,G⟩:=Ab I n (A:=X.A.in1) (by show X.A.units+1+n<cLine;lia) (q i a y o m) Q T O;exact#[b,a,o,w,G]
 have f:∀u,∃b,(∃i:Nat,c[i]?=some u)->SeqAt.EqAt X.A.in1 s u v b/\∃(i:Nat) (a:Dt),c[i]?=some u/\k[i]?=some a/\(b=true↔a=d):=λu=>by
  by_cases h:∃i:Nat,c[i]?=some u
  .obtain⟨i,B⟩:=h;obtain⟨b,a,C,t,w⟩:=one i u B;exact#[b,λ_=>#[t,i,a,B,C,w]]
  .exact#[true,λz=>wC z h]
 refine#[λu=>Classical.choose (f u),λu g=>(ss (f u) (fB.mp g)).1,?_];rw[yx];constructor
 .rintro⟨u,g,U⟩;obtain⟨_,i,a,C,t,w⟩:=ss (f u) (fB.mp g);rw[<-w.mp U];exact cb t
 .intro Y;obtain⟨i,o⟩:=fB.mp Y;obtain⟨C,_⟩:=bU.mp o;have t:=r.length;obtain⟨u,p⟩:∃u,c[i]?=some u:=#[_,bE ()];refine#[u,cb p,?_];obtain⟨_,j,a,g1,D,g3⟩:=ss (f u) #[i,p];refine g3.mpr ?_;obtain⟨y,m⟩:∃y,l[i]?=some y:=#[_,bE ()];obtain⟨G,_⟩:=bU.mp D;obtain⟨z,E⟩:∃z,l[j]?=some z:=#[_,bE ()];obtain⟨u1,J,r1⟩:=Vals.get r m;obtain⟨u2,L,r2⟩:=Vals.get r E;rw[p]at J;rw[g1]at L;cases J;cases L;have yz:y=z:=IA (q i d y o m) (q j a z D E) r1 r2;subst yz;exact Eo I n (q j a y D E) (q i d y o m)
def Qa(b:X.A.units+64<cLine):OpR X (compareOp .NotIn) (z8 X.K true):=by
 intro z s A H x y v u Q I c f h;obtain⟨l,n,d,B,C,rfl,g,i,j,k,m,q⟩:=h;cases f;obtain⟨a,r,o,D⟩:=I.list g;obtain⟨e,p,t⟩:=Nu b I c r i j k m;refine SeqAt.notIn_listAt e o.isList (λw hw=>p w (by simpa using hw)) #[.bl _,H,I,zZ,?_];rw[show a.toArray.any e=a.any e by simp];exact q _ t
def GL{x y:Str}{p q e:Pos}{k:Nat}{a:Scope}(S:CompScope X [x,y] a)(f:X.calm=true)(b:a.names.lookup x=some .local)(c:a.names.lookup y=some .local):
  ∀C s H d,PG (gn X [x,y] a C s H d) (.Tuple [.Name x p,.Name y q] k e) (t0 X.K 2 (lA (gZ 0) (lA (gZ 1) yA))):=λC s H d=>
 zV f (oj (eR S.nd zZ (.inl (w9 b)) (.inr (w9 b))) (oj (eR S.nd zZ (.inl (w9 c)) (.inr (w9 c))) y9))
end
section
variable{X:Cx}
inductive ig(K:S4)(x:V)(c:List V)(H:Hp)(Q:VK):Prop|mk:∀(l:Ad) (y:V) (n:Nat) (d:Dt) (a:List Dt) (b:List V) (j:Nat),x=.ref l->c=[y]->SqL K H l b->b.length=a.length->Rep K H n d y->((∀(i:Nat) e v,a[i]?=some e->b[i]?=some v->Rep K H n e v))->n<=30->a[j]?=some d->((∀i:Nat,i<j->a[i]? ≠some d))->Q (.int (j:Nat)) H->ig K x c H Q
def No{M:AO}{N:St}{H:Hp}{s:Sh}{x:V}{v:Vl}{n:Nat}{d:Dt}{k:List Dt}{l:List V}{c:Vs}(hu:X.A.units+64<cLine)(I:Inv X M N H s)(O:RelV x v)(r:Vals l c)(hl:l.length=k.length)(Q:Rep X.K H n d x)(p:∀(i:Nat) a v,k[i]?=some a->l[i]?=some v->Rep X.K H n a v) (hn:n<=30):∃e:Vl->Bool,(∀u∈c,SeqAt.EqAt X.A.in1 s u v (e u))/\∀(i:Nat) u a,c[i]?=some u->k[i]?=some a->(e u=true↔a=d):=by
 have E:=r.length;have one:∀(i:Nat) u,c[i]?=some u->∃b a,k[i]?=some a/\SeqAt.EqAt X.A.in1 s u v b/\(b=true↔a=d):=λi u g=>by
  obtain⟨w,_⟩:=bU.mp g;obtain⟨y,m⟩:∃y,l[i]?=some y:=#[_,bE ()];obtain⟨a,o⟩:∃a,k[i]?=some a:=#[_,bE ()];obtain⟨u',q,T⟩:=Vals.get r m;rw[g]at q;cases q;obtain⟨b,B,G⟩:=Ab I n (A:=X.A.in1) (by show X.A.units+1+n<cLine;lia) (p i a y o m) Q T O;exact#[b,a,o,B,G]
 have f:∀u,∃b,(∃i:Nat,c[i]?=some u)->SeqAt.EqAt X.A.in1 s u v b/\∃(i:Nat) (a:Dt),c[i]?=some u/\k[i]?=some a/\(b=true↔a=d):=λu=>by
  by_cases h:∃i:Nat,c[i]?=some u
  .obtain⟨i,t⟩:=h;obtain⟨b,a,w,E,B⟩:=one i u t;exact#[b,λ_=>#[E,i,a,t,w,B]]
  .exact#[true,λz=>wC z h]
 refine#[λu=>Classical.choose (f u),λu g=>(ss (f u) (fB.mp g)).1,λi u d0 q o=>?_];obtain⟨_,j,a,U,C,Y⟩:=ss (f u) #[i,q];rw[Y];obtain⟨w,_⟩:=bU.mp o;obtain⟨y,m⟩:∃y,l[i]?=some y:=#[_,bE ()];obtain⟨G,_⟩:=bU.mp C;obtain⟨z,D⟩:∃z,l[j]?=some z:=#[_,bE ()];obtain⟨u1,J,r1⟩:=Vals.get r m;obtain⟨u2,L,r2⟩:=Vals.get r D;rw[q]at J;rw[U]at L;cases J;cases L;have yz:y=z:=IA (p i d0 y o m) (p j a z C D) r1 r2;subst yz;have dd:a=d0:=Eo I n (p j a y C D) (p i d0 y o m);rw[dd]
def AB(w:X.A.units+64<cLine):mP X "list.index" (ig X.K):=by
 intro za s σ H x vs v us Q I A B h;obtain⟨l,y,m,d,C,xs,j,rfl,rfl,D,E,G,J,L,f,no,q⟩:=h;cases A;obtain⟨u,rfl,M⟩:=B.one;obtain⟨a,r,⟨⟨c1,d1,k1,N⟩,n,e,g,i,o⟩,O⟩:=I.list D;simp only at g i o;subst g i o;obtain⟨b,T,p⟩:=No w I M r E G J L;have lr:=r.length;have lj:=(bU.mp f).1;rw[cH]at O;refine uz F.slot_list_index #[_,e,zZ] F.entry_list_index (F.args_list_index_2 _ _) (SeqAt.list_indexAt l a.toArray n none N u b j (by simp only[List.size_toArray];lia) () ?_ ?_)
  #[e,λy U=>T y (by simpa using U),#[.int (j:Nat),H,I.tok _,#[_,zZ],q]]
 .show b a[j]=true;exact(p j _ d (bE ()) f).mpr rfl
 .intro k Y c;show b a[k]=false;have t:k<C.length:=by lia
  cases z:b a[k]with
  |false=>rfl
  |true=>
   have z2:=(p k _ _ (bE ()) (bE t)).mp z;exact wC (by rw[bE t,z2]) (no k c)
def RS{X:Cx}{K:S4}{e:Expr}{T:String}{to:TE}{t:TA}(r:S4->V->List V->Hp->VK->Prop)(a:X.K=K)(h:PE X e (Ae X.K T (r X.K) to t)):PE X e (Ae K T (r K) to t):=a▸h
end
section
variable{P:Pg}{w:World}{A:Ar}{E:VP}{s:Sh}{f d:Ad}{i g:Nat}{c:Array DictEntry}
abbrev pW(d:Ad)(i n g:Nat):Obj:={cls:= .type "dict_keyiterator",data:= .fields #v[.ref d,.int i 0,.int n 0,.int g 0]}
def Kv{h:DictEntry}{Q:Option Vl->Sh->Prop}(G:s.heap.get? f=some (pW d i c.size g))(L:Lies s.heap d c g)(r:c[i]?=some h)(q:∀k,k.get? f=some (pW d (i+1) c.size g)->Heap.SameBut f s.heap k->Q (some h.key) {s with heap:=k}):wpAny (model P w) A (pyNext (.ref f)) Q E s:=by
 obtain⟨o,n,_,p⟩:=L;have ty:s.TypeIs (.ref f) "dict_keyiterator":=#[_,G,zZ];unfold pyNext;refine bD (qa (t7 (name:=Str.ofString "__next__") ty sm (lX sm ty K' ?_ (Iq _))));refine bD (bM (bD (bD ?_)));refine bD (Bg ty (bM (bD (vm G zZ ?_))));have a:Builtin.Dict_items.ownsTuple "dict_keyiterator"=false:=by decide
 simp only[a,Bool.false_eq_true,if_false];refine show wpAny _ _ (if(Value.ref d==Value.none)=true then _ else _) _ _ s from(wA (show ¬((Value.ref d==Value.none)=true)from fX))▸bD (bM (bD (tu n p ?_)))
 rw[wA (by simp)];refine bD (bM (bD (wx n p ?_)));rw[wA (by simp)];refine bM ?_;have l:(if((i:Nat):Int)<0 then none else c[((i:Nat):Int).toNat]?)=some h:=by
  rw[wA (),hY];exact r
 show wpAny _ _ (match (if((i:Nat):Int)<0 then none else c[((i:Nat):Int).toNat]?)with|some e=>_|none=>_) _ _ s;rw[l];refine bD (bD (Bg ty (bM (bD (wpAny_isOneOf_keyiter ty ?_)))));refine show wpAny _ _ (setField (.ref f) 1 (rawInt ((i:Int)+1)) >>= _) _ _ s from bD (oh G (by simp) λj t u=>wpAny_bind (wpAny_holding ?_))
 have b:j.get? f=some (pW d (i+1) c.size g):=by
  have z:((i+1:Nat):Int)=(i:Int)+1:=by lia
  unfold pW;rw[z];simpa[rawInt]using t
 have m:Shared.TypeIs {s with heap:=j} (.ref f) "dict_keyiterator":=#[_,b,rfl];refine bD (wpAny_isOneOf_keyiter m ?_);exact show wpAny _ _ (pure h.key) _ _ {s with heap:=j}from bM (bM #[_,rfl,bM (q j b u)])
def Hh{Q:Option Vl->Sh->Prop}(p:A.handled=none)(G:s.heap.get? f=some (pW d i c.size g))(L:Lies s.heap d c g)(r:c[i]?=none)(q:∀k,Heap.ExtBut f s.heap k->Q none {s with heap:=k}):wpAny (model P w) A (pyNext (.ref f)) Q E s:=by
 obtain⟨o,l,_,n⟩:=L;have ty:s.TypeIs (.ref f) "dict_keyiterator":=#[_,G,zZ];unfold pyNext;refine bD (qa (t7 (name:=Str.ofString "__next__") ty sm (lX sm ty K' ?_ (Iq _))));refine bD (bM (bD (bD ?_)));refine bD (Bg ty (bM (bD (vm G zZ ?_))));have h:Builtin.Dict_items.ownsTuple "dict_keyiterator"=false:=by decide
 simp only[h,Bool.false_eq_true,if_false];refine show wpAny _ _ (if(Value.ref d==Value.none)=true then _ else _) _ _ s from(wA (show ¬((Value.ref d==Value.none)=true)from fX))▸bD (bM (bD (tu l n ?_)))
 rw[wA (by simp)];refine bD (bM (bD (wx l n ?_)));rw[wA (by simp)];refine bM ?_;have j:(if((i:Nat):Int)<0 then none else c[((i:Nat):Int).toNat]?)=none:=by
  rw[wA (),hY];exact r
 show wpAny _ _ (match (if((i:Nat):Int)<0 then none else c[((i:Nat):Int).toNat]?)with|some e=>_|none=>_) _ _ s;rw[j];refine bD (bD (Bg ty (bM ?_)));refine show wpAny _ _ (setField (.ref f) 0 .none >>= _) _ _ s from bD (oh G (by simp) λv x t=>?_)
 refine bD (m:=newExc _ _) ?_;simp only[newExc,newTuple];refine bD (oR ?_ (by size_fits));refine bD (m:=firstArgMember _ _) (BL (a:=Value.none) (by first|rfl|(unfold firstArgMember;rfl)) (wpAny_newObj_type ?_ (by size_fits)));refine Ei (by simpa using p) (wpAny_bind (wpAny_isInstance (T:="StopIteration") (b:=true) #[_,Heap.get?_push_size _ zZ,zZ] isSubtype_stop (wpAny_pure ?_)));exact q _ λb o u z=>cM _ (cM _ (t.extBut b o u z))
def Kk{Q:VP}(nd:(d==sysModules)=false)(L:Lies s.heap d c g)(q:Q (.ref s.heap.objs.size) {s with heap:=s.heap.push (pW d 0 c.size g)}):wpAny (model P w) A (pyIter (.ref d)) Q E s:=by
 obtain⟨o,a,x,b⟩:=L;have ty:s.TypeIs (.ref d) "dict":=#[o,a,x.1];refine vz ty F.slot_dict_iter (lX F.slot_dict_iter ty F.entry_dict_iter ?_ (F.args_dict_iter_1 _));unfold Builtin.«dict.__iter__» Builtin.Dict.dictSlotNone;refine bD (bD (wpAny_notOrdered_dict ty ?_));refine show wpAny _ _ (pure (Value.ref d)) _ _ s from bM (show wpAny _ _ (Builtin.Dict.showsAll d >>= _) _ _ s from ?_)
 have all:Builtin.Dict.showsAll d=pure Unit.unit:=by
  unfold Builtin.Dict.showsAll;rw[nd];rfl
 rw[all];refine bD (bM (bD (tu a b (bD (wx a b ?_)))));exact bD (oR (bM #[_,zZ,"dict_keyiterator",_,#[_,dG _ zZ,zZ],sm.lookup,q]))
def QM(r:A.handled=none)(l:d≠f):Walks P w A f [f,d] [f] c.size (λi v=>∃a,c[i]?=some a/\v=a.key) (λi h=>h.get? f=some (pW d i c.size g)/\Lies h d c g) where
 sub:=λb t=>cX.mpr (.inl (ci.mp t))
 frame:=λi h j st k=>#[k f (cR ..) _ st.1,let⟨o,e,x⟩:=st.2;#[o,k d (dS _ (ci.mpr zZ)) _ e,x]]
 item:=λi s Q E u st q=>by
  obtain⟨a,n⟩:∃a,c[i]?=some a:=#[_,ke u];refine Kv st.1 st.2 n λj y p=>q a.key j s.toks #[a,n,zZ] #[y,let⟨o,e,x⟩:=st.2;#[o,p.extBut _ _ l e,x]] λb o m e=>p.extBut _ _ (λz=>m (ci.mpr z)) e
 done:=λs Q E st q=>Hh r st.1 st.2 (Ey (bR _)) λj x=>q j s.toks λb o m e=>x b o (λz=>m (ci.mpr z)) e
 self:=λi s Q E st q=>by
  have ty:s.TypeIs (.ref f) "dict_keyiterator":=#[_,st.1,zZ];refine vz ty B0 (lX B0 ty JO ?_ (Km _));exact show wpAny _ _ (ret (.ref f)) _ _ s from bM #[_,zZ,"dict_keyiterator",_,ty,sm.lookup,q]
def yX(nd:(d==sysModules)=false):PySem.W.KdlSrc P w "dict" d d c.size (λi v=>∃a,c[i]?=some a/\v=a.key) (λh=>Lies h d c g) where
 type:=λ_ e=>e.typeIs
 there:=λ_ ⟨_,e,_⟩=>#[cy e,cy e]
 keep:=λ_ _ ⟨o,e,x⟩ k=>#[o,k d (.inl zZ) _ e,x]
 notList:=by decide
 notTuple:=by decide
 hint:=λ_ _ _ _ e q=>PySem.W.kdl_hint_dict e.typeIs q
 iter:=λ_ _ b e=>#[_,_,λ_ _ q=>Kk nd e q,QM b (dj (let⟨_,z,_⟩:=e;cy z)),dG _ zZ,let⟨o,z,x⟩:=e;#[o,cM _ z,x]]
end
open PySem PySem.W PyProof.Rows
section
variable(n:Nat)(k:Nat->Int)
def KOk{b:Type}:KasT b->(b->Prop)->Prop
 |.ret a,R=>R a
 |.ask i j f,R=>i<n/\j<n/\KOk (f (decide (k i<k j))) R
def Arr(p:Array Nat):Prop:=p.Perm (List.range n).toArray
def p0(p:Array Nat)(m:Nat):Prop:=∀a b,a<b->b<m->k (p.getD a 0)<k (p.getD b 0)
def SK(p:Array Nat)(m:Nat):Prop:=∀a b,a<b->b<m->k (p.getD b 0)<k (p.getD a 0)
variable{n k}
theorem KOk.bind{b c:Type}{f:b->KasT c}{R:b->Prop}{d:c->Prop}(h:∀a,R a->KOk n k (f a) d):∀t:KasT b,KOk n k t R->KOk n k (t.bind f) d
 |.ret a,q=>h a q
 |.ask i j g,q=>#[q.1,q.2.1,KOk.bind h (g _) q.2.2]
def Arr.size{p:Array Nat}(h:Arr n p):p.size=n:=by
 have z:=(nX.mp h).length_eq;simpa using z
def Arr.at{p:Array Nat}(h:Arr n p){i:Nat}(b:i<n):p.getD i 0<n/\p[i]?=some (p.getD i 0):=by
 have c:=h.size;have e:p[i]?=some (p.getD i 0):=by
  rw[qx,ke ()];rfl
 refine#[?_,e];have m:p.getD i 0∈p:=EI e;have a:=(Fu h).mp m;simpa using a
def Arr.inj{p:Array Nat}(h:Arr n p){i j:Nat}(b:i<n)(d:j<n)(e:p.getD i 0=p.getD j 0):i=j:=by
 have nd:p.toList.Nodup:=(nX.mp h).nodup_iff.mpr (by simpa using List.nodup_range);have c:=(h.at b).2;have a:=(h.at d).2;rw[<-e]at a;rw[<-j4]at c a;exact(jf (by rw[dr,h.size];exact b) nd).mp (c.trans a.symm)
variable(inj:∀i j,i<n->j<n->k i=k j->i=j)
include inj
end
end L2
namespace L2
open PySem PySem.Spec PySem.W PyProof.Rows
section
variable{P:Pg}{w:World}{A:Ar}{E:VP}{s:Sh}{a:Ad}{c d:Vs}{k:Nat->Int}
def Fc(P:Pg)(w:World)(A:Ar)(d:Vs)(lt:Nat->Nat->Bool)(s:Sh):Prop:=
 wpAny (model P w) A (keyKind' d.toArray) (λa b=>b=s/\∀i j (C:Bool->Sh->Prop),i<d.length->j<d.length->C (lt i j) s->kas_ask P w A a d i j C s) (λ_ _=>False) s
abbrev gW(c:Vs)(p:Array Nat):Vs:=p.toList.map λi=>c.getD i Value.none
def J3(c:Vs):gW c (List.range c.length).toArray=c:=by
 unfold gW;refine nj λi=>?_;rw[vw,bZ];by_cases h:i<c.length
 .rw[nB h,bE h];show some (c.getD i Value.none)=_;rw[cZ,bE h];rfl
 .rw[iM (by simp;lia),List.getElem?_eq_none ()];rfl
def Ii(a:d.length=c.length):(d.toArray.zip c.toArray).map (·.2)=c.toArray:=by
 apply EK.mp;rw[Bp,ksk_zip];exact List.map_snd_zip (by simp[a])
def Ay{a:Heap}{b:Ad}{x:Obj}(e:a.get? b=some x)(c d:Obj):((a.push c).push d).get? b=some x:=cM _ (cM _ e)
end
theorem Ef{a:Type}{p q:a->Bool}:∀{xs:List a},(∀z∈xs,p z=true->q z=true)->(∃z∈xs,p z=false/\q z=true)->xs.countP p<xs.countP q
 | [],_,h=>by obtain⟨z,hz,_⟩:=h;cases hz
 | x::xs,mono,h=>by
  have g:xs.countP p<=xs.countP q:=List.countP_mono_left λz hz=>mono z (dS _ hz);rw[Bn,Bn];obtain⟨z,hz,b,c⟩:=h
  rcases cX.mp hz with e|hz
  .subst e;rw[b,c];simp;lia
  .have i:=Ef (xs:=xs) (λy d=>mono y (dS _ d)) #[z,hz,b,c];have m:=mono x (cR ..);cases f:p x with
   |false=>cases q x<;>simp<;>lia
   |true=>rw[m f];simp;lia
structure Total{α:Type}(lt:α->α->Bool)(xs:List α):Prop where
 irr:∀x,lt x x=false
 trans:∀x y z,lt x y=true->lt y z=true->lt x z=true
 tot:∀x∈xs,∀y∈xs,x≠y->lt x y=true\/lt y x=true
def jx{a:Type}(lt:a->a->Bool)(xs:List a)(x:a):Int:=((xs.countP λy=>lt y x):Nat)
section
variable{a:Type}{lt:a->a->Bool}{xs:List a}(T:Total lt xs)
include T
def Total.up{x y:a}(b:x∈xs)(h:lt x y=true):jx lt xs x<jx lt xs y:=by
 unfold jx;have z:=Ef (xs:=xs) (p:=λz=>lt z x) (q:=λz=>lt z y) (λz _ c=>T.trans _ _ _ c h) #[x,b,T.irr x,h];lia
def Total.asks{x y:a}(b:x∈xs)(c:y∈xs):decide (jx lt xs x<jx lt xs y)=lt x y:=by
 by_cases e:x=y
 .subst e;rw[T.irr];exact eW (Int.lt_irrefl _)
 .rcases T.tot x b y c e with h|h
  .rw[h];exact cG (T.up b h)
  .have:=T.up c h;rw[eW ()];cases z:lt x y with
   |false=>rfl
   |true=>
    have:=T.up b z;lia
def Total.same{x y:a}(b:x∈xs)(c:y∈xs)(h:jx lt xs x=jx lt xs y):x=y:=by
 refine Bh λe=>?_
 rcases T.tot x b y c e with z|z
 .have:=T.up b z;lia
 .have:=T.up c z;lia
end
theorem D3:∀(a b:bB),a≠b->dF a b=true\/dF b a=true
 | [],[],h=>wC zZ h
 | [],y::b,_=> .inl (by unfold dF;rw[show gc [] (y::b)=none from rfl];simp)
 |x::a,[],_=> .inr (by unfold dF;rw[show gc [] (x::a)=none from rfl];simp)
 | x::a,y::b,h=>by
  by_cases e:x=y
  .subst e
   rcases D3 a b (λz=>h (by rw[z]))with q|q
   .exact .inl (by rw[rf];exact q)
   .exact .inr (by rw[rf];exact q)
  .rw[j6 e,j6 (dM e)]
   rcases Nat.lt_or_gt_of_ne e with q|q
   .exact .inl (cG q)
   .exact .inr (cG q)
theorem Az:∀(xs a d:bB),dF xs a=true->dF a d=true->dF xs d=true
 | xs,a,[],_,b=>by
  have:dF a []=false:=by
   unfold dF;rw[show gc a []=none by cases a<;>rfl];simp
  rw[this]at b;cases b
 | [],a,z::d,_,_=>by unfold dF;rw[show gc [] (z::d)=none from rfl];simp
 | x::xs,[],z::d,c,_=>by
  have:dF (x::xs) []=false:=by
   unfold dF;rw[show gc (x::xs) []=none from rfl];simp
  rw[this]at c;cases c
 | x::xs,y::a,z::d,c,b=>by
  by_cases f:x=y
  .subst f;by_cases e:x=z
   .subst e;rw[rf]at c b|-;exact Az xs a d c b
   .rw[j6 e]at b|-;exact b
  .rw[j6 f]at c;have g:=hE c;by_cases e:y=z
   .subst e;rw[j6 f];exact c
   .rw[j6 e]at b;have h:=hE b;rw[j6 ()];exact cG ()
def R4(a:LN):Total dF a:=#[pK,Az,λx _ y _ e=>D3 x y e]
section
variable{P:Pg}{w:World}{A:Ar}{E:VP}{s:Sh}
def Ij{i j:Int}{t u:Tok}(f:Bool){Q:Bool->Sh->Prop}(h:Q (decide (i<j)) s):wpAny (model P w) A (oneLt' f (.int i t) (.int j u)) Q E s:=by
 cases f with
 |true=>exact oneLt_int h
 |false=>exact kat_one _ _ (PyProof.Rows.lt_int h)
theorem KW{fin:Bool}{Q:Bool->Sh->Prop}:∀{b a:bB} {c d:Vs} (i:Nat),Vals (b.map nv) c->Vals (a.map nv) d->Q ((gc b a).getD fin) s->KatLex P w A true fin Q (c.zip d) i s
 | [],a,_,_,i,.nil,_,q=>by
  rw[show gc [] a=none by cases a<;>rfl]at q;rw[List.zip_nil_left];exact kat_nil q
 |n::b,[],_,_,i,.cons _ _,.nil,q=>by
  rw[List.zip_nil_right];exact kat_nil q
 | n::b,m::a,_,_,i,.cons ⟨t,f⟩ g,.cons ⟨u,h⟩ k,q=>by
  subst f h;refine kat_cons ?_;have z:=fq (A:=A) (s:=s) (i:=(n:Int)) (j:=(m:Int)) (t:=t) (u:=u);by_cases e:n=m
  .rw[cG ()]at z;rw[gc,wB e]at q;exact z P w _ _ (kat_yes (KW (i+1) g k q))
  .rw[eW ()]at z;rw[gc,wA e]at q;refine z P w _ _ (kat_no (Ij _ ?_));have l:decide ((n:Int)<(m:Int))=decide (n<m):=by simp
   rw[l];exact q
def oI(h:Heap)(v:Vl)(d:bB):Prop:=∃a o b c,v=.ref a/\h.get? a=some o/\o.cls=.type "tuple"/\o.data=.seq b c/\Vals (d.map nv) b.toList
theorem Hv{h:Heap}:∀{vs:Vs} {ts:LN},vs.length=ts.length->(∀(i:Nat) v t,vs[i]?=some v->ts[i]?=some t->oI h v t/\t≠[])->∃fs:Vs,KatTups h vs fs/\fs.length=vs.length/\∀f∈fs,∃i t,f=.int i t
 | [],[],_,_=>#[[],.nil,zZ,λ_ z=>nomatch z]
 | [],_::_,l,_=>by simp at l
 |_::_,[],l,_=>by simp at l
 | v::vs,t::ts,l,g=>by
  obtain⟨fs,k,m,p⟩:=Hv (h:=h) (vs:=vs) (ts:=ts) (by simpa using l) λi v t q s=>g (i+1) v t (by simpa using q) (by simpa using s);obtain⟨⟨a,o,d,c,rfl,u,w,x,y⟩,A⟩:=g 0 v t zZ rfl;obtain⟨n,b,rfl⟩:∃n b,t=n::b:=by
   cases t with
   |nil=>exact wC zZ A
   |cons n b=>exact#[n,b,zZ]
  obtain⟨j⟩:=d;cases y with
  | cons r _=>
   obtain⟨B,rfl⟩:=r;exact#[_::fs,.cons u w x zZ k,by simp[m],λf hf=>by
    rcases cX.mp hf with e|hf
    .exact#[_,_,e]
    .exact p f hf]
def MH{a:Vs}{b:LN}(l:a.length=b.length)(M:1<=a.length)(e:∀(i:Nat) v t,a[i]?=some v->b[i]?=some t->oI s.heap v t/\t≠[]):Fc P w A a (λi j=>dF (b.getD i []) (b.getD j [])) s:=by
 obtain⟨fs,k,N,m⟩:=Hv l e;refine kat_kind (T:= .type "int") k () (λf n=>?_) (by decide) #[zZ,λi j C d o p=>?_]
 .obtain⟨i,t,rfl⟩:=m f n;exact .now
 .have c:∀{i:Nat},i<a.length->oI s.heap (a.getD i Value.none) (b.getD i []):=λ{i} d=>by
   have q:a[i]?=some (a.getD i Value.none):=by rw[cZ,bE d];rfl
   have r:b[i]?=some (b.getD i []):=by rw[cZ,bE ()];rfl
   exact(e i _ _ q r).1
  obtain⟨x,O,u,Q,z,B,U,D,g⟩:=c d;obtain⟨y,Y,E,ny,G,H,y2,I,h⟩:=c o;show wpAny (model P w) A (keyLt' _ (a.getD i Value.none) (a.getD j Value.none)) C _ s;rw[z,G];refine kat_lt B D H I (KW 0 g h ?_);have J:(b.getD i []).length=u.size:=by have:=g.length;simpa using this
  have L:(b.getD j []).length=E.size:=by have:=h.length;simpa using this
  rw[<-J,<-L];exact p
end
def IR{b:Type}{a:List b}{p:Array Nat}{d:b}(c:Arr a.length p):(p.toList.map λi=>a.getD i d).Perm a:=by
 have z:=(nX.mp c).map λi=>a.getD i d;refine z.trans (.of_eq ?_);refine nj λi=>?_;rw[vw,bZ];by_cases h:i<a.length
 .rw[nB h,bE h];show some (a.getD i d)=_;rw[cZ,bE h];rfl
 .rw[iM (by simp;lia),List.getElem?_eq_none ()];rfl
def IW{p:Array Nat}{n i:Nat}(a:Arr n p)(b:i<n):p.toList[i]?=some (p.getD i 0):=by
 rw[j4];exact(a.at b).2
def Hn{c:Type}{lt:c->c->Bool}{a:List c}{d:c}{p:Array Nat}(T:Total lt a)(b:Arr a.length p)(up:p0 (λi=>jx lt a (a.getD i d)) p a.length):(p.toList.map λi=>a.getD i d).Pairwise λx y=>lt x y=true:=by
 rw[oi];intro i j e f o;have k:i<a.length:=by rw[bF,dr,b.size]at e;exact e
 have g:j<a.length:=by rw[bF,dr,b.size]at f;exact f
 have l:(p.toList.map λi=>a.getD i d)[i]?=some (a.getD (p.getD i 0) d):=by rw[bZ,IW b k];rfl
 have n:(p.toList.map λi=>a.getD i d)[j]?=some (a.getD (p.getD j 0) d):=by rw[bZ,IW b g];rfl
 rw[bE e]at l;rw[bE f]at n;rw[f' l,f' n];have u:=up i j o g;have m:∀{i:Nat},i<a.length->a.getD (p.getD i 0) d∈a:=λ{i} h=>by
  have:=(b.at h).1;rw[cZ,bE this];exact gh _
 rw[<-T.asks (m k) (m g)];exact cG u
structure TupsAt(H:Hp)(bs:As)(us:LN):Prop where
 len:bs.length=us.length
 is:∀(i:Nat) (b:Ad) (u:bB),bs[i]?=some b->us[i]?=some u->H b=some (.tup (u.map nv))
def TupsAt.same{H a:Hp}{bs:As}{c:LN}(h:TupsAt H bs c)(g:Same H a):TupsAt a bs c:=#[h.len,λi b u d e=>g _ _ (h.is i b u d e)]
def TupsAt.pick{H:Hp}{bs:As}{a:LN}(h:TupsAt H bs a){p:Array Nat}(f:Arr a.length p):TupsAt H (p.toList.map λi=>bs.getD i 0) (p.toList.map λi=>a.getD i []):=by
 refine#[by simp,λi b u d c=>?_];rw[bZ]at d c;obtain⟨j,e,rfl⟩:=dm.mp d;rw[e]at c;cases c;have g:j<a.length:=by
  have m:=(nX.mp f).mem_iff.mp (cb e);simpa using m
 have k:=h.len;refine h.is j _ _ ?_ ?_
 .rw[cZ,bE ()];rfl
 .show a[j]?=some (a.getD j []);rw[cZ,bE g];rfl
section
variable{X:Cx}
def yc{P:Pg}{w:World}{H:Hp}{h:Heap}{a:Ad}{t:bB}(ok:HOk P w H h)(e:H a=some (.tup (t.map nv))):oI h (.ref a) t:=by
 obtain⟨_,b,r,o,d,f,c,g,_⟩:=(show ObjOk P w H h a (.tup (t.map nv))from ok a _ e);exact#[a,o,b.toArray,c,zZ,d,f,g,by simpa using r]
def pB{b:Type}{a:List b}{d:b}{i:Nat}(h:i<a.length):a[i]?=some (a.getD i d)/\a.getD i d∈a:=by
 have e:a[i]?=some (a.getD i d):=by
  rw[cZ,bE h];rfl
 exact#[e,cb e]
def Hj{b:Type}{lt:b->b->Bool}{a:List b}{d:b}(T:Total lt a)(nd:a.Nodup):∀i j,i<a.length->j<a.length->jx lt a (a.getD i d)=jx lt a (a.getD j d)->i=j:=λi j c f e=>by
 have z:=T.same (pB c).2 (pB f).2 e;refine(jf c nd).mp ?_;rw[(pB (d:=d) c).1,(pB (d:=d) f).1,z]
end
abbrev d0:Keyed:=(Value.none,Value.none)
structure Asks(M:Model)(A:Ar)(s:Sh)(κ:SortKind)(r:Keyed->Int)(a₀:Array Keyed):Prop where
 lt:∀(x y:Keyed) (C:Bool->Sh->Prop),x∈a₀->y∈a₀->C (decide (r x<r y)) s->wpAny M A (keyLt' κ x.1 y.1) C (λ_ _=>False) s
 ne:∀i j,i<a₀.size->j<a₀.size->i≠j->r (a₀.getD i d0)≠r (a₀.getD j d0)
structure StOk(κ:SortKind)(a₀:Array Keyed)(st:SortSt):Prop where
 kind:kindOf st=κ
 perm:(arrOf st).Perm a₀
 ok:failedOf st=none
section
variable{M:Model}{A:Ar}{E:VP}{s:Sh}{o:SortKind}{r:Keyed->Int}{f xs g:Array Keyed}
abbrev kx(r:Keyed->Int)(xs:Array Keyed)(i:Nat):Int:=r (xs.getD i d0)
def pX{i:Nat}(h:i<xs.size):xs[i]?=some (xs.getD i d0):=by
 rw[qx,ke h];rfl
def cz{i:Nat}{x:Keyed}(h:xs[i]?=some x):xs.getD i d0=x:=by
 rw[qx,h];rfl
def oH{i j:Nat}(h:xs[i]?=g[j]?):xs.getD i d0=g.getD j d0:=by
 rw[qx,qx,h]
def qv(p:xs.Perm f):xs.size=f.size:=by
 have z:=(nX.mp p).length_eq;simpa using z
def Bj(p:xs.Perm f){i:Nat}(h:i<f.size):xs.getD i d0∈f:=(Fu p).mp (EI (pX (by rw[qv p];exact h)))
def Asks.pairs(K:Asks M A s o r f):(f.toList.map r).Nodup:=by
 refine oi.mpr λi j a b c=>?_;rw[xc,xc];rw[bF,dr]at a b;have z:=K.ne i j a b ();rw[qx,qx,ke a,ke b]at z;exact z
def Asks.apart(K:Asks M A s o r f)(p:xs.Perm f){i j:Nat}(a:i<f.size)(b:j<f.size)(c:i≠j):kx r xs i≠kx r xs j:=by
 have nd:(xs.toList.map r).Nodup:=((nX.mp p).map r).nodup_iff.mpr K.pairs;have sz:=qv p;intro z;have e:∀k,k<f.size->(xs.toList.map r)[k]?=some (kx r xs k):=λk d=>by
  rw[bZ,j4,pX ()];rfl
 exact c ((jf (by rw[bF,dr];lia) nd).mp (by rw[e i a,e j b,z]))
def yK{st:SortSt}{x y:Keyed}{Q:Option Bool->SortSt->Prop}(K:Asks M A s o r f)(c:kindOf st=o)(d:x∈f)(e:y∈f)(h:Q (some (decide (r x<r y))) st):wpS M A E s (lt' x y) Q st:=by
 rw[lt'_eq];refine b7 (mN ?_);rw[c];refine b7 (rA (qa (h9 (K.lt x y (λb a=>a=s/\b=decide (r x<r y)) d e #[zZ,zZ]) (λb a g=>?_) λ_ _ z=>z.elim)));obtain⟨rfl,rfl⟩:=g;exact#[zZ,cg h]
def gy{a:SortSt}{i:Nat}{Q:Keyed->SortSt->Prop}(b:i<xs.size)(h:Q (xs.getD i d0) a):wpS M A E s (elem' xs i) Q a:=by
 rw[elem'_eq,pX b];exact cg h
def zW{st:SortSt}{i j:Nat}{Q:Option Bool->SortSt->Prop}(K:Asks M A s o r f)(B:StOk o f st)(a:i<f.size)(b:j<f.size)(h:Q (some (decide (kx r (arrOf st) i<kx r (arrOf st) j))) st):wpS M A E s (ltAt' i j) Q st:=by
 have sz:=qv B.perm;rw[ltAt'_eq];refine b7 (mN ?_);exact b7 (gy () (b7 (gy () (yK K B.kind (Bj B.perm a) (Bj B.perm b) h))))
def Ris(r:Keyed->Int)(xs:Array Keyed)(lo c:Nat):Prop:=∀a b,lo<=a->a<b->b<c->kx r xs a<kx r xs b
def Fal(r:Keyed->Int)(xs:Array Keyed)(lo c:Nat):Prop:=∀a b,lo<=a->a<b->b<c->kx r xs b<kx r xs a
def Out(xs g:Array Keyed)(lo a:Nat):Prop:=∀k,k<lo\/a<=k->g[k]?=xs[k]?
def Out.refl(xs:Array Keyed)(lo a:Nat):Out xs xs lo a:=λ_ _=>rfl
def Out.trans{b:Array Keyed}{lo a:Nat}(h:Out xs g lo a)(c:Out g b lo a):Out xs b lo a:=λk z=>(c k z).trans (h k z)
def Out.wide{lo c a b:Nat}(h:Out xs g lo c)(d:a<=lo)(e:c<=b):Out xs g a b:=λk z=>h k ()
def Out.ris{lo c a b:Nat}(h:Out xs g lo c)(e:Ris r xs a b)(d:b<=lo\/c<=a):Ris r g a b:=λi j f k l=>by
 show r (g.getD i d0)<r (g.getD j d0);rw[oH (h i ()),oH (h j ())];exact e i j f k l
def Ris.one{lo:Nat}:Ris r xs lo (lo+1):=λa b c d e=>by lia
def Ris.snoc{lo c:Nat}(h:Ris r xs lo c)(i:lo<c)(l:kx r xs (c-1)<kx r xs c):Ris r xs lo (c+1):=λa b d f j=>by
 by_cases e:b=c
 .subst e;by_cases g:a=b-1
  .subst g;exact l
  .have:=h a (b-1) d () ();lia
 .exact h a b d f ()
def Fal.snoc{lo c:Nat}(h:Fal r xs lo c)(i:lo<c)(l:kx r xs c<kx r xs (c-1)):Fal r xs lo (c+1):=λa b d f j=>by
 by_cases e:b=c
 .subst e;by_cases g:a=b-1
  .subst g;exact l
  .have:=h a (b-1) d () ();lia
 .exact h a b d f ()
def StOk.set{st:SortSt}(B:StOk o f st)(p:g.Perm (arrOf st)):StOk o f (setArr st g):=#[B.kind,p.trans B.perm,B.ok]
def KA{i j:Nat}(b:j<=xs.size)(k:Nat):kx r (mirror xs i j ((j-i) /2)) k=if i<=k/\k<j then kx r xs (i+j-1-k)else kx r xs k:=by
 have e:=getElem?_mirror_all (i:=i) b k;by_cases a:i<=k/\k<j
 .rw[wB a]at e|-;exact cK r (oH e)
 .rw[wA a]at e|-;exact cK r (oH e)
def Ph{st:SortSt}{lo g:Nat}{Q:Option Nat->SortSt->Prop}(K:Asks M A s o r f)(B:StOk o f st)(hn:lo+g<=f.size)(G:1<=g)(h:∀n l,StOk o f l->pendingOf l=pendingOf st->gallopOf l=gallopOf st->Out (arrOf st) (arrOf l) lo (lo+g)->1<=n->n<=g->Ris r (arrOf l) lo (lo+n)->Q (some n) l):wpS M A E s (countRun' lo g) Q st:=by
 rw[countRun'_eq];have x:∀(m:Nat) (l:SortSt) (H:Option (Option Nat)×Nat->SortSt->Prop),StOk o f l->1<=m->m<=g->Ris r (arrOf l) lo (lo+m)->(∀n,m<=n->n<=g->Ris r (arrOf l) lo (lo+n)->(n<g->kx r (arrOf l) (lo+n)<kx r (arrOf l) (lo+n-1))->H (none,n) l)->
   wpS M A E s (forIn [m:g] ((none,m):Option (Option Nat)×Nat) λ_ p=>do
    let J <-ltAt' (lo+p.snd) (lo+p.snd-1)
    match J with
    |some t=>if t=true then pure (ForInStep.done (none,p.snd))else pure (ForInStep.yield (none,p.snd+1))
    |_=>pure (ForInStep.done (some none,p.snd))) H l:=λm l H U m1 L up q=>by
  refine i6 (I:=λi c d=>d=l/\c=(none,i)/\Ris r (arrOf l) lo (lo+i)) (λi c d nS zO v=>?_) (λc d v=>?_) #[zZ,zZ,up]
  .obtain⟨rfl,rfl,u⟩:=v;refine b7 (zW K U (by show lo+i<_;lia) (by show lo+i-1<_;lia) ?_);by_cases c:kx r (arrOf d) (lo+i)<kx r (arrOf d) (lo+i-1)
   .rw[cG c];exact cg (q i nS () u λ_=>c)
   .rw[eW c];have ne:=K.apart U.perm (i:=lo+i) (j:=lo+i-1) () () ();exact cg #[zZ,zZ,u.snoc () ()]
  .obtain⟨rfl,rfl,u⟩:=v;rw[show max m g=g by lia]at u|-;exact q g L (bR _) u λz=>wC z (mR _)
 refine b7 (x 1 st _ B (bR _) G Ris.one λn N D up stop=>?_);dsimp only;by_cases e:n=g
 .rw[wB (by simpa using e)];exact cg (h n st B zZ zZ (Out.refl _ _ _) N D up)
 rw[wA (by simpa using e)];have O:=stop ();by_cases Y:n>1
 .rw[wB Y];refine b7 (zW K B () () ?_);rw[cG (up lo (lo+n-1) (bR _) () ())];exact cg (h n st B zZ zZ (Out.refl _ _ _) N D up)
 rw[wA Y];have en:n=1:=by lia
 subst en;refine b7 (rA (ph #[zZ,?_]));have y:Fal r (arrOf st) lo (lo+2):=λa b G h2 h3=>by
  have ea:a=lo:=by lia
  have eb:b=lo+1:=by lia
  subst ea eb;exact O
 refine b7 (jg (i6 (I:=λi c d=>d=st/\c=(none,i,0)/\Fal r (arrOf st) lo (lo+i)) (Q:=λc d=>d=st/\∃m,c=(none,m,0)/\2<=m/\m<=g/\Fal r (arrOf st) lo (lo+m)) (λi c d nS zO v=>?_) (λc d v=>?_) #[zZ,zZ,y]) ?_)
 .obtain⟨rfl,rfl,fa⟩:=v;refine b7 (zW K B (by show lo+i<_;lia) (by show lo+i-1<_;lia) ?_);by_cases c:kx r (arrOf d) (lo+i)<kx r (arrOf d) (lo+i-1)
  .rw[cG c];exact cg #[zZ,zZ,fa.snoc () c]
  .rw[eW c];have ne:=K.apart B.perm (i:=lo+i) (j:=lo+i-1) () () ();refine b7 (zW K B (by show lo+i-1<_;lia) (by show lo+i<_;lia) ?_);rw[cG (by show kx r (arrOf d) (lo+i-1)<kx r (arrOf d) (lo+i);lia)];exact cg #[zZ,i,zZ,(),(),fa]
 .obtain⟨rfl,rfl,fa⟩:=v;refine#[zZ,_,zZ,(),(),fa]
 .rintro c d ⟨rfl,m,rfl,m2,L,fa⟩;dsimp only;obtain⟨m,rfl⟩:∃k,m=k+1:=qe λz=>by rw[z]at m2;exact wC m2 (by decide)
  rw[wA (mR 0)];rw[reverseSlice'_eq];have sz:=qv B.perm;have w:lo+(m+1)<=(arrOf d).size:=by lia
  have B2:StOk o f (setArr d (mirror (arrOf d) lo (lo+(m+1)) ((lo+(m+1)-lo) /2))):=B.set (mirror_perm _ _ _ _);have T:Ris r (mirror (arrOf d) lo (lo+(m+1)) ((lo+(m+1)-lo) /2)) lo (lo+(m+1)):=λa b G h2 h3=>by
   rw[KA w,KA w,wB (),wB ()];exact fa _ _ (show lo<=lo+(lo+m)-b from GK ()) (show lo+(lo+m)-b<lo+(lo+m)-a from Nat.sub_lt_sub_left () h2) (show lo+(lo+m)-a<lo+(m+1)from zt () ())
  have C:Out (arrOf d) (mirror (arrOf d) lo (lo+(m+1)) ((lo+(m+1)-lo) /2)) lo (lo+g):=λk hk=>by
   rw[getElem?_mirror_all w,wA ()]
  refine b7 (nV (b7 (x (m+1) _ _ B2 () L T λn N D up stop=>?_)));exact cg (h n _ B2 zZ zZ C () D up)
end
section
variable{M:Model}{A:Ar}{E:VP}{s:Sh}{b:SortKind}{r:Keyed->Int}{a f g:Array Keyed}
def Kf{a d:Nat}(g:a<f.size)(h:d<=a)(k:Nat):kx r (bubble f a d) k=if k=a-d then kx r f a else if a-d<k/\k<=a then kx r f (k-1)else kx r f k:=by
 have e:=getElem?_bubble g d h k;by_cases b:k=a-d
 .rw[wB b]at e|-;exact cK r (oH e)
 .rw[wA b]at e|-;by_cases c:a-d<k/\k<=a
  .rw[wB c]at e|-;exact cK r (oH e)
  .rw[wA c]at e|-;exact cK r (oH e)
def Qb{st:SortSt}{lo n ok:Nat}{Q:Bool->SortSt->Prop}(K:Asks M A s b r a)(B:StOk b a st)(hn:lo+n<=a.size)(aa:ok<=n)(hs:Ris r (arrOf st) lo (lo+ok))(h:∀e,StOk b a e->pendingOf e=pendingOf st->gallopOf e=gallopOf st->Out (arrOf st) (arrOf e) lo (lo+n)->Ris r (arrOf e) lo (lo+n)->Q true e):wpS M A E s (binarySort' lo n ok) Q st:=by
 rw[binarySort'_eq];refine b7 (jg (i6 (I:=λk c e=>c=(none,Unit.unit)/\StOk b a e/\pendingOf e=pendingOf st/\gallopOf e=gallopOf st/\Out (arrOf st) (arrOf e) lo (lo+n)/\Ris r (arrOf e) lo (lo+min k n))
  (Q:=λc e=>c=(none,Unit.unit)/\StOk b a e/\pendingOf e=pendingOf st/\gallopOf e=gallopOf st/\Out (arrOf st) (arrOf e) lo (lo+n)/\Ris r (arrOf e) lo (lo+n)) ?step ?fin ?init) ?post)
 case post=>
  rintro c e ⟨rfl,y,H,J,o,u⟩;exact cg (h e y H J o u)
 case init=>
  refine#[zZ,B,zZ,zZ,Out.refl _ _ _,λi j v C h3=>?_];exact hs i j v C ()
 case fin=>
  rintro c e ⟨hc,y,H,J,o,u⟩;refine#[hc,y,H,J,o,?_];rwa[show min (max (max ok 1) n) n=n by lia]at u
 case step=>
  rintro k c e ab ae ⟨rfl,y,H,J,o,w⟩;rw[show min k n=k by lia]at w;have sz:=qv y.perm;refine b7 (jg (i6 (I:=λx c f=>f=e/\∃l q,c=(none,l,q)/\l<=q/\q<=k/\q+x<=k+l/\
    (∀i,i<l->kx r (arrOf e) (lo+i)<kx r (arrOf e) (lo+k))/\(∀i,q<=i->i<k->kx r (arrOf e) (lo+k)<kx r (arrOf e) (lo+i)))
   (Q:=λc f=>f=e/\∃l q,c=(none,l,q)/\l<=k/\
    (∀i,i<l->kx r (arrOf e) (lo+i)<kx r (arrOf e) (lo+k))/\(∀i,l<=i->i<k->kx r (arrOf e) (lo+k)<kx r (arrOf e) (lo+i))) ?istep ?ifin ?iinit) ?ipost)
  case iinit=>exact#[zZ,0,k,zZ,(),(),(),λi hi=>by lia,λi v C=>by lia]
  case ifin=>
   rintro c f ⟨rfl,l,q,rfl,N,t,hm,m,p⟩;have:l=q:=by lia
   subst this;exact#[zZ,l,l,zZ,t,m,p]
  case istep=>
   rintro x c f _ af ⟨rfl,l,q,rfl,N,t,hm,m,p⟩;dsimp only;by_cases D:l>=q
   .rw[wB D];have:l=q:=by lia
    subst this;exact cg #[zZ,l,l,zZ,t,m,p]
   .rw[wA D];have Y:l<=(l+q) /2:=by lia
    have O:(l+q) /2<q:=by lia
    clear D;generalize(l+q) /2=d at Y O|-;have dk:d<k:=f7 O t;refine b7 (zW K y () () ?_);by_cases g:kx r (arrOf f) (lo+k)<kx r (arrOf f) (lo+d)
    .simp only[g,decide_true,if_true];refine cg #[zZ,l,d,zZ,Y,eM dk,(),m,λi v C=>?_];by_cases z:i=d
     .subst z;exact g
     .exact zF g (w (lo+d) (lo+i) (nN ..) (Cp (Ak v (dM z)) _) (Cp C _))
    .simp only[g,decide_false,Bool.false_eq_true,if_false];have ne:=K.apart y.perm (i:=lo+k) (j:=lo+d) () () ();refine cg #[zZ,d+1,q,zZ,O,t,(),λi v=>?_,p];by_cases z:i=d
     .subst z;exact Int.lt_iff_le_and_ne.mpr #[Int.not_lt.mp g,ne.symm]
     .exact Int.lt_of_lt_of_le (w (lo+i) (lo+d) (nN ..) (Cp (Ak (B4 v) z) _) (Cp dk _)) (Int.not_lt.mp g)
  case ipost=>
   rintro c f ⟨rfl,l,q,rfl,L,m,p⟩;show wpS _ _ _ _ (do moveDown' (lo+k) (lo+l);pure (ForInStep.yield (none,Unit.unit))) _ _
   rw[moveDown'_eq];have G:lo+k<(arrOf f).size:=by lia
   refine b7 (nV (cg #[zZ,y.set (bubble_perm _ _ _),H,J,o.trans λj hj=>?_,?_]))
   .show(bubble (arrOf f) (lo+k) (lo+k-(lo+l)))[j]?=_;rw[getElem?_bubble G _ (),Nat.sub_sub_self (yt L lo),wA (),wA ()]
   .rw[show min (k+1) n=k+1 by lia];intro i j v C h3;show kx r (bubble (arrOf f) (lo+k) (lo+k-(lo+l))) i<kx r (bubble (arrOf f) (lo+k) (lo+k-(lo+l))) j
    rw[Kf G (),Kf G (),Nat.sub_sub_self (yt L lo)];have T:∀i,lo<=i->i<lo+l->kx r (arrOf f) i<kx r (arrOf f) (lo+k):=λi v C=>by
     have:=m (i-lo) ();rwa[show lo+(i-lo)=i by lia]at this
    have U:∀i,lo+l<=i->i<lo+k->kx r (arrOf f) (lo+k)<kx r (arrOf f) i:=λi v C=>by
     have:=p (i-lo) () ();rwa[show lo+(i-lo)=i by lia]at this
    repeat' split
    all_goals first
     |(exfalso;lia)
     |exact T _ () ()
     |exact U _ () ()
     |exact w _ _ () () ()
def qu:Bool->Keyed->Array Keyed->Nat->Nat->Nat->StateT SortSt Sem (Option Nat):=sortPriv%PySem.Builtin.gallop
def Si(left:Bool)(e:Keyed)(g:Array Keyed)(d n a:Nat):qu left e g d n a=(do
 let c (i:Nat):StateT SortSt Sem (Option Bool):=do
  let x <-elem' g (d+i)
  if left then lt' x e else return (<-lt' e x).map (!·)
 let mut lastofs:=0
 let mut ofs:=1
 let mut lo:=0
 let mut hi:=0
 let some right <-c a|return none
 if right then
  let b:=n-a
  for _ in[0:n] do
   if ofs>=b then break
   let some more <-c (a+ofs)|return none
   if !more then break
   lastofs:=ofs
   ofs:=2 * ofs+1
  lo:=a+lastofs+1
  hi:=a+min ofs b
 else
  let b:=a+1
  for _ in[0:n] do
   if ofs>=b then break
   let some f <-c (a-ofs)|return none
   if f then break
   lastofs:=ofs
   ofs:=2 * ofs+1
  lo:=a+1-min ofs b
  hi:=a-lastofs
 for _ in[0:n] do
  if lo>=hi then break
  let m:=lo+(hi-lo) /2
  let some more <-c m|return none
  if more then lo:=m+1 else hi:=m
 return some hi):=rfl
end
section
variable{M:Model}{A:Ar}{E:VP}{s:Sh}{b:SortKind}{r:Keyed->Int}{a d m:Array Keyed}
def xr{st:SortSt}{left:Bool}{t:Keyed}{p:Array Keyed}{d n m:Nat}{Q:Option Nat->SortSt->Prop}(K:Asks M A s b r a)(hk:kindOf st=b)(hz:d+n<=p.size)(mem:∀i,i<n->p.getD (d+i) d0∈a)(mk:t∈a)(ne:∀i,i<n->kx r p (d+i)≠r t)(up:Ris r p d (d+n)) (Y:m<n) (q:∀k,k<=n->(∀i,i<k->kx r p (d+i)<r t)->(∀i,k<=i->i<n->r t<kx r p (d+i))->Q (some k) st):wpS M A E s (qu left t p d n m) Q st:=by
 rw[Si];have H:∀(i:Nat) (Q:Option Bool->SortSt->Prop),i<n->Q (some (decide (kx r p (d+i)<r t))) st->wpS M A E s (do
   let x <-elem' p (d+i)
   if left then lt' x t else return (<-lt' t x).map (!·)) Q st:=λi Q w hQ=>by
  refine b7 (gy () ?_);cases left with
  |true=>exact yK K hk (mem i w) mk hQ
  | false=>
   refine b7 (yK K hk mk (mem i w) (cg ?_));have e:(!decide (r t<r (p.getD (d+i) d0)))=decide (kx r p (d+i)<r t):=by
    have:=ne i w;by_cases z:kx r p (d+i)<r t
    .rw[cG z,eW (show ¬r t<r (p.getD (d+i) d0)from λy=>by have:r t<kx r p (d+i):=y;lia)];rfl
    .rw[eW z,cG (show r t<r (p.getD (d+i) d0)from by show r t<kx r p (d+i);lia)];rfl
   show Q (some (!decide (r t<r (p.getD (d+i) d0)))) st;rw[e];exact hQ
 have dn:∀i j,i<=j->j<n->kx r p (d+j)<r t->kx r p (d+i)<r t:=λi j ij jn l=>by
  by_cases z:i=j
  .subst z;exact l
  .have:=up (d+i) (d+j) () () ();lia
 have O:∀i j,i<=j->j<n-> ¬kx r p (d+i)<r t->r t<kx r p (d+j):=λi j ij jn l=>by
  have n1:=ne i ();by_cases z:i=j
  .subst z;lia
  .have:=up (d+i) (d+j) () () ();lia
 have fin:∀(lo w:Nat) (u:SortSt) (f:Nat->Option (Option Nat)×Nat×Nat->StateT SortSt Sem (ForInStep (Option (Option Nat)×Nat×Nat))) (g:Option (Option Nat)×Nat×Nat->StateT SortSt Sem (Option Nat)),u=st->lo<=w->w<=n->(∀i,i<lo->kx r p (d+i)<r t)->(∀i,w<=i->i<n->r t<kx r p (d+i))->
   (∀x l h (R:ForInStep (Option (Option Nat)×Nat×Nat)->SortSt->Prop),l>=h->R (.done (none,l,h)) st->wpS M A E s (f x (none,l,h)) R st)->
   (∀x l h (R:ForInStep (Option (Option Nat)×Nat×Nat)->SortSt->Prop),l<h->h<=n->R (.yield (if kx r p (d+(l+(h-l) /2))<r t then(none,l+(h-l) /2+1,h)else(none,l,l+(h-l) /2))) st->wpS M A E s (f x (none,l,h)) R st)->
   (∀h,Q (some h) st->wpS M A E s (g (none,h,h)) Q st)->wpS M A E s (forIn [0:n] (none,lo,w) f >>= g) Q u:=λlo w u f g e lh hn dl du f1 f2 f3=>by
  subst e;refine b7 (jg (i6 (I:=λx c v=>v=u/\∃l h,c=(none,l,h)/\l<=h/\h<=n/\h+x<=n+l/\(∀i,i<l->kx r p (d+i)<r t)/\∀i,h<=i->i<n->r t<kx r p (d+i))
   (Q:=λc v=>v=u/\∃h,c=(none,h,h)/\h<=n/\(∀i,i<h->kx r p (d+i)<r t)/\∀i,h<=i->i<n->r t<kx r p (d+i)) ?step ?stop #[zZ,lo,w,zZ,lh,hn,(),dl,du]) ?post)
  case step=>
   rintro x c v _ hx ⟨rfl,l,h,rfl,C,J,B,T,U⟩;by_cases z:l>=h
   .have:l=h:=by lia
    subst this;exact f1 x l l _ z #[zZ,l,zZ,J,T,U]
   .refine f2 x l h _ () J ?_;by_cases c:kx r p (d+(l+(h-l) /2))<r t
    .rw[wB c];exact#[zZ,_,_,zZ,(),(),(),λi w=>dn i _ () () c,U]
    .rw[wA c];exact#[zZ,_,_,zZ,(),(),(),T,λi L N=>O _ i L N c]
  case stop=>
   rintro c v ⟨rfl,l,h,rfl,C,J,B,T,U⟩;have:l=h:=by lia
   subst this;exact#[zZ,l,zZ,J,T,U]
  case post=>
   rintro c v ⟨rfl,h,rfl,N,T,U⟩;exact f3 h (q h N T U)
 refine b7 (H m _ Y ?_);by_cases c0:kx r p (d+m)<r t
 .rw[cG c0];dsimp only;rw[wB zZ];refine b7 (jg (i6 (I:=λx c u=>u=st/\∃l o,c=(none,l,o)/\l<o/\x+1<=o/\l<n-m/\kx r p (d+(m+l))<r t)
   (Q:=λc u=>u=st/\∃l o,c=(none,l,o)/\l<o/\l<n-m/\kx r p (d+(m+l))<r t/\(o<n-m-> ¬kx r p (d+(m+o))<r t)) ?step ?stop #[zZ,0,1,zZ,(),(),(),c0]) ?post)
  case step=>
   rintro x c u _ hx ⟨rfl,l,o,rfl,C,J,B,D⟩;dsimp only;by_cases z:o>=n-m
   .rw[wB z];exact cg #[zZ,l,o,zZ,C,B,D,λy=>by lia]
   .rw[wA z];refine b7 (H _ _ () ?_);by_cases c:kx r p (d+(m+o))<r t
    .rw[cG c];exact cg #[zZ,o,_,zZ,(),(),(),c]
    .rw[eW c];exact cg #[zZ,l,o,zZ,C,B,D,λ_=>c]
  case stop=>
   rintro c u ⟨rfl,l,o,rfl,C,J,B,D⟩;exact#[zZ,l,o,zZ,C,B,D,λy=>by lia]
  case post=>
   rintro c u ⟨rfl,l,o,rfl,C,B,D,l5⟩;dsimp only;refine fin (m+l+1) (m+min o (n-m)) _ _ _ zZ (yt (Nat.le_min.mpr #[C,B]) m) (cP (yt (Nat.min_le_right ..) m) (tr (pL (eM Y)))) (λi w=>dn i (m+l) (B4 w) (Nat.add_lt_of_lt_sub' B) D) (λi L N=>by
    by_cases z:o<n-m
    .exact O (m+o) i (by rw[sw (eM z)]at L;exact L) N (l5 z)
    .rw[Nat.min_eq_right (AU z),pL (eM Y)]at L;exact wC N (Nat.not_lt.mpr L)) (λx l h R z G=>?_) (λx l h R z hn G=>?_) (λh hq=>cg hq)
   .dsimp only;rw[wB z];exact cg G
   .dsimp only;rw[wA ()];refine b7 (H _ _ () ?_);by_cases c:kx r p (d+(l+(h-l) /2))<r t
    .rw[wB c]at G;rw[cG c];exact cg G
    .rw[wA c]at G;rw[eW c];exact cg G
 .rw[eW c0];dsimp only;rw[wA (by decide)];refine b7 (jg (i6 (I:=λx c u=>u=st/\∃l o,c=(none,l,o)/\l<o/\x+1<=o/\l<m+1/\ ¬kx r p (d+(m-l))<r t)
   (Q:=λc u=>u=st/\∃l o,c=(none,l,o)/\l<o/\l<m+1/\ ¬kx r p (d+(m-l))<r t/\(o<m+1->kx r p (d+(m-o))<r t)) ?step ?stop #[zZ,0,1,zZ,(),(),(),c0]) ?post)
  case step=>
   rintro x c u _ hx ⟨rfl,l,o,rfl,C,J,B,D⟩;dsimp only;by_cases z:o>=m+1
   .rw[wB z];exact cg #[zZ,l,o,zZ,C,B,D,λy=>by lia]
   .rw[wA z];refine b7 (H _ _ () ?_);by_cases c:kx r p (d+(m-o))<r t
    .rw[cG c];exact cg #[zZ,l,o,zZ,C,B,D,λ_=>c]
    .rw[eW c];exact cg #[zZ,o,_,zZ,(),(),(),c]
  case stop=>
   rintro c u ⟨rfl,l,o,rfl,C,J,B,D⟩;exact#[zZ,l,o,zZ,C,B,D,λy=>by lia]
  case post=>
   rintro c u ⟨rfl,l,o,rfl,C,B,D,l5⟩;dsimp only;refine fin (m+1-min o (m+1)) (m-l) _ _ _ zZ (cP (Nat.sub_le_sub_left (Nat.le_min.mpr #[C,B]) _) (tr (Nat.add_sub_add_right ..))) (cP (Nat.sub_le ..) (eM Y)) (λi w=>by
    by_cases z:o<m+1
    .rw[sw (eM z),Nat.succ_sub (B4 z)]at w;exact dn i (m-o) (B4 w) (yW (Nat.sub_le ..) Y) (l5 z)
    .rw[Nat.min_eq_right (AU z),mO]at w;exact wC w (qm _)) (λi L N=>O (m-l) i L N D) (λx l h R z G=>?_) (λx l h R z hn G=>?_) (λh hq=>cg hq)
   .dsimp only;rw[wB z];exact cg G
   .dsimp only;rw[wA ()];refine b7 (H _ _ () ?_);by_cases c:kx r p (d+(l+(h-l) /2))<r t
    .rw[wB c]at G;rw[cG c];exact cg G
    .rw[wA c]at G;rw[eW c];exact cg G
end
abbrev T5:Type:=Option (Array Keyed)×Array Keyed×Nat×Nat×Nat
abbrev T6:Type:=Option (Array Keyed)×Array Keyed×Nat×Nat×Nat×Nat
abbrev T7:Type:=Option (Array Keyed)×Array Keyed×Nat×Nat×Nat×Nat×Nat
def EG:Array Keyed->Array Keyed->StateT SortSt Sem (Array Keyed):=sortPriv%PySem.Builtin.mergeLo
def Di:Array Keyed->Array Keyed->StateT SortSt Sem (Array Keyed):=sortPriv%PySem.Builtin.mergeHi
def xK:Nat->StateT SortSt Sem Unit:=sortPriv%PySem.Builtin.setMinGallop
def R1(g:Nat):xK g=modify λst=>SortSt.mk' (kindOf st) (arrOf st) (pendingOf st) g (failedOf st):=rfl
section
variable(a b:Array Keyed)
abbrev lZ(c:Array Keyed)(d e:Nat):Array Keyed:=c++a.extract d a.size++b.extract e b.size
abbrev pd(c:Array Keyed)(d e:Nat):Array Keyed:=c++b.extract e b.size++a.extract d a.size
def Fs(mg:Nat)(c:T6):StateT SortSt Sem (ForInStep T6):=do
 let some d <-lt' (<-elem' b c.2.2.2.1) (<-elem' a c.2.2.1)|pure (.done (some (lZ a b c.2.1 c.2.2.1 c.2.2.2.1),c.2.1,c.2.2.1,c.2.2.2.1,c.2.2.2.2.1,c.2.2.2.2.2))
 if d then
  let x <-elem' b c.2.2.2.1
  if c.2.2.2.1+1==b.size then pure (.done (some (lZ a b (c.2.1.push x) c.2.2.1 (c.2.2.2.1+1)),c.2.1.push x,c.2.2.1,c.2.2.2.1+1,0,c.2.2.2.2.2+1))
  else if c.2.2.2.2.2+1>=mg then pure (.done (none,c.2.1.push x,c.2.2.1,c.2.2.2.1+1,0,c.2.2.2.2.2+1))
  else pure (.yield (none,c.2.1.push x,c.2.2.1,c.2.2.2.1+1,0,c.2.2.2.2.2+1))
 else
  let x <-elem' a c.2.2.1
  if c.2.2.1+1+1==a.size then pure (.done (some (pd a b (c.2.1.push x) (c.2.2.1+1) c.2.2.2.1),c.2.1.push x,c.2.2.1+1,c.2.2.2.1,c.2.2.2.2.1+1,0))
  else if c.2.2.2.2.1+1>=mg then pure (.done (none,c.2.1.push x,c.2.2.1+1,c.2.2.2.1,c.2.2.2.2.1+1,0))
  else pure (.yield (none,c.2.1.push x,c.2.2.1+1,c.2.2.2.1,c.2.2.2.2.1+1,0))
def oN(c:Array Keyed)(d e mg k f:Nat):StateT SortSt Sem (ForInStep T7):=do
 let x <-elem' a d
 if d+1+1==a.size then pure (.done (some (pd a b (c.push x) (d+1) e),c.push x,d+1,e,mg,k,f))
 else if k<7&&f<7 then pure (.done (none,c.push x,d+1,e,mg,k,f))
 else pure (.yield (none,c.push x,d+1,e,mg,k,f))
def pE(d:Array Keyed)(f c mg k g:Nat):StateT SortSt Sem (ForInStep T7):=do
 let y <-elem' b c
 if c+1==b.size then pure (.done (some (lZ a b (d.push y) f (c+1)),d.push y,f,c+1,mg,k,g))
 else do
  let some e <-qu true (<-elem' a f) b (c+1) (b.size-(c+1)) 0|pure (.done (some (lZ a b (d.push y) f (c+1)),d.push y,f,c+1,mg,k,g))
  if e>0 then
   if c+1+e==b.size then pure (.done (some (lZ a b (d.push y++b.extract (c+1) (c+1+e)) f (c+1+e)),d.push y++b.extract (c+1) (c+1+e),f,c+1+e,mg,k,e))
   else oN a b (d.push y++b.extract (c+1) (c+1+e)) f (c+1+e) mg k e
  else oN a b (d.push y) f (c+1) mg k e
def oD(c:T7)(mg:Nat):StateT SortSt Sem (ForInStep T7):=do
 xK mg
 let some k <-qu false (<-elem' b c.2.2.2.1) a c.2.2.1 (a.size-c.2.2.1) 0|pure (.done (some (lZ a b c.2.1 c.2.2.1 c.2.2.2.1),c.2.1,c.2.2.1,c.2.2.2.1,mg,c.2.2.2.2.2.1,c.2.2.2.2.2.2))
 if k>0 then
  if c.2.2.1+k+1==a.size then pure (.done (some (pd a b (c.2.1++a.extract c.2.2.1 (c.2.2.1+k)) (c.2.2.1+k) c.2.2.2.1),c.2.1++a.extract c.2.2.1 (c.2.2.1+k),c.2.2.1+k,c.2.2.2.1,mg,k,c.2.2.2.2.2.2))
  else if c.2.2.1+k==a.size then pure (.done (some (lZ a b (c.2.1++a.extract c.2.2.1 (c.2.2.1+k)) (c.2.2.1+k) c.2.2.2.1),c.2.1++a.extract c.2.2.1 (c.2.2.1+k),c.2.2.1+k,c.2.2.2.1,mg,k,c.2.2.2.2.2.2))
  else pE a b (c.2.1++a.extract c.2.2.1 (c.2.2.1+k)) (c.2.2.1+k) c.2.2.2.1 mg k c.2.2.2.2.2.2
 else pE a b c.2.1 c.2.2.1 c.2.2.2.1 mg k c.2.2.2.2.2.2
def Eg(c:T7):StateT SortSt Sem (ForInStep T7):=if c.2.2.2.2.1>1 then oD a b c (c.2.2.2.2.1-1)else oD a b c c.2.2.2.2.1
def Fa(c:T5):StateT SortSt Sem (ForInStep T5):=do
 let e <-forIn [0:a.size+b.size] ((none,c.2.1,c.2.2.1,c.2.2.2.1,0,0):T6) λ_ e=>Fs a b c.2.2.2.2 e
 match e.1 with
 |some r=>pure (.done (some r,e.2.1,e.2.2.1,e.2.2.2.1,c.2.2.2.2))
 | none=>do
  rule "list.sort.gallop"
  let d <-forIn [0:a.size+b.size] ((none,e.2.1,e.2.2.1,e.2.2.2.1,c.2.2.2.2+1,e.2.2.2.2.1,e.2.2.2.2.2):T7) λ_ d=>Eg a b d
  match d.1 with
  |some r=>pure (.done (some r,d.2.1,d.2.2.1,d.2.2.2.1,d.2.2.2.2.1))
  |none=>do
   xK (d.2.2.2.2.1+1)
   pure (.yield (none,d.2.1,d.2.2.1,d.2.2.2.1,d.2.2.2.2.1+1))
def Jg:StateT SortSt Sem (Array Keyed):=do
 rule "list.sort.merge-lo"
 let x <-elem' b 0
 if 1==b.size then pure (lZ a b #v[x] 0 1)
 else if 0+1==a.size then pure (pd a b #v[x] 0 1)
 else do
  let st <-get
  let c <-forIn [0:a.size+b.size] ((none,#v[x],0,1,gallopOf st):T5) λ_ c=>Fa a b c
  match c.1 with
  |some r=>pure r
  |none=>unsupported "internal:list.sort.merge-bound"
def O1:EG a b=Jg a b:=by
 refine cK (bind _) (funext λ_=>?_);refine cK (bind (elem' b 0)) (funext λx=>?_);refine xz zZ (λ_=>rfl) (λ_=>?_);refine xz zZ (λ_=>rfl) (λ_=>?_);refine cK (bind get) (funext λst=>?_);refine congr (cK bind (cK (forIn [0:a.size+b.size] _) (funext λu=>funext λc=>?_))) (funext λc=>?_)
 .refine congr (cK bind (cK (forIn [0:a.size+b.size] _) (funext λu=>funext λd=>rfl))) (funext λd=>?_);obtain⟨e,f,h,i,j,k⟩:=d;cases e with
  |some e=>rfl
  | none=>
   refine cK (bind _) (funext λ_=>?_);refine congr (cK bind (cK (forIn [0:a.size+b.size] _) (funext λu=>funext λg=>?_))) (funext λg=>?_)
   .refine xz zZ (λ_=>?_) (λ_=>?_)
    .rfl
    .rfl
   .obtain⟨l,_⟩:=g;cases l<;>rfl
 .obtain⟨r,_⟩:=c;cases r<;>rfl
end
abbrev Up(r:Keyed->Int)(l:List Keyed):Prop:=l.Pairwise λx y=>r x<r y
structure Mg(r:Keyed->Int)(la lb out:List Keyed)(ia ib:Nat):Prop where
 perm:(out++la.drop ia++lb.drop ib).Perm (la++lb)
 so:Up r out
 oa:∀x∈out,∀y∈la.drop ia,r x<r y
 ob:∀x∈out,∀y∈lb.drop ib,r x<r y
section
variable{r:Keyed->Int}{a b out:List Keyed}{c d:Nat}
def Bs{l:List Keyed}(h:Up r l)(i:Nat):Up r (l.drop i):=pF (List.drop_sublist i l) h
def KP{l:List Keyed}(h:Up r l)(i k:Nat):Up r ((l.drop i).take k)/\∀x∈(l.drop i).take k,∀y∈l.drop (i+k),r x<r y:=by
 have z:=Bs h i;rw[<-mY k (l.drop i)]at z;obtain⟨b,_,a⟩:=iX.mp z;rw[List.drop_drop]at a;exact#[b,a]
def Mg.len(m:Mg r a b out c d)(e:c<=a.length)(f:d<=b.length):out.length+(a.length-c)+(b.length-d)=a.length+b.length:=by
 have z:=m.perm.length_eq;rw[cI,cI,cI,qg,qg]at z;exact z
def Mg.moveA(m:Mg r a b out c d)(i:Up r a)(k:Nat)(h:∀x∈(a.drop c).take k,∀y∈b.drop d,r x<r y):Mg r a b (out++(a.drop c).take k) (c+k) d:=by
 obtain⟨j,l⟩:=KP i c k;have e:(a.drop c).take k++a.drop (c+k)=a.drop c:=by rw[<-List.drop_drop];exact mY k _
 have sub:∀y∈a.drop (c+k),y∈a.drop c:=λy f=>by rw[<-e];exact cF.mpr (.inr f)
 refine#[?_,iX.mpr #[m.so,j,λx g y f=>m.oa x g y (qk f)],λx g y f=>?_,λx g y f=>?_]
 .have z:=m.perm;rw[<-e,<-dR]at z;exact z
 .rcases cF.mp g with z|z
  .exact m.oa x z y (sub y f)
  .exact l x z y f
 .rcases cF.mp g with z|z
  .exact m.ob x z y f
  .exact h x z y f
def Mg.moveB(m:Mg r a b out c d)(i:Up r b)(k:Nat)(h:∀x∈(b.drop d).take k,∀y∈a.drop c,r x<r y):Mg r a b (out++(b.drop d).take k) c (d+k):=by
 obtain⟨j,l⟩:=KP i d k;have e:(b.drop d).take k++b.drop (d+k)=b.drop d:=by rw[<-List.drop_drop];exact mY k _
 have sub:∀y∈b.drop (d+k),y∈b.drop d:=λy f=>by rw[<-e];exact cF.mpr (.inr f)
 refine#[?_,iX.mpr #[m.so,j,λx g y f=>m.ob x g y (qk f)],λx g y f=>?_,λx g y f=>?_]
 .have z:=m.perm;rw[<-e]at z;refine List.Perm.trans ?_ z;rw[dR,dR,dR];refine zQ _ ?_;rw[<-dR,<-dR];exact BM _ CU
 .rcases cF.mp g with z|z
  .exact m.oa x z y f
  .exact h x z y f
 .rcases cF.mp g with z|z
  .exact m.ob x z y (sub y f)
  .exact l x z y f
def gf(r:Keyed->Int)(a b out:List Keyed):Prop:=out.Perm (a++b)/\Up r out
def Mg.endB(m:Mg r a b out c d)(e:Up r a)(h:b.length<=d):gf r a b (out++a.drop c++b.drop d):=by
 refine#[m.perm,?_];rw[List.drop_of_length_le h,i'];exact iX.mpr #[m.so,Bs e c,m.oa]
def Mg.endA(m:Mg r a b out c d)(e:Up r b)(h:a.length<=c):gf r a b (out++a.drop c++b.drop d):=by
 refine#[m.perm,?_];rw[List.drop_of_length_le h,i'];exact iX.mpr #[m.so,Bs e d,m.ob]
def Mg.last(m:Mg r a b out c d)(f:Up r b)(h:c+1=a.length)(top:∀y∈b,∀x∈a.drop c,r y<r x):gf r a b (out++b.drop d++a.drop c):=by
 refine#[List.Perm.trans ?_ m.perm,?_]
 .rw[dR,dR];exact zQ _ CU
 .obtain⟨x,g⟩:∃x,a.drop c=[x]:=List.length_eq_one_iff.mp (by rw[qg];lia);refine iX.mpr #[iX.mpr #[m.so,Bs f d,m.ob],by rw[g];exact td _ _,λy i x e=>?_]
  rcases cF.mp i with z|z
  .exact m.oa y z x e
  .exact top y (E3 z) x e
end
structure Eqv(st st':SortSt):Prop where
 kind:kindOf st'=kindOf st
 arr:arrOf st'=arrOf st
 pend:pendingOf st'=pendingOf st
 ok:failedOf st'=failedOf st
def Eqv.refl(st:SortSt):Eqv st st:=#[zZ,zZ,zZ,zZ]
def Eqv.trans{a b c:SortSt}(h:Eqv a b)(d:Eqv b c):Eqv a c:=#[d.kind.trans h.kind,d.arr.trans h.arr,d.pend.trans h.pend,d.ok.trans h.ok]
section
variable{M:Model}{A:Ar}{E:VP}{s:Sh}{κ:SortKind}{r:Keyed->Int}{a₀ a b out:Array Keyed}{ia ib:Nat}
def Cm{g:Nat}{st:SortSt}{Q:Unit->SortSt->Prop}(h:∀a,Eqv st a->Q ⟨⟩ a):wpS M A E s (xK g) Q st:=by
 rw[R1];exact nV (h _ #[zZ,zZ,zZ,zZ])
def Bo(a:Array Keyed)(i:Nat):(a.extract i a.size).toList=a.toList.drop i:=by
 rw[Ce,A2,vg (by rw[qg,dr];exact bR _)]
def HS(a:Array Keyed)(i k:Nat):(a.extract i (i+k)).toList=(a.toList.drop i).take k:=by
 rw[Ce,A2,xt]
def Ah:(lZ a b out ia ib).toList=out.toList++a.toList.drop ia++b.toList.drop ib:=by
 rw[mF,mF,Bo,Bo]
def CO:(pd a b out ia ib).toList=out.toList++b.toList.drop ib++a.toList.drop ia:=by
 rw[mF,mF,Bo,Bo]
def F'{i:Nat}(h:i<a.size):a.toList.drop i=a.getD i d0::a.toList.drop (i+1):=by
 have z:=pX h;rw[<-j4]at z;obtain⟨b,c⟩:=bU.mp z;rw[AT b,c]
def BX{i:Nat}{x:Keyed}(h:x∈a.toList.drop i):∃j,i<=j/\j<a.size/\a.getD j d0=x:=by
 obtain⟨j,b⟩:=wc h;rw[wr,j4]at b;exact#[i+j,(),(zq.mp b).1,cz b]
def FT{i k:Nat}{x:Keyed}(h:x∈(a.toList.drop i).take k):∃j,j<k/\i+j<a.size/\a.getD (i+j) d0=x:=by
 obtain⟨j,b⟩:=wc h;rw[Fk]at b;split at b
 .next l=>
  rw[wr,j4]at b;exact#[j,l,(zq.mp b).1,cz b]
 .cases b
def vt{lo b:Nat}(h:Up r a.toList)(n:b<=a.size):Ris r a lo b:=λi j _ c o=>by
 have e:∀k,k<a.size->a.toList[k]?=some (a.getD k d0):=λk d=>by rw[j4];exact pX d
 obtain⟨f,g⟩:=bU.mp (e i ());obtain⟨l,m⟩:=bU.mp (e j ());have z:=oi.mp h i j f l c;rw[g,m]at z;exact z
def ie{i:Nat}(h:i<a.size):a.getD i d0∈a.toList:=by
 rw[Fj];exact EI (pX h)
structure Two(κ:SortKind)(r:Keyed->Int)(a₀ a b:Array Keyed):Prop where
 ma:∀x∈a.toList,x∈a₀
 mb:∀x∈b.toList,x∈a₀
 sa:Up r a.toList
 sb:Up r b.toList
 ap:∀x∈a.toList,∀y∈b.toList,r x≠r y
 a1:0<a.size
 b1:0<b.size
 lo:∀x∈a.toList,r (b.getD 0 d0)<r x
 top:∀y∈b.toList,r y<r (a.getD (a.size-1) d0)
abbrev Gd(r:Keyed->Int)(a b m:Array Keyed):Prop:=gf r a.toList b.toList m.toList
def Two.tops(t:Two κ r a₀ a b){i:Nat}(h:i+1=a.size):∀y∈b.toList,∀x∈a.toList.drop i,r y<r x:=λy c x d=>by
 obtain⟨j,f,g,rfl⟩:=BX d;have e:j=a.size-1:=by lia
 subst e;exact t.top y c
def AD{x:Keyed}:(out.push x).toList=out.toList++[x]:=xj
def Ir(t:Two κ r a₀ a b)(m:Mg r a.toList b.toList out.toList ia ib)(c:ia<a.size)(h:∀y∈b.toList.drop ib,r (a.getD ia d0)<r y):Mg r a.toList b.toList (out.push (a.getD ia d0)).toList (ia+1) ib:=by
 have e:(a.toList.drop ia).take 1=[a.getD ia d0]:=by rw[F' c];rfl
 have z:=m.moveA t.sa 1 (by rw[e];intro x d;rw[ci.mp d];exact h);rw[e]at z;rw[AD];exact z
def FM(t:Two κ r a₀ a b)(m:Mg r a.toList b.toList out.toList ia ib)(c:ib<b.size)(h:∀y∈a.toList.drop ia,r (b.getD ib d0)<r y):Mg r a.toList b.toList (out.push (b.getD ib d0)).toList ia (ib+1):=by
 have e:(b.toList.drop ib).take 1=[b.getD ib d0]:=by rw[F' c];rfl
 have z:=m.moveB t.sb 1 (by rw[e];intro x d;rw[ci.mp d];exact h);rw[e]at z;rw[AD];exact z
def below{x:Int}{i:Nat}(b:Up r a.toList)(f:i<a.size)(h:x<r (a.getD i d0)):∀y∈a.toList.drop i,x<r y:=λy c=>by
 obtain⟨j,g,d,rfl⟩:=BX c;by_cases e:j=i
 .subst e;exact h
 .have:=vt (lo:=0) b (bR _) i j (iW _) () d;show x<kx r a j;have:x<kx r a i:=h;lia
def MJ{e:SortSt}{mg old t:Nat}{c:T6}{st:SortSt}{Q:ForInStep T6->SortSt->Prop}(K:Asks M A s κ r a₀)(T:Two κ r a₀ a b)(n:Eqv e st)(o:kindOf e=κ)(p:c=(none,out,ia,ib,c.2.2.2.2.1,c.2.2.2.2.2))(m:Mg r a.toList b.toList out.toList ia ib)(q:ia+1<a.size)(d:ib<b.size)(B:old+t<=out.size)(k:∀w rest,Gd r a b w->Q (.done (some w,rest)) st) (l:∀out ia ib x y,Mg r a.toList b.toList out.toList ia ib->ia+1<a.size->ib<b.size->old+t+1<=out.size->Q (.done (none,out,ia,ib,x,y)) st/\Q (.yield (none,out,ia,ib,x,y)) st):wpS M A E s (Fs a b mg c) Q st:=by
 have h:=n.kind.trans o;unfold Fs;rw[p];dsimp only;have u:=T.ma _ (ie (show ia<a.size by lia));have v:=T.mb _ (ie d);refine b7 (gy d (b7 (gy () (b7 (yK K h v u ?_)))));by_cases w:r (b.getD ib d0)<r (a.getD ia d0)
 .rw[cG w];refine b7 (gy d ?_);have f:=FM T m d (below T.sa () w);by_cases z:ib+1=b.size
  .rw[wB (by simpa using z)];refine cg (k _ _ ?_);show gf r _ _ (lZ a b _ _ _).toList
   rw[Ah];exact f.endB T.sa (by rw[dr];lia)
  .rw[wA (by simpa using z)];obtain⟨i,j⟩:=l _ _ _ 0 (c.2.2.2.2.2+1) f q () (by rw[oV];lia);by_cases g:c.2.2.2.2.2+1>=mg
   .rw[wB g];exact cg i
   .rw[wA g];exact cg j
 .rw[eW w];refine b7 (gy () ?_);have C:=T.ap _ (ie (show ia<a.size by lia)) _ (ie d);have f:=Ir T m () (below T.sb d ());by_cases z:ia+1+1=a.size
  .rw[wB (by simpa using z)];refine cg (k _ _ ?_);show gf r _ _ (pd a b _ _ _).toList
   rw[CO];exact f.last T.sb (by rw[dr];lia) (T.tops ())
  .rw[wA (by simpa using z)];obtain⟨i,j⟩:=l _ _ _ (c.2.2.2.2.1+1) 0 f () d (by rw[oV];lia);by_cases g:c.2.2.2.2.1+1>=mg
   .rw[wB g];exact cg i
   .rw[wA g];exact cg j
end
section
variable{M:Model}{A:Ar}{E:VP}{s:Sh}{κ:SortKind}{r:Keyed->Int}{a₀ a b out:Array Keyed}{ia ib:Nat}
structure Rnd(r:Keyed->Int)(a b:Array Keyed)(st0:SortSt)(old:Nat)(Q:ForInStep T7->SortSt->Prop):Prop where
 q1:∀st w rest,Eqv st0 st->Gd r a b w->Q (.done (some w,rest)) st
 q2:∀st (out:Array Keyed) ia ib x y z,Eqv st0 st->Mg r a.toList b.toList out.toList ia ib->ia+1<a.size->ib<b.size->old<=out.size->Q (.done (none,out,ia,ib,x,y,z)) st/\Q (.yield (none,out,ia,ib,x,y,z)) st
def Li{c st:SortSt}{mg k d old:Nat}{Q:ForInStep T7->SortSt->Prop}(T:Two κ r a₀ a b)(e:Eqv c st)(m:Mg r a.toList b.toList out.toList ia ib)(l:ia+1<a.size)(h:ib<b.size)(n:old<=out.size)(lt:∀y∈b.toList.drop ib,r (a.getD ia d0)<r y)(q:Rnd r a b c old Q):wpS M A E s (oN a b out ia ib mg k d) Q st:=by
 unfold oN;refine b7 (gy () ?_);have f:=Ir T m () lt;by_cases z:ia+1+1=a.size
 .rw[wB (by simpa using z)];refine cg (q.q1 _ _ _ e ?_);show gf r _ _ (pd a b _ _ _).toList;rw[CO];exact f.last T.sb (by rw[dr];lia) (T.tops ())
 .rw[wA (by simpa using z)];obtain⟨i,j⟩:=q.q2 st _ _ _ mg k d e f () h (by rw[oV];lia);by_cases g:(decide (k<7)&&decide (d<7))=true
  .rw[wB g];exact cg i
  .rw[wA g];exact cg j
def HZ{c st:SortSt}{mg k I old:Nat}{Q:ForInStep T7->SortSt->Prop}(K:Asks M A s κ r a₀)(J:kindOf c=κ)(T:Two κ r a₀ a b)(f:Eqv c st)(m:Mg r a.toList b.toList out.toList ia ib)(w:ia+1<a.size)(B:ib<b.size)(Y:old<=out.size)(lt:∀y∈a.toList.drop ia,r (b.getD ib d0)<r y)(q:Rnd r a b c old Q):wpS M A E s (pE a b out ia ib mg k I) Q st:=by
 have p:=f.kind.trans J;unfold pE;refine b7 (gy B ?_);have o:=FM T m B lt;have h:old<=(out.push (b.getD ib d0)).size:=by rw[oV];lia
 generalize out.push (b.getD ib d0)=l at o h;by_cases z:ib+1=b.size
 .rw[wB (by simpa using z)];refine cg (q.q1 _ _ _ f ?_);show gf r _ _ (lZ a b _ _ _).toList;rw[Ah];exact o.endB T.sa (by rw[dr];lia)
 rw[wA (by simpa using z)];have C:=ie (show ia<a.size by lia);refine b7 (gy () (b7 (xr K p () (λi L=>T.mb _ (ie ())) (T.ma _ C) (λi L=>(T.ap _ C _ (ie (show ib+1+i<b.size by lia))).symm) (vt T.sb ()) () λd kn N O=>?_)));dsimp only;have D:∀y∈b.toList.drop (ib+1+d),r (a.getD ia d0)<r y:=λy t=>by
  obtain⟨j,n,G,rfl⟩:=BX t;have:=O (j-(ib+1)) (GK (Nat.add_comm .. ▸n)) (Nat.sub_lt_sub_right (cP (nN ..) n) G);rw[pL (cP (nN ..) n)]at this;exact this
 by_cases g:d>0
 .rw[wB g];have u:=o.moveB T.sb d (λx U y t=>by
   obtain⟨j,n,G,rfl⟩:=FT U;exact below T.sa () (N j n) y t)
  rw[<-HS,<-mF]at u;have v:old<=(l++b.extract (ib+1) (ib+1+d)).size:=by rw[BG];lia
  by_cases H:ib+1+d=b.size
  .rw[wB (by simpa using H)];refine cg (q.q1 _ _ _ f ?_);show gf r _ _ (lZ a b _ _ _).toList
   rw[Ah];exact u.endB T.sa (by rw[dr];lia)
  .rw[wA (by simpa using H)];exact Li T f u w () v D q
 .rw[wA g];have e:d=0:=Nat.eq_zero_of_not_pos g;subst e;exact Li T f o w () h D q
def Ik{d st:SortSt}{c:T7}{mg old:Nat}{Q:ForInStep T7->SortSt->Prop}(K:Asks M A s κ r a₀)(o:kindOf d=κ)(T:Two κ r a₀ a b)(D:Eqv d st)(G:c.2.1=out/\c.2.2.1=ia/\c.2.2.2.1=ib)(m:Mg r a.toList b.toList out.toList ia ib)(H:ia+1<a.size)(f:ib<b.size)(I:old<=out.size)(q:Rnd r a b d old Q):wpS M A E s (oD a b c mg) Q st:=by
 obtain⟨J,L,N⟩:=G;unfold oD;rw[J,L,N];refine b7 (Cm λO U=>?_);have h:=D.trans U;have p:=h.kind.trans o;have v:=ie f;refine b7 (gy f (b7 (xr K p () (λi Y=>T.ma _ (ie ())) (T.mb _ v) (λi Y=>T.ap _ (ie (show ia+i<a.size by lia)) _ v) (vt T.sa ()) () λk kn k2 k3=>?_)));dsimp only;have w:∀y∈a.toList.drop (ia+k),r (b.getD ib d0)<r y:=λy t=>by
  obtain⟨j,l,z,rfl⟩:=BX t;have:=k3 (j-ia) (GK (Nat.add_comm .. ▸l)) (Nat.sub_lt_sub_right (cP (nN ..) l) z);rw[pL (cP (nN ..) l)]at this;exact this
 by_cases g:k>0
 .rw[wB g];have n:=m.moveA T.sa k (λx hx y t=>by
   obtain⟨j,l,z,rfl⟩:=FT hx;exact below T.sb f (k2 j l) y t)
  rw[<-HS,<-mF]at n;have u:old<=(out++a.extract ia (ia+k)).size:=by rw[BG];lia
  by_cases B:ia+k+1=a.size
  .rw[wB (by simpa using B)];refine cg (q.q1 _ _ _ h ?_);show gf r _ _ (pd a b _ _ _).toList
   rw[CO];exact n.last T.sb (by rw[dr];lia) (T.tops ())
  rw[wA (by simpa using B)];by_cases C:ia+k=a.size
  .rw[wB (by simpa using C)];refine cg (q.q1 _ _ _ h ?_);show gf r _ _ (lZ a b _ _ _).toList
   rw[Ah];exact n.endA T.sb (by rw[dr];lia)
  rw[wA (by simpa using C)];exact HZ K o T h n () f u w q
 .rw[wA g];have e:k=0:=Nat.eq_zero_of_not_pos g;subst e;exact HZ K o T h m H f I w q
def LR{d st:SortSt}{c:T7}{old:Nat}{Q:ForInStep T7->SortSt->Prop}(K:Asks M A s κ r a₀)(e:kindOf d=κ)(T:Two κ r a₀ a b)(f:Eqv d st)(g:c.2.1=out/\c.2.2.1=ia/\c.2.2.2.1=ib)(m:Mg r a.toList b.toList out.toList ia ib)(h:ia+1<a.size)(i:ib<b.size)(j:old<=out.size)(q:Rnd r a b d old Q):wpS M A E s (Eg a b c) Q st:=by
 unfold Eg;split
 .exact Ik K e T f g m h i j q
 .exact Ik K e T f g m h i j q
def Lm{f st:SortSt}{c:T5}{Q:ForInStep T5->SortSt->Prop}{mg:Nat}(K:Asks M A s κ r a₀)(hk:kindOf f=κ)(T:Two κ r a₀ a b)(e0:Eqv f st)(ec:c=(none,out,ia,ib,mg))(m:Mg r a.toList b.toList out.toList ia ib)(ha:ia+1<a.size)(hb:ib<b.size)(q1:∀st w rest,Eqv f st->Gd r a b w->Q (.done (some w,rest)) st) (q2:∀st (k:Array Keyed) ia ib g,Eqv f st->Mg r a.toList b.toList k.toList ia ib->ia+1<a.size->ib<b.size->out.size+1<=k.size->Q (.yield (none,k,ia,ib,g)) st):wpS M A E s (Fa a b c) Q st:=by
 subst ec;unfold Fa;dsimp only;have aa:0<a.size+b.size:=by lia
 refine b7 (jg (i6 (I:=λx (q:T6) d=>Eqv f d/\∃(o:Array Keyed) (i j u v:Nat),q=(none,o,i,j,u,v)/\Mg r a.toList b.toList o.toList i j/\i+1<a.size/\j<b.size/\out.size+x<=o.size)
  (Q:=λq d=>Eqv f d/\((∃w rest,q=(some w,rest)/\Gd r a b w)\/∃(o:Array Keyed) (i j u v:Nat),q=(none,o,i,j,u,v)/\Mg r a.toList b.toList o.toList i j/\i+1<a.size/\j<b.size/\out.size+1<=o.size)) ?step ?stop #[e0,out,ia,ib,0,0,zZ,m,ha,hb,bR _]) ?post)
 case step=>
  rintro x q d _ hx ⟨p,o,i,j,u,v,rfl,C,D,G,h3⟩;refine MJ (old:=out.size) (t:=x) K T p hk zZ C D G h3 (λw rest g=>#[p,.inl #[w,rest,zZ,g]]) λH J L u' v' N l n y=>#[#[p,.inr #[H,J,L,u',v',zZ,N,l,n,()]],#[p,H,J,L,u',v',zZ,N,l,n,()]]
 case stop=>
  rintro q d ⟨p,o,i,j,u,v,rfl,C,D,G,h3⟩;exact#[p,.inr #[o,i,j,u,v,zZ,C,D,G,()]]
 case post=>
  rintro q d ⟨p,h⟩
  rcases h with⟨w,rest,rfl,g⟩|⟨o,i,j,u,v,rfl,C,D,G,h3⟩
  .exact cg (q1 _ _ _ p g)
  dsimp only;refine b7 (rA (ph #[zZ,?_]));refine b7 (jg (i6 (I:=λx (z:T7) d=>Eqv f d/\∃(o:Array Keyed) (i j u v w:Nat),z=(none,o,i,j,u,v,w)/\Mg r a.toList b.toList o.toList i j/\i+1<a.size/\j<b.size/\out.size+1<=o.size)
   (Q:=λz d=>Eqv f d/\((∃w rest,z=(some w,rest)/\Gd r a b w)\/∃(o:Array Keyed) (i j u v w:Nat),z=(none,o,i,j,u,v,w)/\Mg r a.toList b.toList o.toList i j/\i+1<a.size/\j<b.size/\out.size+1<=o.size)) ?step2 ?stop2 #[p,o,i,j,mg+1,u,v,zZ,C,D,G,h3]) ?post2)
  case step2=>
   rintro x z O _ hx ⟨B,o,i,j,u,v,w,rfl,U,Y,g2,g3⟩;exact LR K hk T B #[zZ,zZ,zZ] U Y g2 g3 #[λst w rest e g=>#[e,.inl #[w,rest,zZ,g]],λst H J L x' y' z' e N l n y=>#[#[e,.inr #[H,J,L,x',y',z',zZ,N,l,n,y]],#[e,H,J,L,x',y',z',zZ,N,l,n,y]]]
  case stop2=>
   rintro z O ⟨B,o,i,j,u,v,w,rfl,U,Y,g2,g3⟩;exact#[B,.inr #[o,i,j,u,v,w,zZ,U,Y,g2,g3]]
  case post2=>
   rintro z O ⟨B,h⟩
   rcases h with⟨w,rest,rfl,g⟩|⟨o,i,j,u,v,w,rfl,U,Y,g2,g3⟩
   .exact cg (q1 _ _ _ B g)
   .dsimp only;exact b7 (Cm λab x3=>cg (q2 _ _ _ _ _ (B.trans x3) U Y g2 g3))
def Rt{st:SortSt}{Q:Array Keyed->SortSt->Prop}(K:Asks M A s κ r a₀)(C:kindOf st=κ)(T:Two κ r a₀ a b)(q:∀m d,Eqv st d->Gd r a b m->Q m d):wpS M A E s (EG a b) Q st:=by
 rw[O1];unfold Jg;refine b7 (rA (ph #[zZ,b7 (gy T.b1 ?_)]));have D:Mg r a.toList b.toList (#v[]:Array Keyed).toList 0 0:=#[by simp,List.Pairwise.nil,λx f=>(nomatch f),λx f=>(nomatch f)];have k:Mg r a.toList b.toList (#v[b.getD 0 d0]:Array Keyed).toList 0 1:=FM (out:= #v[]) T D T.b1 (λy G=>T.lo y G);have a1:=T.a1;have b1:=T.b1;by_cases t:1=b.size
 .rw[wB (by simpa using t)];refine cg (q _ _ (Eqv.refl _) ?_);show gf r _ _ (lZ a b _ _ _).toList;rw[Ah];exact k.endB T.sa (by rw[dr];lia)
 rw[wA (by simpa using t)];by_cases u:0+1=a.size
 .rw[wB (by simpa using u)];refine cg (q _ _ (Eqv.refl _) ?_);show gf r _ _ (pd a b _ _ _).toList;rw[CO];exact k.last T.sb (by rw[dr];lia) (T.tops ())
 rw[wA (by simpa using u)];refine b7 (mN (b7 (jg (i6 (I:=λx (c:T5) d=>Eqv st d/\∃(o:Array Keyed) (i j g:Nat),c=(none,o,i,j,g)/\Mg r a.toList b.toList o.toList i j/\i+1<a.size/\j<b.size/\x+1<=o.size)
  (Q:=λc d=>Eqv st d/\∃w rest,c=(some w,rest)/\Gd r a b w) ?step ?stop #[Eqv.refl _,_,0,1,_,zZ,k,(),(),bR _]) ?post)))
 case step=>
  rintro x c d _ f ⟨h,o,i,j,g,rfl,l,v,B,H⟩;exact Lm K C T h zZ l v B (λst w rest e g=>#[e,w,rest,zZ,g]) λd J L N O e U n p Y=>#[e,J,L,N,O,zZ,U,n,p,()]
 case stop=>
  rintro c d ⟨h,o,i,j,g,rfl,l,v,B,H⟩;have z:=l.len (by rw[dr];lia) (by rw[dr];lia);rw[dr,dr,dr]at z
  exfalso
  lia
 case post=>
  rintro c d ⟨h,w,rest,rfl,g⟩;exact cg (q _ _ h g)
end
abbrev U5:Type:=Option (Array Keyed)×Nat×Nat×Array Keyed×Nat
abbrev U6:Type:=Option (Array Keyed)×Nat×Nat×Array Keyed×Nat×Nat
abbrev U7:Type:=Option (Array Keyed)×Nat×Nat×Array Keyed×Nat×Nat×Nat
section
variable(a b:Array Keyed)
abbrev lU(c:Array Keyed)(d e:Nat):Array Keyed:=a.extract 0 d++b.extract 0 e++c.reverse
abbrev pI(c:Array Keyed)(d e:Nat):Array Keyed:=b.extract 0 e++a.extract 0 d++c.reverse
def nS(mg:Nat)(c:U6):StateT SortSt Sem (ForInStep U6):=do
 let some d <-lt' (<-elem' b (c.2.2.1-1)) (<-elem' a (c.2.1-1))|pure (.done (some (lU a b c.2.2.2.1 c.2.1 c.2.2.1),c.2.1,c.2.2.1,c.2.2.2.1,c.2.2.2.2.1,c.2.2.2.2.2))
 if d then
  let x <-elem' a (c.2.1-1)
  if c.2.1-1==0 then pure (.done (some (lU a b (c.2.2.2.1.push x) (c.2.1-1) c.2.2.1),c.2.1-1,c.2.2.1,c.2.2.2.1.push x,c.2.2.2.2.1+1,0))
  else if c.2.2.2.2.1+1>=mg then pure (.done (none,c.2.1-1,c.2.2.1,c.2.2.2.1.push x,c.2.2.2.2.1+1,0))
  else pure (.yield (none,c.2.1-1,c.2.2.1,c.2.2.2.1.push x,c.2.2.2.2.1+1,0))
 else
  let x <-elem' b (c.2.2.1-1)
  if c.2.2.1-1==1 then pure (.done (some (pI a b (c.2.2.2.1.push x) c.2.1 (c.2.2.1-1)),c.2.1,c.2.2.1-1,c.2.2.2.1.push x,0,c.2.2.2.2.2+1))
  else if c.2.2.2.2.2+1>=mg then pure (.done (none,c.2.1,c.2.2.1-1,c.2.2.2.1.push x,0,c.2.2.2.2.2+1))
  else pure (.yield (none,c.2.1,c.2.2.1-1,c.2.2.2.1.push x,0,c.2.2.2.2.2+1))
def oE(d e:Nat)(c:Array Keyed)(mg k f:Nat):StateT SortSt Sem (ForInStep U7):=do
 let x <-elem' a (d-1)
 if d-1==0 then pure (.done (some (lU a b (c.push x) (d-1) e),d-1,e,c.push x,mg,k,f))
 else if k<7&&f<7 then pure (.done (none,d-1,e,c.push x,mg,k,f))
 else pure (.yield (none,d-1,e,c.push x,mg,k,f))
def pc(e d:Nat)(c:Array Keyed)(mg k f:Nat):StateT SortSt Sem (ForInStep U7):=do
 let y <-elem' b (d-1)
 if d-1==1 then pure (.done (some (pI a b (c.push y) e (d-1)),e,d-1,c.push y,mg,k,f))
 else do
  let some t <-qu true (<-elem' a (e-1)) b 0 (d-1) (d-1-1)|pure (.done (some (lU a b (c.push y) e (d-1)),e,d-1,c.push y,mg,k,f))
  if d-1-t>0 then
   if t==1 then pure (.done (some (pI a b (c.push y++(b.extract t (d-1)).reverse) e t),e,t,c.push y++(b.extract t (d-1)).reverse,mg,k,d-1-t))
   else if t==0 then pure (.done (some (lU a b (c.push y++(b.extract t (d-1)).reverse) e t),e,t,c.push y++(b.extract t (d-1)).reverse,mg,k,d-1-t))
   else oE a b e t (c.push y++(b.extract t (d-1)).reverse) mg k (d-1-t)
  else oE a b e (d-1) (c.push y) mg k (d-1-t)
def pi(c:U7)(mg:Nat):StateT SortSt Sem (ForInStep U7):=do
 xK mg
 let some t <-qu false (<-elem' b (c.2.2.1-1)) a 0 c.2.1 (c.2.1-1)|pure (.done (some (lU a b c.2.2.2.1 c.2.1 c.2.2.1),c.2.1,c.2.2.1,c.2.2.2.1,mg,c.2.2.2.2.2.1,c.2.2.2.2.2.2))
 if c.2.1-t>0 then
  if t==0 then pure (.done (some (lU a b (c.2.2.2.1++(a.extract t c.2.1).reverse) t c.2.2.1),t,c.2.2.1,c.2.2.2.1++(a.extract t c.2.1).reverse,mg,c.2.1-t,c.2.2.2.2.2.2))
  else pc a b t c.2.2.1 (c.2.2.2.1++(a.extract t c.2.1).reverse) mg (c.2.1-t) c.2.2.2.2.2.2
 else pc a b c.2.1 c.2.2.1 c.2.2.2.1 mg (c.2.1-t) c.2.2.2.2.2.2
def zO(c:U7):StateT SortSt Sem (ForInStep U7):=if c.2.2.2.2.1>1 then pi a b c (c.2.2.2.2.1-1)else pi a b c c.2.2.2.2.1
def FG(c:U5):StateT SortSt Sem (ForInStep U5):=do
 let e <-forIn [0:a.size+b.size] ((none,c.2.1,c.2.2.1,c.2.2.2.1,0,0):U6) λ_ e=>nS a b c.2.2.2.2 e
 match e.1 with
 |some r=>pure (.done (some r,e.2.1,e.2.2.1,e.2.2.2.1,c.2.2.2.2))
 | none=>do
  rule "list.sort.gallop"
  let d <-forIn [0:a.size+b.size] ((none,e.2.1,e.2.2.1,e.2.2.2.1,c.2.2.2.2+1,e.2.2.2.2.1,e.2.2.2.2.2):U7) λ_ d=>zO a b d
  match d.1 with
  |some r=>pure (.done (some r,d.2.1,d.2.2.1,d.2.2.2.1,d.2.2.2.2.1))
  |none=>do
   xK (d.2.2.2.2.1+1)
   pure (.yield (none,d.2.1,d.2.2.1,d.2.2.2.1,d.2.2.2.2.1+1))
def HK:StateT SortSt Sem (Array Keyed):=do
 rule "list.sort.merge-hi"
 let x <-elem' a (a.size-1)
 if a.size-1==0 then pure (lU a b #v[x] (a.size-1) b.size)
 else if b.size==1 then pure (pI a b #v[x] (a.size-1) b.size)
 else do
  let st <-get
  let c <-forIn [0:a.size+b.size] ((none,a.size-1,b.size,#v[x],gallopOf st):U5) λ_ c=>FG a b c
  match c.1 with
  |some r=>pure r
  |none=>unsupported "internal:list.sort.merge-bound"
def QC:Di a b=HK a b:=by
 refine cK (bind _) (funext λ_=>?_);refine cK (bind (elem' a (a.size-1))) (funext λx=>?_);refine xz zZ (λ_=>rfl) (λ_=>?_);refine xz zZ (λ_=>rfl) (λ_=>?_);refine cK (bind get) (funext λst=>?_);refine congr (cK bind (cK (forIn [0:a.size+b.size] _) (funext λu=>funext λc=>?_))) (funext λc=>?_)
 .refine congr (cK bind (cK (forIn [0:a.size+b.size] _) (funext λu=>funext λd=>rfl))) (funext λd=>?_);obtain⟨e,f,h,i,j,k⟩:=d;cases e with
  |some e=>rfl
  | none=>
   refine cK (bind _) (funext λ_=>?_);refine congr (cK bind (cK (forIn [0:a.size+b.size] _) (funext λu=>funext λg=>?_))) (funext λg=>?_)
   .refine xz zZ (λ_=>?_) (λ_=>?_)
    .rfl
    .rfl
   .obtain⟨l,_⟩:=g;cases l<;>rfl
 .obtain⟨r,_⟩:=c;cases r<;>rfl
end
structure Mh(r:Keyed->Int)(la lb out:List Keyed)(na nb:Nat):Prop where
 perm:(la.take na++lb.take nb++out.reverse).Perm (la++lb)
 so:Up r out.reverse
 ao:∀x∈la.take na,∀y∈out,r x<r y
 bo:∀x∈lb.take nb,∀y∈out,r x<r y
section
variable{r:Keyed->Int}{a b out:List Keyed}{f d:Nat}
def JY{l:List Keyed}(h:Up r l){n t:Nat}(ht:t<=n):l.take t++(l.take n).drop t=l.take n/\Up r ((l.take n).drop t)/\∀x∈l.take t,∀y∈(l.take n).drop t,r x<r y:=by
 have e:l.take t++(l.take n).drop t=l.take n:=by
  have z:=mY t (l.take n);rwa[List.take_take,sw ht]at z
 have z:Up r (l.take n):=pF (wh n l) h;rw[<-e]at z;obtain⟨_,a,b⟩:=iX.mp z;exact#[e,a,b]
def Mh.len(m:Mh r a b out f d)(c:f<=a.length)(e:d<=b.length):f+d+out.length=a.length+b.length:=by
 have z:=m.perm.length_eq;rw[cI,cI,cI,fh,fh,List.length_reverse]at z;lia
def Mh.moveA(m:Mh r a b out f d)(l:Up r a){t:Nat}(ht:t<=f)(h:∀x∈b.take d,∀y∈(a.take f).drop t,r x<r y):Mh r a b (out++((a.take f).drop t).reverse) t d:=by
 obtain⟨e,u,c⟩:=JY l ht;have sub:∀x∈a.take t,x∈a.take f:=λx g=>by rw[<-e];exact cF.mpr (.inl g)
 have i:∀x∈(a.take f).drop t,x∈a.take f:=λx g=>E3 g;have k:(out++((a.take f).drop t).reverse).reverse=(a.take f).drop t++out.reverse:=by rw[List.reverse_append,List.reverse_reverse]
 refine#[?_,?_,λx g y j=>?_,λx g y j=>?_]
 .rw[k];refine List.Perm.trans ?_ m.perm
  conv=>rhs;rw[<-e]
  rw[dR,dR,dR];refine zQ _ ?_;rw[<-dR,<-dR];exact BM _ CU
 .rw[k];exact iX.mpr #[u,m.so,λx g y j=>m.ao x (i x g) y (nJ.mp j)]
 .rcases cF.mp j with z|z
  .exact m.ao x (sub x g) y z
  .exact c x g y (nJ.mp z)
 .rcases cF.mp j with z|z
  .exact m.bo x g y z
  .exact h x g y (nJ.mp z)
def Mh.moveB(m:Mh r a b out f d)(l:Up r b){t:Nat}(ht:t<=d)(h:∀x∈a.take f,∀y∈(b.take d).drop t,r x<r y):Mh r a b (out++((b.take d).drop t).reverse) f t:=by
 obtain⟨e,u,c⟩:=JY l ht;have sub:∀x∈b.take t,x∈b.take d:=λx g=>by rw[<-e];exact cF.mpr (.inl g)
 have i:∀x∈(b.take d).drop t,x∈b.take d:=λx g=>E3 g;have k:(out++((b.take d).drop t).reverse).reverse=(b.take d).drop t++out.reverse:=by rw[List.reverse_append,List.reverse_reverse]
 refine#[?_,?_,λx g y j=>?_,λx g y j=>?_]
 .rw[k];refine List.Perm.trans ?_ m.perm
  conv=>rhs;rw[<-e]
  rw[dR,dR,dR]
 .rw[k];exact iX.mpr #[u,m.so,λx g y j=>m.bo x (i x g) y (nJ.mp j)]
 .rcases cF.mp j with z|z
  .exact m.ao x g y z
  .exact h x g y (nJ.mp z)
 .rcases cF.mp j with z|z
  .exact m.bo x (sub x g) y z
  .exact c x g y (nJ.mp z)
def Mh.endA(m:Mh r a b out f d)(c:Up r b)(h:f=0):gf r a b (a.take f++b.take d++out.reverse):=by
 refine#[m.perm,?_];subst h;rw[List.take_zero,List.nil_append];exact iX.mpr #[pF (wh d b) c,m.so,λx e y g=>m.bo x e y (nJ.mp g)]
def Mh.endB(m:Mh r a b out f d)(c:Up r a)(h:d=0):gf r a b (a.take f++b.take d++out.reverse):=by
 refine#[m.perm,?_];subst h;rw[List.take_zero,i'];exact iX.mpr #[pF (wh f a) c,m.so,λx e y g=>m.ao x e y (nJ.mp g)]
def Mh.first(m:Mh r a b out f d)(g:Up r a)(h:Up r b)(bot:∀y∈b.take d,∀x∈a,r y<r x):gf r a b (b.take d++a.take f++out.reverse):=by
 refine#[List.Perm.trans (BM _ CU) m.perm,?_];refine iX.mpr #[iX.mpr #[pF (wh d b) h,pF (wh f a) g,λy c x e=>bot y c x (qk e)],m.so,λx e y c=>?_]
 rcases cF.mp e with z|z
 .exact m.bo x z y (nJ.mp c)
 .exact m.ao x z y (nJ.mp c)
end
section
variable{M:Model}{A:Ar}{E:VP}{s:Sh}{κ:SortKind}{r:Keyed->Int}{a₀ a b out:Array Keyed}{na nb:Nat}
def BW(a:Array Keyed)(i:Nat):(a.extract 0 i).toList=a.toList.take i:=by
 rw[Ce,A2,A0,Nat.sub_zero]
def Dx(a:Array Keyed)(t n:Nat):(a.extract t n).toList=(a.toList.take n).drop t:=by
 rw[Ce,A2,List.drop_take]
def yL:(lU a b out na nb).toList=a.toList.take na++b.toList.take nb++out.toList.reverse:=by
 rw[mF,mF,BW,BW,Ax]
def A6:(pI a b out na nb).toList=b.toList.take nb++a.toList.take na++out.toList.reverse:=by
 rw[mF,mF,BW,BW,Ax]
def AY{n:Nat}{x:Keyed}(h:x∈a.toList.take n):∃j,j<n/\j<a.size/\a.getD j d0=x:=by
 obtain⟨j,d,b,c⟩:=FT (i:=0) (k:=n) (by rw[A0];exact h);rw[wm]at b c;exact#[j,d,b,c]
def BR{t n:Nat}{x:Keyed}(h:x∈(a.toList.take n).drop t):∃j,t<=j/\j<n/\j<a.size/\a.getD j d0=x:=by
 obtain⟨j,b⟩:=wc h;rw[wr,Fk]at b;split at b
 .next l=>
  rw[j4]at b;exact#[t+j,(),l,(zq.mp b).1,cz b]
 .cases b
def BU{n:Nat}(h:n<a.size):(a.toList.take (n+1)).drop n=[a.getD n d0]:=by
 rw[List.drop_take,F' h,xt];rfl
def BE{x:Int}{n:Nat}(b:Up r a.toList)(c:n<a.size)(h:r (a.getD n d0)<x):∀y∈a.toList.take (n+1),r y<x:=λy d=>by
 obtain⟨j,f,g,rfl⟩:=AY d;by_cases e:j=n
 .subst e;exact h
 .have:=vt (lo:=0) b (bR _) j n (iW _) () c;show kx r a j<x;have:kx r a n<x:=h;lia
def Gi(t:Two κ r a₀ a b)(m:Mh r a.toList b.toList out.toList (na+1) nb)(c:na<a.size)(h:∀y∈b.toList.take nb,r y<r (a.getD na d0)):Mh r a.toList b.toList (out.push (a.getD na d0)).toList na nb:=by
 have z:=m.moveA t.sa (t:=na) (ub _) (by rw[BU c];intro x d y e;rw[ci.mp e];exact h x d);rw[BU c]at z;rw[AD];exact z
def HL(t:Two κ r a₀ a b)(m:Mh r a.toList b.toList out.toList na (nb+1))(c:nb<b.size)(h:∀y∈a.toList.take na,r y<r (b.getD nb d0)):Mh r a.toList b.toList (out.push (b.getD nb d0)).toList na nb:=by
 have z:=m.moveB t.sb (t:=nb) (ub _) (by rw[BU c];intro x d y e;rw[ci.mp e];exact h x d);rw[BU c]at z;rw[AD];exact z
def Two.bot(t:Two κ r a₀ a b):∀y∈b.toList.take 1,∀x∈a.toList,r y<r x:=λy c x d=>by
 obtain⟨j,f,g,rfl⟩:=AY c;have e:j=0:=by lia
 subst e;exact t.lo x d
def N6{h:SortSt}{mg old t:Nat}{c:U6}{st:SortSt}{Q:ForInStep U6->SortSt->Prop}(K:Asks M A s κ r a₀)(T:Two κ r a₀ a b)(p:Eqv h st)(q:kindOf h=κ)(u:c=(none,na+1,nb+2,out,c.2.2.2.2.1,c.2.2.2.2.2))(m:Mh r a.toList b.toList out.toList (na+1) (nb+2))(d:na<a.size)(e:nb+1<b.size)(C:old+t<=out.size)(n:∀w rest,Gd r a b w->Q (.done (some w,rest)) st) (o:∀na nb (out:Array Keyed) x y,Mh r a.toList b.toList out.toList (na+1) (nb+2)->na<a.size->nb+1<b.size->old+t+1<=out.size->Q (.done (none,na+1,nb+2,out,x,y)) st/\Q (.yield (none,na+1,nb+2,out,x,y)) st):wpS M A E s (nS a b mg c) Q st:=by
 have j:=p.kind.trans q;unfold nS;rw[u];dsimp only;have v:=T.ma _ (ie d);have B:=T.mb _ (ie e);rw[show nb+2-1=nb+1 by lia,show na+1-1=na by lia];refine b7 (gy e (b7 (gy d (b7 (yK K j B v ?_)))));by_cases w:r (b.getD (nb+1) d0)<r (a.getD na d0)
 .rw[cG w];refine b7 (gy d ?_);have i:=Gi T m d (BE T.sb e w);by_cases z:na=0
  .rw[wB (by simpa using z)];refine cg (n _ _ ?_);show gf r _ _ (lU a b _ _ _).toList
   rw[yL];exact i.endA T.sb z
  .rw[wA (by simpa using z)];obtain⟨f,rfl⟩:∃f,na=f+1:=qe (by first|assumption|lia);obtain⟨k,l⟩:=o f nb _ (c.2.2.2.2.1+1) 0 i () e (by rw[oV];lia);by_cases g:c.2.2.2.2.1+1>=mg
   .rw[wB g];exact cg k
   .rw[wA g];exact cg l
 .rw[eW w];refine b7 (gy e ?_);have D:=T.ap _ (ie d) _ (ie e);have i:=HL T m e (BE T.sa d ());by_cases z:nb+1=1
  .rw[wB (by simpa using z)];refine cg (n _ _ ?_);show gf r _ _ (pI a b _ _ _).toList
   rw[A6];exact i.first T.sa T.sb (by rw[z];exact T.bot)
  .rw[wA (by simpa using z)];obtain⟨f,rfl⟩:∃f,nb=f+1:=qe (by first|assumption|lia);obtain⟨k,l⟩:=o na f _ 0 (c.2.2.2.2.2+1) i d () (by rw[oV];lia);by_cases g:c.2.2.2.2.2+1>=mg
   .rw[wB g];exact cg k
   .rw[wA g];exact cg l
structure RndH(r:Keyed->Int)(a b:Array Keyed)(st0:SortSt)(old:Nat)(Q:ForInStep U7->SortSt->Prop):Prop where
 q1:∀st w rest,Eqv st0 st->Gd r a b w->Q (.done (some w,rest)) st
 q2:∀st na nb (out:Array Keyed) x y z,Eqv st0 st->Mh r a.toList b.toList out.toList (na+1) (nb+2)->na<a.size->nb+1<b.size->old<=out.size->Q (.done (none,na+1,nb+2,out,x,y,z)) st/\Q (.yield (none,na+1,nb+2,out,x,y,z)) st
def Iv{c st:SortSt}{mg k d old:Nat}{Q:ForInStep U7->SortSt->Prop}(T:Two κ r a₀ a b)(f:Eqv c st)(m:Mh r a.toList b.toList out.toList (na+1) (nb+2))(h:na<a.size)(j:nb+1<b.size)(o:old<=out.size)(lt:∀y∈b.toList.take (nb+2),r y<r (a.getD na d0))(q:RndH r a b c old Q):wpS M A E s (oE a b (na+1) (nb+2) out mg k d) Q st:=by
 unfold oE;rw[show na+1-1=na by lia];refine b7 (gy h ?_);have i:=Gi T m h lt;by_cases z:na=0
 .rw[wB (by simpa using z)];refine cg (q.q1 _ _ _ f ?_);show gf r _ _ (lU a b _ _ _).toList;rw[yL];exact i.endA T.sb z
 .rw[wA (by simpa using z)];obtain⟨e,rfl⟩:∃e,na=e+1:=qe (by first|assumption|lia);obtain⟨l,n⟩:=q.q2 st e nb _ mg k d f i () j (by rw[oV];lia);by_cases g:(decide (k<7)&&decide (d<7))=true
  .rw[wB g];exact cg l
  .rw[wA g];exact cg n
def Jn{c st:SortSt}{mg k J old:Nat}{Q:ForInStep U7->SortSt->Prop}(K:Asks M A s κ r a₀)(L:kindOf c=κ)(T:Two κ r a₀ a b)(d:Eqv c st)(m:Mh r a.toList b.toList out.toList (na+1) (nb+2))(f:na<a.size)(G:nb+1<b.size)(hz:old<=out.size)(lt:∀y∈a.toList.take (na+1),r y<r (b.getD (nb+1) d0))(q:RndH r a b c old Q):wpS M A E s (pc a b (na+1) (nb+2) out mg k J) Q st:=by
 have u:=d.kind.trans L;unfold pc;rw[show nb+2-1=nb+1 by lia,show na+1-1=na by lia];refine b7 (gy G ?_);have o:=HL T m G lt;have h:old<=(out.push (b.getD (nb+1) d0)).size:=by rw[oV];lia
 generalize out.push (b.getD (nb+1) d0)=l at o h;by_cases z:nb+1=1
 .rw[wB (by simpa using z)];refine cg (q.q1 _ _ _ d ?_);show gf r _ _ (pI a b _ _ _).toList;rw[A6];exact o.first T.sa T.sb (by rw[z];exact T.bot)
 rw[wA (by simpa using z)];have H:=ie f;refine b7 (gy f (b7 (xr K u () (λi N=>T.mb _ (ie ())) (T.ma _ H) (λi N=>(T.ap _ H _ (ie (show 0+i<b.size by lia))).symm) (vt T.sb ()) () λt kn O U=>?_)));dsimp only;have I:∀y∈b.toList.take t,r y<r (a.getD na d0):=λy v=>by
  obtain⟨j,w,Y,rfl⟩:=AY v;have:=O j w;rw[wm]at this;exact this
 by_cases g:nb+1-t>0
 .rw[wB g];have p:=o.moveB T.sb (t:=t) () (λx hx y v=>by
   obtain⟨j,w,Y,h3,rfl⟩:=BR v;have:=U j w ()
   rw[wm]at this;exact BE T.sa f this x hx)
  rw[<-Dx,<-Ax,<-mF]at p;have B:old<=(l++(b.extract t (nb+1)).reverse).size:=by rw[BG];lia
  by_cases C:t=1
  .rw[wB (by simpa using C)];refine cg (q.q1 _ _ _ d ?_);show gf r _ _ (pI a b _ _ _).toList
   rw[A6];exact p.first T.sa T.sb (by rw[C];exact T.bot)
  rw[wA (by simpa using C)];by_cases D:t=0
  .rw[wB (by simpa using D)];refine cg (q.q1 _ _ _ d ?_);show gf r _ _ (lU a b _ _ _).toList
   rw[yL];exact p.endB T.sa D
  rw[wA (by simpa using D)];obtain⟨n,rfl⟩:∃n,t=n+2:=#[t-2,()];exact Iv T d p f () B I q
 .rw[wA g];have e:t=nb+1:=by lia
  obtain⟨n,rfl⟩:∃n,nb=n+1:=qe (by first|assumption|lia);subst e;exact Iv T d o f () h I q
def Kc{d st:SortSt}{c:U7}{mg old:Nat}{Q:ForInStep U7->SortSt->Prop}(K:Asks M A s κ r a₀)(k:kindOf d=κ)(T:Two κ r a₀ a b)(C:Eqv d st)(D:c.2.1=na+1/\c.2.2.1=nb+2/\c.2.2.2.1=out)(m:Mh r a.toList b.toList out.toList (na+1) (nb+2))(G:na<a.size)(f:nb+1<b.size)(H:old<=out.size)(q:RndH r a b d old Q):wpS M A E s (pi a b c mg) Q st:=by
 obtain⟨I,J,L⟩:=D;unfold pi;rw[I,J,L];rw[show nb+2-1=nb+1 by lia,show na+1-1=na by lia];refine b7 (Cm λN O=>?_);have h:=C.trans O;have l:=h.kind.trans k;have w:=ie f;refine b7 (gy f (b7 (xr K l () (λi U=>T.ma _ (ie ())) (T.mb _ w) (λi U=>T.ap _ (ie (show 0+i<a.size by lia)) _ w) (vt T.sa ()) () λt kn Y k3=>?_)));dsimp only;have z:∀y∈a.toList.take t,r y<r (b.getD (nb+1) d0):=λy n=>by
  obtain⟨j,o,h2,rfl⟩:=AY n;have:=Y j o;rw[wm]at this;exact this
 by_cases g:na+1-t>0
 .rw[wB g];have p:=m.moveA T.sa (t:=t) () (λx hx y n=>by
   obtain⟨j,o,h2,h3,rfl⟩:=BR n;have:=k3 j o ()
   rw[wm]at this;exact BE T.sb f this x hx)
  rw[<-Dx,<-Ax,<-mF]at p;have u:old<=(out++(a.extract t (na+1)).reverse).size:=by rw[BG];lia
  by_cases v:t=0
  .rw[wB (by simpa using v)];refine cg (q.q1 _ _ _ h ?_);show gf r _ _ (lU a b _ _ _).toList
   rw[yL];exact p.endA T.sb v
  rw[wA (by simpa using v)];obtain⟨B,rfl⟩:∃B,t=B+1:=qe (by first|assumption|lia);exact Jn K k T h p () f u z q
 .rw[wA g];have e:t=na+1:=by lia
  subst e;exact Jn K k T h m G f H z q
def Q9{d st:SortSt}{c:U7}{old:Nat}{Q:ForInStep U7->SortSt->Prop}(K:Asks M A s κ r a₀)(e:kindOf d=κ)(T:Two κ r a₀ a b)(f:Eqv d st)(g:c.2.1=na+1/\c.2.2.1=nb+2/\c.2.2.2.1=out)(m:Mh r a.toList b.toList out.toList (na+1) (nb+2))(h:na<a.size)(i:nb+1<b.size)(j:old<=out.size)(q:RndH r a b d old Q):wpS M A E s (zO a b c) Q st:=by
 unfold zO;split
 .exact Kc K e T f g m h i j q
 .exact Kc K e T f g m h i j q
def Nz{f st:SortSt}{c:U5}{Q:ForInStep U5->SortSt->Prop}{mg:Nat}(K:Asks M A s κ r a₀)(hk:kindOf f=κ)(T:Two κ r a₀ a b)(e0:Eqv f st)(ec:c=(none,na+1,nb+2,out,mg))(m:Mh r a.toList b.toList out.toList (na+1) (nb+2))(ha:na<a.size)(hb:nb+1<b.size)(q1:∀st w rest,Eqv f st->Gd r a b w->Q (.done (some w,rest)) st) (q2:∀st na nb (k:Array Keyed) g,Eqv f st->Mh r a.toList b.toList k.toList (na+1) (nb+2)->na<a.size->nb+1<b.size->out.size+1<=k.size->Q (.yield (none,na+1,nb+2,k,g)) st):wpS M A E s (FG a b c) Q st:=by
 subst ec;unfold FG;dsimp only;have aa:0<a.size+b.size:=by lia
 refine b7 (jg (i6 (I:=λx (q:U6) d=>Eqv f d/\∃(i j:Nat) (o:Array Keyed) (u v:Nat),q=(none,i+1,j+2,o,u,v)/\Mh r a.toList b.toList o.toList (i+1) (j+2)/\i<a.size/\j+1<b.size/\out.size+x<=o.size)
  (Q:=λq d=>Eqv f d/\((∃w rest,q=(some w,rest)/\Gd r a b w)\/∃(i j:Nat) (o:Array Keyed) (u v:Nat),q=(none,i+1,j+2,o,u,v)/\Mh r a.toList b.toList o.toList (i+1) (j+2)/\i<a.size/\j+1<b.size/\out.size+1<=o.size)) ?step ?stop #[e0,na,nb,out,0,0,zZ,m,ha,hb,bR _]) ?post)
 case step=>
  rintro x q d _ hx ⟨p,i,j,o,u,v,rfl,C,D,G,h3⟩;refine N6 (old:=out.size) (t:=x) K T p hk zZ C D G h3 (λw rest g=>#[p,.inl #[w,rest,zZ,g]]) λH J L u' v' N l n y=>#[#[p,.inr #[H,J,L,u',v',zZ,N,l,n,()]],#[p,H,J,L,u',v',zZ,N,l,n,()]]
 case stop=>
  rintro q d ⟨p,i,j,o,u,v,rfl,C,D,G,h3⟩;exact#[p,.inr #[i,j,o,u,v,zZ,C,D,G,()]]
 case post=>
  rintro q d ⟨p,h⟩
  rcases h with⟨w,rest,rfl,g⟩|⟨i,j,o,u,v,rfl,C,D,G,h3⟩
  .exact cg (q1 _ _ _ p g)
  dsimp only;refine b7 (rA (ph #[zZ,?_]));refine b7 (jg (i6 (I:=λx (z:U7) d=>Eqv f d/\∃(i j:Nat) (o:Array Keyed) (u v w:Nat),z=(none,i+1,j+2,o,u,v,w)/\Mh r a.toList b.toList o.toList (i+1) (j+2)/\i<a.size/\j+1<b.size/\out.size+1<=o.size)
   (Q:=λz d=>Eqv f d/\((∃w rest,z=(some w,rest)/\Gd r a b w)\/∃(i j:Nat) (o:Array Keyed) (u v w:Nat),z=(none,i+1,j+2,o,u,v,w)/\Mh r a.toList b.toList o.toList (i+1) (j+2)/\i<a.size/\j+1<b.size/\out.size+1<=o.size)) ?step2 ?stop2 #[p,i,j,o,mg+1,u,v,zZ,C,D,G,h3]) ?post2)
  case step2=>
   rintro x z O _ hx ⟨B,i,j,o,u,v,w,rfl,U,Y,g2,g3⟩;exact Q9 K hk T B #[zZ,zZ,zZ] U Y g2 g3 #[λst w rest e g=>#[e,.inl #[w,rest,zZ,g]],λst H J L x' y' z' e N l n y=>#[#[e,.inr #[H,J,L,x',y',z',zZ,N,l,n,y]],#[e,H,J,L,x',y',z',zZ,N,l,n,y]]]
  case stop2=>
   rintro z O ⟨B,i,j,o,u,v,w,rfl,U,Y,g2,g3⟩;exact#[B,.inr #[i,j,o,u,v,w,zZ,U,Y,g2,g3]]
  case post2=>
   rintro z O ⟨B,h⟩
   rcases h with⟨w,rest,rfl,g⟩|⟨i,j,o,u,v,w,rfl,U,Y,g2,g3⟩
   .exact cg (q1 _ _ _ B g)
   .dsimp only;exact b7 (Cm λab x3=>cg (q2 _ _ _ _ _ (B.trans x3) U Y g2 g3))
def QT{st:SortSt}{Q:Array Keyed->SortSt->Prop}(K:Asks M A s κ r a₀)(L:kindOf st=κ)(T:Two κ r a₀ a b)(q:∀m d,Eqv st d->Gd r a b m->Q m d):wpS M A E s (Di a b) Q st:=by
 rw[QC];unfold HK;have a1:=T.a1;have b1:=T.b1;obtain⟨n,hn⟩:∃n,a.size=n+1:=qe (by first|assumption|lia);have G:a.size-1=n:=by lia
 rw[G];refine b7 (rA (ph #[zZ,b7 (gy () ?_)]));have N:Mh r a.toList b.toList (#v[]:Array Keyed).toList (n+1) b.size:=#[by rw[vg (by rw[dr];lia),vg (by rw[dr];exact bR _)];simp,List.Pairwise.nil,λx _ y f=>(nomatch f),λx _ y f=>(nomatch f)];have k:Mh r a.toList b.toList (#v[a.getD n d0]:Array Keyed).toList n b.size:=Gi (out:= #v[]) T N () (λy f=>by have:=T.top y (qk f);rw[G]at this;exact this);by_cases p:n=0
 .rw[wB (by simpa using p)];refine cg (q _ _ (Eqv.refl _) ?_);show gf r _ _ (lU a b _ _ _).toList;rw[yL];exact k.endA T.sb p
 rw[wA (by simpa using p)];by_cases t:b.size=1
 .rw[wB (by simpa using t)];refine cg (q _ _ (Eqv.refl _) ?_);show gf r _ _ (pI a b _ _ _).toList;rw[A6];exact k.first T.sa T.sb (by rw[t];exact T.bot)
 rw[wA (by simpa using t)];obtain⟨u,rfl⟩:∃u,n=u+1:=qe (by first|assumption|lia);obtain⟨v,h⟩:∃v,b.size=v+2:=#[b.size-2,()];rw[h]at k;refine b7 (mN (b7 (jg (i6 (I:=λx (c:U5) d=>Eqv st d/\∃(i j:Nat) (o:Array Keyed) (g:Nat),c=(none,i+1,j+2,o,g)/\Mh r a.toList b.toList o.toList (i+1) (j+2)/\i<a.size/\j+1<b.size/\x+1<=o.size)
  (Q:=λc d=>Eqv st d/\∃w rest,c=(some w,rest)/\Gd r a b w) ?step ?stop #[Eqv.refl _,u,v,_,_,by rw[h],k,(),(),bR _]) ?post)))
 case step=>
  rintro x c d _ hx ⟨l,i,j,o,g,rfl,B,H,J,O⟩;exact Nz K L T l zZ B H J (λst w rest e g=>#[e,w,rest,zZ,g]) λd U Y o' g' e m' C D aa=>#[e,U,Y,o',g',zZ,m',C,D,()]
 case stop=>
  rintro c d ⟨l,i,j,o,g,rfl,B,H,J,O⟩;have z:=B.len (by rw[dr];lia) (by rw[dr];lia);rw[dr,dr,dr]at z
  exfalso
  lia
 case post=>
  rintro c d ⟨l,w,rest,rfl,g⟩;exact cg (q _ _ l g)
end
def Nn(i:Nat):mergeAt' i=(do
 let s <-get
 let(some (b,c,d),some (f,e,_)):=((pendingOf s)[i]?,(pendingOf s)[i+1]?)|unsupported "internal:list.sort.pending"
 set (setPending s (((pendingOf s).setIfInBounds i (b,c+e,d)).eraseIdxIfInBounds (i+1)))
 let some k <-qu false (<-elem' (arrOf s) f) (arrOf s) b c 0|return false
 let(b,c):=(b+k,c-k)
 if c==0 then return true
 let some e <-qu true (<-elem' (arrOf s) (b+c-1)) (arrOf s) f e (e-1)|return false
 if e==0 then return true
 let x:=(arrOf s).extract b f
 let y:=(arrOf s).extract f (f+e)
 let merged <-if c<=e then EG x y else Di x y
 modify λs=>setArr s (merged.toList.zipIdx.foldl (λa (p,j)=>a.setIfInBounds (b+j) p) (arrOf s))
 return (failedOf (<-get)).isNone):=rfl
section
variable{M:Model}{A:Ar}{E:VP}{s:Sh}{g:SortKind}{r:Keyed->Int}{d xs f:Array Keyed}
def MP{st a:SortSt}{Q:PUnit->SortSt->Prop}(h:Q ⟨⟩ a):wpS M A E s (set a:StateT SortSt Sem PUnit) Q st:=by
 unfold wpS;rw[StateT.run_set];exact bM #[zZ,h]
theorem laid:∀(c:List Keyed) (j b:Nat) (xs:Array Keyed),b+j+c.length<=xs.size->((c.zipIdx j).foldl (λa (p,j)=>a.setIfInBounds (b+j) p) xs).toList=xs.toList.take (b+j)++c++xs.toList.drop (b+j+c.length)
 | [],j,b,xs,_=>by
  rw[i',List.length_nil,Au];exact(mY _ _).symm
 | m::c,j,b,xs,h=>by
  rw[iL]at h;rw[List.zipIdx_cons,EE,laid c (j+1) b _ (by rw[Array.size_setIfInBounds];lia),Ka,iL];have d:b+j<xs.toList.length:=by rw[dr];lia
  have e:(xs.toList.set (b+j) m).take (b+(j+1))=xs.toList.take (b+j)++[m]:=by
   rw[show b+(j+1)=b+j+1 by lia,List.take_succ_eq_append_getElem (by rw[u4];exact d),List.getElem_set_self,List.take_set_of_le (bR _)]
  have f:(xs.toList.set (b+j) m).drop (b+(j+1)+c.length)=xs.toList.drop (b+j+(c.length+1)):=by
   rw[List.drop_set_of_lt ()]
   congr 1
   lia
  rw[e,f,dR,dR,dR];rfl
def Cb(xs:Array Keyed)(t n:Nat):(xs.extract t n).toList=(xs.toList.take n).drop t:=Dx xs t n
def BN{t n:Nat}(h:n<=xs.size):(xs.extract t n).size=n-t:=by rw[Array.size_extract];lia
def Ga{t n i:Nat}(h:n<=xs.size)(a:t+i<n):(xs.extract t n).getD i d0=xs.getD (t+i) d0:=by
 refine oH ?_;rw[Array.getElem?_extract,wB ()]
def Jt{l:List Keyed}{f:Array Keyed}(h:f.toList=l)(i:Nat):f[i]?=l[i]? :=by rw[<-h,j4]
def RW{st:SortSt}{i b o pw sb N ag:Nat}{Q:Bool->SortSt->Prop}(K:Asks M A s g r d)(B:StOk g d st)(h1:(pendingOf st)[i]?=some (b,o,pw))(h2:(pendingOf st)[i+1]?=some (sb,N,ag))(es:sb=b+o)(aq:1<=o)(ar:1<=N)(hz:sb+N<=d.size)(O:Ris r (arrOf st) b (b+o)) (U:Ris r (arrOf st) sb (sb+N))(q:∀u,StOk g d u->pendingOf u=((pendingOf st).setIfInBounds i (b,o+N,pw)).eraseIdxIfInBounds (i+1)->Out (arrOf st) (arrOf u) b (sb+N)->Ris r (arrOf u) b (sb+N)->Q true u):wpS M A E s (mergeAt' i) Q st:=by
 have sz:=qv B.perm;subst es;rw[Nn];refine b7 (mN ?_);rw[h1,h2];dsimp only;refine b7 (MP ?_);generalize hP:((pendingOf st).setIfInBounds i (b,o+N,pw)).eraseIdxIfInBounds (i+1)=P at q|-;have B1:StOk g d (setPending st P):=#[B.kind,B.perm,B.ok];generalize G:arrOf st=xs at O U q sz|-;have pm:xs.Perm d:=G▸B.perm;have mem:∀j,j<d.size->xs.getD j d0∈d:=λj I=>Bj pm I;have ap:∀i j,i<d.size->j<d.size->i≠j->kx r xs i≠kx r xs j:=λi j hi I ij=>K.apart pm hi I ij;refine b7 (gy () (b7 (xr K B1.kind () (λj I=>mem _ ()) (mem _ ()) (λj I=>ap _ _ () () ()) O () λk kn k2 k3=>?_)));dsimp only;by_cases z0:o-k=0
 .rw[wB (by simpa using z0)];refine cg (q _ B1 zZ (by show Out xs (arrOf st) _ _;rw[G];exact Out.refl _ _ _) ?_);show Ris r (arrOf st) _ _;rw[G];intro i j w C H;by_cases c1:j<b+o
  .exact O i j w C c1
  by_cases c2:b+o<=i
  .exact U i j c2 C H
  have D:=k2 (i-b) ();rw[pL w]at D;have D:kx r xs i<kx r xs (b+o):=D;by_cases c3:j=b+o
  .rw[c3];exact D
  .exact zF D (U (b+o) j (bR _) (Ak (Nat.not_lt.mp c1) (dM c3)) H)
 rw[wA (by simpa using z0)];have kl:k<o:=by lia
 clear z0;have dk:∀_:Unit,b+k+(o-k)=b+o:=λ_=>by lia
 rw[dk Unit.unit];refine b7 (gy () (b7 (xr K B1.kind () (λj I=>mem _ ()) (mem _ ()) (λj I=>ap _ _ () () ()) U () λv nn ah ae=>?_)));dsimp only;have bk:kx r xs (b+o)<kx r xs (b+k):=by
  have:=k3 k (bR _) ();exact this
 have aa:kx r xs (b+k)<=kx r xs (b+o-1):=by
  by_cases c:b+k=b+o-1
  .rw[c];exact Int.le_refl _
  .exact Int.le_of_lt (O (b+k) (b+o-1) () () ())
 have ai:v≠0:=λz=>by
  subst z;have:=ae 0 (bR _) ();rw[Au]at this;exact wC this (Int.not_lt.mpr (Int.le_trans (Int.le_of_lt bk) aa))
 rw[wA (by simpa using ai)];have sx:(xs.extract (b+k) (b+o)).size=o-k:=by rw[BN ()];exact Nat.add_sub_add_left ..
 have sy:(xs.extract (b+o) (b+o+v)).size=v:=by rw[BN ()];exact xt ..
 have mx:∀x∈(xs.extract (b+k) (b+o)).toList,∃j,b+k<=j/\j<b+o/\xs.getD j d0=x:=λx G=>by
  rw[Cb]at G;obtain⟨j,w,C,_,H⟩:=BR G;exact#[j,w,C,H]
 have my:∀x∈(xs.extract (b+o) (b+o+v)).toList,∃j,b+o<=j/\j<b+o+v/\xs.getD j d0=x:=λx G=>by
  rw[Cb]at G;obtain⟨j,w,C,_,H⟩:=BR G;exact#[j,w,C,H]
 have af:∀(t n:Nat),n<=xs.size->Ris r xs t n->Up r (xs.extract t n).toList:=λt n hn ur=>by
  refine oi.mpr λi j hi I ij=>?_;rw[dr,BN hn]at hi I;have e:∀c (hc:c<(xs.extract t n).toList.length),(xs.extract t n).toList[c]=xs.getD (t+c) d0:=λc hc=>by
   rw[dr,BN hn]at hc;rw[<-Ga hn (),Array.getElem_toList];exact(cz (ke _)).symm
  rw[e,e];exact ur (t+i) (t+j) () () ()
 have aj:∀_:Unit,b+k+(o-k-1)=b+o-1:=λ_=>by rw[<-dk Unit.unit];exact(Nat.add_sub_assoc (Nat.sub_pos_of_lt kl) _).symm
 have J:∀_:Unit,b+k+(o-k+v)=b+o+v:=λ_=>by rw[<-Nat.add_assoc,dk Unit.unit]
 have T:Two g r d (xs.extract (b+k) (b+o)) (xs.extract (b+o) (b+o+v)):=by
  refine#[λx G=>?_,λx G=>?_,af _ _ () λi j w C H=>O i j () C H,af _ _ () λi j w C H=>U i j w C (),λx G y hy=>?_,(),(),λx G=>?_,λy hy=>?_]
  .obtain⟨j,w,C,rfl⟩:=mx x G;exact mem j ()
  .obtain⟨j,w,C,rfl⟩:=my x G;exact mem j ()
  .obtain⟨j,w,C,rfl⟩:=mx x G;obtain⟨l,H,g4,rfl⟩:=my y hy;exact ap j l () () ()
  .obtain⟨j,w,C,rfl⟩:=mx x G;rw[Ga () (),Au];show kx r xs (b+o)<kx r xs j
   by_cases c:j=b+k
   .rw[c];exact bk
   .exact zF bk (O (b+k) j (nN ..) (Ak w (dM c)) C)
  .obtain⟨j,w,C,rfl⟩:=my y hy;rw[sx,Ga () (),show b+k+(o-k-1)=b+o-1 from aj Unit.unit];have:=ah (j-(b+o)) (zt w C)
   rw[pL w]at this;exact this
 have fin:∀m u,Eqv (setPending st P) u->Gd r (xs.extract (b+k) (b+o)) (xs.extract (b+o) (b+o+v)) m->wpS M A E s (do
   modify λs=>setArr s (m.toList.zipIdx.foldl (λa (p,j)=>a.setIfInBounds (b+k+j) p) (arrOf s))
   return (failedOf (<-get)).isNone) Q u:=λm u ev gd=>by
  have ea:arrOf u=xs:=ev.arr.trans G;have ml:m.toList.length=o-k+v:=by
   have:=gd.1.length_eq;rw[cI,dr (xs:=xs.extract _ _),dr (xs:=xs.extract _ _),sx,sy]at this;exact this
  refine b7 (nV (b7 (mN ?_)));rw[ea];have tl:=laid m.toList 0 (b+k) xs (by rw[ml];lia);rw[Au,ml]at tl;generalize as:m.toList.zipIdx.foldl (λa (p,j)=>a.setIfInBounds (b+k+j) p) xs=f at tl|-;have ak:(failedOf (setArr u f)).isNone=true:=by
   show(failedOf u).isNone=true;rw[ev.ok];show(failedOf st).isNone=true
   rw[B.ok];rfl
  rw[ak];have mid:xs.toList=xs.toList.take (b+k)++((xs.extract (b+k) (b+o)).toList++(xs.extract (b+o) (b+o+v)).toList)++xs.toList.drop (b+k+(o-k+v)):=by
   rw[Cb,Cb];have e1:xs.toList.take (b+k)++(xs.toList.take (b+o)).drop (b+k)=xs.toList.take (b+o):=by
    have z:=mY (b+k) (xs.toList.take (b+o));rwa[List.take_take,sw ()]at z
   have e2:xs.toList.take (b+o)++(xs.toList.take (b+o+v)).drop (b+o)=xs.toList.take (b+o+v):=by
    have z:=mY (b+o) (xs.toList.take (b+o+v));rwa[List.take_take,sw ()]at z
   rw[<-dR,e1,e2,J Unit.unit,mY]
  have al:f.Perm xs:=by
   refine nX.mpr ?_;rw[tl]
   conv=>rhs;rw[mid]
   exact BM _ (zQ _ gd.1)
  have lx:xs.toList.length=d.size:=by rw[dr];exact sz
  have mn:min (b+k) xs.toList.length=b+k:=sw ();have Y:∀j,j<b+k\/b+o+v<=j->f[j]?=xs[j]? :=λj I=>by
   rw[Jt tl j,<-j4]
   rcases I with h|h
   .rw[dN (by rw[cI,fh,mn];exact Nat.lt_add_right _ h),dN (by rw[fh,mn];exact h),Fk,wB h]
   .rw[dO (by rw[cI,fh,ml,mn,J Unit.unit];exact h),wr]
    congr 1
    rw[cI,fh,ml,mn,J Unit.unit];exact pL h
  have ab:∀j,b+k<=j->j<b+o+v->∃h:j-(b+k)<m.toList.length,f.getD j d0=m.toList[j-(b+k)]:=λj w C=>by
   have hl:j-(b+k)<m.toList.length:=by rw[ml];exact zt w (by rw[J Unit.unit];exact C)
   refine#[hl,cz ?_];rw[Jt tl j,dN (by rw[cI,fh,ml,mn,J Unit.unit];exact C),dO (by rw[fh,mn];exact w),fh,mn,bE hl]
  have L:∀j,b+k<=j->j<b+o+v->∃l,b+k<=l/\l<b+o+v/\f.getD j d0=xs.getD l d0:=λj w C=>by
   obtain⟨hl,e⟩:=ab j w C;have mm:f.getD j d0∈(xs.extract (b+k) (b+o)).toList++(xs.extract (b+o) (b+o+v)).toList:=by
    rw[e];exact(List.Perm.mem_iff gd.1).mp (gh hl)
   rcases cF.mp mm with z|z
   .obtain⟨l,D,l2,l3⟩:=mx _ z;exact#[l,D,(),l3.symm]
   .obtain⟨l,D,l2,l3⟩:=my _ z;exact#[l,(),l2,l3.symm]
  refine cg (q _ #[ev.kind.trans B1.kind,al.trans pm,by show failedOf u=none;rw[ev.ok];exact B.ok] ev.pend (λj I=>Y j ()) λi j w C H=>?_);show kx r f i<kx r f j;have oe:∀c,c<b+k\/b+o+v<=c->kx r f c=kx r xs c:=λc hc=>cK r (oH (Y c hc));have hd:∀c l,b<=c->c<b+k->b+k<=l->l<b+o+N->kx r xs c<kx r xs l:=λc l c1 c2 c3 c4=>by
   by_cases c5:l<b+o
   .exact O c l c1 () c5
   .have D:=k2 (c-b) (zt c1 c2);rw[pL c1]at D;have D:kx r xs c<kx r xs (b+o):=D;by_cases c6:l=b+o
    .rw[c6];exact D
    .exact zF D (U (b+o) l (bR _) (Ak (Nat.not_lt.mp c5) (dM c6)) c4)
  have am:∀l c,b+k<=l->l<b+o+v->b+o+v<=c->c<b+o+N->kx r xs l<kx r xs c:=λl c c1 c2 c3 c4=>by
   by_cases c5:b+o<=l
   .exact U l c c5 () c4
   .have c0:=cP (nN ..) c3;have D:=ae (c-(b+o)) (Nat.le_sub_of_add_le' c3) (zt c0 c4);rw[pL c0]at D;have D:kx r xs (b+o-1)<kx r xs c:=D;by_cases c6:l=b+o-1
    .rw[c6];exact D
    .exact zF (O l (b+o-1) () () ()) D
  by_cases i1:i<b+k
  .rw[oe i (.inl i1)];by_cases j1:j<b+k
   .rw[oe j (.inl j1)];exact O i j w C ()
   .by_cases j2:j<b+o+v
    .obtain⟨l,D,l2,l3⟩:=L j () j2;show kx r xs i<r (f.getD j d0);rw[l3];exact hd i l w i1 D ()
    .rw[oe j (.inr ())];exact hd i j w i1 () H
  .by_cases i2:i<b+o+v
   .by_cases j2:j<b+o+v
    .obtain⟨an,e1⟩:=ab i () i2;obtain⟨ao,e2⟩:=ab j () j2;show r (f.getD i d0)<r (f.getD j d0)
     rw[e1,e2];exact oi.mp gd.2 _ _ an ao ()
    .obtain⟨l,D,l2,l3⟩:=L i () i2;rw[oe j (.inr ())];show r (f.getD i d0)<kx r xs j
     rw[l3];exact am l j D l2 () H
   .rw[oe i (.inr ()),oe j (.inr ())];exact U i j () C H
 by_cases c:o-k<=v
 .rw[wB c];exact b7 (Rt K B1.kind T fin)
 .rw[wA c];exact b7 (QT K B1.kind T fin)
end
def gb(r:Keyed->Int)(a:Array Keyed):Nat->List (Nat×Nat×Nat)->Nat->Prop
 |s,[],e=>s=e
 |s,u::l,e=>u.1=s/\1<=u.2.1/\Ris r a s (s+u.2.1)/\gb r a (s+u.2.1) l e
section
variable{r:Keyed->Int}{j k:Array Keyed}
theorem CQ:∀{l:List (Nat×Nat×Nat)} {s e:Nat},gb r j s l e->s+l.length<=e
 | [],s,e,h=>by
  have:s=e:=h;simp;lia
 |u::l,s,e,h=>by
  have:=CQ h.2.2.2;have:=h.2.1;rw[iL];lia
theorem cW:∀{l c:List (Nat×Nat×Nat)} {s e:Nat},gb r j s (l++c) e↔ ∃m,gb r j s l m/\gb r j m c e
 | [],c,s,e=>#[λh=>#[s,zZ,h],λ⟨m,a,b⟩=>by have:s=m:=a;subst this;exact b]
 | u::l,c,s,e=>by
  constructor
  .rintro⟨a,b,d,i⟩;obtain⟨m,f,g⟩:=cW.mp i;exact#[m,#[a,b,d,f],g]
  .rintro⟨m,⟨a,b,d,f⟩,g⟩;exact#[a,b,d,cW.mpr #[m,f,g]]
theorem zi{lo a:Nat}(o:Out j k lo a):∀{l:List (Nat×Nat×Nat)} {s e:Nat},gb r j s l e->e<=lo\/a<=s->gb r k s l e
 | [],_,_,h,_=>h
 |u::l,s,e,h,d=>by
  have:=CQ h.2.2.2;exact#[h.1,h.2.1,o.ris h.2.2.1 (),zi o h.2.2.2 ()]
def MO{p:Array (Nat×Nat×Nat)}{i:Nat}(h:i+1<p.size):∃a u v d,p.toList=a++u::v::d/\a.length=i/\p[i]?=some u/\p[i+1]?=some v:=by
 have e:p.toList.length=p.size:=dr;refine#[p.toList.take i,p[i]'(),p[i+1],p.toList.drop (i+2),?_,by rw[fh];lia,ke _,ke _];have b:p.toList.drop i=p.toList[i]'()::p.toList.drop (i+1):=AT ();have c:p.toList.drop (i+1)=p.toList[i+1]'()::p.toList.drop (i+2):=AT ();rw[Array.getElem_toList]at b c;rw[<-c,<-b,mY]
def SD{p:Array (Nat×Nat×Nat)}{i:Nat}{a b:List (Nat×Nat×Nat)}{u v w:Nat×Nat×Nat}(h:p.toList=a++u::v::b)(c:a.length=i):((p.setIfInBounds i w).eraseIdxIfInBounds (i+1)).toList=a++w::b:=by
 rw[Array.toList_eraseIdxIfInBounds,Ka,h,List.set_append_right _ _ (),c,mO,List.eraseIdx_append_of_length_le (),c,xt];rfl
variable{M:Model}{A:Ar}{E:VP}{s:Sh}{b:SortKind}{a:Array Keyed}
def DQ{st:SortSt}{i lo:Nat}{Q:Bool->SortSt->Prop}(K:Asks M A s b r a)(B:StOk b a st)(y:i+1<(pendingOf st).size)(R:gb r (arrOf st) 0 (pendingOf st).toList lo)(z:lo<=a.size)(q:∀c,StOk b a c->(pendingOf c).size+1=(pendingOf st).size->Out (arrOf st) (arrOf c) 0 lo->gb r (arrOf c) 0 (pendingOf c).toList lo->Q true c):wpS M A E s (mergeAt' i) Q st:=by
 obtain⟨Y,u,v,C,e,D,G,H⟩:=MO y;rw[e]at R;obtain⟨m,I,R2⟩:=cW.mp R;obtain⟨l,n,p,h,t,x,j⟩:=R2;obtain⟨d,g,J⟩:=u;obtain⟨L,f,N⟩:=v;dsimp only at l n p h t x j;subst l;have le:=CQ j;refine RW K B G H h n t () p (by rw[h];exact x) λc O T o up=>?_;have k:=SD (w:=(d,g+f,J)) e D;rw[<-T]at k;refine q c O ?_ (o.wide (iW _) ()) ?_
 .have U:(pendingOf c).toList.length+1=(pendingOf st).toList.length:=by
   rw[k,e];simp;lia
  rwa[dr,dr]at U
 .rw[k];refine cW.mpr #[d,zi o I (.inl (bR _)),zZ,by show 1<=g+f;lia,?_,?_]
  .show Ris r (arrOf c) d (d+(g+f));rw[show d+(g+f)=L+f by lia];exact up
  .show gb r (arrOf c) (d+(g+f)) C lo;rw[show d+(g+f)=d+g+f by lia];exact zi o j (.inr ())
theorem Fm{f:Nat->Nat}:∀{l:List (Nat×Nat×Nat)} {s e i:Nat},gb r j s l e->gb r j s (l.modify i λu=>(u.1,u.2.1,f u.2.2)) e
 | [],_,_,_,h=>by simpa using h
 |u::l,s,e,0,h=>h
 |u::l,s,e,i+1,h=>#[h.1,h.2.1,h.2.2.1,Fm h.2.2.2]
def Od{st:SortSt}{Q:Unit->SortSt->Prop}(K:Asks M A s b r a)(B:StOk b a st)(hp:pendingOf st= #v[])(h1:1<=a.size)(q:∀d,StOk b a d->Ris r (arrOf d) 0 a.size->Q ⟨⟩ d):wpS M A E s sortRuns' Q st:=by
 have sz:=qv B.perm;rw[sortRuns'_eq];refine b7 (mN ?_);dsimp only;rw[sz];refine b7 (jg (i6 (I:=λx c d=>∃lo,c=(none,lo)/\x<=lo/\lo<=a.size/\StOk b a d/\gb r (arrOf d) 0 (pendingOf d).toList lo)
  (Q:=λc d=>c=(none,a.size)/\StOk b a d/\gb r (arrOf d) 0 (pendingOf d).toList a.size) ?step ?stop #[0,zZ,bR _,iW _,B,by rw[hp];rfl]) ?post)
 case stop=>
  rintro c d ⟨lo,rfl,h1,h2,B',R⟩;have e:lo=a.size:=by lia
  subst e;exact#[zZ,B',R]
 case step=>
  rintro x c aa _ hx ⟨lo,rfl,af,O,Y,T⟩;dsimp only;by_cases z:lo>=a.size
  .rw[wB z];have e:lo=a.size:=by lia
   subst e;exact cg #[zZ,Y,T]
  rw[wA z];refine b7 (Ph K Y () () λn j H p2 L o2 N nn U=>?_);dsimp only;have R2:gb r (arrOf j) 0 (pendingOf j).toList lo:=by rw[p2];exact zi o2 T (.inl (bR _))
  by_cases mr:n<minRun' a.size a.size 0
  .rw[wB mr];refine b7 (rA (ph #[zZ,?_]));refine b7 (Qb K H () () U λt C p3 g3 o3 v=>?_);rw[wA (by decide)];have J:gb r (arrOf t) 0 (pendingOf t).toList lo:=by rw[p3];exact zi o3 R2 (.inl (bR _))
   have N:1<=min (a.size-lo) (minRun' a.size a.size 0):=by lia
   have nn:lo+min (a.size-lo) (minRun' a.size a.size 0)<=a.size:=by lia
   generalize min (a.size-lo) (minRun' a.size a.size 0)=D at v N nn|-;refine b7 (mN ?_);cases eb:(pendingOf t).back? with
   |none=>
    dsimp only;refine b7 (nV (cg #[lo+D,zZ,(),(),#[C.kind,C.perm,C.ok],?_]));show gb r (arrOf t) 0 ((pendingOf t).push (lo,D,0)).toList (lo+D)
    rw[xj];exact cW.mpr #[lo,J,zZ,N,v,zZ]
   | some u=>
    obtain⟨w,m,w1⟩:=u;dsimp only;refine b7 (jg (i6 (I:=λx c d=>c=(none,Unit.unit)/\StOk b a d/\gb r (arrOf d) 0 (pendingOf d).toList lo/\Ris r (arrOf d) lo (lo+D))
     (Q:=λc d=>c=(none,Unit.unit)/\StOk b a d/\gb r (arrOf d) 0 (pendingOf d).toList lo/\Ris r (arrOf d) lo (lo+D)) ?step2 ?stop2 #[zZ,C,J,v]) ?post2)
    case stop2=>
     rintro c i h;exact h
    case step2=>
     rintro y c i _ _ ⟨rfl,o,G,k⟩;refine b7 (mN ?_);by_cases g:(pendingOf i).size>1
     .rw[wB g,ke ()];generalize(pendingOf i)[(pendingOf i).size-2]=u2;obtain⟨a2,b2,p⟩:=u2;dsimp only;by_cases L:p<=power' a.size (2 * w+m) (2 * w+m+m+D) a.size
      .rw[wB L];exact cg #[zZ,o,G,k]
      .rw[wA L];refine b7 (DQ K o () G O λab B5 _ o5 R5=>?_);exact cg #[zZ,B5,R5,o5.ris k (.inr (bR _))]
     .rw[wA g];exact cg #[zZ,o,G,k]
    case post2=>
     rintro c i ⟨rfl,o,G,k⟩;dsimp only;refine b7 (nV (b7 (nV (cg #[lo+D,zZ,(),(),#[o.kind,o.perm,o.ok],?_]))));show gb r (arrOf i) 0 (((pendingOf i).modify ((pendingOf i).size-1) λx=>(x.fst,x.2.fst,power' a.size (2 * w+m) (2 * w+m+m+D) a.size)).push (lo,D,0)).toList (lo+D)
     rw[xj,Array.toList_modify];exact cW.mpr #[lo,Fm (f:=λ_=>power' a.size (2 * w+m) (2 * w+m+m+D) a.size) G,zZ,N,k,zZ]
  .rw[wA mr];have C:=H;have J:=R2;have v:=U;refine b7 (mN ?_);cases eb:(pendingOf j).back? with
   |none=>
    dsimp only;refine b7 (nV (cg #[lo+n,zZ,(),(),#[C.kind,C.perm,C.ok],?_]));show gb r (arrOf j) 0 ((pendingOf j).push (lo,n,0)).toList (lo+n)
    rw[xj];exact cW.mpr #[lo,J,zZ,N,v,zZ]
   | some u=>
    obtain⟨w,m,w1⟩:=u;dsimp only;refine b7 (jg (i6 (I:=λx c d=>c=(none,Unit.unit)/\StOk b a d/\gb r (arrOf d) 0 (pendingOf d).toList lo/\Ris r (arrOf d) lo (lo+n))
     (Q:=λc d=>c=(none,Unit.unit)/\StOk b a d/\gb r (arrOf d) 0 (pendingOf d).toList lo/\Ris r (arrOf d) lo (lo+n)) ?step2 ?stop2 #[zZ,C,J,v]) ?post2)
    case stop2=>
     rintro c i h;exact h
    case step2=>
     rintro y c i _ _ ⟨rfl,o,G,k⟩;refine b7 (mN ?_);by_cases g:(pendingOf i).size>1
     .rw[wB g,ke ()];generalize(pendingOf i)[(pendingOf i).size-2]=u2;obtain⟨a2,b2,p⟩:=u2;dsimp only;by_cases L:p<=power' a.size (2 * w+m) (2 * w+m+m+n) a.size
      .rw[wB L];exact cg #[zZ,o,G,k]
      .rw[wA L];refine b7 (DQ K o () G O λab B5 _ o5 R5=>?_);exact cg #[zZ,B5,R5,o5.ris k (.inr (bR _))]
     .rw[wA g];exact cg #[zZ,o,G,k]
    case post2=>
     rintro c i ⟨rfl,o,G,k⟩;dsimp only;refine b7 (nV (b7 (nV (cg #[lo+n,zZ,(),(),#[o.kind,o.perm,o.ok],?_]))));show gb r (arrOf i) 0 (((pendingOf i).modify ((pendingOf i).size-1) λx=>(x.fst,x.2.fst,power' a.size (2 * w+m) (2 * w+m+m+n) a.size)).push (lo,n,0)).toList (lo+n)
     rw[xj,Array.toList_modify];exact cW.mpr #[lo,Fm (f:=λ_=>power' a.size (2 * w+m) (2 * w+m+m+n) a.size) G,zZ,N,k,zZ]
 case post=>
  rintro c aa ⟨rfl,Y,T⟩;dsimp only;refine b7 (jg (i6 (I:=λx c d=>c=(none,Unit.unit)/\StOk b a d/\gb r (arrOf d) 0 (pendingOf d).toList a.size/\(pendingOf d).size+x<=a.size)
   (Q:=λc d=>c=(none,Unit.unit)/\StOk b a d/\gb r (arrOf d) 0 (pendingOf d).toList a.size/\(pendingOf d).size<=1) ?step3 ?stop3 #[zZ,Y,T,by have:=CQ T;rw[dr]at this;lia]) ?post3)
  case stop3=>
   rintro c j ⟨hc,H,R2,hz⟩;exact#[hc,H,R2,()]
  case step3=>
   rintro x c j _ hx ⟨rfl,H,R2,hz⟩;refine b7 (mN ?_);by_cases g:(pendingOf j).size<=1
   .rw[wB g];exact cg #[zZ,H,R2,g]
   .rw[wA g];refine b7 (DQ K H ?_ R2 (bR _) λt C z3 o3 J=>?_)
    .have ae:∀(c:Prop) [Decidable c],(if c then(pendingOf j).size-2-1 else(pendingOf j).size-2)+1<(pendingOf j).size:=λc _=>by
      by_cases h:c
      .rw[wB h];lia
      .rw[wA h];lia
     exact ae _
    .exact cg #[zZ,C,J,()]
  case post3=>
   rintro c j ⟨rfl,H,R2,hz⟩;refine cg (q j H ?_);have hl:(pendingOf j).toList.length<=1:=by rw[dr];exact hz
   generalize(pendingOf j).toList=l at R2 hl
   match l,R2,hl with
   | [],R2,_=>
    have:0=a.size:=R2;lia
   | [u],R2,_=>
    have e:0+u.2.1=a.size:=R2.2.2.2;rw[<-e];exact R2.2.2.1
end
section
variable{P:Pg}{w:World}{A:Ar}{E:VP}{s:Sh}{a:Ad}{vs ks:Vs}{k:Nat->Int}{d:SortKind}
noncomputable def hR (ks:Vs) (x:Keyed):Nat:=Classical.epsilon λi=>ks[i]?=some x.1
def xR(nd:ks.Nodup){i:Nat}{x:Keyed}(h:ks[i]?=some x.1):hR ks x=i:=by
 have z:ks[hR ks x]?=some x.1:=Classical.epsilon_spec (p:=λi=>ks[i]?=some x.1) #[i,h];exact(jf (bU.mp z).1 nd).mp (z.trans h.symm)
def Lc{Q:SortSt->Sh->Prop}(t:ks.length=vs.length)(M:1<=vs.length)(nd:ks.Nodup)(inj:∀i j,i<vs.length->j<vs.length->k i=k j->i=j)(ask:∀i j (C:Bool->Sh->Prop),i<ks.length->j<ks.length->C (decide (k i<k j)) s->kas_ask P w A d ks i j C s)(G:∀p a,Arr vs.length p->p0 k p vs.length->(arrOf a).map (·.2)=(gW vs p).toArray->failedOf a=none->Q a s):
  wpAny (model P w) A ((sortRuns').run (SortSt.mk' d (ks.toArray.zip vs.toArray) #v[] 7 none)) (λr u=>Q r.2 u) E s:=by
 have sz:(ks.toArray.zip vs.toArray).size=vs.length:=by simp[t]
 have n:∀i,i<vs.length->(ks.toArray.zip vs.toArray).getD i d0=(ks.getD i Value.none,vs.getD i Value.none):=λi b=>kat_item t i;have o:∀i,i<vs.length->ks[i]?=some (ks.getD i Value.none):=λi b=>by
  rw[cZ,bE ()];rfl
 have f:∀i,i<vs.length->hR ks ((ks.toArray.zip vs.toArray).getD i d0)=i:=λi b=>xR nd (by rw[n i b];exact o i b);have c:∀x∈ks.toArray.zip vs.toArray,∃i,i<vs.length/\x=(ks.toArray.zip vs.toArray).getD i d0:=λx l=>by
  obtain⟨i,b,e⟩:=Array.getElem_of_mem l;exact#[i,(),(cz (zq.mpr #[b,e])).symm]
 have K:Asks (model P w) A s d (λx=>k (hR ks x)) (ks.toArray.zip vs.toArray):=by
  refine#[λx y C l H v=>?_,λi j b g I z=>?_]
  .obtain⟨i,b,rfl⟩:=c x l;obtain⟨j,g,rfl⟩:=c y H;have z:=ask i j C () () (by rw[f i b,f j g]at v;exact v);unfold kas_ask at z;rw[n i b,n j g];exact z
  .rw[sz]at b g;rw[f i b,f j g]at z;exact I (inj i j b g z)
 have run:=Od (E:=E) (st:=SortSt.mk' d (ks.toArray.zip vs.toArray) #v[] 7 none) (Q:=λ_ a=>Q a s) K #[zZ,E1 _,zZ] zZ () λa B up=>?_
 .unfold wpS at run;exact h9 run (λr u h=>by obtain⟨rfl,h⟩:=h;exact h) λ_ _ e=>e
 .have q:=qv B.perm;rw[sz]at up q;have mem:∀i,i<vs.length->(arrOf a).getD i d0∈ks.toArray.zip vs.toArray:=λi b=>Bj B.perm ();have J:Arr vs.length ((arrOf a).map (hR ks)):=by
   refine nX.mpr ?_;rw[Bp];refine((nX.mp B.perm).map (hR ks)).trans (.of_eq ?_);refine nj λi=>?_;rw[bZ,j4,vw];by_cases b:i<vs.length
   .rw[pX (),nB b];exact cK some (f i b)
   .rw[Ey (),iM (by simp;lia)];rfl
  have m:∀i,i<vs.length->((arrOf a).map (hR ks)).getD i 0=hR ks ((arrOf a).getD i d0):=λi b=>by
   rw[qx,Array.getElem?_map,pX ()];rfl
  refine G ((arrOf a).map (hR ks)) a J (λx y L D=>?_) ?_ B.ok
  .rw[m x (),m y D];exact up x y (iW _) L D
  .apply EK.mp;rw[Bp];show _=gW vs _
   unfold gW;rw[Bp,eJ];refine nH λx l=>?_;obtain⟨i,b,rfl⟩:=c x ((Fu B.perm).mp (Fj.mp l));show((ks.toArray.zip vs.toArray).getD i d0).2=vs.getD (hR ks ((ks.toArray.zip vs.toArray).getD i d0)) Value.none
   rw[f i b,n i b]
def Oj{n:Nat}{R:PySem.Fin->Sh->Prop}(z:s.heap.get? a=some (seqObj "list" vs.toArray n))(few:vs.length<=4000)(nd:vs.Nodup)(inj:∀i j,i<vs.length->j<vs.length->k i=k j->i=j)(ask:∀r,(∀b o,b≠a->s.heap.get? b=some o->r.get? b=some o)->2<=vs.length->Fc P w A vs (λi j=>decide (k i<k j)) {s with heap:=r})
  (q:∀p r c,Arr vs.length p->p0 k p vs.length->r.get? a=some (seqObj "list" (gW vs p).toArray c)->(∀b o,b≠a->s.heap.get? b=some o->r.get? b=some o)->R (.done (.ret .none)) {s with heap:=r}):
  wpAny (model P w) A (Builtin.«list.sort» #[[.ref a],[]]) R E s:=by
 have la:a<s.heap.objs.size:=cy z
 let D:=s.heap.update a (Obj.mapSeq λ_=>(#v[]:AV))
 obtain⟨B,u⟩:∃B,D.get? a=some (seqObj "list" #v[] B):=#[_,xS z λ_=> #v[]]
 let h:=(D.push (seqObj "tuple" vs.toArray 0)).push (seqObj "list" #v[] 0)
 have O:∀b o,b≠a->s.heap.get? b=some o->D.get? b=some o:=λb o t e=>(lW _ _ (dM t)).trans e;have M:∀b o,b≠a->s.heap.get? b=some o->h.get? b=some o:=λb o t e=>Ay (O b o t e) _ _;have l:h.get? a=some (seqObj "list" #v[] B):=Ay u _ _;rw[list_sort_plain];refine bD (listItems_at z zZ ?_);refine bD (ve z zZ ?_ (by rw[eE,cH];lia) (iW _));refine bD (AI u zZ ?_);refine bD (wpAny_newTuple ?_ (by show vs.length<=_;rw[cH];lia));refine bD (zx ?_ (iW _));refine iQ ?_;show wpAny (model P w) A _ R E {s with heap:=h};dsimp only;have fin:∀(st:SortSt) (p:Array Nat),Arr vs.length p->p0 k p vs.length->(arrOf st).map (·.2)=(gW vs p).toArray->failedOf st=none->∀G,G=h->
   wpAny (model P w) A (do
    let f:=(<-seqEpoch a) != B
    Builtin.List.listUpdate (.ref a) λ_=>(arrOf st).map (·.2)
    if let some e:=failedOf st then rule "list.sort.comparison-raised";throw e
    if f then rule "list.sort.modified";raiseError "ValueError" "list modified during sort"
    ret .none) R E {s with heap:=G}:=λst p C up g H G T=>by
  subst T;rw[g];have sz:(gW vs p).toArray.size=vs.length:=by
   rw[eE,bF,dr,C.size]
  obtain⟨I,J⟩:∃I,(h.update a (Obj.mapSeq λ_=>(gW vs p).toArray)).get? a=some (seqObj "list" (gW vs p).toArray I):=#[_,xS l λ_=>(gW vs p).toArray];refine bD (AI l zZ ?_);refine bD (ve l zZ ?_ (iW _) (cP (tr sz) (by rw[cH];lia)));rw[H];simp only[bne_self_eq_false,Bool.false_eq_true,if_false];exact bM (q p _ I C up J λb o t e=>(lW _ _ (dM t)).trans (M b o t e))
 by_cases U:2<=vs.length
 .have v: ¬vs.toArray.size<2:=by rw[eE];lia
  rw[wA v,wA v];refine bD (h9 (ask h M U) (λd s0 L=>?_) λ_ _ x=>x.elim);obtain⟨rfl,L⟩:=L;refine bD (h9 (Lc (ks:=vs) (vs:=vs) (k:=k) (Q:=λm N=>N={s with heap:=h}/\∃p:Array Nat,Arr vs.length p/\p0 k p vs.length/\(arrOf m).map (·.2)=(gW vs p).toArray/\failedOf m=none) rfl () nd inj L λp m Y a2 a3 a4=>#[rfl,p,Y,a2,a3,a4]) ?_ λ_ _ x=>x);rintro⟨⟨⟩,st⟩ N ⟨rfl,p,C,up,g,H⟩;exact fin st p C up g H _ rfl
 .have v:vs.toArray.size<2:=by rw[eE];lia
  rw[wB v,wB v];refine bD (bM (bD (bM ?_)));refine fin _ (List.range vs.length).toArray (E1 _) (λx y xy yn=>by lia) ?_ zZ _ rfl;rw[J3];exact Ii rfl
end
def Op{H:Hp}{e:As}{d:LN}(c:TupsAt H e d)(nd:d.Nodup):(e.map Value.ref).Nodup:=by
 refine oi.mpr λi j g k o z=>?_;rw[xc,xc]at z;rw[bF]at g k;have z:=Value.ref.inj z;have p:=c.len;have l:=c.is i e[i] (d[i]'()) (bE g) (bE _);have m:=c.is j e[j] (d[j]'()) (bE k) (bE _);rw[z,m]at l;have n:d[j]'()=d[i]'():=by
  have y:=f' l;injection y with y
  exact(BB (f:=nv) λa b h=>Ap (V.int.inj h)).mp y
 have q:=(jf (i:=j) (j:=i) () nd).mp (by rw[bE (),bE (),n]);lia
def gj(g:bB->Int)(t u:bB):Bool:=sr (g t) t (g u) u
def on(g:bB->Int)(f:LN):Total (gj g) f:=by
 refine#[λx=>?_,λx y z b a=>?_,λx _ y _ h=>?_]
 .unfold gj sr;rw[wB zZ,pK]
 .unfold gj sr at b a|-;by_cases d:g x=g y
  .rw[wB d]at b;by_cases c:g y=g z
   .rw[wB c]at a;rw[wB ()];exact Az _ _ _ b a
   .rw[wA c]at a;have:=hE a;rw[wA ()];exact cG ()
  .rw[wA d]at b;have i:=hE b;by_cases c:g y=g z
   .rw[wA ()];exact cG ()
   .rw[wA c]at a;have j:=hE a;rw[wA ()];exact cG ()
 .unfold gj sr;by_cases e:g x=g y
  .rw[wB e,wB e.symm];exact D3 x y h
  .rw[wA e,wA λz=>e z.symm]
   rcases Int.lt_or_gt_of_ne e with q|q
   .exact .inl (cG q)
   .exact .inr (cG q)
def ym(H:Hp)(g:bB->Int)(b a:Ad)(t:bB):Prop:=H b=some (.tup [.int (g t),.ref a])/\H a=some (.tup (t.map nv))
structure KeysAt(H:Hp)(g:bB->Int)(κs as:As)(ts:LN):Prop where
 l1:κs.length=ts.length
 l2:as.length=ts.length
 is:∀(i:Nat) κ a t,κs[i]?=some κ->as[i]?=some a->ts[i]?=some t->ym H g κ a t
section
variable{X:Cx}{b:AO}{d:St}{H:Hp}{s:Sh}{g:bB->Int}
def Dp{i a:Ad}{t:bB}(I:Inv X b d H s)(h:ym H g i a t):∃o j e n,s.heap.get? i=some o/\o.cls=.type "tuple"/\o.data=.seq #v[.int (g t) j,.ref a] n/\Vals (t.map nv) e/\SeqObj "tuple" s.heap a e:=by
 obtain⟨_,e,r,o,m,p,c,q,_⟩:=(show ObjOk X.prog X.w H s.heap i (.tup [.int (g t),.ref a])from I.hok i _ h.1);obtain⟨k,l,rfl,⟨j,rfl⟩,u⟩:∃k l,e=k::l/\RelV (.int (g t)) k/\Vals [.ref a] l:=by
  cases r with
  |cons x y=>exact#[_,_,zZ,x,y]
 obtain⟨A,rfl,v⟩:=gA u;cases v;obtain⟨f,w,z,_⟩:=I.tuple (S2 (K:=X.K) h.2);exact#[o,j,f,c,m,p,q,w,SH z]
def QN{A:Ar}{f a c h:Ad}{t u:bB}{Q:Bool->Sh->Prop}{E:VP}(U:A.units+8<cLine)(I:Inv X b d H s)(k:ym H g f a t)(l:ym H g c h u)(q:Q (gj g t u) s):
  wpAny (model X.prog X.w) A (keyLt' (tuples' true) (.ref f) (.ref c)) Q E s:=by
 obtain⟨Y,m,v,n1,w,x2,x,n,y⟩:=Dp I k;obtain⟨o2,o,B,n2,C,y2,D,p,G⟩:=Dp I l;refine kat_lt w x C D ?_;show KatLex _ _ _ _ _ _ [(Value.int (g t) m,Value.int (g u) o),(Value.ref a,Value.ref h)] 0 s;have z:=fq (A:=A) (s:=s) (i:=g t) (j:=g u) (t:=m) (u:=o);refine kat_cons ?_;unfold gj sr at q;by_cases e:g t=g u
 .rw[cG e]at z;rw[wB e]at q;refine z _ _ _ _ (kat_yes (kat_cons ?_));obtain⟨J,L,M⟩:=Ab I 1 (A:=A) () (iS (S2 (K:=X.K) k.2)) (iS (S2 (K:=X.K) l.2)) zZ rfl;refine L _ _ _ _ ?_;cases J with
  |true=>
   have N:=cO.mp (M.mp zZ);subst N;rw[pK]at q;refine kat_yes (kat_nil ?_);exact q
  |false=>
   refine kat_no (kat_one _ _ ?_);have O:t.length=v.length:=by simpa using n.length
   have T:u.length=B.length:=by simpa using p.length
   have r:=M5 (A:=A) y G () (QO n p);rw[<-O,<-T]at r;exact show wpAny _ _ (richCompare .Lt _ _) _ _ _ from r _ _ _ _ q
 .rw[eW e]at z;rw[wA e]at q;exact z _ _ _ _ (kat_no (Ij _ q))
theorem Jm{g:bB->Int}(I:Inv X b d H s):∀{κs as:As} {ts:LN},KeysAt H g κs as ts->∃fs:Vs,KatTups s.heap (κs.map Value.ref) fs/\fs.length=κs.length/\∀f∈fs,∃i t,f=.int i t
 | [],as,ts,_=>#[[],.nil,zZ,λ_ z=>nomatch z]
 |κ::κs,[],ts,h=>by have:=h.l1;have:=h.l2;simp at *;lia
 |κ::κs,a::as,[],h=>by have:=h.l1;simp at this
 | κ::κs,a::as,t::ts,h=>by
  obtain⟨fs,c,j,k⟩:=Jm I (κs:=κs) (as:=as) (ts:=ts) #[by simpa using h.l1,by simpa using h.l2,λi κ a t l m p=>h.is (i+1) κ a t (by simpa using l) (by simpa using m) (by simpa using p)];obtain⟨o,w,q,n,r,u,v,_⟩:=Dp I (h.is 0 κ a t zZ zZ zZ);exact#[_::fs,.cons r u v zZ c,by simp[j],λf hf=>by
   rcases cX.mp hf with e|hf
   .exact#[_,_,e]
   .exact k f hf]
def Lx{A:Ar}{c p:As}{k:LN}(r:A.units+8<cLine)(I:Inv X b d H s)(D:1<=k.length)(h:KeysAt H g c p k):Fc X.prog X.w A (c.map Value.ref) (λi j=>gj g (k.getD i []) (k.getD j [])) s:=by
 obtain⟨fs,u,E,v⟩:=Jm I h;have G:=h.l1;have J:=h.l2;refine kat_kind (T:= .type "int") u () (λf w=>?_) (by decide) #[zZ,λi j C m q x=>?_]
 .obtain⟨i,t,rfl⟩:=v f w;exact .now
 .rw[bF]at m q;have l:∀{i:Nat},i<c.length->∃e a,(c.map Value.ref).getD i Value.none=.ref e/\ym H g e a (k.getD i []):=λ{i} m=>by
   obtain⟨e,n⟩:∃e,c[i]?=some e:=#[_,bE m];obtain⟨a,o⟩:∃a,p[i]?=some a:=#[_,bE ()];refine#[e,a,?_,h.is i e a _ n o (pB ()).1];rw[cZ,bZ,n];rfl
  obtain⟨e,a,n,y⟩:=l m;obtain⟨z,L,o,B⟩:=l q;show wpAny (model X.prog X.w) A (keyLt' _ ((c.map Value.ref).getD i Value.none) ((c.map Value.ref).getD j Value.none)) C _ s;rw[n,o];exact QN r I y B x
end
inductive gI(g:bB->Int)(d:List V)(H:Hp)(Q:VK)(b:XK):Prop|mk:∀(a:Ad) (t:bB),d=[.ref a]->H a=some (.tup (t.map nv))->(∀e c,Same H c->c e=some (.tup [.int (g t),.ref a])->Q (.ref e) c)->gI g d H Q b
section
variable{X:Cx}{d:AO}{j:St}{n:Nat}{f:Ad}{m:Fd}{l:Ss}{g:bB->Int}
def LU{c:Sp}{H:Hp}{s:Sh}{Q:VK}{us:Vs}{vs:List V}(F:FnOk X.prog X.w X.K X.mg X.base b9 n f m l c)(g:Room n X.A.in1.in1)(i:Binds X.K m l [])(I:Inv X d j H s)(r:Vals vs us)(h:c vs H Q E0):
  wpAny (model X.prog X.w) X.A.in1.in1 (call (.ref f) us) (EP X d j Q) (λ_ _=>False) s:=by
 have k:(us++[]).length=l.length:=by rw[i',<-r.length];exact F.len _ _ _ _ h
 have b:=i s us I.kIn k;rw[i']at b;refine vv (mX (F.run X.A.in1.in1 X.stack s H #[us,[]] us vs Q E0 g I.env0.in1.in1 b r h) λr p a=>?_);cases r with
 |error e=>exact a.elim
 |ok o=>
  cases o with
  |ret u=>exact I.after a
  |next=>exact wE a
  |brk=>exact wE a
  |cont=>exact wE a
def Inv.pin2{H:Hp}{s:Sh}{b c:Ad}{o u:Obj}(I:Inv X d j H s)(a:FpOk X d H b)(e:FpOk X d H c)(f:s.heap.get? b=some o)(g:s.heap.get? c=some u)(h:∀v,o.data≠ .cell v)(i:∀v,u.data≠ .cell v):Inv X ((b,o)::(c,u)::d) j H s:=
 I.pins_of λp hp=>by
  rcases cX.mp hp with rfl|hp
  .exact#[f,a.1,a.2.1,a.2.2.1,h]
  .rcases cX.mp hp with rfl|hp
   .exact#[g,e.1,e.2.1,e.2.2.1,i]
   .exact I.pin p (ga _ hp)
def Inv.unpin2{H:Hp}{s:Sh}{b c:Ad}{o u:Obj}(I:Inv X ((b,o)::(c,u)::d) j H s):Inv X d j H s:=
 I.pins_of λp a=>I.pin p (ga _ (dS _ (dS _ a)))
def FpOk.to{H a:Hp}{b:Ad}(h:FpOk X d H b)(e:a b=none):FpOk X d a b:=#[e,h.2]
theorem Iy{E:VP}{y D:Ad}{J:Nat}{A:Vl->PUnit->Sem (ForInStep PUnit)}{Q:Sh->Prop}(F:FnOk X.prog X.w X.K X.mg X.base b9 n f m l (gI g))(hr:Room n X.A.in1.in1)(hb:Binds X.K m l [])(ne:y≠D)(B:∀x (s:Sh) (C:VP) (Qy:Sh->Prop),wpAny (model X.prog X.w) X.A.in1.in1 (call (.ref f) [x]) C (λ_ _=>False) s->
   (∀k s',C k s'->∃aa c,s'.heap.get? y=some (seqObj "list" aa c)/\aa.size<64/\Qy {s' with heap:=s'.heap.update y (Obj.mapSeq (·.push k))})->wpAny (model X.prog X.w) X.A.in1.in1 (A x ⟨⟩) (λr s'=>r=.yield ⟨⟩/\Qy s') E s):
  ∀(r:As) (rt:LN) (H:Hp) (h:As) (c:Nat) (s:Sh),Inv X d j H s->TupsAt H r rt->s.heap.get? y=some (seqObj "list" (h.map Value.ref).toArray c)->s.heap.get? D=some (seqObj "list" #v[] J)->FpOk X d H y->FpOk X d H D->h.length+r.length<64->
   (∀L G c2 s2,Inv X d j L s2->Same H L->KeysAt L g G r rt->s2.heap.get? y=some (seqObj "list" ((h++G).map Value.ref).toArray c2)->s2.heap.get? D=some (seqObj "list" #v[] J)->FpOk X d L y->FpOk X d L D->Q s2)->
   wpAny (model X.prog X.w) X.A.in1.in1 (forIn (r.map Value.ref) PUnit.unit A) (λ_ s'=>Q s') E s
 | [],[],H,h,c,s,I,T,eS,eD,M,f2,_,q=>by
  rw[CM,List.forIn_nil];exact bM (q H [] c s I (Same.refl _) #[zZ,zZ,λi p a t e=>by simp at e] (by rw[List.append_nil];exact eS) eD M f2)
 | [],_::_,H,h,c,s,I,T,eS,eD,M,f2,_,q=>by have:=T.len;simp at this
 |_::_,[],H,h,c,s,I,T,eS,eD,M,f2,_,q=>by have:=T.len;simp at this
 | a::r,t::rt,H,h,c,s,I,T,eS,eD,M,f2,ae,q=>by
  rw[iL]at ae;rw[gv,List.forIn_cons];have ha:H a=some (.tup (t.map nv)):=T.is 0 a t zZ rfl;have I1:=I.pin2 M f2 eS eD (λ_ z=>nomatch z) (λ_ z=>nomatch z);have go:=LU (Q:=λv w=>∃p,v=.ref p/\Same H w/\w p=some (.tup [.int (g t),.ref a])) F hr hb I1 (us:=[.ref a]) (vs:=[.ref a]) (.cons zZ .nil) #[a,t,zZ,ha,λp w N e=>#[p,zZ,N,e]];refine bD (h9 (B _ s _ (λs'=>∃p w O,Inv X d j w s'/\Same H w/\w p=some (.tup [.int (g t),.ref a])/\s'.heap.get? y=some (seqObj "list" ((h++[p]).map Value.ref).toArray O)/\s'.heap.get? D=some (seqObj "list" #v[] J)/\FpOk X d w y/\FpOk X d w D) go λk s' hk=>?_) (λx s' hx=>?_) λ_ _ z=>z)
  .obtain⟨v,w,I',rv,p,rfl,N,U⟩:=hk;cases rv;obtain⟨p1,p2,p3,p4,_⟩:=I'.pin (y,_) (ga _ (cR ..));obtain⟨d1,d2,d3,d4,_⟩:=I'.pin (D,_) (ga _ (dS _ (cR ..)));obtain⟨O,af⟩:∃O,(s'.heap.update y (Obj.mapSeq (·.push (Value.ref p)))).get? y=some (seqObj "list" ((h++[p]).map Value.ref).toArray O):=by
    have ea:(List.map Value.ref h).toArray.push (.ref p)=((h++[p]).map Value.ref).toArray:=by simp
    rw[<-ea];exact#[_,xS p1 (·.push (Value.ref p))]
   refine#[_,_,p1,by rw[eE,bF];lia,p,w,O,?_,N,U,af,?_,M.to p2,f2.to d2]
   .obtain⟨_,w1,w2,w3,w4,w5⟩:=M;exact I'.unpin2.turned (t':=s'.toks) (λb o nb e=>(lW _ _ (dM nb)).trans e) p2 w1 w3 w4 w5
   .exact(lW _ _ ne).trans d1
  .obtain⟨rfl,p,w,O,I',N,U,ag,ah,g1,g2⟩:=hx;show wpAny _ _ (forIn (r.map Value.ref) PUnit.unit A) _ E s';refine Iy F hr hb ne B r rt w (h++[p]) O s' I' #[by simpa using T.len,λi b u J e2=>N _ _ (T.is (i+1) b u (by simpa using J) (by simpa using e2))] ag ah g1 g2 (by rw[List.length_append];show h.length+1+r.length<64;lia) λL G c2 s2 I2 Y K2 ab ai h1 h2=>?_;refine q L (p::G) c2 s2 I2 (N.trans Y) #[by simp[K2.l1],by simp[K2.l2],λi aj b u J e2 e3=>?_] (by rw[List.append_assoc]at ab;exact ab) ai h1 h2;cases i with
   |zero=>
    cases J;cases e2;cases e3;exact#[Y _ _ U,(N.trans Y) _ _ ha]
   |succ i=>exact K2.is i aj b u (by simpa using J) (by simpa using e2) (by simpa using e3)
end
section
variable{X:Cx}{t:AO}{u:St}{H:Hp}{s:Sh}{w:Nat}{f D:Ad}{v:Fd}{B:Ss}{g:bB->Int}{r:As}{m:LN}{E:VP}
def Re{R:PySem.Fin->Sh->Prop}{n:Nat}(F:FnOk X.prog X.w X.K X.mg X.base b9 w f v B (gI g))(hr:Room w X.A.in1.in1)(hb:Binds X.K v B [])(hu:X.A.units+64<cLine)(I:Inv X t u H s)(T:TupsAt H r m)(nd:m.Nodup)(am:m.length<64)(ho:s.heap.get? D=some (seqObj "list" (r.map Value.ref).toArray n)) (fD:FpOk X t H D)(q:∀U p s2 c,Inv X t u U s2->Same H U->Arr m.length p->p0 (λi=>jx (gj g) m (m.getD i [])) p m.length->s2.heap.get? D=some (seqObj "list" (gW (r.map Value.ref) p).toArray c)->FpOk X t U D->R (.done (.ret .none)) s2):
  wpAny (model X.prog X.w) X.A.in1.in1 (ksk_tree D (.ref f) false) R E s:=by
 have la:=T.len;have Y:(r.map Value.ref).length=m.length:=by rw[bF,la]
 have lD:D<s.heap.objs.size:=cy ho;obtain⟨d0,d1,d2,d3,d4,d5⟩:=fD
 let h1:=s.heap.update D (Obj.mapSeq λ_=>(#v[]:AV))
 obtain⟨L,aa⟩:∃L,h1.get? D=some (seqObj "list" #v[] L):=#[_,xS ho λ_=> #v[]];have I1:Inv X t u H {s with heap:=h1}:=I.turned (t':=s.toks) (λb o nb e=>(lW _ _ (dM nb)).trans e) d0 d1 d3 d4 d5
 let G:=h1.push (seqObj "tuple" (r.map Value.ref).toArray 0)
 have I3:Inv X t u H {s with heap:=G.push (seqObj "list" #v[] 0)}:=I1.kept (t':=s.toks) λb o e=>Ay e _ _;have ag:(G.push (seqObj "list" #v[] 0)).get? D=some (seqObj "list" #v[] L):=Ay aa _ _;have ah:(G.push (seqObj "list" #v[] 0)).get? G.objs.size=some (seqObj "list" ((([]:As)).map Value.ref).toArray 0):=dG _ rfl;have lk:s.heap.objs.size<=G.objs.size:=by
  show _<=(h1.push _).objs.size;rw[size_push'];show _<=(s.heap.update D _).objs.size+1;rw[Heap.size_update];exact ub _
 have fk:FpOk X t H G.objs.size:=I.fpOk lk (I.hok.fresh lk);have ne:G.objs.size≠D:=n9 (f7 lD lk);unfold ksk_tree;refine bD (listItems_at ho zZ ?_);refine bD (ve ho zZ ?_ (by rw[eE,cH];lia) (iW _));refine bD (AI aa zZ ?_);refine bD (wpAny_newTuple ?_ (by show(r.map Value.ref).length<=_;rw[cH];lia));refine bD (zx ?_ (iW _));refine iQ ?_;show wpAny (model X.prog X.w) X.A.in1.in1 (ksk_rest D (.ref f) false (r.map Value.ref).toArray L (.ref G.objs.size)) R E {s with heap:=G.push (seqObj "list" #v[] 0)};unfold ksk_rest;refine bD (ph ?_);rw[List.forIn_toArray];refine bD (Iy F hr hb ne (λx s0 C Qy hx hC=>?_) r m H [] 0 _ I3 T ah ag fk #[d0,d1,d2,d3,d4,d5] (by simp;lia) λU J c2 s2 I2 gg K2 eS eD f1 f2=>?_)
 .refine bD (qa (h9 hx (λk s' hk=>?_) λ_ _ z=>z.elim));obtain⟨ai,c,e,l,qy⟩:=hC k s' hk;refine bD (ve e zZ ?_ (by rw[cH];lia) (by show(ai.push k).size<=_;rw[oV,cH];lia));exact bM #[zZ,qy]
 rw[List.nil_append]at eS;have ab:(J.map Value.ref).length=(r.map Value.ref).length:=by rw[bF,Y,K2.l1]
 refine bD (listItems_at eS zZ ?_);have fin:∀(st:SortSt) (p:Array Nat),Arr m.length p->p0 (λi=>jx (gj g) m (m.getD i [])) p m.length->(arrOf st).map (·.2)=(gW (r.map Value.ref) p).toArray->failedOf st=none->
   wpAny (model X.prog X.w) X.A.in1.in1 (ksk_tail D false L (.ref G.objs.size) st) R E s2:=λst p ar up M hf=>by
  have sz:(gW (r.map Value.ref) p).toArray.size=m.length:=by
   rw[eE,bF,dr,ar.size]
  unfold ksk_tail
  try dsimp only
  rw[M];have I4:Inv X t u U {s2 with heap:=s2.heap.update G.objs.size (Obj.mapSeq λ_=>(#v[]:AV))}:=by
   obtain⟨w0,w1,w2,w3,w4,w5⟩:=f1;exact I2.turned (t':=s2.toks) (λb o nb e=>(lW _ _ (dM nb)).trans e) w0 w1 w3 w4 w5
  have N:(s2.heap.update G.objs.size (Obj.mapSeq λ_=>(#v[]:AV))).get? D=some (seqObj "list" #v[] L):=(lW _ _ ne).trans eD;obtain⟨c5,aj⟩:∃c5,((s2.heap.update G.objs.size (Obj.mapSeq λ_=>(#v[]:AV))).update D (Obj.mapSeq λ_=>(gW (r.map Value.ref) p).toArray)).get? D=some (seqObj "list" (gW (r.map Value.ref) p).toArray c5):=#[_,xS N λ_=>(gW (r.map Value.ref) p).toArray];refine bD (ve eS zZ ?_ (by rw[eE,cH];lia) (iW _));refine bD (wpAny_letGo ?_);refine bD (AI N zZ ?_);refine bD (ve N zZ ?_ (iW _) (by show(gW (r.map Value.ref) p).toArray.size<=_;rw[sz,cH];lia));rw[hf];simp only[bne_self_eq_false,Bool.false_eq_true,if_false];refine bM (q U p _ c5 ?_ gg ar up aj f2);obtain⟨w0,w1,w2,w3,w4,w5⟩:=f2;exact I4.turned (t':=s2.toks) (λb o nb e=>(lW _ _ (dM nb)).trans e) w0 w1 w3 w4 w5
 unfold ksk_end;simp only[Bool.false_eq_true,if_false];by_cases an:2<=m.length
 .have n2: ¬(r.map Value.ref).toArray.size<2:=by rw[eE];lia
  rw[wA n2,wA n2];have To:=on g m;have inj:=Hj (d:=([]:bB)) To nd;refine bD (h9 (Lx (A:=X.A.in1.in1) (by show X.A.units+1+1+8<cLine;lia) I2 () K2) (λκ s0 hk=>?_) λ_ _ x=>x.elim);obtain⟨rfl,hk⟩:=hk;have al:J.length=m.length:=K2.l1;have ae:(J.map Value.ref).Nodup:=by
   refine oi.mpr λi j hi hj ij z=>?_;rw[xc,xc]at z;rw[bF]at hi hj;have z:=Value.ref.inj z;have L:=K2.is i J[i] (r[i]'()) (m[i]'()) (bE hi) (bE _) (bE _);have e2:=K2.is j J[j] (r[j]'()) (m[j]'()) (bE hj) (bE _) (bE _);obtain⟨L,ak⟩:=L;obtain⟨e2,af⟩:=e2;rw[z,e2]at L;have ea:r[j]'()=r[i]'():=by
    have y:=f' L;injection y with y
    injection y with _ y
    injection y with y
    exact V.ref.inj y
   rw[ea]at af;have et:m[j]'()=m[i]'():=by
    have y:=f' (af.symm.trans ak);injection y with y
    exact(BB (f:=nv) λa b h=>Ap (V.int.inj h)).mp y
   have e4:=(jf (i:=j) (j:=i) () nd).mp (by rw[bE (),bE (),et]);lia
  refine bD (h9 (Lc (ks:=J.map Value.ref) (vs:=r.map Value.ref) (k:=λi=>jx (gj g) m (m.getD i [])) (Q:=λO s'=>s'=s0/\∃p:Array Nat,Arr m.length p/\p0 (λi=>jx (gj g) m (m.getD i [])) p m.length/\(arrOf O).map (·.2)=(gW (r.map Value.ref) p).toArray/\failedOf O=none) ab () ae (by rw[Y];exact inj) (λi j C li lj hC=>hk i j C () () (by
   have e:=To.asks (pB (d:=([]:bB)) (show i<m.length by lia)).2 (pB (d:=([]:bB)) (show j<m.length by lia)).2;show C (gj g (m.getD i []) (m.getD j [])) _
   rw[<-e];exact hC)) λp O a1 a2 a3 a4=>#[zZ,p,by rw[<-Y];exact a1,by rw[<-Y];exact a2,a3,a4]) ?_ λ_ _ x=>x)
  rintro⟨⟨⟩,st⟩ s' ⟨rfl,p,ar,up,M,hf⟩;exact fin st p ar up M hf
 .have n2:(r.map Value.ref).toArray.size<2:=by rw[eE];lia
  rw[wB n2,wB n2];refine bD (bM (bD (bM ?_)));refine fin _ (List.range m.length).toArray (E1 _) (λx y xy yn=>by lia) ?_ rfl;rw[<-Y,J3];exact Ii ab
end
section
variable{X:Cx}{j:AO}{m:St}{H:Hp}{s:Sh}{d:Ad}{c:List (List cD×V)}{g:LN}
def J6(I:Inv X j m H s)(h:H d=some (.dT c))(e:c.map (·.1)=g.map nk):∃M n D,Lies s.heap d n D/\(d==sysModules)=false/\TupsAt H M g/\(∀(i:Nat) (E:DictEntry),n[i]?=some E->∃a,M[i]?=some a/\E.key=.ref a)/\n.size=g.length/\g.Nodup/\g.length<=sizeLine:=by
 obtain⟨z,U,w,l,o,n,D,Y,e2,e3,N,nd⟩:=(show ObjOk X.prog X.w H s.heap d (.dT c)from I.hok d _ h);have l1:c.length=w.length:=oM l;have l2:c.length=g.length:=by rw[<-bF (f:=(·.1)) (as:=c),e,bF]
 have le:n.size=w.length:=Bv N;have G:∀(i:Nat) (t:bB),g[i]?=some t->∃k v y u,c[i]?=some (k,v)/\w[i]?=some (k,y,u)/\k=nk t/\H y=some (.tup (t.map nv)):=λi t B=>by
  have li:=(bU.mp B).1;obtain⟨⟨k,v⟩,r⟩:∃p,c[i]?=some p:=#[_,bE ()];obtain⟨⟨k',y,u⟩,x,J,p2,p3⟩:=Cq l r;have O:k=nk t:=by
   have C:(c.map (·.1))[i]?=some k:=by rw[bZ,r];rfl
   rw[e,bZ,B]at C;exact(f' C).symm
  have L:k=k':=J;subst L;refine#[k,v,y,u,r,x,O,?_];have A:H y=some (.tup (k.map kV)):=p2;rw[O,jd]at A;exact A
 refine#[w.map (·.2.1),n,D,#[o,Y,e2,e3],U,#[by rw[bF];lia,λi b t Q B=>?_],λi E T=>?_,(),?_,()]
 .obtain⟨k,v,y,u,_,x,_,hy⟩:=G i t B;rw[bZ,x]at Q;cases Q;exact hy
 .rw[entry_at N]at T;obtain⟨q,eq,rfl⟩:=dm.mp T;exact#[q.2.1,by rw[bZ,eq];rfl,zZ]
 .have C:(w.map (·.1))=g.map nk:=by
   rw[<-e];refine nj λi=>?_;rw[bZ,bZ];cases r:c[i]? with
   |none=>rw[iM (by rw[<-l1];exact List.getElem?_eq_none_iff.mp r)];rfl
   |some p=>
    obtain⟨q,x,J,_⟩:=Cq l r;rw[x];exact cK some J.symm
  rw[C]at nd;exact(v8.mp nd).imp λh z=>h (cK nk z)
def Hy{e:As}{d:Array DictEntry}{b:AV}(is:∀(i:Nat) (c:DictEntry),d[i]?=some c->∃a,e[i]?=some a/\c.key=.ref a)(n:e.length=d.size)(f:ItemsOf (λi v=>∃c,d[i]?=some c/\v=c.key) b d.size):b.toList=e.map Value.ref:=by
 refine nj λi=>?_;by_cases h:i<d.size
 .obtain⟨v,g⟩:∃v,b[i]?=some v:=#[_,ke (by rw[f.1];exact h)];obtain⟨c,j,k⟩:=f.2 i v g;obtain⟨a,l,m⟩:=is i c j;rw[j4,g,bZ,l,k,m];rfl
 .rw[iM (by rw[dr,f.1];lia),iM (by rw[bF];lia)]
theorem EO:∀l:As,Vals (l.map V.ref) (l.map Value.ref)
 | []=> .nil
 |x::l=> .cons zZ (EO l)
end
section
variable{X:Cx}
inductive iA(g:bB->Int)(f:List V)(H:Hp)(Q:VK):Prop|mk:∀d a c,f=[V.ref d]->H d=some (.dT a)->a.map (·.1)=c.map nk->c.length<64->(∀D bs e b,Same H b->H D=none->b D=some (.lst (bs.map V.ref))->TupsAt b bs e->e.Perm c->e.Pairwise (λx y=>gj g x y=true)->Q (.ref D) b)->iA g f H Q
def HP{a:As}{p:Array Nat}(b:Arr a.length p):gW (a.map Value.ref) p=(p.toList.map λi=>a.getD i 0).map Value.ref:=by
 unfold gW;rw[eJ];refine nH λi c=>?_;have d:i<a.length:=by
  have m:=(nX.mp b).mem_iff.mp c;simpa using m
 show(a.map Value.ref).getD i Value.none=Value.ref (a.getD i 0);rw[cZ,cZ,bZ,bE d];rfl
def N5{x:Nat}{f:Ad}{y:Fd}{B:Ss}{g:bB->Int}{k:AO}{n:St}{H:Hp}{s:Sh}{Q:VK}{d:Ad}(N:X.calm=true)(O:X.A.units+64<cLine)(F:FnOk X.prog X.w X.K X.mg X.base b9 x f y B (gI g))(U:Room x X.A.in1.in1)(Y:Binds X.K y B [])(I:Inv X k n H s)(h:iA g [.ref d] H Q):wpAny (model X.prog X.w) X.A (call (.builtin "sorted") [.ref d] [(Str.ofString "key",.ref f)]) (EP X k n Q) X.xe s:=by
 obtain⟨d',aa,ts,e0,hd,e,u,q⟩:=h;cases e0;obtain⟨a,es,ep,L,nm,T,is,le,nd,v⟩:=J6 I hd e;refine call_function_entry_kw kind_sorted plain_sorted entry_sorted (ksk_s1 _ _) ?_;unfold Builtin.«sorted»;refine bD (m:=checkCount "sorted" 1 1 _) (bM ?_);refine bD (kdu_collect (A:=X.A.in1) (yX nm) (by simpa using I.ok.hd N) L () λj r ab keep it=>?_);have ea:=Hy is (by rw[T.len,le]) it;rw[ea];have t:Inv X k n H {s with heap:=j,toks:=r}:=I.kept keep;refine bD (zx ?_ (by rw[bF,T.len,cH];lia));have C:(j.push (seqObj "list" (a.map Value.ref).toArray 0)).get? j.objs.size=some (seqObj "list" (a.map Value.ref).toArray 0):=dG _ rfl;have I2:Inv X k n H {s with heap:=j.push (seqObj "list" (a.map Value.ref).toArray 0),toks:=r}:=t.kept (t':=r) λb o z=>cM _ z;have D:H j.objs.size=none:=t.hok.fresh (bR _);have fD:FpOk X k H j.objs.size:=t.fpOk (bR _) D;refine bD (iQ (wpAny_call_entry_kw slot_list_sort #[_,C,zZ] Fe (Re (s:={s with heap:=j.push (seqObj "list" (a.map Value.ref).toArray 0),toks:=r}) F U Y O I2 T nd u C fD λH2 p s2 c Iz E l up G f2=>#[_,rfl,?_]) (ksk_l1 _ _)));have w:Arr a.length p:=by rw[T.len];exact l
 rw[HP w]at G;have T2:=(T.same E).pick l;obtain⟨J,w1,w2,w3,w4,w5⟩:=f2;have few:((p.toList.map λi=>a.getD i 0).map V.ref).length<=sizeLine:=by
  rw[bF,bF,dr,l.size];exact v
 have I5:=Iz.track (o:= .lst ((p.toList.map λi=>a.getD i 0).map V.ref)) J #[few,_,c,EO _,G] (cP t.sz (bR _)) w1 w4 w5;have M:=bV J (.lst ((p.toList.map λi=>a.getD i 0).map V.ref));exact bM #[_,zZ,.ref j.objs.size,_,I5,zZ,q _ _ _ _ (E.trans M) D bG (T2.same M) (IR l) (Hn (on g ts) l up)]
def OB(g:bB->Int)(a:TE):TE:=λb H Q=>a b H λx c=>∃d,x=.ref d/\iA g [.ref d] c Q
def Qe{n:Nat}{v:Ss}{g:bB->Int}{b:Str}{e:Expr}{c:TE}{p w y a:Pos}(z:X.calm=true)(A:X.A.units+64<cLine)(B:cE X.prog X.w X.K X.mg X.base b n v (gI g))(C:Room (n+2) X.A)(D:Gl X "sorted")(E:X.mg "sorted"=none)(i:Gl X b)(G:PE X e c)(j:(b==("__debug__":Str))=false:=by decide) (k:starEach [e] X.env=[(false,eval e X.env)]:=by rfl):PE X (.Call (.Name "sorted" p) [e] [#[some "key",.Name b w,y]] a) (OB g c):=by
 intro J s L H Q I h;obtain⟨f,T,F,l,U,M⟩:=B;refine uj (se I D E boot_sorted ?_);refine callWith_kw ?_ (by rw[k];rfl) (by rw[k];rfl);have N:PA X [e] (lJ c lO):=bK G bJ k;refine bW (N a J s L H (λm o=>match m with| [x]=>∃d,x=.ref d/\iA g [.ref d] o Q|_=>False) I h) λY s1 ⟨m,o,t,r,q⟩=>?_
 match m,r,q with
 | [x],r,q=>
  obtain⟨d,rfl,q⟩:=q;obtain⟨u,rfl,O⟩:=gA r;cases O;refine kws_cons (xP t i l (kws_nil ?_) j);exact N5 z A F C.in1.in1 M t q
end
end L2
namespace L2
open PySem PySem.Spec PyProof.Rows
section
variable{X:Cx}{j:AO}{l:St}{H:Hp}{s:Sh}{d:Ad}{c:List (List cD×V)}{g:LN}{o:Obj}
def Inv.freeze(I:Inv X j l H s)(h:H d=some (.dT c))(e:s.heap.get? d=some o):Inv X j l (bC H d (.frz o (.dT c))) s:=by
 obtain⟨z,b,f,a,g,i,k,m,n,t,u,nd⟩:=(show ObjOk X.prog X.w H s.heap d (.dT c)from I.hok d _ h);refine I.write (x:=d) (e:=d) (h':=s.heap) (t':=s.toks) (by rw[h];exact True.intro) (.inl rfl) (λ_ _ _ q=>q) #[o,e] #[e,z,b,f,Paired.mapP a λp q r=>#[r.1,?_,r.2.2],g,i,k,m,n,t,u,nd];rw[bL (nE r.2.1 h)];exact r.2.1
def EW(I:Inv X j l H s)(h:H d=some (.frz o (.dT c)))(e:c.map (·.1)=g.map nk):∃B m w,s.heap.get? d=some o/\o.ExactDict/\o.data=.dict m w/\(d==sysModules)=false/\TupsAt H B g/\(∀(i:Nat) (x:DictEntry),m[i]?=some x->∃a,B[i]?=some a/\x.key=.ref a)/\m.size=g.length:=by
 obtain⟨C,z,O,A,n,o',m,w,D,Q,T,E,nd⟩:=(show ObjOk X.prog X.w H s.heap d (.frz o (.dT c))from I.hok d _ h);rw[C]at D;cases D;have l1:c.length=A.length:=oM n;have l2:c.length=g.length:=by rw[<-bF (f:=(·.1)) (as:=c),e,bF]
 have le:m.size=A.length:=Bv E;refine#[A.map (·.2.1),m,w,C,Q,T,O,#[by rw[bF];lia,λi b t G J=>?_],λi x L=>?_,()]
 .have li:=(bU.mp J).1;obtain⟨⟨k,v⟩,M⟩:∃p,c[i]?=some p:=#[_,bE ()];obtain⟨⟨k',y,u⟩,U,p1,Y,p3⟩:=Cq n M;have kk:k=nk t:=by
   have N:(c.map (·.1))[i]?=some k:=by rw[bZ,M];rfl
   rw[e,bZ,J]at N;exact(f' N).symm
  rw[bZ,U]at G;cases G;have r:H y=some (.tup (k.map kV)):=Y;rw[kk,jd]at r;exact r
 .rw[entry_at E]at L;obtain⟨q,eq,rfl⟩:=dm.mp L;exact#[q.2.1,by rw[bZ,eq];rfl,zZ]
end
def s9(d:Ad)(o:Obj):It:=
  #[λi H=>∃(b:List (List cD×V)) (c:LN) (t:bB),H d=some (.frz o (.dT b))/\b.map (·.1)=c.map nk/\c[i]?=some t,
   λi H x e=>e=H/\∃a,x=.ref a/\∀(b:List (List cD×V)) (c:LN),H d=some (.frz o (.dT b))->b.map (·.1)=c.map nk->∃t:bB,c[i]?=some t/\H a=some (.tup (t.map nv)),
   λi H=>∃b,∃c:LN,H d=some (.frz o (.dT b))/\b.map (·.1)=c.map nk/\c.length<=i]
def Q'{c d:LN}(h:c.map nk=d.map nk):c=d:=vi (λa b e=>By e) h
def LP{P:Pg}{w:World}{K:S4}{tg:Expr}{d c:Ad}{o:Obj}{y:Array DictEntry}{ep:Nat}(ne:d≠c)(l:o.data=.dict y ep)(ox:o.ExactDict):Turn P w K tg (s9 d o) [c] c (λi h=>h.get? c=some (pW d i y.size ep)) where
 mem:=by simp
 obj:=λi h st b f=>by
  have e:b=c:=by simpa using f
  subst e;exact#[_,st,λv z=>by
   have z':Data.fields _=Data.cell v:=z;cases z']
 keep:=λi h m st k=>k c (by simp) _ st
 item:=by
  intro X A hw B hc i za s σ H E I p st C;subst A hw B;obtain⟨D,ts,t,r,u,x⟩:=C;obtain⟨as,G,J,L,e2,g,nm,T,is,le⟩:=EW I r u;rw[l]at g;cases g;obtain⟨M,N,f2,O,U,Y⟩:=p c (by simp);have li:=(bU.mp x).1;obtain⟨en,ee⟩:∃en,y[i]?=some en:=#[_,ke ()];obtain⟨a,ea,ek⟩:=is i en ee;refine Kv st #[o,L,ox,l] ee λm j sb=>?_;have I1:Inv X za σ H {s with heap:=m}:=I.turned (t':=s.toks) (λb o f e=>(sb.2 b f).trans e) M N O U Y;refine#[_,zZ,ze (s:={s with heap:=m}) (n:="dict_keyiterator") j rfl rfl (by decide) #[.ref a,H,I1,ek,#[rfl,a,rfl,λaa ab g1 g2=>?_],j,λb f=>(p b f).1]];rw[r]at g1;cases g1;have tt:=Q' (u.symm.trans g2);subst tt;exact#[t,x,T.is i a t ea x]
 done:=by
  intro X A hw B hc i za s σ H E I p st C;subst A hw B;obtain⟨D,ts,r,u,x⟩:=C;obtain⟨as,G,J,L,e2,g,nm,T,is,le⟩:=EW I r u;rw[l]at g;cases g;obtain⟨M,N,f2,O,U,Y⟩:=p c (by simp);exact Hh (I.ok.hd hc) st #[o,L,ox,l] (Ey ()) λm eb=>#[zZ,I.turned (t':=s.toks) (λb o f e=>eb b o f e) M N O U Y]
 self:=λ_ i s Q E st q=>by
  have ty:s.TypeIs (.ref c) "dict_keyiterator":=#[_,st,zZ];refine vz ty B0 (lX B0 ty JO ?_ (Km _));exact show wpAny _ _ (ret (.ref c)) _ _ s from bM #[_,zZ,"dict_keyiterator",_,ty,sm.lookup,q]
section
variable{X:Cx}{a:Expr}
def NH(H:Hp)(d:Ad)(o:Obj)(a:List (List cD×V))(b:Hp):Prop:=(H d=some (.frz o (.dT a))/\b=H)\/(H d=some (.dT a)/\b=bC H d (.frz o (.dT a)))
def xX(e:TE):TI:=λf H R=>e f H λx b=>∃d a,∃g:LN,x=.ref d/\a.map (·.1)=g.map nk/\(b d=some (.dT a)\/∃o,b d=some (.frz o (.dT a)))/\∀o c,NH b d o a c->R (s9 d o) c
def HH{l:Expr}{tl:TE}(z:PE X l tl):PI X a l (xX tl):=by
 intro m s n H R I h;refine bW (z m s n H _ I h) λv f ⟨x,t,p,A,B⟩=>?_;obtain⟨d,g,G,e,C,w,q⟩:=B;subst e;cases A;have go:∀(i:Hp) (o:Obj),Inv X m n i f->i d=some (.frz o (.dT g))->R (s9 d o) i->wpAny (model X.prog X.w) X.A (pyIter (.ref d)) (C9 X m n a R) X.xe f:=λi o j c r=>by
  obtain⟨J,L,M,k,u,y,D,T,is,N⟩:=EW j c C;refine Kk D #[o,k,u,y] ?_;refine#[f.heap.objs.size,[f.heap.objs.size],_,_,i,zZ,j.kept (t':=f.toks) λb o e=>cM _ e,LP (dj (cy k)) y u,dG _ zZ,λb E=>?_,r];have e:b=f.heap.objs.size:=by simpa using E
  subst e;exact j.fpOk (bR _) (j.hok.fresh (bR _))
 rcases w with c|⟨o,c⟩
 .obtain⟨_,_,_,_,o,_,_,k,_⟩:=(show ObjOk X.prog X.w t f.heap d (.dT g)from p.hok d _ c);exact go _ o (p.freeze c k) bG (q o _ (.inr #[c,zZ]))
 .exact go t o p c (q o _ (.inl #[c,zZ]))
end
section
variable{d:Ad}{o:Obj}{f:List (List cD×V)}{c:LN}{h:Ss}{g:TG}{k:TT}{l:TE}{j:St}{H:Hp}{Fin:List V->Hp->Prop}
def MI(u:f.map (·.1)=c.map nk)(Pv:Nat->List V->Hp->Prop)(N:c.length<=sizeLine)(x:Pv 0 [] H)(z:∀i n H,i<=c.length->Pv i n H->H d=some (.frz o (.dT f))/\n.length<=i)(A:∀i a t n H,c[i]?=some t->H a=some (.tup (t.map nv))->Pv i n H->g (.ref a) (i7 h j) H λr B=>qr (i7 h j) r/\k r B λb w=>if b=true then l r w λy C=>Pv (i+1) (n++[y]) C else Pv (i+1) n w)(D:∀n H,Pv c.length n H->Fin n H):nh h g k l j (s9 d o) H Fin:=by
 refine#[λi m n H=>m=c.length-i/\i<=c.length/\Pv i n H,#[c.length,by simp,Nat.zero_le _,x],?_];rintro i m n H ⟨rfl,E,p⟩;obtain⟨q,O⟩:=z i n H E p;by_cases s:i<c.length
 .refine .inr #[#[f,c,c[i],q,u,by simp[s]],(),Pv (i+1),λQ G I=>#[c.length-(i+1),Nat.sub_succ_lt_self _ _ s,zZ,s,I],λv G y=>?_];obtain⟨e,a,J,y⟩:=y;subst e J;obtain⟨t,L,M⟩:=y f c q u;exact A i a t n _ L M p
 .have e:i=c.length:=by lia
  subst e;exact .inl #[#[f,c,q,u,bR _],(),D n H p]
end
section
variable{d:Ad}{o:Obj}{c:List (List cD×V)}{ts:LN}{g:TG}{f:TS}{D:Ends}{b:St}{H:Hp}
def Og(n:c.map (·.1)=ts.map nk)(Pv:Nat->St->Hp->Prop)(u:Pv 0 b H)(v:∀i b H,i<=ts.length->Pv i b H->H d=some (.frz o (.dT c)))(w:∀i a t b H,ts[i]?=some t->H a=some (.tup (t.map nv))->Pv i b H->g (.ref a) b H λh r=>f {D with nx:=Pv (i+1),ct:=Pv (i+1),bk:=D.nx} h r) (z:∀b H,Pv ts.length b H->D.nx b H):
  ∃W:Nat->Nat->St->Hp->Prop,(∃m,W 0 m b H)/\∀i m b H,W i m b H->
   ((s9 d o).stop i H/\D.nx b H)\/((s9 d o).go i H/\∃N:St->Hp->Prop,(∀j k,N j k->∃s,s<m/\W (i+1) s j k)/\∀x k,(s9 d o).yld i H x k->g x b k λh r=>f {D with nx:=N,ct:=N,bk:=D.nx} h r):=by
 refine#[λi m b H=>m=ts.length-i/\i<=ts.length/\Pv i b H,#[ts.length,by simp,Nat.zero_le _,u],?_];rintro i m b H ⟨rfl,A,p⟩;have q:=v i b H A p;by_cases l:i<ts.length
 .refine .inr #[#[c,ts,ts[i],q,n,by simp[l]],Pv (i+1),λj k B=>#[ts.length-(i+1),Nat.sub_succ_lt_self _ _ l,zZ,l,B],λx k y=>?_];obtain⟨e,a,C,y⟩:=y;subst e C;obtain⟨t,E,G⟩:=y c ts q n;exact w i a t b _ E G p
 .have e:i=ts.length:=by lia
  subst e;exact .inl #[#[c,ts,q,n,bR _],z b H p]
end
section
variable{X:Cx}{a:AO}{d:St}{H:Hp}{s:Sh}{h':Heap}{t':Nat}
def Inv.turnedN{ch:As}(I:Inv X a d H s)(k:∀b o,b∉ch->s.heap.get? b=some o->h'.get? b=some o)(h:∀b∈ch,FpOk X a H b):Inv X a d H {s with heap:=h',toks:=t'}:=by
 have i:∀b u,H b=some u->b∉ch:=λb u e f=>by rw[(h b f).1]at e;cases e
 refine I.step (h':=h') (H':=H) (g':=s.gens) (t':=t') (d':=s.drawn) (ch:=ch) (λb f=>?_) (λb o _ _ g e _=>k b o g e) (λb o _ _ g e _=>#[o.slots,k b o g e]) (λb o _ _ n=>n) (λb o g e=>#[o,k b o g e])
  (λb w q=>q) (λb o u q=>q) (λb x q=>#[#v[],by rw[q];simp]) (λm j=>?_) (λb u q=>?_) I.bare
 .obtain⟨_,l,_,p,r,t⟩:=h b f;exact#[p,l,r,t]
 .exact j.at' λo e=>k _ o (λf=>(h _ f).2.1 zZ) e
 .refine(I.hok b u q).stay (λc o v e=>k c o ?_ e) (λ_ z=>z) λ_ _ z=>z
  rcases v with z|z
  .rw[z];exact i b u q
  .exact i c _ z
end
structure ZipL(h:Heap)(z TI TO i1 i2 t1 t2:Ad)(f0:Vl)(i:Nat):Prop where
 zip:IsZip h z TI TO f0
 ins:IsPair h TI (.ref i1) (.ref i2)
 out:∃a b,IsPair h TO a b
 one:h.IsListIter i1 t1 i
 two:h.IsListIter i2 t2 i
def QG{n a b:Nat}(c:a<n)(d:b<n):ZipApart (n+4) (n+2) (n+3) n (n+1) a b:=by
 constructor<;>(intro h;have e:(_:Nat)=_:=h;lia)
def Jf{z TO a b c:Ad}(h:c∉[z,TO,a,b]):c≠z/\c≠TO/\c≠a/\c≠b:=by
 simp only[List.mem_cons,List.not_mem_nil,or_false,not_or]at h;exact h
def zr(K:S4)(c d:Ad):It:=
  #[λi H=>∃a b x y,SqL K H c a/\SqL K H d b/\a[i]?=some x/\b[i]?=some y,
   λi H v e=>∃T x y,v=.ref T/\H T=none/\e=bC H T (.tup [x,y])/\(∀a,SqL K H c a->a[i]?=some x)/\∀b,SqL K H d b->b[i]?=some y,
   λi H=>∃a b,SqL K H c a/\SqL K H d b/\(a.length<=i\/b.length<=i)]
def LY{P:Pg}{w:World}{K:S4}{t:List Expr}{x1:Nat}{Y:Pos}{z TI TO g j L M:Ad}(D:ZipApart z TI TO g j L M):
  Turn P w K (.Tuple t x1 Y) (zr K L M) [z,TI,TO,g,j] z (λi h=>ZipL h z TI TO g j L M .none i) where
 mem:=cR ..
 obj:=λi h Z b f=>by
  obtain⟨a0,b0,n⟩:=Z.out;simp only[List.mem_cons,List.not_mem_nil,or_false]at f
  rcases f with rfl|rfl|rfl|rfl|rfl
  .exact#[_,Z.zip,λv q=>by cases q]
  .exact#[_,Z.ins,λv q=>by cases q]
  .exact#[_,n,λv q=>by cases q]
  .obtain⟨o,e,c,d⟩:=Z.one;exact#[o,e,λv z=>by rw[d]at z;cases z]
  .obtain⟨o,e,c,d⟩:=Z.two;exact#[o,e,λv z=>by rw[d]at z;cases z]
 keep:=λi h h' Z k=>#[k z (by simp) _ Z.zip,k TI (by simp) _ Z.ins,let⟨a,b,o⟩:=Z.out;#[a,b,k TO (by simp) _ o],Z.one.at λo e=>k g (by simp) o e,Z.two.at λo e=>k j (by simp) o e]
 item:=by
  intro X hP hw hK hc i N s O H E I A Z hg;subst hP hw hK;obtain⟨xs,ys,x,y,Q,T,hx,hy⟩:=hg;obtain⟨aa,rv,p1,_⟩:=I.list Q;obtain⟨B,p,p2,_⟩:=I.list T;obtain⟨u,hu,ru⟩:=rv.get hx;obtain⟨v,hv,ab⟩:=p.get hy;obtain⟨ae,af,l⟩:=Z.out;refine wpAny_pyNext_zip_item D Z.zip Z.ins l Z.one Z.two p1.isList p2.isList (x:=u) (y:=v) (by simpa using hu) (by simpa using hv) λr c1 c2 c3 c4 pr _ U=>?_;have k1:∀c o,c∉[z,TO,g,j]->s.heap.get? c=some o->r.get? c=some o:=λc o nc e=>let⟨n1,n2,n3,n4⟩:=Jf nc;U c o n1 n2 n3 n4 e
  have C:ZipL r z TI TO g j L M (rawInt s.heap.objs.size) (i+1):=#[c1,U _ _ D.TIz D.TITO D.TIi1 D.TIi2 Z.ins,#[_,_,c2],c3,c4];have sub:∀b∈[z,TO,g,j],b∈[z,TI,TO,g,j]:=λb f=>by simp only[List.mem_cons,List.not_mem_nil,or_false]at f|-;rcases f with e|e|e|e<;>simp[e]
  have I1:Inv X N O H {s with heap:=r}:=I.turnedN (t':=s.toks) k1 λb f=>A b (sub b f);have nT:H s.heap.objs.size=none:=I.hok.fresh (bR _);have ok:ObjOk X.prog X.w (bC H s.heap.objs.size (.tup [x,y])) r s.heap.objs.size (.tup [x,y]):=#[by show 2<=sizeLine;decide,[u,v],.cons ru (.cons ab .nil),#[_,pr,zZ,_,zZ,zZ]];have I2:Inv X N O (bC H s.heap.objs.size (.tup [x,y])) {s with heap:=r}:=Inv.trackNew I I1 ok;refine#[_,zZ,wpAny_letOwnedTupleGo_zip C.zip λh2 z2 G=>?_];obtain⟨a0,b0,n⟩:=C.out;have old:∀b∈[z,TI,TO,g,j],b≠s.heap.objs.size:=λb f=>by
   obtain⟨a1,b1,J⟩:=Z.out;simp only[List.mem_cons,List.not_mem_nil,or_false]at f
   rcases f with rfl|rfl|rfl|rfl|rfl
   .exact dj (cy Z.zip)
   .exact dj (cy Z.ins)
   .exact dj (cy J)
   .obtain⟨o,e,_⟩:=Z.one;exact dj (cy e)
   .obtain⟨o,e,_⟩:=Z.two;exact dj (cy e)
  have m:∀b∈[z,TI,TO,g,j],bC H s.heap.objs.size (.tup [x,y]) b=none:=λb f=>by rw[bL (old b f)];exact(A b f).1
  obtain⟨f0,f1,f2,f3,f4,f5⟩:=A z (cR ..);have I3:Inv X N O (bC H s.heap.objs.size (.tup [x,y])) {s with heap:=h2}:=I2.turned (t':=s.toks) (λb o nb e=>G.extBut b o nb e) (m z (cR ..)) f1 f3 f4 f5;refine#[.ref s.heap.objs.size,_,I3,zZ,#[_,x,y,zZ,nT,zZ,λag h=>?_,λah h=>?_],#[z2,G.extBut _ _ D.TIz C.ins,#[a0,b0,G.extBut _ _ D.TOz n],C.one.at λo e=>G.extBut _ _ D.i1z e,C.two.at λo e=>G.extBut _ _ D.i2z e],m]
  .rw[I.list_inj h Q];exact hx
  .rw[I.list_inj h T];exact hy
 done:=by
  intro X hP hw hK hc i N s O H E I A Z hg;subst hP hw hK;obtain⟨xs,ys,Q,T,he⟩:=hg;obtain⟨aa,rv,p1,_⟩:=I.list Q;obtain⟨B,p,p2,_⟩:=I.list T;have l1:=rv.length;have l2:=p.length;have sub:∀b∈[z,TO,g,j],b∈[z,TI,TO,g,j]:=λb f=>by simp only[List.mem_cons,List.not_mem_nil,or_false]at f|-;rcases f with e|e|e|e<;>simp[e]
  obtain⟨ae,af,l⟩:=Z.out;refine wpAny_pyNext_zip_end (I.ok.hd hc) D Z.zip Z.ins l Z.one Z.two p1.isList p2.isList ?_ λr U=>#[zZ,I.turnedN (t':=s.toks) (λc o nc e=>let⟨n1,n2,n3,n4⟩:=Jf nc;U c o n1 n2 n3 n4 e) λb f=>A b (sub b f)]
  rcases he with h|h
  .exact .inl (by simp;lia)
  .exact .inr (by simp;lia)
 self:=λ_ _ _ _ _ Z q=>wpAny_pyIter_zip Z.zip q
section
variable{X:Cx}
def y4(K:S4)(d:TA):TI:=λe H R=>d e H λf a=>∃b c g h,f=[.ref b,.ref c]/\SqL K a b g/\SqL K a c h/\R (zr K b c) a
def EZ{c:List Expr}{J:Nat}{L:Pos}{a b:Expr}{u:TA}{p d:Pos}(M:Gl X "zip")(N:X.mg "zip"=none)(O:PA X [a,b] u)(Q:starEach [a,b] X.env=[(false,eval a X.env),(false,eval b X.env)]:=by rfl)
  (f:starEach [b] X.env=[(false,eval b X.env)]:=by rfl):PI X (.Tuple c J L) (.Call (.Name "zip" p) [a,b] [] d) (y4 X.K u):=by
 intro v s w H R I h;refine Call_ (se I M N PyProof.Rows.boot_zip (AC (bW (O d v s w H _ I h) λx s1 ⟨vs,y,g,T,l⟩=>?_) (by rw[Q,f]) (by rw[f];rfl)));obtain⟨j,k,xs,ys,e,l,U,q⟩:=l;subst e;obtain⟨m,x,rfl,n,Y⟩:∃m i,x=m::i/\RelV (.ref j) m/\Vals [.ref k] i:=by cases T with|cons a b=>exact#[_,_,rfl,a,b]
 obtain⟨u2,rfl,o⟩:=gA Y;cases n;cases o;obtain⟨aa,rv,z,_⟩:=g.list l;obtain⟨A,ab,B,_⟩:=g.list U;have r:j<s1.heap.objs.size:=let⟨_,e,_⟩:=z.isList;cy e
 have t:k<s1.heap.objs.size:=let⟨_,e,_⟩:=B.isList;cy e
 refine call_zip_2 z.isList B.isList λC c1 c2 c3 c4 c5 _ all=>?_;have Z:ZipL C (s1.heap.objs.size+4) (s1.heap.objs.size+2) (s1.heap.objs.size+3) s1.heap.objs.size (s1.heap.objs.size+1) j k .none 0:=#[c1,c2,#[_,_,c3],c4,c5];refine wpAny_pyIter_zip Z.zip ?_;have I2:Inv X v w y {s1 with heap:=C}:=g.kept (t':=s1.toks) all;have D:ZipApart (s1.heap.objs.size+4) (s1.heap.objs.size+2) (s1.heap.objs.size+3) s1.heap.objs.size (s1.heap.objs.size+1) j k:=QG r t;refine#[_,_,_,_,y,zZ,I2,LY D,Z,λb E=>?_,q];have G:s1.heap.objs.size<=b:=by
  simp only[List.mem_cons,List.not_mem_nil,or_false]at E
  rcases E with e|e|e|e|e<;>(rw[e];first|exact bR _|exact nN _ _)
 exact g.fpOk G (g.hok.fresh G)
end
def De{K:S4}{f h:Ad}{xs ys:List V}{g:TG}{n:TS}{D:Ends}{a:St}{H:Hp}(Pv:Nat->St->Hp->Prop)(q:Pv 0 a H)(r:∀i a H,Pv i a H->SqL K H f xs/\SqL K H h ys)(s:∀i x y T a H,xs[i]?=some x->ys[i]?=some y->H T=none->Pv i a H->g (.ref T) a (bC H T (.tup [x,y])) λb j=>n {D with nx:=Pv (i+1),ct:=Pv (i+1),bk:=D.nx} b j) (t:∀a H,Pv (min xs.length ys.length) a H->D.nx a H):
  ∃W:Nat->Nat->St->Hp->Prop,(∃m,W 0 m a H)/\∀i m a H,W i m a H->
   ((zr K f h).stop i H/\D.nx a H)\/((zr K f h).go i H/\∃N:St->Hp->Prop,(∀c d,N c d->∃o,o<m/\W (i+1) o c d)/\∀x d,(zr K f h).yld i H x d->g x a d λb j=>n {D with nx:=N,ct:=N,bk:=D.nx} b j):=by
 refine#[λi m a H=>m=min xs.length ys.length-i/\i<=min xs.length ys.length/\Pv i a H,#[min xs.length ys.length,by simp,Nat.zero_le _,q],?_];rintro i m a H ⟨rfl,E,p⟩;obtain⟨k,l⟩:=r i a H p;by_cases lt:i<min xs.length ys.length
 .have u:i<xs.length:=by lia
  have w:i<ys.length:=by lia
  refine .inr #[#[xs,ys,xs[i],ys[i],k,l,bE u,bE w],Pv (i+1),λc d A=>#[min xs.length ys.length-(i+1),(),zZ,lt,A],λv d z=>?_];obtain⟨T,x,y,rfl,hT,rfl,B,C⟩:=z;exact s i x y T a H (B xs k) (C ys l) hT p
 .have e:i=min xs.length ys.length:=by lia
  exact .inl #[#[xs,ys,k,l,()],t a H (e▸p)]
def yh(K:S4)(l:Ad):It:=
  #[λi H=>∃a x,SqL K H l a/\a[i]?=some x,
   λi H v b=>∃T x,v=.ref T/\H T=none/\b=bC H T (.tup [.int (i:Nat),x])/\∀a,SqL K H l a->a[i]?=some x,
   λi H=>∃a,SqL K H l a/\a.length<=i]
def QL(e a l:Ad)(i:Nat)(h:Heap):Prop:=(∃old,IsEnum h e a (i:Nat) old)/\h.IsListIter a l i
def Oh{P:Pg}{w:World}{K:S4}{m:List Expr}{x1:Nat}{B:Pos}{e d l:Ad}(U:e≠d):Turn P w K (.Tuple m x1 B) (yh K l) [e,d] e (λi h=>QL e d l i h) where
 mem:=cR ..
 obj:=λi h Z b f=>by
  obtain⟨⟨old,c⟩,o,g,r,C⟩:=Z;simp only[List.mem_cons,List.not_mem_nil,or_false]at f
  rcases f with rfl|rfl
  .exact#[_,c,λv q=>by cases q]
  .exact#[_,g,λv q=>by rw[C]at q;cases q]
 keep:=λi h n Z k=>by
  obtain⟨⟨old,c⟩,o,g,r,C⟩:=Z;exact#[#[old,k e (by simp) _ c],o,k d (by simp) _ g,r,C]
 item:=by
  intro X D hw G Y i t s y H E I p Z J;subst D hw G;obtain⟨xs,x,A,hx⟩:=J;obtain⟨⟨old,c⟩,g⟩:=Z;obtain⟨L,M,N,_⟩:=I.list A;obtain⟨u,hu,ru⟩:=M.get hx;refine wpAny_pyNext_enum_item c g N.isList (x:=u) (by simpa using hu) U λn ho O hT hs k=>?_;have I1:Inv X t y H {s with heap:=n,toks:=s.toks+1}:=I.turnedN (ch:=[e,d]) (t':=s.toks+1) (λb o j Q=>k b o (λz=>j (by simp[z])) (λz=>j (by simp[z])) Q) p;have nT:H s.heap.objs.size=none:=I.hok.fresh (bR _);have ok:ObjOk X.prog X.w (bC H s.heap.objs.size (.tup [.int (i:Nat),x])) n s.heap.objs.size (.tup [.int (i:Nat),x]):=#[by show 2<=sizeLine;decide,[_,u],.cons #[_,zZ] (.cons ru .nil),#[_,hT,zZ,_,zZ,zZ]];have I2:Inv X t y (bC H s.heap.objs.size (.tup [.int (i:Nat),x])) {s with heap:=n,toks:=s.toks+1}:=Inv.trackNew I I1 ok;refine#[_,zZ,wpAny_letOwnedTupleGo_enum ho λr T sb=>?_];have le:e<s.heap.objs.size:=cy c;have li:d<s.heap.objs.size:=by obtain⟨_,z,_⟩:=g;exact cy z
  have a:∀b∈[e,d],bC H s.heap.objs.size (.tup [.int (i:Nat),x]) b=none:=λb f=>by
   have j:b≠s.heap.objs.size:=by
    simp only[List.mem_cons,List.not_mem_nil,or_false]at f
    rcases f with rfl|rfl
    .exact dj le
    .exact dj li
   rw[bL j];exact(p b f).1
  obtain⟨f0,f1,f2,f3,f4,f5⟩:=p e (cR ..);have I3:Inv X t y (bC H s.heap.objs.size (.tup [.int (i:Nat),x])) {s with heap:=r,toks:=s.toks+1}:=I2.turned (t':=s.toks+1) (λb o j e=>sb.extBut b o j e) (a e (cR ..)) f1 f3 f4 f5;refine#[.ref s.heap.objs.size,_,I3,zZ,#[_,x,zZ,nT,zZ,λaa h=>?_],#[#[_,T],?_],a]
  .rw[I.list_inj h A];exact hx
  .obtain⟨o,z1,z2,z3⟩:=O;exact#[o,sb.extBut _ _ (dM U) z1,z2,z3]
 done:=by
  intro X D hw G Y i t s y H E I p Z J;subst D hw G;obtain⟨xs,A,he⟩:=J;obtain⟨⟨old,c⟩,g⟩:=Z;obtain⟨L,M,N,_⟩:=I.list A;have l1:=M.length;refine wpAny_pyNext_enum_end (I.ok.hd Y) c g N.isList (by simp;lia) λn k=>#[zZ,?_];exact I.turnedN (ch:=[d]) (t':=s.toks) (λb o j Q=>k b o (λz=>j (by simp[z])) Q) λb f=>p b (by rw[List.mem_singleton.mp f];simp)
 self:=λ_ _ _ _ _ Z q=>by
  obtain⟨⟨old,c⟩,_⟩:=Z;exact wpAny_pyIter_enum c q
section
variable{X:Cx}
def yM(K:S4)(b:TA):TI:=λc H R=>b c H λd a=>∃l e,d=[.ref l]/\SqL K a l e/\R (yh K l) a
def P7{c:List Expr}{w:Nat}{x:Pos}{a:Expr}{m:TA}{p d:Pos}(y:Gl X "enumerate")(z:X.mg "enumerate"=none)(A:PA X [a] m)(B:starEach [a] X.env=[(false,eval a X.env)]:=by rfl):PI X (.Tuple c w x) (.Call (.Name "enumerate" p) [a] [] d) (yM X.K m):=by
 intro n s o H R I h;refine Call_ (se I y z PyProof.Rows.boot_enumerate (AC (bW (A d n s o H _ I h) λM s1 ⟨N,r,f,C,g⟩=>?_) (by rw[B];rfl) (by rfl)));obtain⟨l,O,e,g,q⟩:=g;subst e;obtain⟨Q,rfl,i⟩:=gA C;cases i;obtain⟨D,T,E,_⟩:=f.list g;have j:=E.isList;refine call_enumerate_list j λG t J sz k=>wpAny_pyIter_enum t ?_;have L:Inv X n o r {s1 with heap:=G}:=f.kept (t':=s1.toks) k;refine#[_,_,_,_,r,zZ,L,Oh (l:=l) (n9 (rc _)),#[#[_,t],J],λb u=>?_,q];have v:s1.heap.objs.size<=b:=by
  simp only[List.mem_cons,List.not_mem_nil,or_false]at u
  rcases u with e|e<;>(rw[e];first|exact bR _|exact nN _ _)
 exact f.fpOk v (f.hok.fresh v)
end
section
variable{K:S4}{l:Ad}{xs:List V}{g:TG}{b:TS}{D:Ends}{a:St}{H:Hp}
def RC(Pv:Nat->St->Hp->Prop)(n:Pv 0 a H)(o:∀i a H,i<=xs.length->Pv i a H->SqL K H l xs)(r:∀i T x a H,xs[i]?=some x->H T=none->Pv i a H->g (.ref T) a (bC H T (.tup [.int (i:Nat),x])) λc j=>b {D with nx:=Pv (i+1),ct:=Pv (i+1),bk:=D.nx} c j) (s:∀a H,Pv xs.length a H->D.nx a H):
  ∃W:Nat->Nat->St->Hp->Prop,(∃m,W 0 m a H)/\∀i m a H,W i m a H->
   ((yh K l).stop i H/\D.nx a H)\/((yh K l).go i H/\∃N:St->Hp->Prop,(∀d f,N d f->∃k,k<m/\W (i+1) k d f)/\∀x f,(yh K l).yld i H x f->g x a f λc j=>b {D with nx:=N,ct:=N,bk:=D.nx} c j):=by
 refine#[λi m a H=>m=xs.length-i/\i<=xs.length/\Pv i a H,#[xs.length,by simp,Nat.zero_le _,n],?_];rintro i m a H ⟨rfl,t,p⟩;have q:=o i a H t p;by_cases h:i<xs.length
 .refine .inr #[#[xs,xs[i],q,by simp[h]],Pv (i+1),λd f u=>#[xs.length-(i+1),Nat.sub_succ_lt_self _ _ h,zZ,h,u],λv f y=>?_];obtain⟨T,x,rfl,w,rfl,y⟩:=y;exact r i T x a _ (y xs q) w p
 .have e:i=xs.length:=by lia
  subst e;exact .inl #[#[xs,q,bR _],s a H p]
end
open PySem PySem.Spec PySem.W PyProof.Rows
section
variable{X:Cx}
inductive iG(e:List V)(H:Hp)(Q:VK):Prop|mk:∀d a b,e=[V.ref d]->H d=some (.dT a)->a.map (·.1)=b.map nk->(∀t∈b,t≠[])->b.length<=4000->(∀D bs c,H D=none->TupsAt H bs c->c.Perm b->c.Pairwise (λx y=>dF x y=true)->Q (.ref D) (bC H D (.lst (bs.map V.ref))))->iG e H Q
def Pd(hc:X.calm=true):hA X (.builtin "sorted") iG:=by
 intro G s J H xs us Q I rr h;obtain⟨d,ae,g,rfl,hd,e,ne,few,q⟩:=h;obtain⟨u,rfl,ru⟩:=gA rr;cases ru;obtain⟨n,es,ep,L,nm,f,is,le,nd,M⟩:=J6 I hd e;refine FF kind_sorted plain_sorted entry_sorted (args_sorted1 _) ?_;unfold Builtin.«sorted»;refine bD (m:=checkCount "sorted" 1 1 _) (bM ?_);refine bD (kdu_collect (A:=X.A.in1) (yX nm) (by simpa using I.ok.hd hc) L (by rw[sizeLine_eq];lia) λl y af keep it=>?_);have N:=Hy is (by rw[f.len,le]) it;rw[N];have D:(n.map Value.ref).length=g.length:=by rw[bF,f.len]
 refine bD (zx ?_ (by rw[D,cH];lia));have T:=R4 g;have inj:=Hj (d:=([]:bB)) T nd;have O:=Op f nd;have eD:(l.push (seqObj "list" (n.map Value.ref).toArray 0)).get? l.objs.size=some (seqObj "list" (n.map Value.ref).toArray 0):=dG _ rfl;have B:∀{b:Ad} {o:Obj},s.heap.get? b=some o->b≠l.objs.size:=λz=>dj (cy (keep _ _ z));refine bD (iQ (lX slot_list_sort #[_,eD,zZ] Fe (Oj (s:={s with heap:=l.push (seqObj "list" (n.map Value.ref).toArray 0),toks:=y}) (k:=λi=>jx dF g (g.getD i [])) eD (by rw[D];exact few) O (λi j hi hj z=>inj i j () () z) (λE U h2=>?_) λp E c r up e U=>#[_,zZ,?_]) (args_list_sort _)))
 .have Y:Inv X G J H {s with heap:=E,toks:=y}:=I.kept λb o z=>U b o (B z) (cM _ (keep b o z));have z:=MH (P:=X.prog) (w:=X.w) (A:=X.A.in1.in1) (s:={s with heap:=E,toks:=y}) D () (λi v t e1 e2=>by
   rw[bZ]at e1;obtain⟨a,N,rfl⟩:=dm.mp e1;exact#[yc Y.hok (f.is i a t N e2),ne t (cb e2)])
  refine h9 z (λκ s' hk=>#[hk.1,λi j C li lj hC=>hk.2 i j C li lj ?_]) λ_ _ x=>x;have e:=T.asks (pB (d:=([]:bB)) (show i<g.length by lia)).2 (pB (d:=([]:bB)) (show j<g.length by lia)).2;show C (dF (g.getD i []) (g.getD j [])) _;rw[<-e];exact hC
 .rw[D]at r up;have Y:Inv X G J H {s with heap:=E,toks:=y}:=I.kept λb o z=>U b o (B z) (cM _ (keep b o z));have I0:Inv X G J H {s with heap:=l,toks:=y}:=I.kept keep;have hD:H l.objs.size=none:=I0.hok.fresh (bR _);have aa:=f.pick r;obtain⟨f0,f1,f2,f3,f4,f5⟩:=I0.fpOk (b:=l.objs.size) (H':=H) (bR _) hD;have ab:Arr n.length p:=by rw[f.len];exact r
  rw[HP ab]at e;have fw:((p.toList.map λi=>n.getD i 0).map V.ref).length<=sizeLine:=by
   rw[bF,bF,dr,r.size];exact M
  exact bM #[_,zZ,.ref l.objs.size,_,Y.track (o:= .lst ((p.toList.map λi=>n.getD i 0).map V.ref)) hD #[fw,_,c,EO _,e] I0.sz f1 f4 f5,zZ,q _ _ _ hD aa (IR r) (Hn T r up)]
end
def Kp(l:Ad)(a:AV)(n:Nat)(v:Option Ad)(sl:Array (Option Vl))(x:Vl)(e:Vl->Bool)(j:Nat)(M:j<a.size)(p:e a[j]=true)(q:∀m (N:m<a.size),m<j->e a[m]=false):
  Meets (Builtin.«tuple.index» #[[.ref l,x],[]]) (λA R s=>s.heap.get? l=some {cls:= .type "tuple",dict:=v,data:= .seq a n,slots:=sl}/\(∀y,y∈a->SeqAt.EqAt A.in1 s y x (e y))/\R (.ok (.ret (.int j s.toks))) {s with toks:=s.toks+1}):=
 .of_wp λf w A R s h=>by
  obtain⟨B,g,d,C,os⟩:=s;obtain⟨D,E,h⟩:=h;unfold Builtin.«tuple.index»;simp only[Std.Legacy.Range.forIn_eq_forIn_range'];have G:∀k:Nat,([:k]:Std.Legacy.Range).size=k:=λk=>by simp[Std.Legacy.Range.size]
  wp_walk using Bu D,wpAny_forIn_list _ (λrest b r=>r=#[B,g,d,C,os]/\b=(none,Unit.unit)/\∃i,i<=j/\rest=List.range' i (a.size-i)) _
  case h=>exact#[zZ,zZ,0,iW _,by rw[G,w6];rfl]
  case turn=>
   rintro i rest b r ⟨rfl,rfl,u,H,o⟩;have I:a.size-u=(a.size-(u+1))+1:=by lia
   rw[I,List.range'_succ]at o;injection o with J L
   subst J;have t:i<a.size:=by lia
   rw[ke t];refine bD (E _ (Array.getElem_mem t) f w _ _ ?_);by_cases c:i=j
   .subst c;rw[p];exact bD (bD (mG (bM (bM (bM #[_,zZ,h])))))
   .rw[q i t ()];exact bM #[zZ,zZ,i+1,(),L]
  case fin=>
   rintro b r ⟨rfl,rfl,i,H,o⟩;have z:=cK List.length o;rw[List.length_range']at z;simp at z;lia
section
variable{X:Cx}
inductive lz(K:S4)(x:V)(b:List V)(H:Hp)(Q:VK):Prop|mk:∀(l:Ad) (a:Zs) (i:Int),x=.ref l->b=[.int i]->SqT K H l (a.map V.int)->i∈a->Q (.int (a.idxOf i:Nat)) H->lz K x b H Q
def Pn:mP X "tuple.index" (lz X.K):=by
 intro E s G H x J v L Q I j m h;obtain⟨l,b,i,rfl,rfl,o,p,q⟩:=h;cases j;obtain⟨u,rfl,t,rfl⟩:=m.one;obtain⟨a,r,w,M⟩:=I.tuple o;obtain⟨⟨N,z,O,A⟩,e,f,n,g⟩:=w;simp only at f g;subst f g;have c:IntsAre a b:=Ps r;have T:=c.length;have B:b.idxOf i<b.length:=xJ.mpr p;refine uz F.slot_tuple_index #[_,e,zZ] F.entry_tuple_index (F.args_tuple_index_2 _ _) (Kp l a.toArray n z A (.int i t) (isInt i) (b.idxOf i) (by simp only[List.size_toArray];lia) ?_ ?_)
  #[e,λy C=>(eq_isInt i t c y (by simpa using C)).at _ _,#[.int (b.idxOf i:Nat),H,I.tok _,#[_,zZ],q]]
 .show isInt i a[b.idxOf i]=true;rw[isInt_at i c _ () B];simp
 .intro k D d;show isInt i a[k]=false;rw[isInt_at i c _ () ()];exact ne_of_lt_idxOf d _
end
def DJ(r:V->List V->Hp->VK->Prop)(to:TE)(t:TA):TE:=λa H Q=>to a H λx b=>(∃p c,x=.ref p/\b p=some (.tup c))/\t a b λd e=>r x d e Q
def Ks{X:Cx}{o e:Expr}{c:List Expr}{to:TE}{t:TA}{name:Str}{d b:Pos}{id:String}{r:V->List V->Hp->VK->Prop}(i:Slot "tuple" name id)(k:typeOf (.builtin id)=pure (.type "method_descriptor"))(A:mP X id r)(B:PE X o to)(C:PA X (e::c) t)(f:attributeBase o name X.env (eval o X.env)=eval o X.env:=by rfl)
  (j:((backTo b (starEach (e::c) X.env)).all (λx=> !x.1)&&(backToKw b (keywordEach [] X.env)).all (λx=>x.1.isSome)&&decide ((e::c).length+([]:List Keyword).length+(if([]:List Keyword).isEmpty then 0 else 1)<30))=true:=by rfl)
  (g:(d.endLine==b.line)=true:=by rfl) (D:starEach (e::c) X.env=(false,eval e X.env)::starEach c X.env:=by rfl) (E:(backTo b (starEach c X.env)).any (·.1)=false:=by rfl):
  PE X (.Call (.Attribute o name d) (e::c) [] b) (DJ r to t):=by
 intro l s m H Q I h;refine wpAny_Call_method_late f j g zZ (bW (B l s m H _ I h) λv n ⟨x,q,u,G,⟨p,J,L,M⟩,N⟩=>?_);subst L;cases(show v=Value.ref p from G);obtain⟨_,_,_,w,y,O,_,_,T⟩:=(show ObjOk X.prog X.w q n.heap p (.tup J)from u.hok p _ M);refine#["tuple",id,F.plainAttrs_tuple,i,k,#[w,y,O],λa U=>?_,?_]
 .cases U;exact#[w,y,T]
 have z:=C b l n m q _ u N;rw[D]at z|-;refine Eu (show(false || (backTo b (starEach c X.env)).any λx=>x.1)=false by rw[E];rfl) (Calls.evalArgs_plain ?_);exact bW z λY s2 ⟨vs,H2,I2,r2,q2⟩=>A l s2 m H2 (.ref p) vs (.ref p) Y Q I2 zZ r2 q2
end L2
namespace L2
open PySem PySem.Spec PyProof.Rows
def NoAs(K:S4)(C:Ad):Ss->Prop
 | []=>True
 |f::fs=>PySem.W.findIn K (.ref C) f=some none/\NoAs K C fs
structure OwnC(K:S4)(C:Ad)(fs:Ss):Prop where
 cl:Cls K C
 na:NoAs K C fs
theorem NoAs.get{K:S4}{C:Ad}{f:Str}:∀{fs:Ss},NoAs K C fs->f∈fs->NoAttr K C f
 | [],_,h=>nomatch h
 | g::fs,n,h=>by
  rcases cX.mp h with e|e
  .subst e;exact n.1
  .exact NoAs.get n.2 e
def OwnC.no{K:S4}{C:Ad}{fs:Ss}(o:OwnC K C fs){f:Str}(h:fs.contains f=true:=by rfl):NoAttr K C f:=o.na.get (gR.mp h)
def NoAs.nil{K:S4}{C:Ad}:NoAs K C []:=True.intro
def NoAs.cons{K:S4}{C:Ad}{f:Str}{fs:Ss}(h:PySem.W.findIn K (.ref C) f=some none)(n:NoAs K C fs):NoAs K C (f::fs):=#[h,n]
abbrev Gp(K:S4)(C:Ad)(m q:Str)(st:Stmt)(f:Ad)(a:Fd):Prop:=PySem.W.findIn K (.ref C) m=some (some (.ref f))/\PySem.W.isFn K (.ref f)=true/\Fun K m q st f a
def fg(P:Pg)(w:World)(K:S4)(mg:SV)(a:Heap)(C:Ad)(m:Str)(k:Nat)(b:Ss)(d:Sp):Prop:=
 ∃f c,FnOk P w K mg a b9 k f c b d/\Meth K C m f/\Binds K c b []
def xv(P:Pg)(w:World)(K:S4)(mg:SV)(a:Heap)(x:Str)(C:Ad)(k:Nat)(b:Ss)(d:Sp):Prop:=
 ∃f c,FnOk P w K mg a b9 k f c b d/\Mk K C f/\mg x=some (.ref C)/\Binds K c b []
def eX{X:Cx}{o e:Expr}{g:List Expr}{j:TE}{t:TA}{C:Ad}{m:Str}{k:Nat}{p:Ss}{l:Sp}{d a:Pos}{q:Sem Bool}(r:PE X o j)(c:Cls X.K C)(s:fg X.prog X.w X.K X.mg X.base C m k p l)(u:Room k X.A)(v:PA X (e::g) t)(h:starEach (e::g) X.env=(false,eval e X.env)::starEach g X.env:=by rfl) (i:(backTo a (starEach g X.env)).any (·.1)=false:=by rfl)
  (ht:eval (.Call (.Attribute o m d) (e::g) [] a) X.env=(do
   let n <-eval o X.env
   standAt d.atName
   let(f,first) <-holding [n] (getMethod n m q)
   callWith a f first (backTo a (starEach (e::g) X.env)) (backToKw a (keywordEach [] X.env))):=by rfl):
  PE X (.Call (.Attribute o m d) (e::g) [] a) (CV C m l [] E0 j t):=by
 obtain⟨f,w,F,M,b⟩:=s;exact PZ r c M F u b .nil zT v h i ht
def IJ{X:Cx}{o:Expr}{e:TE}{C:Ad}{m:Str}{k:Nat}{i:Ss}{g:Sp}{a d:Pos}{j:Sem Bool}(l:PE X o e)(c:Cls X.K C)(n:fg X.prog X.w X.K X.mg X.base C m k i g)(p:Room k X.A)(ht:eval (.Call (.Attribute o m a) [] [] d) X.env=(do
   let h <-eval o X.env
   standAt a.atName
   let(f,first) <-holding [h] (getMethod h m j)
   callWith d f first (backTo d (starEach [] X.env)) (backToKw d (keywordEach [] X.env))):=by rfl):
  PE X (.Call (.Attribute o m a) [] [] d) (CV C m g [] E0 e lO):=by
 obtain⟨f,q,F,M,b⟩:=n;exact Nv l c M F p b .nil zT ht
def yR{X:Cx}{x:Str}{e:Expr}{a:List Expr}{t:TA}{C:Ad}{k:Nat}{h:Ss}{g:Sp}{p d:Pos}(c:xv X.prog X.w X.K X.mg X.base x C k h g)(i:Room (k+1) X.A)(j:Gl X x)(l:PA X (e::a) t)(n:(x==("__debug__":Str))=false:=by decide) (o:starEach (e::a) X.env=(false,eval e X.env)::starEach a X.env:=by rfl) (q:(backTo d (starEach a X.env)).any (·.1)=false:=by rfl):
  PE X (.Call (.Name x p) (e::a) [] d) (IX C g [] E0 t):=by
 obtain⟨f,r,F,M,m,b⟩:=c;exact N' M F i j m b .nil zT l n o q
section
variable{X:Cx}
theorem HC:∀{bs:List Bool} {a:Vs},Vals (bs.map V.bl) a->a=bs.map Value.bool
 | [],_,h=>by cases h;rfl
 | b::bs,_,h=>by
  cases h with
  |cons r t=>
   obtain rfl:=r;rw[HC t];rfl
def DN:Vl->Bool
 |.bool b=>b
 |_=>false
inductive lY(K:S4)(x:V)(a:List V)(H:Hp)(Q:VK):Prop|mk:∀(l:Ad) (bs:List Bool),x=.ref l->a=[.bl true]->SqL K H l (bs.map V.bl)->true∈bs->Q (.int (bs.idxOf true:Nat)) H->lY K x a H Q
def Sr:mP X "list.index" (lY X.K):=by
 intro L s M H x N v O Q I j m h;obtain⟨l,bs,rfl,rfl,o,t,q⟩:=h;cases j;obtain⟨u,rfl,w⟩:=m.one;obtain rfl:u=Value.bool true:=w;obtain⟨B,r,⟨⟨T,U,Y,C⟩,n,e,c,d,f⟩,D⟩:=I.list o;simp only at c d f;subst c d f;have E:=HC r;subst E;have g:bs.idxOf true<bs.length:=xJ.mpr t;rw[bF,cH]at D;refine uz F.slot_list_index #[_,e,zZ] F.entry_list_index (F.args_list_index_2 _ _) (SeqAt.list_indexAt l (bs.map Value.bool).toArray n none C (.bool true) DN (bs.idxOf true) (by simp only[List.size_toArray,List.length_map];exact g) () ?_ ?_)
  #[e,λy G=>?_,#[.int (bs.idxOf true:Nat),H,I.tok _,#[_,zZ],q]]
 .simp[DN,List.getElem_idxOf g]
 .intro k J a;have hk:k<bs.length:=by lia
  have z:bs[k]≠true:=λe=>by
   have y:=EX (p:=(· ==true)) (xs:=bs) (i:=k) a;rw[e]at y;cases y
  simp only[List.getElem_toArray,List.getElem_map];exact pT.mpr z
 .obtain⟨b,_,rfl⟩:=b8.mp (show y∈bs.map Value.bool by simpa using G);have z:=SeqAt.EqAt.bool_bool (A:=X.A.in1) (s:=s) b true;rw[show(b==true)=DN (.bool b) by cases b<;>rfl]at z;exact z
end
def vU(c:Nat):Str:=#[#v[c]]
def CZ(x:Str):It:=#[λi _=>i<x.cps.size,λi H v a=>a=H/\∃c,x.cps[i]?=some c/\v=.str (vU c),λi _=>x.cps.size<=i]
def O7{P:Pg}{w:World}{K:S4}{M:Expr}(a:Ad)(x:Str)(t:Tok):Turn P w K M (CZ x) [a] a (λi h=>h.IsStrIter a "str_ascii_iterator" x t i) where
 mem:=by simp
 obj:=λi h st b f=>by
  have e:b=a:=by simpa using f
  subst e;obtain⟨o,e,c,d⟩:=st;exact#[o,e,λv z=>by rw[d]at z;cases z]
 keep:=λi h l st k=>let⟨o,e,r⟩:=st;#[o,k a (by simp) o e,r]
 item:=by
  intro X n hw p D i G s J H E I m st q;subst n hw p;obtain⟨u,y,N,A,B,C⟩:=m a (by simp);have g:i<x.cps.size:=q;have L:x.cps[i]?=some (x.cps[i]'g):=ke g;refine wpAny_pyNext_ascii_item st L λl j O=>?_;have Q:Inv X G J H {s with heap:=l,toks:=s.toks+1}:=I.turned (t':=s.toks+1) (λb o f e=>(O.2 b f).trans e) u y A B C;obtain⟨o,e,c,d⟩:=id j;exact#[_,zZ,ze (s:={s with heap:=l,toks:=s.toks+1}) e c d (by decide) #[.str (vU (x.cps[i]'g)),H,Q,#[_,rfl],#[rfl,_,L,rfl],j,λb f=>(m b f).1]]
 done:=by
  intro X n hw p D i G s J H E I m st q;subst n hw p;obtain⟨u,y,N,A,B,C⟩:=m a (by simp);exact wpAny_pyNext_ascii_end (I.ok.hd D) st (by simp only[Array.getElem?_eq_none_iff];exact q) λl T=>#[zZ,I.turned (t':=s.toks) (λb o f e=>T b o f e) u y A B C]
 self:=λ_ _ _ _ _ st h=>wpAny_pyIter_striter_ascii st h
section
variable{X:Cx}{a:Expr}
def BF(x:Str):Prop:=x.cps.all (· <128)=true
def FN(a:TE):TI:=λb H R=>a b H λv c=>∃x,v=.str x/\BF x/\R (CZ x) c
def G4{l:Expr}{tl:TE}(d:PE X l tl):PI X a l (FN tl):=by
 intro f s g H R I h;refine bW (d f s g H _ I h) λu i ⟨v,j,c,k,x,e,m,q⟩=>?_;subst e;obtain⟨t,rfl⟩:=k;refine wpAny_pyIter_ascii m ?_;refine#[_,[_],_,_,j,zZ,c.kept (t':=i.toks) (λb o e=>cM _ e),O7 _ x t,#[_,dG _ zZ,zZ,zZ],λb n=>?_,q];rw[ci.mp n];exact c.fpOk (bR _) (c.hok.fresh (bR _))
end
section
variable{h:Ss}{g:TG}{j:TT}{d:TE}{a:St}{H:Hp}{Fin:List V->Hp->Prop}
def Ng{x:Str}(Pv:Nat->List V->Hp->Prop)(C:x.length<=sizeLine)(o:Pv 0 [] H)(q:∀i f H,i<=x.length->Pv i f H->f.length<=i)(r:∀i c f H,x.cps.toList[i]?=some c->Pv i f H->g (.str (vU c)) (i7 h a) H λk s=>qr (i7 h a) k/\j k s λb n=>if b=true then d k n λy t=>Pv (i+1) (f++[y]) t else Pv (i+1) f n)(u:∀f H,Pv x.length f H->Fin f H):nh h g j d a (CZ x) H Fin:=by
 refine#[λi m f H=>m=x.length-i/\i<=x.length/\Pv i f H,#[x.length,by simp,Nat.zero_le _,o],?_];rintro i m f H ⟨rfl,w,p⟩;have D:=q i f H w p;by_cases l:i<x.length
 .refine .inr #[l,(),Pv (i+1),λE z A=>#[x.length-(i+1),Fg _ _ l,zZ,l,A],λv z y=>?_];obtain⟨e,c,B,y⟩:=y;subst e y;exact r i c f _ (by simpa using B) p
 .have e:i=x.length:=by lia
  subst e;exact .inl #[bR _,(),u f H p]
def Ho{x:Str}{n:Str}{f:Nat->V}(k:x.length<=sizeLine)(l:∀c (Q:VK),c∈x.cps.toList->Q (f c) H->d (some (.str (vU c))::a) H Q)(m:Fin (x.cps.toList.map f) H):
  nh [n] (gZ 0) v7 d a (CZ x) H Fin:=by
 have o:x.cps.toList.length=x.length:=by simp[Str.length]
 refine Ng (λi g h=>h=H/\g=(x.cps.toList.take i).map f) k #[zZ,zZ] (λi g h p ⟨e,b⟩=>?_) (λi c g h j ⟨e,b⟩=>#[iI,?_]) (λg h ⟨e,b⟩=>?_)
 .subst e b;simp;lia
 .subst e b;refine i5 (l c _ (cb j) #[zZ,?_]);rw[gQ,j,dC];rfl
 .subst e b;rw[<-o,fZ];exact m
end
section
variable{X:Cx}
inductive qz(x:V)(a:List V)(H:Hp)(Q:VK):Prop|mk:∀(z y:Str),x=.str z->a=[.str y]->y.length≠0->z.length<=sizeLine->(∀p,H p=none->Q (.ref p) (bC H p (.tup [.str (Txt.partition z y).1,.str (Txt.partition z y).2.1,.str (Txt.partition z y).2.2])))->qz x a H Q
def QK:mP X "str.partition" qz:=by
 intro l s m H x B v C Q I n o h;obtain⟨z,y,rfl,rfl,p,r,q⟩:=h;obtain⟨t,rfl⟩:=n;obtain⟨u,rfl,w⟩:=o.one;obtain⟨A,rfl⟩:=w;have told:=q _ (I.hok.fresh (bR s.heap.objs.size));have d:∀{a b c:Str} {f g j:Tok} {k:Nat},Txt.partition z y=(a,b,c)->EP X l m Q (.ref s.heap.objs.size) {s with toks:=k,heap:=s.heap.push {cls:= .type "tuple",data:= .seq [Value.str a f,.str b g,.str c j].toArray}}:=λ{a b c f g j k} e=>by
  rw[e]at told;refine#[.ref s.heap.objs.size,_,I.laid (t':=k) (λb u e=>cM _ e) (bR _) ?_,zZ,told];exact#[by show 3<=sizeLine;decide,_,.cons #[f,zZ] (.cons #[g,zZ] (.cons #[j,zZ] .nil)),_,dG _ zZ,zZ,_,zZ,zZ]
 refine uz F.slot_str_partition (ye s z t) F.entry_str_partition (F.args_str_partition_2 _ _) (meets_str_partition z y t A (EC p) r) ?_
 rcases e:Builtin.Str.occurrences z y 0 z.length 1 with _|⟨i,_⟩
 .exact d (by unfold Txt.partition;rw[e])
 .exact d (by unfold Txt.partition;rw[e])
theorem JI:∀(l:List (Str×Tok)),Vals ((l.map (·.1)).map V.str) (strValues l)
 | []=> .nil
 |p::r=> .cons #[p.2,zZ] (JI r)
inductive nP(x:V)(a:List V)(H:Hp)(Q:VK):Prop|mk:∀(z y:Str),x=.str z->a=[.str y]->y.length≠0->z.length+2<=sizeLine->(∀p,H p=none->Q (.ref p) (bC H p (.lst ((Txt.split z y).map V.str))))->nP x a H Q
def Q8{P:Pg}{w:World}{A:Ar}{E:VP}{s:Sh}{z y:Str}{t c:Tok}{Q:VP}(d:y.length≠0)(f:z.length+2<=sizeLine)(go:∀(l:List (Str×Tok)) (g:Nat),l.map (·.1)=Txt.split z y->Q (.ref s.heap.objs.size) {s with toks:=g,heap:=s.heap.push {cls:= .type "list",data:= .seq (strValues l).toArray}}):
  wpAny (model P w) A (call (.builtin "str.split") [.str z t,.str y c]) Q E s:=by
 have b:∀{S:PySem.Spec},Meets (Builtin.«str.split» #[[.str z t,.str y c],[]]) S->S A (wants Q E) s->wpAny (model P w) A (call (.builtin "str.split") [.str z t,.str y c]) Q E s:=λm h=>
  uz F.slot_str_split (ye s z t) F.entry_str_split (F.args_str_split_2 _ _) m h
 have a:Txt.split z y=[z]->listOfItself z t A (wants Q E) s:=λe=>go [(z,t)] s.toks e.symm;have few:(Txt.split z y).length<=sizeLine:=cP (split_le z y) f;by_cases no:(decide (z.length<y.length) || decide (Builtin.Str.strKind z<Builtin.Str.strKind y))=true
 .exact b (meets_str_split_cannot_occur z y t c no) (a (by unfold Txt.split;rw[wB no]))
 by_cases nil:(Builtin.Str.occurrences z y 0 z.length (z.length+1)).isEmpty=true
 .exact b (meets_str_split_not_found z y t c (pT.mpr no) (EC d) nil) (a (by unfold Txt.split;rw[wA no,wB nil]))
 have is:Txt.split z y=Builtin.Str.partsBetween z (Builtin.Str.occurrences z y 0 z.length (z.length+1)) y.length:=by unfold Txt.split;rw[wA no,wA nil]
 refine b (meets_str_split_sep z y t c (pT.mpr no) (EC d) (pT.mpr nil) () (is▸few)) ?_;rw[<-is,strsFrom_eq];exact go (numbered s.toks (Txt.split z y)) _ (numbered_texts _ _)
def K9:mP X "str.split" nP:=by
 intro j s k H x m v n Q I c d h;obtain⟨z,y,rfl,rfl,f,a,q⟩:=h;obtain⟨t,rfl⟩:=c;obtain⟨u,rfl,g⟩:=d.one;obtain⟨o,rfl⟩:=g;refine Q8 f a λl i e=>#[.ref s.heap.objs.size,_,I.laid (t':=i) (λb u e=>cM _ e) (bR _) ?_,zZ,q _ (I.hok.fresh (bR _))];refine#[?_,strValues l,0,?_,dG _ zZ]
 .rw[bF];exact cP (split_le z y) a
 .rw[<-e];exact JI l
end
def lG:bB->List Nat
 |a::_::r=>a::lG r
 | [a]=>[a]
 | []=>[]
theorem Il:∀m:bB,(List.range ((m.length+1) /2)).filterMap (λk=>m[2 * k]?)=lG m
 | []=>rfl
 | [a]=>by simp[lG,List.range_succ]
 | a::b::r=>by
  have e:((a::b::r).length+1) /2=(r.length+1) /2+1:=by
   show(r.length+1+1+1) /2=_;lia
  rw[e,List.range_succ_eq_map,CN,List.filterMap_map];show a::_=a::lG r;rw[<-Il r]
  congr 1
theorem HQ{b c:Type}{f g:b->Option c}:∀{l:List b},(∀x∈l,f x=g x)->l.filterMap f=l.filterMap g
 | [],_=>rfl
 |a::l,h=>by rw[CN,CN,h a (cR ..),HQ λx d=>h x (dS _ d)]
def NK{x:Str}{i:Int}{ui uk:Tok}(h:0<=i):Txt.sliceBy x (some (i,ui)) none (2,uk)=#[(lG (x.cps.toList.drop i.toNat)).toArray]:=by
 unfold Txt.sliceBy;rw[wA (by simp)]
 congr 2
 have a:slicePicked x (some (i,ui)) none (some (2,uk))=(List.range ((x.cps.toList.length-i.toNat+1) /2)).map λk=>min i.toNat x.cps.toList.length+2 * k:=by
  unfold slicePicked Builtin.Str.strSliceIndices sliceRange;have e:x.cps.toList.length=x.length:=by simp[Str.length]
  simp only[Option.map_some,Option.map_none,Option.getD_some];have b: ¬i<0:=by lia
  rw[wA b,e];simp only[show((2:Int)>0)=True from by simp,if_true];have c:max 0 (min i (x.length:Int))=((min i.toNat x.length:Nat):Int):=by lia
  rw[c];have d:(if((min i.toNat x.length:Nat):Int)<(x.length:Int)then((x.length:Int)-((min i.toNat x.length:Nat):Int)+2-1) /2 else 0).toNat=(x.length-i.toNat+1) /2:=by
   split<;>lia
  rw[d];refine nH λk _=>?_;lia
 rw[a,List.filterMap_map,<-Il,qg];refine HQ λk f=>?_;have g:=fb.mp f;show x.cps[min i.toNat x.cps.toList.length+2 * k]?=_;rw[wr,<-j4]
 congr 1
 lia
def Nk:typeLookup (.type "str") "__int__"=pure none:=by rw[zU,yC];kernel_rfl
def OR:typeLookup (.type "str") "__index__"=pure none:=by rw[zU,yC];kernel_rfl
def Qo:typeLookup (.type "str") "__trunc__"=pure none:=by rw[zU,yC];kernel_rfl
def og{a:Type}{M:Model}{A:Ar}{E:VP}{s:Sh}{t t':Sem a}{Q:a->Sh->Prop}(h:t=t')(q:wpAny M A t' Q E s):wpAny M A t Q E s:=h▸q
def P6{d:Nat}(i:d<10)(t:Tok):Meets (Builtin.«int.__new__» #[[.type "int",.str (#[#v[48+d]]:Str) t],[]]) (Made.int (d:Int)).spec:=
 Meets.of_wp λc w A R s a=>by
  obtain⟨e,g,f,h,os⟩:=s;have j:=F.conv_sub_int;have k:=F.madeHere_int;have hT:(#[e,g,f,h,os]:Sh).TypeIs (.str (#[#v[48+d]]:Str) t) "str":=rfl;have l:=Nk;have m:=OR;have n:=Qo
  repeat (any_goals (first|assumption|wp_step))
  have b:d=0\/d=1\/d=2\/d=3\/d=4\/d=5\/d=6\/d=7\/d=8\/d=9:=by lia
  rcases b with rfl|rfl|rfl|rfl|rfl|rfl|rfl|rfl|rfl|rfl
  .exact og (t':=mkInt 0) (by kernel_rfl) (mG (show wpAny _ _ (ret _) _ _ _ from bM #[_,zZ,a]))
  .exact og (t':=mkInt 1) (by kernel_rfl) (mG (show wpAny _ _ (ret _) _ _ _ from bM #[_,zZ,a]))
  .exact og (t':=mkInt 2) (by kernel_rfl) (mG (show wpAny _ _ (ret _) _ _ _ from bM #[_,zZ,a]))
  .exact og (t':=mkInt 3) (by kernel_rfl) (mG (show wpAny _ _ (ret _) _ _ _ from bM #[_,zZ,a]))
  .exact og (t':=mkInt 4) (by kernel_rfl) (mG (show wpAny _ _ (ret _) _ _ _ from bM #[_,zZ,a]))
  .exact og (t':=mkInt 5) (by kernel_rfl) (mG (show wpAny _ _ (ret _) _ _ _ from bM #[_,zZ,a]))
  .exact og (t':=mkInt 6) (by kernel_rfl) (mG (show wpAny _ _ (ret _) _ _ _ from bM #[_,zZ,a]))
  .exact og (t':=mkInt 7) (by kernel_rfl) (mG (show wpAny _ _ (ret _) _ _ _ from bM #[_,zZ,a]))
  .exact og (t':=mkInt 8) (by kernel_rfl) (mG (show wpAny _ _ (ret _) _ _ _ from bM #[_,zZ,a]))
  .exact og (t':=mkInt 9) (by kernel_rfl) (mG (show wpAny _ _ (ret _) _ _ _ from bM #[_,zZ,a]))
section
variable{X:Cx}
def OT:hA X (.type "int") (λa H Q=>∃d:Nat,a=[.str (vU (48+d))]/\d<10/\Q (.int (d:Int)) H):=by
 intro e s f H a g Q I r h;obtain⟨d,rfl,b,q⟩:=h;obtain⟨u,rfl,c⟩:=gA r;obtain⟨t,rfl⟩:=c;exact call_int_1 (P6 b t) (show(Made.int (d:Int)).post _ s from#[zZ,.int (d:Int),H,I.tok _,#[_,zZ],q])
def FW(b tl c:TE):TE:=λa H Q=>b a H λx d=>tl a d λl e=>c a e λk f=>∃(z:Str) (i:Int),x=.str z/\l=.int i/\k=.int 2/\0<=i/\z.length<=sizeLine/\Q (.str #[(lG (z.cps.toList.drop i.toNat)).toArray]) f
def Gm{e lo st:Expr}{n tl o:TE}{m p:Pos}(y:PE X e n)(A:PE X lo tl)(B:PE X st o):PE X (.Subscript e (.Slice (some lo) none (some st) p) m) (FW n tl o):=by
 intro a s d H Q I h;refine Subscript_ (bW (y a s d H _ I h) λv C ⟨x,D,E,G,J⟩=>?_);refine wpAny_Slice ?_;rw[evalPart_some,evalPart_none];refine bW (A a C d D _ E J) λvl L ⟨l,M,N,O,U⟩=>bM ?_;rw[evalPart_some];refine bW (B a L d M _ N U) λvk s3 ⟨k,r,Y,rk,q3⟩=>?_;obtain⟨z,i,rfl,rfl,rfl,hi,hz,q⟩:=q3;obtain⟨t,rfl⟩:=G;obtain⟨j,rfl⟩:=O;obtain⟨f,rfl⟩:=rk;have I4:∀g,Inv X a d r {s3 with heap:=s3.heap.push {cls:= .type "slice",data:= .fields #v[.int i j,.none,.int 2 f]},toks:=g}:=λg=>Y.kept (t':=g) λb ob q=>cM _ q;show wpAny (model X.prog X.w) X.A (subscriptTail e (.Slice (some lo) none (some st) p) (.str z t) (.ref s3.heap.objs.size)) (EP X a d Q) X.xe {s3 with heap:=s3.heap.push {cls:= .type "slice",data:= .fields #v[.int i j,.none,.int 2 f]}};refine tail_any (ops:=[.ref s3.heap.objs.size,.str z t]) (T:="str") (ye _ _ _) F.slot_str_getitem.lookup ?_ (by with_unfolding_all rfl);refine wpAny_getItem_str_slice (l:=some (i,j)) (u:=none) (st:=some (2,f)) #[_,dG _ zZ,zZ,zZ] zZ ?_;refine post_val_or_str #[cP (Txt.sliceBy_le z _ _ (2,f) (show(2:Int)≠0 by decide)) hz,λg c=>?_];have w:=NK (x:=z) (ui:=j) (uk:=f) hi;unfold Txt.sliceBy at w;refine#[.str #[(lG (z.cps.toList.drop i.toNat)).toArray],r,I4 _,#[g,?_],q];rw[<-w]
end
section
variable{X:Cx}{o e:Expr}{to f:TE}{t:TA}{c:List Expr}{name:Str}{b a d:Pos}{T id:String}{r:V->List V->Hp->VK->Prop}
def yQ(k:PlainAttrs T)(h:Slot T name id)(j:typeOf (.builtin id)=pure (.type "method_descriptor"))(l:mP X id r)(m:QE X o to)(n:PL X (e::c) t)(f:attributeBase o name X.env (eval o X.env)=eval o X.env:=by rfl)
  (i:((backTo a (starEach (e::c) X.env)).all (λx=> !x.1)&&(backToKw a (keywordEach [] X.env)).all (λx=>x.1.isSome)
   &&decide ((e::c).length+([]:List Keyword).length+(if([]:List Keyword).isEmpty then 0 else 1)<30))=true:=by rfl)
  (g:(b.endLine==a.line)=true:=by rfl) (p:starEach (e::c) X.env=(false,eval e X.env)::starEach c X.env:=by rfl) (d:(backTo a (starEach c X.env)).any (·.1)=false:=by rfl):
  QE X (.Call (.Attribute o name b) (e::c) [] a) (Ae X.K T r to t):=#[gJ k h j l m.pe n.pa f i g p d]
def Q3(a:QE X e f)(b:swapsWith e none d.line X.env=pure false:=by rfl):QS X (.Expr e d) (zu f):=#[i3 a.pe b]
end
def nQ(a:Ss)(x:Str):Ss:=if x∈a then a else a++[x]
def uy(a:Ss):Ss:=a.foldl nQ []
def IsSetS(P:Pg)(w:World)(h:Heap)(a:Ad)(b:Ss):Prop:=h.SetOf (strKind P w) a (λk=>decide (k∈b)) b.length
section
variable{P:Pg}{w:World}{A:Ar}{E:VP}{S a l:Ad}{xs:Ss}{vs:Vs}
def IsSetS.ext{h h':Heap}{a:Ss}(b:IsSetS P w h S a)(k:∀o,h.get? S=some o->h'.get? S=some o):IsSetS P w h' S a:=by
 obtain⟨o,c,d,t,e,r⟩:=b;exact#[o,c,d,t,k _ e,r]
theorem KL{R:Result->Sh->Prop}(M:A.handled=none)(m:S≠a)(N:S≠l)(O:a≠l)(v:Vals (xs.map V.str) vs)(few:xs.length<1000):
  ∀(rest:Ss) (i:Nat) (c:Ss) (s:Sh),xs.drop i=rest->c.length<=i->s.heap.IsTupleIter a l i->s.heap.IsTuple l vs.toArray->IsSetS P w s.heap S c->
   (∀d B,IsSetS P w d S (rest.foldl nQ c)->(∀b o,b≠S->b≠a->s.heap.get? b=some o->d.get? b=some o)->R (.ok (.ret .none)) {s with heap:=d,toks:=B})->
   codeAny (model P w) A (.builtin "set.update.loop" #[[.ref S,.ref a],[]]) R s
 | [],i,c,s,n,Y,C,p,D,q=>by
  have Q:vs.length<=i:=by
   have E:vs.length=xs.length:=by simpa using v.length.symm
   have r:=List.drop_eq_nil_iff.mp n;lia
  refine oq C4 ?_;rw[pQ v6 _];show wpAny _ A.in1 (pyNext (.ref a) >>= _) _ _ s;refine bD (wpAny_pyNext_tuple_end (by simpa using M) C p (by simp;lia) λd keep=>?_);exact bM (q d s.toks (D.ext λo e=>keep _ _ m e) λb o _ r e=>keep b o r e)
 | x::rest,i,c,s,n,Y,C,p,D,q=>by
  have h:xs[i]?=some x:=by rw[<-List.head?_drop,n];rfl
  have next:xs.drop (i+1)=rest:=by rw[<-List.tail_drop,n];rfl
  have il:i<xs.length:=(bU.mp h).1;obtain⟨u,hu,t,rfl⟩:=v.get (i:=i) (x:=V.str x) (by rw[bZ,h];rfl);refine oq C4 ?_;rw[pQ v6 _];show wpAny _ A.in1 (pyNext (.ref a) >>= _) _ _ s;refine bD (wpAny_pyNext_tuple_item C p (x:= .str x t) (by simpa using hu) λE nS f=>?_);show wpAny _ A.in1 (holding [Value.str x t] (setAdd S (.str x t)) >>= _) _ _ _;refine bD (iQ ?_);unfold setAdd;have j:(strKind P w).is x (.str x t)=true:=by show Value.isStrOf x (.str x t)=true;simp[Value.isStrOf]
  refine iQ (bD ((strKind P w).pyHash (k:=x) j ?_));have G:IsSetS P w E S c:=D.ext λo e=>f.extBut _ _ m e;refine wpAny_setAddHashed_of (knd:=strKind P w) j zZ (s:=#[E,_,_,_,_]) G (by show c.length+1<4096;lia) λr g H=>?_;have I:IsSetS P w r S (nQ c x):=by
   unfold IsSetS;refine SetOf_congr H (λk=>?_) ?_
   .unfold nQ;by_cases e:x∈c
    .rw[wB e,jq];simp only[Bool.or_eq_true,decide_eq_true_iff];exact#[λz=>z.elim id λy=>y▸e,.inl]
    .rw[wA e,jq];simp only[Bool.or_eq_true,decide_eq_true_iff,List.mem_append,List.mem_singleton]
   .unfold nQ;by_cases e:x∈c
    .rw[wB e,wB (by simpa using e)]
    .rw[wA e,wA (by simpa using e),List.length_append];rfl
  have J:(nQ c x).length<=i+1:=by
   unfold nQ;split
   .lia
   .rw[cI];show c.length+1<=_;lia
  refine bM #[sv v6 _,KL M m N O v few rest (i+1) (nQ c x) _ next J (nS.extBut g.extBut m.symm) ((p.extBut f.extBut O.symm).extBut g.extBut N.symm) I λd B L keep=>?_];exact q d B L λb o T U e=>keep b o T U (g.extBut _ _ T (f.extBut _ _ U e))
set_option maxHeartbeats 4000000 in
def Rh{h:Heap}{j:Obj}{m:Array GenState}{n:Drawn}{k:Nat}{os:OsState}{R:PySem.Fin->Sh->Prop}(x:∃a,j={cls:= .type "set",dict:=none,data:= .set #v[] 0 (.fresh 0 0 a)})(y:A.handled=none)(p:h.IsTuple l vs.toArray)(z:Vals (xs.map V.str) vs)(few:xs.length<1000)
  (q:∀c f,IsSetS P w c h.objs.size (uy xs)->(∀b o,h.get? b=some o->c.get? b=some o)->R (.done (.ret .none)) #[c,m,n,f,os]):
  wpAny (model P w) A (Builtin.«set.__init__» #[[.ref h.objs.size,.ref l],[]]) R E #[h.push j,m,n,k,os]:=by
 obtain⟨a,rfl⟩:=x;obtain⟨⟨J,dl,B,sl⟩,r,s,C,t⟩:=id p;simp only at s t;subst s t;have L:(h.push {cls:= .type "set",dict:=none,data:= .set #v[] 0 (.fresh 0 0 a)}).get? l=some #[.type "tuple",dl,.seq vs.toArray C,sl]:=cM _ r;have D:(h.push {cls:= .type "set",dict:=none,data:= .set #v[] 0 (.fresh 0 0 a)}).get? h.objs.size=some {cls:= .type "set",dict:=none,data:= .set #v[] 0 (.fresh 0 0 a)}:=dG _ rfl;have M:=F.sub_tuple_set;have N:=F.sub_tuple_frozenset;have O:(Value.type "tuple"==Value.type "dict")=false:=by decide
 unfold Builtin.«set.__init__» noKeywords Builtin.Frozenset.updateFrom;generalize g:pyIter=u
 wp_walk
 subst g;have d:(h.push {cls:= .type "set",dict:=none,data:= .set #v[] 0 (.fresh 0 0 a)}).IsTuple l vs.toArray:=p.push _;refine wpAny_pyIter_tuple d (bD (wpAny_runValue ?_));have lt:l<h.objs.size:=cy r;have sz:(h.push {cls:= .type "set",dict:=none,data:= .set #v[] 0 (.fresh 0 0 a)}).objs.size=h.objs.size+1:=wg ..;have i:IsSetS P w ((h.push {cls:= .type "set",dict:=none,data:= .set #v[] 0 (.fresh 0 0 a)})) h.objs.size []:=by
  refine#[_,_,_,_,D,#[zZ,zZ,zZ],zZ,λe G=>?_,λk=>?_,by decide,by cases a<;>rfl,zZ]
  .simp at G
  .simp
 refine KL (vs:=vs) (xs:=xs) (by simpa using y) (by rw[sz];exact Nat.ne_of_lt (Nat.lt_succ_self _)) (Nat.ne_of_gt lt) (by rw[sz];exact Nat.ne_of_gt (Nat.lt_succ_of_lt lt)) z few xs 0 [] _ zZ (Nat.le_refl _) #[_,Heap.get?_push_size _ zZ,zZ,zZ] (d.push _) (i.ext λo e=>Heap.get?_push_of_some _ e) λc f H I=>?_;refine bM (bM (q c f H λb o e=>?_));have v:=cy e;exact I b o (dj v) (by rw[sz];exact dj (A1 v)) (cM _ (cM _ e))
def Nd{s:Sh}{Q:VP}(B:A.handled=none)(x:s.heap.IsTuple l vs.toArray)(C:Vals (xs.map V.str) vs)(few:xs.length<1000)(q:∀a d,IsSetS P w a s.heap.objs.size (uy xs)->(∀b o,s.heap.get? b=some o->a.get? b=some o)->Q (.ref s.heap.objs.size) {s with heap:=a,toks:=d}):
  wpAny (model P w) A (call (.type "set") [.ref l]) Q E s:=by
 have lt:l<s.heap.objs.size:=let⟨_,e,_⟩:=x;cy e
 obtain⟨c,tl,D⟩:=jr.mro;have made:=jr.made;have sub:=jr.sub;have j:=jr.notType;have G:=jr.canCreate;have args:=F.typeCall_set_1 (.ref l);have look:=jr.init.lookup;have H:=jr.init.bind (.ref s.heap.objs.size);refine vv (F3 (show wpAny _ _ (callAny (.type "set") _) _ _ _ from bM #[Code.quiet_builtin _ (by decide+kernel),oq F.entry_type_call ?_]));rw[Around.under_plain (weight_type_call_type "set" [.ref l] []) zZ]
 repeat (any_goals (first|assumption|wp_step))
 refine mX (code_set_new_1 (.ref l) (E:=E) (Q₁:=λk i=>∃g,(∃h,g={cls:= .type "set",dict:=none,data:= .set #v[] 0 (.fresh 0 0 h)})/\k=.ref s.heap.objs.size/\i={s with heap:=s.heap.push g}) λh=>#[_,#[h,rfl],rfl,rfl]) λr L z=>?_;cases r with
 |error _=>exact z
 | ok f=>
  cases f<;>first|exact z.elim|skip
  obtain⟨g,m,n,p⟩:=z;subst n p;have I:g.cls=.type "set":=by obtain⟨_,rfl⟩:=m;rfl
  have J:(s.heap.push g).get? s.heap.objs.size=some g:=dG _ (by obtain⟨_,rfl⟩:=m;rfl);have ty:Shared.TypeIs {s with heap:=s.heap.push g} (.ref s.heap.objs.size) "set":=#[_,J,I]
  repeat (any_goals (first|assumption|wp_step))
  refine mX (codeAny_call_builtin (R:=wants (λv y=>v=.none/\∃a d,y={s with heap:=a,toks:=d}/\IsSetS P w a s.heap.objs.size (uy xs)/\∀b o,s.heap.get? b=some o->a.get? b=some o) E)
   jr.init.plain F.entry_set_init (check_set_init_1 ty ?_)) λr y z=>?_
  .exact Rh (A:=A.in1.in1) m (by simpa using B) x C few λa d t u=>#[zZ,a,d,zZ,t,u]
  .cases r with
   |error _=>exact z
   |ok f=>
    cases f<;>first|exact z.elim|skip
    obtain⟨n,a,d,p,t,u⟩:=z;subst n p
    repeat (any_goals (first|assumption|wp_step))
    exact q a d t u
end
section
variable{X:Cx}
def pC(a:Ad)(b:Ss):HO:= .ext λh=>∃P w,IsSetS P w h a (uy b)
inductive qq(K:S4)(c:List V)(H:Hp)(Q:VK):Prop|mk:∀p b,c=[.ref p]->SqT K H p (b.map V.str)->b.length<1000->(∀a,H a=none->Q (.ref a) (bC H a (pC a b)))->qq K c H Q
def LZ(c:X.calm=true):hA X (.type "set") (qq X.K):=by
 intro d s f H A B Q I r h;obtain⟨p,a,rfl,g,few,q⟩:=h;obtain⟨u,rfl,i⟩:=gA r;cases i;obtain⟨j,l,m,_⟩:=I.tuple g;refine Nd (I.ok.hd c) m l few λb n z keep=>?_;have v:Inv X d f H {s with heap:=b,toks:=n}:=I.kept keep;obtain⟨o,C,D,t,x,r⟩:=id z;have ok:ObjOk X.prog X.w (bC H s.heap.objs.size (pC s.heap.objs.size a)) b s.heap.objs.size (pC s.heap.objs.size a):=#[#[_,_,z],#[_,x],λE G ⟨P,w,y⟩ k=>#[P,w,y.ext λo e=>k _ e]];exact#[.ref s.heap.objs.size,_,Inv.trackNew I v ok,zZ,q _ I.fresh]
inductive nG(b:List V)(H:Hp)(Q:VK):Prop|mk:∀a c,b=[.ref a]->H a=some (pC a c)->Q (.int (uy c).length) H->nG b H Q
def NL:hA X (.builtin "len") nG:=by
 intro k s l H m n Q I r h;obtain⟨a,b,rfl,c,q⟩:=h;obtain⟨u,rfl,d⟩:=gA r;cases d;obtain⟨⟨_,_,o,p,v,t,e,f,g,_,_,w,i,j⟩,_⟩:=(show ObjOk X.prog X.w H s.heap a (pC a b)from I.hok a _ c);refine call_len_set e f g i (by have:scanBound=4096:=rfl;lia) ?_;exact#[.int (uy b).length,H,I.tok _,#[_,by rw[j]],q]
end
section
variable{X:Cx}
inductive i0(K:S4)(x:V)(b:List V)(H:Hp)(Q:VK):Prop|mk:∀(l:Ad) (a:Ss) (z:Str),x=.ref l->b=[.str z]->SqT K H l (a.map V.str)->z∈a->Q (.int (a.idxOf z:Nat)) H->i0 K x b H Q
def SI:mP X "tuple.index" (i0 X.K):=by
 intro za s σ H x vs v us Q I E G h;obtain⟨l,c,z,rfl,rfl,J,L,q⟩:=h;cases E;obtain⟨u,rfl,t,rfl⟩:=G.one;obtain⟨b,r,M,hz⟩:=I.tuple J;obtain⟨⟨c1,N,k1,O⟩,e,A,n,B⟩:=M;simp only at A B;subst A B;have T:=r.length;rw[bF]at T;have U:c.idxOf z<c.length:=xJ.mpr L;have d:∀(k:Nat) (j:k<b.length),∃t,b[k]=.str (c[k]'()) t:=λk j=>by
  obtain⟨u,C,t,rfl⟩:=r.get (i:=k) (x:=V.str (c[k]'())) (by rw[bZ,bE (show k<c.length by lia)];rfl);rw[bE j]at C;exact#[t,by injection C]
 let m:Vl->Bool:=λy=>match y with
  |.str a _=>jj (.str a) (.str z)
  |_=>false
 have D:∀a:Str,jj (.str a) (.str z)=decide (a=z):=λa=>by
  rw[jq];simp[jj]
 refine uz F.slot_tuple_index #[_,e,zZ] F.entry_tuple_index (F.args_tuple_index_2 _ _) (Kp l b.toArray n N O (.str z t) m (c.idxOf z) (by simp only[List.size_toArray];lia) ?_ ?_)
  #[e,λy Y=>?_,#[.int (c.idxOf z:Nat),H,I.tok _,#[_,zZ],q]]
 .obtain⟨o,f⟩:=d (c.idxOf z) ();show m b[c.idxOf z]=true;rw[f];show jj _ _=true;rw[D,zb U];exact cG rfl
 .intro k g w;simp only[List.size_toArray]at g;obtain⟨o,f⟩:=d k g;show m b[k]=false;rw[f];show jj _ _=false;rw[D];have y:=EX (p:=(· ==z)) (xs:=c) (i:=k) w;simpa using y
 .obtain⟨k,j,rfl⟩:=Bz (show y∈b by simpa using Y);obtain⟨o,f⟩:=d k j;rw[f];exact Ac (x:= .str z) (y:= .str _) #[o,zZ] #[t,zZ] zZ rfl
def QI:OpR X (compareOp .IsNot) (λx y H Q=>∃b c,x=.bl b/\y=.bl c/\Q (.bl (!decide (b=c))) H):=by
 intro e s f H x y v u Q I a d h;obtain⟨b,c,rfl,rfl,q⟩:=h;cases a;cases d;cases b<;>cases c<;>exact bM (eG I q (by decide))
end
end L2
namespace My
open PySem L2 PyProof.Rows
abbrev sA:Str:="machine"
abbrev sB:Str:="self"
abbrev sC:Str:="rooms"
abbrev sD:Str:="sets_reached.<locals>.<lambda>"
abbrev sE:Str:="level_group.<locals>.<lambda>"
abbrev sF:Str:="row"
abbrev sG:Str:="group"
abbrev sH:Str:="tiles"
abbrev sI:Str:="words"
abbrev sJ:Str:="_law_script"
abbrev sK:Str:="letter"
abbrev sL:Str:="level"
abbrev sM:Str:="here"
abbrev sN:Str:="tile_count"
abbrev sO:Str:="names"
abbrev sP:Str:="_law_cell"
abbrev sQ:Str:="turns"
abbrev sR:Str:="sets_reached"
abbrev sS:Str:="text"
abbrev sT:Str:="_law_names_here"
abbrev sU:Str:="level_group"
abbrev sV:Str:="_law_machine_here"
abbrev sW:Str:="word"
abbrev sX:Str:="_law_k"
abbrev sY:Str:="thing"
abbrev sZ:Str:="other"
abbrev tE:Str:="steps"
abbrev tG:Str:="sets"
abbrev tH:Str:="abcdefghijklmnopqrstuvwxyz"
abbrev tI:Str:="room"
abbrev tJ:Str:="waiting"
abbrev tK:Str:="reached"
abbrev tL:Str:="__init__"
abbrev tM:Str:="_law_letters"
abbrev tN:Str:="_law_rooms"
abbrev tO:Str:="pair"
abbrev tQ:Str:="go"
abbrev tR:Str:="turning"
abbrev tS:Str:="_law_here"
abbrev tT:Str:="pairs"
abbrev tV:Str:="deed"
abbrev tW:Str:="carried"
abbrev tX:Str:="all_tiles_turned"
abbrev tY:Str:="one"
abbrev tZ:Str:="_law_cell_at"
abbrev vY:Str:="tiles_of_set"
abbrev vZ:Str:="tiles_turned"
abbrev wF:Str:="levels_in_order"
abbrev wG:Str:="_law_more"
abbrev wH:Str:="within"
abbrev wI:Str:="sets_of_levels"
abbrev wJ:Str:="turn"
abbrev wK:Str:="step"
abbrev wL:Str:="words_between"
abbrev wM:Str:="_law_row_text"
abbrev wN:Str:="makers"
abbrev wO:Str:="_law_machine"
abbrev wP:Str:="_law_written"
abbrev wQ:Str:="_law_many"
abbrev wR:Str:="most"
abbrev wS:Str:="part"
abbrev wT:Str:="name"
abbrev wU:Str:="lies_in"
abbrev wV:Str:="refuse_more"
abbrev wW:Str:="has_only"
abbrev wX:Str:="there"
abbrev wY:Str:="_law_start"
abbrev wZ:Str:="figure"
abbrev xA:Str:="_law_names"
abbrev xB:Str:="is_figures"
abbrev xC:Str:="0123456789"
abbrev xD:Str:="behind"
abbrev xE:Str:="is_covered"
abbrev xF:Str:="alike_sets"
abbrev xG:Str:="is_turning"
abbrev xH:Str:="least_tile"
def top(i:Nat):Stmt:=PySem.Challenge.pw_cascade_k82_led_through_a_hall.main.body.getD i (.Pass #[0,0,0,0])
abbrev Fi:Stmt:=top 11
abbrev FL:Stmt:=top 12
abbrev Bi:Stmt:=top 13
abbrev Fq:Stmt:=top 14
abbrev u0:Stmt:=top 15
abbrev Du:Stmt:=top 17
abbrev pD:Stmt:=top 18
abbrev GC:Stmt:=top 20
abbrev Ex:Stmt:=top 21
abbrev B7:Stmt:=top 22
abbrev AK:Stmt:=top 23
abbrev n7:Stmt:=top 24
abbrev EU:Stmt:=top 26
abbrev A7:Stmt:=top 27
abbrev Dn:Stmt:=top 29
abbrev we:Stmt:=top 30
abbrev B6:Stmt:=top 31
abbrev z5:Stmt:=top 32
abbrev Ep:Stmt:=top 34
abbrev Ch:Stmt:=top 35
abbrev DG:Stmt:=top 36
abbrev CC:Stmt:=top 37
abbrev zw:Stmt:=top 38
abbrev Cz:Stmt:=top 39
abbrev D4:Stmt:=top 41
abbrev Cw:Stmt:=top 42
abbrev CK:Stmt:=top 44
abbrev Eb:Stmt:=top 45
abbrev ou:Stmt:=top 46
abbrev Ca:Stmt:=top 59
abbrev Do:Stmt:=top 60
abbrev GP:Stmt:=top 61
abbrev Br:Stmt:=top 62
abbrev qh:Stmt:=top 63
abbrev DH:Stmt:=top 65
abbrev Et:Stmt:=top 66
abbrev GN:Stmt:=top 67
abbrev F4:Stmt:=top 70
abbrev CG:Stmt:=top 71
abbrev yY:Stmt:=top 72
abbrev Ff:Stmt:=top 73
abbrev AG:Stmt:=top 74
abbrev DX:Stmt:=top 75
abbrev BQ:Stmt:=top 76
abbrev uq:Stmt:=top 77
def hJ:Stmt->List Stmt
 | .ClassDef _ _ _ b _ _ _ _ _ _ _=>b
 |_=>[]
abbrev AN:Stmt:=(hJ (top 53)).getD 0 (.Pass #[0,0,0,0])
abbrev DS:Stmt:=(hJ (top 53)).getD 1 (.Pass #[0,0,0,0])
abbrev Gj:Stmt:=(hJ (top 53)).getD 2 (.Pass #[0,0,0,0])
abbrev AZ:Stmt:=(hJ (top 53)).getD 3 (.Pass #[0,0,0,0])
abbrev EN:Stmt:=(hJ (top 53)).getD 4 (.Pass #[0,0,0,0])
abbrev GD:Stmt:=(hJ (top 53)).getD 5 (.Pass #[0,0,0,0])
abbrev DR:Stmt:=(hJ (top 53)).getD 6 (.Pass #[0,0,0,0])
abbrev DK:Stmt:=(hJ (top 53)).getD 7 (.Pass #[0,0,0,0])
abbrev BS:Stmt:=(hJ (top 54)).getD 0 (.Pass #[0,0,0,0])
abbrev EL:Stmt:=(hJ (top 54)).getD 2 (.Pass #[0,0,0,0])
abbrev Fb:Stmt:=(hJ (top 54)).getD 3 (.Pass #[0,0,0,0])
abbrev FY:Stmt:=(hJ (top 54)).getD 4 (.Pass #[0,0,0,0])
abbrev DU:Stmt:=(hJ (top 54)).getD 5 (.Pass #[0,0,0,0])
abbrev GH:Stmt:=(hJ (top 54)).getD 6 (.Pass #[0,0,0,0])
abbrev D9:Stmt:=(hJ (top 54)).getD 8 (.Pass #[0,0,0,0])
abbrev Gu:Stmt:=(hJ (top 54)).getD 9 (.Pass #[0,0,0,0])
abbrev ES:Stmt:=(hJ (top 68)).getD 0 (.Pass #[0,0,0,0])
abbrev Bf:Stmt:=(hJ (top 68)).getD 1 (.Pass #[0,0,0,0])
abbrev DO:Stmt:=(hJ (top 68)).getD 2 (.Pass #[0,0,0,0])
abbrev Bl:Stmt:=(hJ (top 68)).getD 3 (.Pass #[0,0,0,0])
abbrev Cs:Stmt:=(hJ (top 68)).getD 4 (.Pass #[0,0,0,0])
def Qw:FnScope [sY] [sY] (bT Fi):={}
def Qj:FnScope [sY,sC] [sY,sC] (bT FL):={}
def N3:FnScope [sY,sC] [sY,sC] (bT Bi):={}
def vA:FnScope [sY,"first",wJ] [sY] (bT Fq):={}
def vV:FnScope [sA,tI,sW,sK] [sA,tI,sW] (bT u0):={}
def Mc:FnScope ["things",wR] ["things",wR] (bT Du):={}
def kH:FnScope ["start","letters",wK,wR,sI,"wave","following",sY,sK,"found"] ["start","letters",wK,wR] (bT pD):={}
def Lq:FnScope [sC] [sC] (bT GC):={}
def uA:FnScope [tG,"once",sC] [tG] (bT Ex):={}
def Pf:FnScope [tY,sZ] [tY,sZ] (bT B7):={}
def ND:FnScope [sA,sC,sW] [sA,sC,sW] (bT AK):={}
def OD:FnScope [sA,sC] [sA,sC] (bT n7):={}
def Ot:FnScope [sC] [sC] (bT EU):={}
def RY:FnScope [tY,sZ] [tY,sZ] (bT A7):={}
def uN:FnScope [sA,sI] [sA] (bT Dn):={}
def vJ:FnScope [sA,"singles"] [sA] (bT we):={}
def Ri:FnScope [wS,tG] [wS,tG] (bT B6):={}
def vS:FnScope [sA,sC,wH] [sA,sC] (bT z5):={}
def qE:FnScope [sA,sI,sC] [sA] (bT Ep):={}
def SJ:FnScope [sI,sC] [sI,sC] (bT Ch):={}
def kI:FnScope [sI,"found",sC,tG] [sI] (bT DG):={}
def RV:FnScope [sI,tG,tJ] [sI,tG,tJ] (bT CC):={}
def kB:FnScope [sI,tJ,"told","free"] [sI,tJ] (bT zw):={}
def qK:FnScope [sA,sI,"told",tG,"face","ways"] [sA] (bT Cz):={}
def LO:FnScope [sA,sL,"k","j"] [sA,sL,"k","j"] (bT D4):={}
def L':FnScope [sA,sL,"k"] [sA,sL,"k"] (bT Cw):={}
def qH:FnScope [sA,sL,"k",sK,wX,"ends"] [sA,sL,"k",sK] (bT CK):={}
def jP:FnScope [sA,sL,"found","k",sK,wJ] [sA,sL] (bT Eb):={}
def rW:FnScope [sA,sL,wN] [sA,sL] (bT ou):={}
def MZ:FnScope [sS,"signs"] [sS,"signs"] (bT Ca):={}
def Sq:FnScope [sS] [sS] (bT Do):={}
def Rb:FnScope [sS] [sS] (bT GP):={}
def uV:FnScope [sF,"halves"] [sF] (bT Br):={}
def vB:FnScope [sS,"rows",sO,sA] [sS] (bT qh):={}
def NM:FnScope [sI] [sI] (bT DH):={}
def OF:FnScope [sF] [sF] (bT Et):={}
def MY:FnScope [sI] [sI] (bT GN):={}
def Mt:FnScope [sJ,sX] [sJ,sX] (bT F4):={}
def jN:FnScope [sP,wQ,tM,"_law_base","_law_at",sT,sX,"_law_name","_law_j"] [sP,wQ] (bT CG):={}
def kP:FnScope [tN,sP,wG,"_law_numbers","_law_turn_here",sX,"_law_j","_law_kept"] [tN,sP,wG] (bT yY):={}
def kJ:FnScope [sJ,wY,tN,"_law_turns",sX,sP] [sJ,wY] (bT Ff):={}
def qQ:FnScope [sT,sV,"_law_lines",sX] [sT,sV] (bT AG):={}
def qL:FnScope [sP,tM,"_law_number","_law_word_here",sX] [sP,tM] (bT DX):={}
def Lz:FnScope [tS] [tS] (bT BQ):={}
def kK:FnScope [sJ,sV,sT,"_law_hall","_law_beside","_law_line",tS,"_law_room",sP,"_law_found","_law_word_here","_law_letter"] [sJ] (bT uq):={}
def kQ:FnScope [sB,sA,sL,"k",sC] [sB,sA,sL] (bT AN):={}
def Mb:FnScope [sB] [sB] (bT DS):={}
def Ow:FnScope [sB,sM,tO] [sB,sM,tO] (bT Gj):={}
def Sl:FnScope [sB,sM,sC] [sB,sM,sC] (bT AZ):={}
def kC:FnScope [sB,sM,wX,sK,"still_turn","end"] [sB,sM,wX,sK] (bT EN):={}
def PD:FnScope [sB,tV,tR] [sB,tV,tR] (bT GD):={}
def RG:FnScope [sB,tV,tR,"bringing"] [sB,tV,tR,"bringing"] (bT DR):={}
def Se:FnScope [sB,tV,tO] [sB,tV,tO] (bT DK):={}
def NB:FnScope [sB,sA] [sB,sA] (bT BS):={}
def jT:FnScope [sB,sF,tT,"place",wK,tR] [sB,sF] (bT EL):={}
def kY:FnScope [sB,tT,sF,wK,tO] [sB,tT] (bT Fb):={}
def qM:FnScope [sB,sF,sM,wK,tO] [sB,sF] (bT FY):={}
def jM:FnScope [sB,tT,sK,sM,wX,"ends",wK,tO,"end"] [sB,tT,sK] (bT DU):={}
def Of:FnScope [sB,sF,sK] [sB,sF,sK] (bT GH):={}
def kR:FnScope [sB,tI,sM,tT,wK,tO] [sB,tI] (bT D9):={}
def uB:FnScope [sB,sF,sW,sK] [sB,sF,sW] (bT Gu):={}
def uO:FnScope [sB,sS,"written"] [sB,sS] (bT ES):={}
def uW:FnScope [sB,sF,sI] [sB,sF] (bT Bf):={}
def Oz:FnScope [sB,wT] [sB,wT] (bT DO):={}
def vK:FnScope [sB,sO,sW] [sB,sO] (bT Bl):={}
def uK:FnScope [sB,wZ,"figures"] [sB,wZ] (bT Cs):={}
inductive fj(K:S4)(d:List V)(H:Hp)(Q:VK)(b:XK):Prop|mk:∀(a:Ad) (e:Zs) (k:Int),d=[.ref a,.int k]->0<=k->SqL K H a (e.map V.int)->(∀c,Q (.int c) H)->fj K d H Q b
variable{P:Pg}{w:World}{K:S4}{mg:SV}{base:Heap}{f:Ad}{fd:Fd}
def Q4(F:Fun K tZ tZ F4 f fd)(i:mg "len"=none):FnOk P w K mg base b9 1 f fd [sJ,sX] (fj K):=by
 refine F.ok Mt (λj A b s H n Q E o h=>?_)
 obtain⟨a,d,k,rfl,p,g,q⟩:=h;refine#[_,(bQ (dq (dQ FU (pv 1) (c9 fv zZ i eU (bK (pv 0) bJ)) (dy _)) (bS (cr (ck d9 (pv 0) (pv 1) (λ_ _=>rfl)))) dD) (bS (cr bO))),?_];refine#[_,zZ,_,zZ,a,_,zZ,.inl g,_,_,zZ,zZ,_,zZ,?_];refine lF (λc=>?_) (λc=>?_)
 .have l:k<((d.map V.int).length:Nat):=hE c;rw[bF]at l;have m:k.toNat<d.length:=by lia
  have e:k=((k.toNat:Nat):Int):=by lia
  refine#[_,zZ,_,zZ,a,_,_,.int (d.getD k.toNat 0),zZ,zZ,g,?_,q _];rw[e];exact HG m
 .exact q _
structure Mach(H:Hp)(m:Ad)(ts:LN)(n:Nat):Prop where
 refs:∃rs:As,H m=some (.tup (rs.map V.ref))/\rs.length=ts.length/\∀(i:Nat) r t,rs[i]?=some r->ts[i]?=some t->H r=some (.tup (t.map nv))
 some1:1<=ts.length
 few:ts.length<=4
 n1:1<=n
 n5:n<=5
 each:∀t∈ts,t.length=n/\∀x∈t,x<n
def Mach.same{H a:Hp}{m:Ad}{b:LN}{n:Nat}(M:Mach H m b n)(g:Same H a):Mach a m b n:=
 #[let⟨c,d,e,f⟩:=M.refs;#[c,g _ _ d,e,λi r t h j=>g _ _ (f i r t h j)],M.some1,M.few,M.n1,M.n5,M.each]
def Mach.at{H:Hp}{m:Ad}{ts:LN}{n:Nat}(M:Mach H m ts n){l:Nat}(b:l<ts.length):
  ∃(a:As) (r:Ad),H m=some (.tup (a.map V.ref))/\a.length=ts.length/\fP (a.map V.ref) (l:Int)=some (.ref r)/\H r=some (.tup ((ts.getD l []).map nv))/\(ts.getD l []).length=n/\∀x∈ts.getD l [],x<n:=by
 obtain⟨a,d,f,g⟩:=M.refs;have c:l<a.length:=by lia
 have e:ts.getD l []=ts[l]:=by rw[cZ,bE b];rfl
 rw[e];obtain⟨h,i⟩:=M.each ts[l] (gh b);exact#[a,a[l],d,f,ge (by rw[bZ,bE c];rfl),g l _ _ (by simp[c]) (by simp[b]),h,i]
def di(a:LN)(r:Nat)(word:bB):Nat:=word.foldl (λr l=>(a.getD l []).getD r 0) r
def Ki(a:LN)(r:Nat)(word:bB)(l:Nat):di a r (word++[l])=(a.getD l []).getD (di a r word) 0:=by
 unfold di;rw[oJ];rfl
theorem mS{H:Hp}{m:Ad}{a:LN}{n:Nat}(M:Mach H m a n):∀(word:bB) (r:Nat),r<n->(∀l∈word,l<a.length)->di a r word<n
 | [],_,b,_=>b
 |l::word,r,b,h=>by
  obtain⟨_,_,_,_,_,_,e,c⟩:=M.at (h l (cR ..));exact mS M word _ (wD c ()) λx d=>h x (dS _ d)
def vj(a:LN)(n:Nat)(word:bB):bB:=(List.range n).map λr=>di a r word
def PN(a:LN)(n:Nat)(word:bB):(vj a n word).length=n:=by simp[vj]
inductive ki(e:List V)(H:Hp)(Q:VK)(a:XK):Prop|mk:∀(n:Nat) (c m:Int),e=[nv n,.int c,.int m]->1<=n->n<=5->(∀(b:bB) r d,Same H d->d r=some (.tup (b.map nv))->b.length=n->(∀y∈b,y<n)->Q (.ref r) d)->ki e H Q a
inductive fI(K:S4)(d:List V)(H:Hp)(Q:VK)(b:XK):Prop|mk:∀(a:Ad) (e:Zs) (st:Int),d=[.ref a,.int st]->0<=st->SqL K H a (e.map V.int)->(∀m f n c,Same H c->Mach c m f n->Q (.ref m) c)->fI K d H Q b
def rg(H:Hp)(n:Nat)(c m:Int)(a:Ad)(e:Zs)(f:L2.St)(b:Hp):Prop:=Same H b/\∃(l:Ad) (d:bB) (g h i:Option V),f=[some (nv n),some (.int c),some (.int m),some (.ref a),some (.ref l),g,h,i]/\
 b a=some (.lst (e.map V.int))/\b l=some (.lst (d.map nv))/\H l=none/\l≠a/\d.length=n/\∀y∈d,y<n
def Dk(n:Nat):V->V
 |.int i=>nv (i%(n:Int)).toNat
 |v=>v
def OS{ms:Zs}(h:1<=ms.length):∃i,fP (ms.map V.int) (-1)=some (.int i):=by
 have a:ms≠[]:=λz=>by rw[z]at h;exact wC h (by decide)
 refine#[ms.getLast a,?_];have e:ms.map V.int=ms.dropLast.map V.int++[V.int (ms.getLast a)]:=by
  conv=>lhs;rw[<-GO a]
  rw[dC];rfl
 rw[e];exact Mo _ _
def Oi(F:Fun K "_law_turn" "_law_turn" yY f fd)(jB:mg "range"=none)(jD:mg "tuple"=none)(uC:mg "list"=none):FnOk P w K mg base b9 1 f fd [tN,sP,wG] ki:=by
 refine F.ok kP (λap A ae s H vs Q E hr h=>?_)
 obtain⟨n,c,m,rfl,T,h5,q⟩:=h;refine#[_,(bQ (u6 (CompSc.to (N:=[tN,sP,wG,"_law_numbers","_law_turn_here",sX,"_law_j","_law_kept"]) (osc:=bT yY) (vs:=[sX]) {}) zZ zZ kP.nd (j:=3) zZ zZ (je zZ jB (bK (pv 0) bJ)) (λ_ _ _ _=>fG) (λ_ _ _ _=>(cu fE (cu pA (cu l7 (cu l7 (pv 3) (cu pA (cu pA bO (pv 0)) (pv 0))) bO) bO) bO))) (bQ (dq (dQ gG (cu fE (pv 1) bO) bO (dy _)) (bS (cr (f9 oy zZ jD lR (bK (gK (CompSc.to (N:=[tN,sP,wG,"_law_numbers","_law_turn_here",sX,"_law_j","_law_kept"]) (osc:=bT yY) (vs:=["_law_number"]) {}) zZ zZ (fH (pv 3)) (λ_ _ _ _=>fG) (λ_ _ _ _=>(cu fE (pv 0) (pv 1)))) bJ)))) dD) (bQ (cj (i:=4) kP.nd zZ Z' (f9 (Qp zZ) zZ uC boot_list (bK (f9 JJ zZ jB boot_range (bK (pv 0) bJ)) bJ))) (bQ (ua (dq (dQ gG (cu fE (pv 1) bO) bO (dy _)) (bS (fY fF zZ (je zZ jB (bK (pv 0) bJ)) (eR (i:=5) kP.nd zZ Z') (bQ (cj (i:=6) kP.nd zZ Z' (cu l7 (pv 5) (cu fE (cu lQ (ck d9 (pv 3) (pv 5) (λ_ _=>rfl)) bO) (cu R6 (pv 0) (pv 5))))) (bQ (cj (i:=7) kP.nd zZ Z' (ck d9 (pv 4) (pv 5) (λ_ _=>rfl))) (bQ (C3 (ck d9 (pv 4) (pv 6) (λ_ _=>rfl)) (BH (pv 4) (pv 5) CD)) (bS (C3 (pv 7) (BH (pv 4) (pv 6) CD)))))))) dD)) (bQ (ua (dq (dQ gG (cu fE (pv 1) bO) bO (dy _)) (bS (C3 (cu fE (cu lQ (ck d9 (pv 3) (HY Lj bO) (λ_ _=>rfl)) bO) (pv 0)) (BH (pv 4) (cu fE (ck d9 (pv 3) bO (λ_ _=>rfl)) (pv 0)) CD))) dD)) (bQ (ua (dq (dQ gG (cu fE (pv 1) bO) bO (dy _)) (bS (fY fF zZ (je zZ jB (bK (pv 0) bJ)) (eR (i:=5) kP.nd zZ Z') (bS (dq (PW.pt (zz (dQ gG (cu fE (cu lQ (pv 1) bO) bO) bO (dy _)) (yS (dQ gG (cu fE (cu lQ (ck d9 (pv 3) (pv 5) (λ_ _=>rfl)) bO) bO) bO (dy _))))) (bS (C3 (cu fE (ck d9 (pv 3) bO (λ_ _=>rfl)) (pv 0)) (BH (pv 4) (pv 5) CD))) dD)))) dD)) (bS (cr (f9 oy zZ jD lR (bK (pv 4) bJ)))))))))),?_];have np:(0:Int)<(n:Int):=by lia
 have e1:(n:Int).toNat=n:=hY n;refine#[_,zZ,(n:Int),zZ,(),(),FI (f:=λ(i:Nat)=> .int ((m+31 * (0+(i:Int)) * (0+(i:Int))+7) * 48271%2147483647)) (small ()) (λi Q hi q=>?_) (λb af=>?_)]
 .have jb:CMul (31 * (0+(i:Int))) (0+(i:Int)):= .inr #[(),()];exact#[_,zZ,_,zZ,_,_,zZ,zZ,.inl #[by decide,by decide],_,zZ,_,_,zZ,zZ,jb,_,_,zZ,zZ,_,_,zZ,zZ,_,_,zZ,zZ,.inr #[by decide,by decide],_,_,zZ,zZ,(by decide:(0:Int)<2147483647),q]
 obtain⟨a,ag,ah⟩:∃a:Zs,(List.range (n:Int).toNat).map (λ(i:Nat)=>V.int ((m+31 * (0+(i:Int)) * (0+(i:Int))+7) * 48271%2147483647))=a.map V.int/\a.length=n:=#[(List.range n).map λ(i:Nat)=>((m+31 * (0+(i:Int)) * (0+(i:Int))+7) * 48271%2147483647),by rw[e1,eJ];rfl,by simp];rw[ag];have r:=bV af (.lst (a.map V.int));have d:bC H b (.lst (a.map V.int)) b=some (.lst (a.map V.int)):=bG;generalize bC H b (.lst (a.map V.int))=H1 at r d|-;refine#[_,zZ,_,_,zZ,zZ,(by decide:(0:Int)<4),zZ,_,zZ,lF (λc1=>?_) (λc1=>?_)]
 .refine#[_,zZ,b,zZ,#[_,S1 d],Fn (f:=Dk n) (small (by rw[bF];lia)) (S1 d) (λv Q hv q=>?_) (λp hp=>?_)]
  .obtain⟨i,_,rfl⟩:=b8.mp hv;refine#[_,zZ,_,zZ,_,_,zZ,zZ,np,?_];try dsimp only
   rw[(cY i T).1];exact q
  .refine#[p,_,zZ,.inl #[S1 bG,λt ht=>q (a.map λi=>(i%(n:Int)).toNat) t _ ((r.trans (bV hp _)).trans (bV ht _)) (by rw[bG,eJ,eJ];rfl) (by rw[bF,ah]) λy o=>?_]];obtain⟨i,_,rfl⟩:=b8.mp o;exact(cY i T).2
 refine#[_,zZ,(n:Int),zZ,λp1 ai=>#[p1,(n:Int),zZ,bG,(),(),λl e=>?_]];have k1:=bV ai (.rng 0 (n:Int));have k2:=bV e (.lst (mD (n:Int).toNat));have U:=(k1.trans k2) _ _ d;have num:∀{k:Nat},k<n->fP (a.map V.int) ((k:Nat):Int)=some (.int (a.getD k 0)):=λh=>HG ();have s1:rg H n c m b a [some (nv n),some (.int c),some (.int m),some (.ref b),some (.ref l),none,none,none] (bC (bC H1 p1 (.rng 0 (n:Int))) l (.lst (mD (n:Int).toNat))):=
  #[(r.trans k1).trans k2,l,List.range n,none,none,none,zZ,U,by rw[bG];rfl,(r.trans k1).free e,(λz=>by rw[z,k1 _ _ d]at e;cases e),by simp,λy o=>List.mem_range.mp o]
 refine#[rg H n c m b a,?_,λaq H2 p2=>?_]
 .refine#[_,zZ,_,_,zZ,zZ,(by decide:(0:Int)<4),zZ,_,zZ,lF (λc2=>?_) (λc2=>s1)];refine#[_,zZ,(n:Int),zZ,(),(),oB (λ_ B u=>rg H n c m b a B u) s1 (λi B u hi p=>?_) (λB u p=>p)];obtain⟨g,l,ys,o1,I,J,rfl,C,L,e,M,x,o⟩:=p;have D:i<n:=by lia
  have O:(0+(i:Int))=((i:Nat):Int):=by lia
  have ip:(0:Int)<(n:Int)-(0+(i:Int)):=by lia
  refine#[_,zZ,_,zZ,_,zZ,b,_,_,_,zZ,zZ,S1 C,(by rw[O];exact num D),_,_,zZ,zZ,#[by decide,by decide],_,zZ,_,zZ,_,_,zZ,zZ,_,_,zZ,zZ,ip,_,_,zZ,zZ,?_];obtain⟨k,ek,hk⟩:∃k:Nat,0+(i:Int)+a.getD i 0/8%((n:Int)-(0+(i:Int)))=(k:Int)/\k<n:=#[(0+(i:Int)+a.getD i 0/8%((n:Int)-(0+(i:Int)))).toNat,by have:=Gy (a.getD i 0/8) (Int.ne_of_gt ip);lia,by have:=Ge (a.getD i 0/8) ip;lia]
  try dsimp only
  rw[ek];refine#[_,zZ,_,zZ,l,_,_,_,zZ,zZ,S1 L,(by rw[O];exact q0 ()),?_];refine#[_,zZ,_,zZ,l,_,_,_,zZ,zZ,S1 L,q0 (),_,zZ,_,zZ,l,_,_,i,zZ,zZ,L,(by rw[O,bF];exact Cc ()),?_]
  try dsimp only
  rw[Bb];refine#[_,zZ,_,zZ,_,zZ,l,_,_,k,zZ,zZ,bG,(by rw[bF,u4];exact Cc ()),?_]
  try dsimp only
  rw[Bb,MU];exact#[gk g e,l,_,_,_,_,zZ,by rw[bL (dM M)];exact C,bG,e,M,by rw[u4,u4,x],A' (A' o (wD o ())) (wD o ())]
 obtain⟨g2,l2,ar,o1,I,J,rfl,G,aj,Y,pP,aa,ak⟩:=id p2;refine#[rg H n c m b a,?_,λas H3 p3=>?_]
 .refine#[_,zZ,_,_,zZ,zZ,(by decide:(0:Int)<4),zZ,_,zZ,lF (λc3=>?_) (λc3=>p2)];obtain⟨v,ev⟩:=OS (ms:=a) ();refine#[_,zZ,_,zZ,b,_,_,_,zZ,zZ,S1 G,ev,_,_,zZ,zZ,#[by decide,by decide],_,zZ,_,_,zZ,zZ,np,?_]
  try dsimp only
  obtain⟨m1,m2⟩:=cY (v/8) T;obtain⟨m3,m4⟩:=cY (a.getD 0 0) T;rw[m1];refine#[_,zZ,_,zZ,b,_,_,_,zZ,zZ,S1 G,num (k:=0) (),_,zZ,_,_,zZ,zZ,np,?_]
  try dsimp only
  rw[m3];refine#[l2,_,_,(a.getD 0 0%(n:Int)).toNat,zZ,zZ,aj,(by rw[bF];exact Cc ()),?_]
  try dsimp only
  rw[Bb];exact#[gk g2 Y,l2,_,_,_,_,zZ,by rw[bL (dM pP)];exact G,bG,Y,pP,by rw[u4,aa],A' ak m2]
 obtain⟨g3,l3,au,o1,I,J,rfl,av,aw,ax,y3,ao,ay⟩:=id p3;refine#[rg H n c m b a,?_,λaz H4 p4=>?_]
 .refine#[_,zZ,_,_,zZ,zZ,(by decide:(0:Int)<4),zZ,_,zZ,lF (λc4=>?_) (λc4=>p3)];refine#[_,zZ,(n:Int),zZ,(),(),oB (λ_ B u=>rg H n c m b a B u) p3 (λi B u hi p=>?_) (λB u p=>p)];obtain⟨g,l,ys,o1,I,J,rfl,C,L,e,M,x,o⟩:=p;have D:i<n:=by lia
  have O:(0+(i:Int))=((i:Nat):Int):=by lia
  obtain⟨m3,m4⟩:=cY (a.getD 0 0) T;have keep:rg H n c m b a [some (nv n),some (.int c),some (.int m),some (.ref b),some (.ref l),some (.int (0+(i:Int))),I,J] u:=#[g,l,ys,_,_,_,zZ,C,L,e,M,x,o];have set:rg H n c m b a [some (nv n),some (.int c),some (.int m),some (.ref b),some (.ref l),some (.int (0+(i:Int))),I,J] (bC u l (.lst ((ys.set i (a.getD 0 0%(n:Int)).toNat).map nv))):=#[gk g e,l,_,_,_,_,zZ,by rw[bL (dM M)];exact C,bG,e,M,by rw[u4,x],A' o m4];refine#[_,zZ,_,_,zZ,zZ,#[by decide,by decide],_,_,zZ,zZ,(by decide:(0:Int)<3),zZ,_,zZ,lF (λc5=>eK ?_) (λc5=>#[_,zZ,_,zZ,b,_,_,_,zZ,zZ,S1 C,(by rw[O];exact num D),_,_,zZ,zZ,#[by decide,by decide],_,_,zZ,zZ,(by decide:(0:Int)<2),zZ,_,zZ,lF (λc6=>?_) (λc6=>keep)])]
  all_goals
   refine#[_,zZ,b,_,_,_,zZ,zZ,S1 C,num (k:=0) (),_,zZ,_,_,zZ,zZ,np,?_];try dsimp only
   rw[m3];refine#[_,zZ,_,zZ,l,_,_,i,zZ,zZ,L,(by rw[O,bF];exact Cc ()),?_];try dsimp only
   rw[Bb];exact set
 .obtain⟨g4,l4,al,o1,I,J,rfl,aA,am,aB,B9,ab,an⟩:=p4;exact#[_,zZ,l4,_,zZ,.inl #[S1 am,λt ht=>q al t _ (g4.trans (bV ht _)) bG ab an]]
def OU(F:Fun K wO wO Ff f fd)(L:cE P w K mg base tZ 1 [sJ,sX] (fj K))(rD:cE P w K mg base "_law_turn" 1 [tN,sP,wG] ki)(jB:mg "range"=none) (jD:mg "tuple"=none):FnOk P w K mg base b9 3 f fd [sJ,wY] (fI K):=by
 refine F.ok kJ (λab A O s H vs Q E u h=>?_)
 obtain⟨a,M,st,rfl,h0,N,q⟩:=h;refine#[_,(bQ (cj (i:=2) kJ.nd zZ Z' (cu l7 bO (cu fE (cC L u.m zZ (cf (bI (pv 0) (bI (pv 1) ce zZ) zZ))) bO))) (bQ (cj (i:=3) kJ.nd zZ Z' (gT bJ)) (bQ (fY fF zZ (je zZ jB (bK (cu l7 bO (cu fE (cu lQ (cC L u.m zZ (cf (bI (pv 0) (bI (pv 1) ce zZ) zZ))) bO) bO)) bJ)) (eR (i:=4) kJ.nd zZ Z') (bQ (cj (i:=5) kJ.nd zZ Z' (cC L u.m zZ (cf (bI (pv 0) (bI (cu l7 (cu l7 (pv 1) bO) (cu pA bO (pv 4))) ce zZ) zZ)))) (bS (i3 (gJ iE lM kS lL (pv 3) (bK (cC rD u.m zZ (cf (bI (pv 2) (bI (pv 5) (bI (cC L u.m zZ (cf (bI (pv 0) (bI (cu l7 (cu l7 (pv 1) bO) (cu pA bO (pv 4))) ce zZ) zZ))) ce zZ) zZ) zZ))) bJ)))))) (bS (cr (f9 oy zZ jD lR (bK (pv 3) bJ))))))),?_];refine#[_,zZ,_,zZ,a,M,st,zZ,h0,N,λc=>#[_,_,zZ,zZ,(by decide:(0:Int)<5),_,_,zZ,zZ,?_]];obtain⟨n,en,n1,n5⟩:∃n:Nat,(1+c%5:Int)=(n:Int)/\1<=n/\n<=5:=#[(1+c%5).toNat,(),(),()]
 try dsimp only
 rw[en];refine#[by show 0<=sizeLine;decide,λtl v=>?_];have l:=bV v (.lst []);have y:bC H tl (.lst []) tl=some (.lst []):=bG;generalize bC H tl (.lst [])=H1 at l y|-;refine#[_,zZ,_,zZ,a,M,st,zZ,h0,l.seq N,λT=>#[_,_,zZ,zZ,#[by decide,by decide],_,_,zZ,zZ,(by decide:(0:Int)<4),_,_,zZ,zZ,?_]];obtain⟨k,ek,k1,k4⟩:∃k:Nat,(1+T/5%4:Int)=(k:Int)/\1<=k/\k<=4:=#[(1+T/5%4).toNat,(),(),()]
 let Pk:Nat->L2.St->Hp->Prop:=λi U Y=>Same H Y/\∃(d:As) (g:LN) (o4 o5:Option V),Y tl=some (.lst (d.map .ref))/\d.length=i/\g.length=i/\(∀(j:Nat) r t,d[j]?=some r->g[j]?=some t->Y r=some (.tup (t.map nv)))/\(∀t∈g,t.length=n/\∀x∈t,x<n)/\U=[some (.ref a),some (.int st),some (nv n),some (.ref tl),o4,o5]
 refine#[(k:Int),(by show[V.int (1+T/5%4)]=_;rw[ek]),(),(),oB Pk #[l,[],[],none,none,y,zZ,zZ,(λj r t e=>wC e (by simp)),(λt ht=>wC ht (by simp)),zZ] (λi U H2 hi p=>?_) (λU H2 p=>?_)]
 .obtain⟨B,d,g,o4,o5,b,C,D,m,ht,rfl⟩:=p;have ae:i<k:=by simpa using hi
  refine#[_,zZ,_,zZ,_,_,zZ,zZ,_,zZ,_,_,zZ,zZ,.inl #[by decide,by decide],_,_,zZ,zZ,a,M,_,zZ,(),B.seq N,λcl=>?_];refine#[_,zZ,.inl #[zZ,_,S1 b],_,zZ,_,zZ,_,zZ,_,zZ,_,_,zZ,zZ,_,zZ,_,_,zZ,zZ,.inl #[by decide,by decide],_,_,zZ,zZ,a,M,_,zZ,(),B.seq N,λcm=>?_];refine#[n,cl,cm,zZ,n1,n5,λys r H3 G er aa hy=>#[tl,_,_,zZ,zZ,G _ _ b,by rw[bF,cH];lia,?_]];have rt:r≠tl:=nE er (G _ _ b);refine#[gk (B.trans G) v,d++[r],g++[ys],_,_,by rw[bG,dC];rfl,by rw[cI,C];rfl,by rw[cI,D];rfl,λj r' I o J=>?_,λI h'=>?_,zZ]
  .rcases vd j i with hj|hj
   .rw[dN ()]at o J;have z:=G _ _ (m j r' I o J);rw[bL (nE z (G _ _ b))];exact z
   .rw[dO ()]at o J;have j0:j-d.length=0:=by
     have:=(bU.mp o).1;simp at this;lia
    have j1:j-g.length=0:=by lia
    rw[j0]at o;rw[j1]at J;cases o;cases J;rw[bL rt];exact er
  .rcases cF.mp h' with z|z
   .exact ht I z
   .rw[ci.mp z];exact#[aa,hy]
 .obtain⟨B,d,g,o4,o5,b,C,D,m,ht,rfl⟩:=p;have o:(k:Int).toNat=k:=hY k;refine#[_,zZ,tl,_,zZ,.inl #[S1 b,λt nt=>q t g n _ (B.trans (bV nt _)) #[#[d,bG,(),λj r I a1 a2=>bV nt _ _ _ (m j r I a1 a2)],(),(),n1,n5,ht]]]
def vc(c:Nat):Prop:=97<=c/\c<=122
structure NameOk(x:Str):Prop where
 some1:1<=x.cps.toList.length
 few:x.cps.toList.length<=8
 small:∀c∈x.cps.toList,vc c
def rm:Str:=tH
def JG:rm.length=26:=by decide+kernel
def Es{i:Nat}(h:i<26):fP rm.cps.toList ((i:Nat):Int)=some (97+i):=by
 refine ge ?_;have z:∀i:Fin 26,rm.cps.toList[i.1]?=some (97+i.1):=by decide+kernel
 exact z #[i,h]
def Hb(c:Int):V.int (c%26)=nv (c%26).toNat/\(c%26).toNat<26:=cY (n:=26) c (by decide)
def CB:(Str.ofString "").cps.toList=[]:=by decide+kernel
def j5(x y:Str):(x++y).cps.toList=x.cps.toList++y.cps.toList:=by
 show(x.cps++y.cps).toList=_;simp
def ja(x:Str):x.length=x.cps.toList.length:=by
 show x.cps.size=_;simp
inductive iC(e:List V)(H:Hp)(Q:VK)(b:XK):Prop|mk:∀c:Int,e=[.int c,.int 4]->(∀(l:Ad) (a:Ss) d,Same H d->d l=some (.lst (a.map V.str))->H l=none->a.length=4->a.Nodup->(∀x∈a,NameOk x)->Q (.ref l) d)->iC e H Q b
def NC(F:Fun K xA xA CG f fd)(jB:mg "range"=none)(jA:mg "len"=none)(rX:mg "int"=none):FnOk P w K mg base b9 1 f fd [sP,wQ] iC:=by
 refine F.ok jN (λao A ag s H vs Q E hr h=>?_)
 obtain⟨c,rfl,q⟩:=h;refine#[_,(bQ (cj (i:=2) jN.nd zZ Z' eV) (bQ (u6 (CompSc.to (N:=[sP,wQ,tM,"_law_base","_law_at",sT,sX,"_law_name","_law_j"]) (osc:=bT CG) (vs:=[sX]) {}) zZ zZ jN.nd (j:=3) zZ zZ (je zZ jB (bK (cu l7 bO (cu fE (pv 0) bO)) bJ)) (λ_ _ _ _=>fG) (λ_ _ _ _=>(cu fE (cu l7 (cu lQ (cu lQ (pv 1) bO) (cu l7 (cu pA (pv 0) (pv 0)) bO)) (cu pA bO (pv 0))) bO))) (bQ (cj (i:=4) jN.nd zZ Z' (cu fE (cu lQ (pv 0) bO) (c9 fv zZ jA eU (bK (pv 3) bJ)))) (bQ (cj (i:=5) jN.nd zZ Z' (gT bJ)) (bQ (fY fF zZ (je zZ jB (bK (pv 1) bJ)) (eR (i:=6) jN.nd zZ Z') (bQ (cj (i:=7) jN.nd zZ Z' eV) (bQ (fY fF zZ (je zZ jB (bK (c9 fv zZ jA eU (bK (pv 3) bJ)) bJ)) (eR (i:=8) jN.nd zZ Z') (bS (cj (i:=7) jN.nd zZ Z' (cu xm (pv 7) (ck Ku (pv 2) (cu fE (cu l7 (ck d9 (pv 3) (pv 8) (λ_ _=>rfl)) (cu pA (pv 6) (f9 Mv zZ rX boot_int (bK (lT gG (pv 8) (pv 4) (dy _)) bJ)))) bO) (λ_ _=>rfl)))))) (bQ (ua (dq (PW.pt (An (dQ gG (cu fE (cu lQ (pv 0) bO) bO) bO (dy _)) (yF (dQ gG (cu fE (pv 6) bO) bO (dy _))))) (bS (cj (i:=7) jN.nd zZ Z' (cu xm (pv 7) (ck Ku (pv 2) (cu fE (cu lQ (pv 0) bO) bO) (λ_ _=>rfl))))) dD)) (bS (i3 (gJ iE lM kS lL (pv 5) (bK (pv 7) bJ)))))))) (bS (cr (pv 5)))))))),?_];have cN:∀{i:Nat},i<7->CMul (0+(i:Int)) (0+(i:Int)):=λ{i} h=> .inl #[(),()];obtain⟨L,eL,L1,L7⟩:∃L:Nat,(1+c%7:Int)=(L:Int)/\1<=L/\L<=7:=#[(1+c%7).toNat,(),(),()];have I:(L:Int).toNat=L:=hY L;refine#[_,zZ,_,_,zZ,zZ,(by decide:(0:Int)<7),_,_,zZ,zZ,(L:Int),(by show[V.int (1+c%7)]=_;rw[eL]),(),(),FI (f:=λ(i:Nat)=>nv ((c/7/ ((0+(i:Int)) * (0+(i:Int))+1)+5 * (0+(i:Int)))%26).toNat) (small ()) (λi Q hi q=>?_) (λl ah=>?_)]
 .have ai:i<7:=by lia
  have sq:(0+(i:Int)) * (0+(i:Int))<=49:=by
   have:=Int.mul_le_mul (show(0+(i:Int))<=7 by lia) (show(0+(i:Int))<=7 by lia) () (by decide);lia
  have ap:0<=(0+(i:Int)) * (0+(i:Int)):=Int.mul_nonneg () ();refine#[_,zZ,_,_,zZ,zZ,#[by decide,by decide],_,zZ,_,zZ,_,_,zZ,zZ,cN ai,_,_,zZ,zZ,_,_,zZ,zZ,#[(),()],_,zZ,_,_,zZ,zZ,.inl #[by decide,by decide],_,_,zZ,zZ,_,_,zZ,zZ,(by decide:(0:Int)<26),?_]
  try dsimp only
  rw[(Hb _).1];exact q
 obtain⟨bs,aj,J,an⟩:∃bs:bB,(List.range (L:Int).toNat).map (λ(i:Nat)=>nv ((c/7/ ((0+(i:Int)) * (0+(i:Int))+1)+5 * (0+(i:Int)))%26).toNat)=bs.map nv/\bs.length=L/\∀b∈bs,b<26:=
  #[(List.range L).map λ(i:Nat)=>((c/7/ ((0+(i:Int)) * (0+(i:Int))+1)+5 * (0+(i:Int)))%26).toNat,by rw[I,eJ];rfl,by simp,λb hb=>by
   obtain⟨i,_,rfl⟩:=b8.mp hb;exact(cY (n:=26) _ (by decide)).2]
 rw[aj];have M:=bV ah (.lst (bs.map nv));have o:bC H l (.lst (bs.map nv)) l=some (.lst (bs.map nv)):=bG;generalize bC H l (.lst (bs.map nv))=H1 at M o|-;have Lp:(0:Int)<(((bs.map nv).length:Nat):Int):=by rw[bF,J];lia
 refine#[_,zZ,_,_,zZ,zZ,#[by decide,by decide],_,zZ,l,_,zZ,.inl (S1 o),_,_,zZ,zZ,Lp,?_];obtain⟨m1,m2⟩:=cY (c/7) L1
 try dsimp only
 rw[bF,J,m1];generalize(c/7%(L:Int)).toNat=a at m2;refine#[by show 0<=sizeLine;decide,λr O=>?_];have T:=bV O (.lst []);have aa:bC H1 r (.lst []) r=some (.lst []):=bG;have ab:H r=none:=M.free O;have nb:l≠r:=λz=>by rw[z,O]at o;cases o
 have C:=T _ _ o;generalize bC H1 r (.lst [])=H2 at T aa C|-
 let ae (x:Str) (k m:Nat):Prop:=x.cps.toList.length=m/\(∀c∈x.cps.toList,vc c)/\(a<m->x.cps.toList[a]?=some (97+(bs.getD a 0+k)%26))
 let Pk:Nat->L2.St->Hp->Prop:=λk U D=>Same H D/\∃(t:Ss) (o6 o7 u:Option V),D l=some (.lst (bs.map nv))/\D r=some (.lst (t.map V.str))/\t.length=k/\(∀(j:Nat) x,t[j]?=some x->NameOk x/\x.cps.toList[a]?=some (97+(bs.getD a 0+j)%26))/\U=[some (.int c),some (.int 4),some (.str rm),some (.ref l),some (nv a),some (.ref r),o6,o7,u]
 refine#[_,zZ,4,zZ,by decide,by decide,oB Pk #[M.trans T,[],none,none,none,C,aa,zZ,(λj x e=>wC e (by simp)),zZ] (λk U H3 hk p=>?_) (λU H3 p=>?_)]
 .obtain⟨g3,t,o6,o7,u,v,B,lx,g,rfl⟩:=p;have aq:k<4:=by simpa using hk
  let Pj:Nat->L2.St->Hp->Prop:=λj U D=>D=H3/\∃(x:Str) (u:Option V),ae x k j/\U=[some (.int c),some (.int 4),some (.str rm),some (.ref l),some (nv a),some (.ref r),some (.int (0+(k:Int))),some (.str x),u]
  refine#[_,zZ,l,_,zZ,.inl (S1 v),(L:Int),(by rw[bF,J]),(),(),oB Pj #[zZ,_,_,#[by rw[CB];rfl,(λc Y=>wC Y (by rw[CB];simp)),λh=>wC h ()],zZ] (λj U H4 hj p=>?_) (λU H4 p=>?_)]
  .obtain⟨rfl,x,u,⟨G,g2,g4⟩,rfl⟩:=p;have ar:j<L:=by simpa using hj
   have e0:(0+(j:Int))=((j:Nat):Int):=by lia
   obtain⟨b,eb,b1⟩:∃b:Int,(if decide (V.int (0+(j:Int))=nv a)=true then(1:Int)else 0)=b/\b=if j=a then 1 else 0:=#[_,zZ,by
    by_cases z:j=a
    .rw[wB z,wB (cG (by rw[z,sd]))]
    .rw[wA z,wA λy=>z (by have y':=hE y;injection y' with y';lia)]]
   have b2:b=0\/b=1:=by rw[b1];split<;>simp
   have cm:CMul (0+(k:Int)) b:= .inl #[(),()];obtain⟨m3,m4⟩:=cY (n:=26) ((bs.getD j 0:Int)+(0+(k:Int)) * b) (by decide);have ak:fP (bs.map nv) ((j:Nat):Int)=some (nv (bs.getD j 0)):=q0 ();refine#[_,zZ,_,zZ,_,zZ,_,zZ,l,_,_,_,zZ,zZ,S1 v,(by rw[e0];exact ak),_,zZ,_,zZ,_,zZ,zZ,.inr #[_,zZ,?_]];rw[eb];refine#[_,_,zZ,zZ,cm,_,_,zZ,zZ,_,_,zZ,zZ,(by decide:(0:Int)<26),?_];try dsimp only
   have as:V.int (((bs.getD j 0:Nat):Int)+(0+(k:Int)) * b)=V.int (((bs.getD j 0:Nat):Int)+(0+(k:Int)) * b):=rfl;rw[show V.int ((((bs.getD j 0:Nat):Int)+(0+(k:Int)) * b)%26)=nv ((((bs.getD j 0:Nat):Int)+(0+(k:Int)) * b)%26).toNat from m3];generalize ed:((((bs.getD j 0:Nat):Int)+(0+(k:Int)) * b)%26).toNat=d at m4;refine#[_,_,_,zZ,zZ,by rw[JG,cH];decide,Es m4,_,_,zZ,zZ,?_,zZ,x++#[#v[97+d]],_,#[?_,?_,?_],zZ]
   .rw[ja,G];show j+1<=sizeLine;rw[cH];lia
   .rw[j5,cI,G];rfl
   .intro c' Y;rw[j5]at Y
    rcases cF.mp Y with h|h
    .exact g2 _ h
    .rw[ci.mp h];exact#[(),()]
   .intro h;rw[j5]
    rcases vd a j with h2|h2
    .rw[dN ()];exact g4 h2
    .have ea:a=j:=by lia
     rw[dO (),G,ea,mO];show some (97+d)=_
     rw[<-ed,b1,wB ea.symm]
     congr 2
     lia
  .obtain⟨rfl,x,u,⟨G,g2,g4⟩,rfl⟩:=p;have G:x.cps.toList.length=L:=G.trans I;have g4:x.cps.toList[a]?=some (97+(bs.getD a 0+k)%26):=g4 (by rw[I];exact m2);refine#[λaf D=>D=H4/\∃(y:Str) (u:Option V),NameOk y/\y.cps.toList[a]?=some (97+(bs.getD a 0+k)%26)/\af=[some (.int c),some (.int 4),some (.str rm),some (.ref l),some (nv a),some (.ref r),some (.int (0+(k:Int))),some (.str y),u],?_,λaf D p'=>?_]
   .have stay:NameOk x:=#[(),(),g2];refine#[_,zZ,_,_,zZ,zZ,#[by decide,by decide],_,_,zZ,zZ,(by decide:(0:Int)<2),zZ,_,zZ,lF (λc5=>?_) (λc5=>dv #[zZ,x,_,stay,g4,zZ])];refine#[_,zZ,_,_,zZ,zZ,(by decide:(0:Int)<2),zZ,_,zZ,lF (λc6=>?_) (λc6=>#[zZ,x,_,stay,g4,zZ])];obtain⟨m5,m6⟩:=Hb (c/98);refine#[_,zZ,_,zZ,_,zZ,_,_,zZ,zZ,#[by decide,by decide],_,_,zZ,zZ,(by decide:(0:Int)<26),?_];try dsimp only
    rw[m5];generalize(c/98%26).toNat=d at m6;refine#[_,_,_,zZ,zZ,by rw[JG,cH];decide,Es m6,_,_,zZ,zZ,?_,zZ,x++#[#v[97+d]],_,#[?_,?_,?_],?_,zZ]
    .rw[ja,G];show L+1<=sizeLine;rw[cH];lia
    .rw[j5,cI];lia
    .rw[j5,cI,G];show L+1<=8;lia
    .intro c' Y;rw[j5]at Y
     rcases cF.mp Y with h|h
     .exact g2 _ h
     .rw[ci.mp h];exact#[(),()]
    .rw[j5,dN ()];exact g4
   .obtain⟨rfl,y,u,al,am,rfl⟩:=p';refine#[_,zZ,.inl #[zZ,_,S1 B],_,zZ,r,_,_,zZ,zZ,B,by rw[bF,cH];lia,?_];refine#[gk g3 ab,t++[y],_,_,_,by rw[bL nb];exact v,by rw[bG,dC];rfl,by rw[cI,lx];rfl,λj x' e=>?_,zZ]
    rcases vd j k with h|h
    .rw[dN ()]at e;exact g j x' e
    .rw[dO ()]at e;have j0:j-t.length=0:=by
      have:=(bU.mp e).1;simp at this;lia
     have jk:j=k:=by lia
     rw[j0]at e;cases e;rw[jk];exact#[al,am]
 .obtain⟨g3,t,o6,o7,u,v,B,lx,g,rfl⟩:=p;refine#[_,zZ,q r t _ g3 B ab lx ?_ λx hx=>?_]
  .rw[Fw];refine oi.mpr λi j hi hj au e=>?_;have av:j<4:=by have:t.length=4:=lx;lia
   have ei:=(g i t[i] (bE _)).2;have ej:=(g j t[j] (bE _)).2;rw[e,ej]at ei;have z:=f' ei;lia
  .obtain⟨j,hj,e⟩:=Bz hx;exact(g j x (by rw[bE hj,e])).1
def zj{x y:Str}(h:x.cps.toList=y.cps.toList):x=y:=by
 cases x;cases y
 congr 1
 exact EK.mp h
def jl(c:bB):LN->List Nat
 | []=>[]
 | [x]=>x
 |x::y::r=>x++c++jl c (y::r)
theorem E4(a:Str):∀l:Ss,(Str.join a l).cps.toList=jl a.cps.toList (l.map λx=>x.cps.toList)
 | []=>rfl
 | [x]=>rfl
 |x::y::r=>by
  show(x++a++Str.join a (y::r)).cps.toList=x.cps.toList++a.cps.toList++jl _ _;rw[j5,j5,E4 a (y::r)];rfl
def GF(a:Str)(l:Ss):(Txt.join a l).cps.toList=jl a.cps.toList (l.map λx=>x.cps.toList):=by
 rw[eq_of_beq (D2 a l),E4]
theorem IV{c:Nat}:∀{x y A B:bB},c∉x->c∉y->x++c::A=y++c::B->x=y/\A=B
 | [],[],A,B,_,_,h=>#[zZ,by injection h]
 | [],b::y,A,B,_,e,h=>by
  injection h with d _
  exact wC (by rw[d];exact cR ..) e
 |a::x,[],A,B,f,_,h=>by
  injection h with d _
  exact wC (by rw[<-d];exact cR ..) f
 |a::x,b::y,A,B,f,e,h=>by
  injection h with d g
  obtain⟨i,j⟩:=IV (λz=>f (dS _ z)) (λz=>e (dS _ z)) g;exact#[by rw[d,i],j]
theorem Jq{c:Nat}:∀{ps qs:LN},ps≠[]->qs≠[]->(∀p∈ps,c∉p)->(∀p∈qs,c∉p)->jl [c] ps=jl [c] qs->ps=qs
 | [],_,h,_,_,_,_=>wC zZ h
 |_,[],_,h,_,_,_=>wC zZ h
 | [x],[y],_,_,_,_,h=>by
  have a:x=y:=h;rw[a]
 | [x],y::z::r,_,_,b,_,h=>by
  have a:x=y++[c]++jl [c] (z::r):=h;exact wC (by rw[a];simp) (b x (List.mem_singleton.mpr zZ))
 |x::z::r,[y],_,_,_,d,h=>by
  have a:x++[c]++jl [c] (z::r)=y:=h;exact wC (by rw[<-a];simp) (d y (List.mem_singleton.mpr zZ))
 |x::z::r,y::e::f,_,_,b,d,h=>by
  have a:x++[c]++jl [c] (z::r)=y++[c]++jl [c] (e::f):=h;rw[dR,dR]at a;obtain⟨g,i⟩:=IV (b x (cR ..)) (d y (cR ..)) a;have j:=Jq (ps:=z::r) (qs:=e::f) (by simp) (by simp) (λp h=>b p (List.mem_cons_of_mem _ h)) (λp h=>d p (List.mem_cons_of_mem _ h)) i;rw[g,j]
def G9{c:Nat}{a:Ss}(f:a≠[])(h:∀p∈a,c∉p.cps.toList):Txt.split (Txt.join #[#v[c]] a) #[#v[c]]=a:=by
 have g:=StrLaws.join_split (Txt.join #[#v[c]] a) #[#v[c]];have e:(Str.join #[#v[c]] (Txt.split (Txt.join #[#v[c]] a) #[#v[c]])).cps.toList=(Txt.join #[#v[c]] a).cps.toList:=by rw[g]
 rw[E4,GF]at e;have i:=Jq (c:=c) (by
   intro z;have:=split_pos (Txt.join #[#v[c]] a) #[#v[c]]
   rw[v5.mp z]at this;exact wC this (by decide)) (by intro z;exact f (v5.mp z)) (λp b=>by
   obtain⟨x,d,rfl⟩:=b8.mp b;exact StrLaws.split_free _ c x d) (λp b=>by
   obtain⟨x,d,rfl⟩:=b8.mp b;exact h x d) e
 exact BB (λx y z=>zj z) |>.mp i
def NO{c:Nat}{a b:Str}(h:c∉a.cps.toList):Txt.partition (a++#[#v[c]]++b) #[#v[c]]=(a,#[#v[c]],b):=by
 have d:(a++#[#v[c]]++b).cps.toList=a.cps.toList++c::b.cps.toList:=by
  rw[j5,j5,dR];rfl
 generalize a++#[#v[c]]++b=x at d;have here:x.cps.toList[a.cps.toList.length]?=some c:=by rw[d,dO (bR _),mO];rfl
 have k:x.length=a.cps.toList.length+1+b.cps.toList.length:=by rw[ja,d,cI,iL];lia
 unfold Txt.partition
 rcases StrLaws.occ_head x #[#v[c]] 1 (bR 1)with⟨g,f⟩|⟨i,r,g,l,f⟩
 .exact wC ((F0 x c _).mpr here) (f _)
 .rw[g];have e:=(F0 x c i).mp l;have j:i=a.cps.toList.length:=by
   rcases Nat.lt_trichotomy i a.cps.toList.length with z|z|z
   .rw[d,dN z]at e;exact wC (cb e) h
   .exact z
   .exact wC ((F0 x c _).mpr here) (f _ z)
  show(Builtin.Str.strSub x 0 i,(#[#v[c]]:Str),Builtin.Str.strSub x (i+1) x.length)=_
  congr 1
  .refine zj ?_;rw[StrLaws.strSub_toList,d,j];simp
  .congr 1
   refine zj ?_;rw[StrLaws.strSub_toList,d,j,k];have m:List.drop (a.cps.toList.length+1) (a.cps.toList++c::b.cps.toList)=b.cps.toList:=by
    rw[List.drop_append];simp
   rw[m];exact vg ()
def Jw(d:Nat):bB:=[32,48+d]
def mo(t:bB):bB:=t.flatMap Jw
def gV(t:bB):Str:=#[(mo t).toArray]
def nW(x:Str)(t:bB):Str:=x++#[#v[58]]++gV t
def iq(a:Ss)(b:LN):Ss:=List.zipWith nW a b
def sf(a:Ss)(b:LN):Str:=Txt.join #[#v[10]] (iq a b)
def oO(t:bB):(gV t).cps.toList=mo t:=by
 show(mo t).toArray.toList=_;simp
def yd(t:bB):(mo t).length=2 * t.length:=by
 unfold mo
 induction t with
 |nil=>rfl
 |cons a t b=>rw[List.flatMap_cons,cI,b,iL];show 2+_=_;lia
theorem xV:∀t:bB,lG (mo t)=t.map λ_=>32
 | []=>rfl
 |a::t=>by
  show lG (32::(48+a)::mo t)=32::t.map λ_=>32;rw[<-xV t];rfl
theorem tj:∀t:bB,lG ((mo t).drop 1)=t.map λd=>48+d
 | []=>rfl
 | [a]=>rfl
 |a::b::t=>by
  have c:=tj (b::t);show lG ((48+a)::32::(48+b)::mo t)=(48+a)::(b::t).map λd=>48+d;rw[<-c];rfl
def Ou{t:bB}{c:Nat}(h:c∈mo t):c=32\/∃d∈t,c=48+d:=by
 unfold mo at h;obtain⟨d,b,a⟩:=List.mem_flatMap.mp h;simp only[Jw,List.mem_cons,List.not_mem_nil,or_false]at a
 rcases a with rfl|rfl
 .exact .inl rfl
 .exact .inr #[d,b,zZ]
def Pw{x:Str}{t:bB}(h:NameOk x):Txt.partition (nW x t) #[#v[58]]=(x,#[#v[58]],gV t):=NO λz=>by
 have:=h.small _ z;unfold vc at this;lia
def Jy(x:Str)(t:bB):(nW x t).cps.toList=x.cps.toList++[58]++mo t:=by
 unfold nW;rw[j5,j5,oO]
def PP{x:Str}{t:bB}(h:NameOk x):10∉(nW x t).cps.toList:=λz=>by
 rw[Jy]at z
 rcases cF.mp z with z|z
 .rcases cF.mp z with z|z
  .have:=h.small _ z;unfold vc at this;lia
  .exact wC (ci.mp z) (by decide)
 .rcases Ou z with e|⟨d,_,e⟩<;>lia
def KI{x:Str}{t:bB}(h:NameOk x)(ht:t.length<=5):(nW x t).length<=19:=by
 rw[ja,Jy,cI,cI,yd];have:=h.few;show _+1+_<=19;lia
def Lr{b:Ss}{a:LN}(f:b.length=a.length)(c:1<=a.length)(h:∀x∈b,NameOk x):Txt.split (sf b a) #[#v[10]]=iq b a:=by
 refine G9 (λz=>?_) λp d=>?_
 .have e:=cK List.length z;unfold iq at e;rw[AQ,f,w6]at e;have g:a.length=0:=e;lia
 .unfold iq at d;obtain⟨i,j,e⟩:=Bz d;rw[List.getElem_zipWith]at e;rw[<-e];exact PP (h _ (gh _))
def Jz{d:Nat}(h:d<10):Str.ofString (toString (d:Int))=(#[#v[48+d]]:Str):=by
 have z:∀d:Fin 10,Str.ofString (toString ((d.1:Nat):Int))=(#[#v[48+d.1]]:Str):=by decide+kernel
 exact z #[d,h]
theorem Lh:∀l:LN,jl [] l=l.flatten
 | []=>rfl
 | [x]=>by simp[jl]
 |x::y::r=>by
  show x++[]++jl [] (y::r)=_;rw[Lh (y::r)];simp
def NP(t:bB):Txt.join (Str.ofString "") (t.map λd=>(#[#v[32,48+d]]:Str))=gV t:=by
 refine zj ?_;rw[GF,CB,Lh,oO,eJ];unfold mo;rw[List.flatMap_def];rfl
def C5{x:Str}(h:∀c∈x.cps.toList,c<128):BF x:=by
 unfold BF;rw[<-Array.all_toList,oA];exact λc a=>cG (h c a)
inductive eC(b:List V)(H:Hp)(Q:VK)(a:XK):Prop|mk:∀x y:Str,b=[.str x,.str y]->BF x->x.length<=1000->(∀c∈x.cps.toList,c∈y.cps.toList)->(∀d,Same H d->Q (.bl true) d)->eC b H Q a
inductive gw(b:List V)(H:Hp)(Q:VK)(a:XK):Prop|mk:∀x:Str,b=[.str x]->NameOk x->(∀c,Same H c->Q (.bl true) c)->gw b H Q a
inductive d7(b:List V)(H:Hp)(Q:VK)(a:XK):Prop|mk:∀t:bB,b=[.str (gV t)]->1<=t.length->t.length<=5->(∀d∈t,d<10)->(∀c,Same H c->Q (.bl true) c)->d7 b H Q a
inductive fM(c:List V)(H:Hp)(Q:VK)(b:XK):Prop|mk:∀(x:Str) (t:bB),c=[.str (nW x t)]->NameOk x->1<=t.length->t.length<=5->(∀d∈t,d<10)->(∀p r a,Same H a->a p=some (.tup [.str x,.ref r])->a r=some (.tup (t.map nv))->Q (.ref p) a)->fM c H Q b
def P1(F:Fun K wW wW Ca f fd)(d:mg "all"=none):FnOk P w K mg base b9 1 f fd [sS,"signs"] eC:=by
 refine F.ok MZ (λg A a s H m Q E n h=>?_)
 obtain⟨x,y,rfl,i,j,all,q⟩:=h;refine#[_,(bS (cr (c9 (D0 zZ) zZ d boot_all (bK (gK (CompSc.to (N:=[sS,"signs"]) (osc:=bT Ca) (vs:=["sign"]) {}) zZ zZ (G4 (pv 0)) (λ_ _ _ _=>fG) (λ_ _ _ _=>(lT Qs (pv 0) (pv 2) (by with_unfolding_all rfl)))) bJ)))),?_];refine#[_,zZ,x,zZ,i,Ho (f:=λc=> .bl (decide (c∈y.cps.toList))) (small j) (λc Q b q=>?_) (λp k=>?_)]
 .refine#[_,zZ,_,zZ,_,_,zZ,zZ,?_];rw[show vU c=(#[#v[c]]:Str)from rfl,StrLaws.found_one];exact q
 .have e:x.cps.toList.map (λc=>V.bl (decide (c∈y.cps.toList)))=(x.cps.toList.map λc=>decide (c∈y.cps.toList)).map V.bl:=by rw[eJ];rfl
  try dsimp only
  rw[e];refine#[p,_,zZ,S1 bG,?_];have l:(x.cps.toList.map λc=>decide (c∈y.cps.toList)).all id=true:=by
   rw[xh,oA];exact λc b=>cG (all c b)
  rw[l];exact q _ (bV k _)
def Qg(F:Fun K "is_name" "is_name" Do f fd)(d:cE P w K mg base wW 1 [sS,"signs"] eC){e g:Tok}(k:mg "MOST_SIGNS"=some (.int 8 e))(l:mg "SMALL_LETTERS"=some (.str tH g))(m:mg "len"=none):FnOk P w K mg base b9 3 f fd [sS] gw:=by
 refine F.ok Sq (λn A a s H r Q E o h=>?_)
 obtain⟨x,rfl,ok,q⟩:=h;refine#[_,(bS (cr (uw (Kj ti ti bO (c9 Kw zZ m eU (bK (pv 0) bJ)) (zX (v:= .int 8) zZ k #[_,zZ])) (uf (cC d o.m zZ (cf (bI (pv 0) (bI (zX (v:= .str tH) zZ l #[_,zZ]) ce zZ) zZ))))))),?_];have t:1<=x.length:=by rw[ja];exact ok.some1
 have u:x.length<=8:=by rw[ja];exact ok.few
 refine#[_,zZ,x,zZ,small (),_,_,zZ,zZ,_,zZ,yP () #[_,_,zZ,zZ,_,zZ,yP () #[_,zZ,x,rm,zZ,C5 λc b=>?_,(),λc b=>?_,q]]]
 .have:=ok.small c b;unfold vc at this;lia
 .have z:=ok.small c b;unfold vc at z;have y:=Es (i:=c-97) ();rw[show 97+(c-97)=c by lia]at y;obtain⟨j,_,p,_⟩:=BK y;exact cb p
def O6(F:Fun K xB xB GP f fd)(k:cE P w K mg base wW 1 [sS,"signs"] eC){l:Tok}(n:mg "FIGURES"=some (.str xC l))(o:mg "len"=none):FnOk P w K mg base b9 3 f fd [sS] d7:=by
 refine F.ok Rb (λp A g s H J Q E m h=>?_)
 obtain⟨t,rfl,l,L,b,q⟩:=h;refine#[_,(bQ (dq (PW.pt (zz (dQ gG (pv 0) eV (dy _)) (yS (dQ CW (cu fE (c9 Kw zZ o eU (bK (pv 0) bJ)) bO) bO (dy _))))) (bS (cr sj)) dD) (bS (cr (uw (cC k m.m zZ (cf (bI (Gm (pv 0) bO bO) (bI eV ce zZ) zZ))) (uf (cC k m.m zZ (cf (bI (Gm (pv 0) bO bO) (bI (zX (v:= .str xC) zZ n #[_,zZ]) ce zZ) zZ)))))))),?_];have r:(gV t).length=2 * t.length:=by rw[ja,oO,yd]
 have i:(gV t).length<=sizeLine:=small ();have u: ¬V.str (gV t)=V.str (Str.ofString ""):=λz=>by
  injection z with z
  have:=cK (λx:Str=>x.cps.toList.length) z;simp only[CB]at this;rw[oO,yd]at this;have:2 * t.length=0:=this;lia
 have y:V.int (((gV t).length:Int)%2)=V.int 0:=by rw[r];congr 1;lia
 refine#[_,zZ,zZ,_,zZ,zA u #[_,zZ,gV t,zZ,i,_,_,zZ,zZ,(by decide:(0:Int)<2),zZ,_,zZ,zC y ?_]];have B:(lG ((gV t).cps.toList.drop (0:Int).toNat))=t.map λ_=>32:=by rw[oO];exact xV t
 have C:(lG ((gV t).cps.toList.drop (1:Int).toNat))=t.map λd=>48+d:=by rw[oO];exact tj t
 refine#[_,zZ,gV t,0,zZ,zZ,zZ,by decide,i,?_];rw[B];refine#[_,_,zZ,C5 λc a=>?_,?_,λc a=>?_,λM D=>#[_,zZ,eK ?_]]
 .simp at a;lia
 .rw[ja];simp;lia
 .have:c=32:=by
   simp at a;exact a.2.symm
  rw[this];decide+kernel
 refine#[_,zZ,gV t,1,zZ,zZ,zZ,by decide,i,?_];rw[C];refine#[_,_,zZ,C5 λc a=>?_,?_,λc a=>?_,λG I=>q G (D.trans I)]
 .simp at a;obtain⟨d,j,e⟩:=a;have:=b d j;lia
 .rw[ja];simp;lia
 .simp only[List.mem_map]at a;obtain⟨d,j,rfl⟩:=a;have z:∀d:Fin 10,48+d.1∈xC.cps.toList:=by decide+kernel
  exact z #[d,b d j]
def OI(F:Fun K "read_row" "read_row" Br f fd)(G:cE P w K mg base "is_name" 3 [sS] gw)(I:cE P w K mg base xB 3 [sS] d7)(J:mg "tuple"=none)(L:mg "int"=none):FnOk P w K mg base b9 5 f fd [sF] fM:=by
 refine F.ok uV (λM A m s H vs Q E v h=>?_)
 obtain⟨x,t,rfl,ok,O,y,a,q⟩:=h;refine#[_,(bQ (cj (i:=1) uV.nd zZ Z' (gJ qb PySem.F.slot_str_partition PySem.F.type_str_partition QK (pv 0) (bK eV bJ))) (bQ (dq (PW.pt (zz (l6 (lC (cC G v.m zZ (bK (ck dA (pv 1) bO (λ_ _=>rfl)) bJ)))) (yS (l6 (lC (cC I v.m zZ (bK (ck dA (pv 1) bO (λ_ _=>rfl)) bJ))))))) (bS mz) dD) (bS (cr (kh (cf (bI (ck dA (pv 1) bO (λ_ _=>rfl)) (bI (f9 oy zZ J lR (bK (gK (CompSc.to (N:=[sF,"halves"]) (osc:=bT Br) (vs:=[wZ]) {}) zZ zZ (G4 (Gm (ck dA (pv 1) bO (λ_ _=>rfl)) bO bO)) (λ_ _ _ _=>fG) (λ_ _ _ _=>(f9 OT zZ L boot_int (bK (pv 0) bJ)))) bJ)) ce zZ) zZ))))))),?_];have rl:=KI (t:=t) ok y;have T:=Pw (t:=t) ok;refine#[_,zZ,zZ,nW x t,_,zZ,zZ,by decide,small (),λb n=>?_];rw[show Str.ofString ":"=(#[#v[58]]:Str) by decide+kernel,T];have z:=bV n (.tup [.str x,.str #[#v[58]],.str (gV t)]);have o:bC H b (.tup [.str x,.str #[#v[58]],.str (gV t)]) b=some (.tup [.str x,.str #[#v[58]],.str (gV t)]):=bG;generalize bC H b (.tup [.str x,.str #[#v[58]],.str (gV t)])=H1 at z o|-;refine#[_,zZ,b,_,_,_,zZ,zZ,S2 o,zZ,x,zZ,ok,λH2 B=>#[_,zZ,dv ?_]];have e:=B _ _ o;refine#[_,zZ,b,_,_,_,zZ,zZ,S2 e,zZ,t,zZ,O,y,a,λH3 C=>#[_,zZ,dv ?_]];have g:=C _ _ e;have ll:(gV t).length=2 * t.length:=by rw[ja,oO,yd]
 have U:(lG ((gV t).cps.toList.drop (1:Int).toNat))=t.map λd=>48+d:=by rw[oO];exact tj t
 refine#[_,zZ,b,_,_,_,zZ,zZ,S2 g,zZ,_,zZ,b,_,_,_,zZ,zZ,S2 g,zZ,gV t,1,zZ,zZ,zZ,by decide,small (),?_];rw[U];have k:(#[(t.map λd=>48+d).toArray]:Str).cps.toList=t.map λd=>48+d:=by simp
 refine#[_,zZ,C5 λc j=>?_,Ho (f:=λc=>nv (c-48)) (by rw[ja,k,bF];exact small ()) (λc Q j q=>?_) (λl Y=>?_)]
 .rw[k]at j;obtain⟨d,u,rfl⟩:=b8.mp j;have:=a d u;lia
 .rw[k]at j;obtain⟨d,u,rfl⟩:=b8.mp j;refine#[_,zZ,d,zZ,a d u,?_];rw[show 48+d-48=d by lia]at q;exact q
 .have em:(#[(t.map λd=>48+d).toArray]:Str).cps.toList.map (λc=>nv (c-48))=t.map nv:=by
   rw[k,eJ];refine nH λd _=>?_;show nv (48+d-48)=nv d;rw[show 48+d-48=d by lia]
  rw[em];refine#[l,_,zZ,.inl #[S1 bG,λr nr=>#[by show 2<=sizeLine;decide,λp D=>?_]]];exact q p r _ ((((z.trans B).trans C).trans (bV Y _)).trans ((bV nr _).trans (bV D _))) bG (bV D _ _ _ bG)
inductive fQ(b:List V)(H:Hp)(Q:VK)(a:XK):Prop|mk:∀i:Int,b=[.int i]->Q (.bl true) H->fQ b H Q a
inductive gF(b:List V)(H:Hp)(Q:VK)(a:XK):Prop|mk:∀r k:Nat,b=[nv r,nv k]->r<k->Q (.bl true) H->gF b H Q a
inductive gE(c:List V)(H:Hp)(Q:VK)(b:XK):Prop|mk:∀(a:Ad) (t:bB) (k:Nat),c=[.ref a,nv k]->H a=some (.tup (t.map nv))->t.length=k->k<=5->(∀x∈t,x<k)->(∀d,Same H d->Q (.bl true) d)->gE c H Q b
inductive iv(b:List V)(H:Hp)(Q:VK)(a:XK):Prop|mk:∀(m:Ad) (d:LN) (n:Nat),b=[.ref m]->Mach H m d n->(∀c,Same H c->Q .non c)->iv b H Q a
def PU(F:Fun K "is_whole" "is_whole" Fi f fd)(b:mg "isinstance"=none)(c:mg "int"=none)(d:mg "bool"=none):FnOk P w K mg base b9 1 f fd [sY] fQ:=by
 refine F.ok Qw (λe A a s H g Q E j h=>?_)
 obtain⟨i,rfl,q⟩:=h;refine#[_,(bS (cr (uw (c9 rB zZ b ry (cf (bI (pv 0) (bI (ug zZ c boot_int) ce zZ) zZ))) (uf (Py (c9 rB zZ b ry (cf (bI (pv 0) (bI (ug zZ d boot_bool) ce zZ) zZ)))))))),?_];refine#[_,zZ,_,_,_,_,zZ,.int i,QJ,_,zZ,eK ?_];exact#[_,zZ,_,_,_,_,zZ,.int i,LJ,_,zZ,q]
def Sm(F:Fun K "is_room" "is_room" FL f fd)(b:cE P w K mg base "is_whole" 1 [sY] fQ):FnOk P w K mg base b9 3 f fd [sY,sC] gF:=by
 refine F.ok Qj (λc A a s H e Q E d h=>?_)
 obtain⟨r,k,rfl,lt,q⟩:=h;refine#[_,(bS (cr (uw (cC b d.m zZ (bK (pv 0) bJ)) (uf (Kj ti FU bO (pv 0) (pv 1)))))),?_];refine#[_,zZ,(r:Int),zZ,_,zZ,eK #[_,zZ,_,_,zZ,zZ,_,zZ,yP () #[_,zZ,_,_,zZ,zZ,?_]]]
 try dsimp only
 rw[cG (show(r:Int)<(k:Int) by lia)];exact q
def RZ(F:Fun K "is_turn" "is_turn" Bi f fd)(d:cE P w K mg base "is_room" 3 [sY,sC] gF)(g:mg "isinstance"=none)(i:mg "tuple"=none)(j:mg "len"=none)(l:mg "all"=none):FnOk P w K mg base b9 5 f fd [sY,sC] gE:=by
 refine F.ok N3 (λm A c s H y Q E n h=>?_)
 obtain⟨a,t,k,rfl,b,lt,z,lk,q⟩:=h;refine#[_,(bQ (dq (PW.pt (zz (l6 (lC (c9 rB zZ g ry (cf (bI (pv 0) (bI (ug zZ i lR) ce zZ) zZ))))) (yS (dQ CW (c9 fv zZ j eU (bK (pv 0) bJ)) (pv 1) (dy _))))) (bS (cr sj)) dD) (bS (cr (c9 (D0 zZ) zZ l boot_all (bK (gK (CompSc.to (N:=[sY,sC]) (osc:=bT Bi) (vs:=[tI]) {}) zZ zZ (pV (pv 0)) (λ_ _ _ _=>fG) (λ_ _ _ _=>(cC d n.m zZ (cf (bI (pv 0) (bI (pv 2) ce zZ) zZ))))) bJ))))),?_];refine#[_,zZ,_,_,_,_,zZ,.tup b,Dy,_,zZ,dv ?_];refine#[_,zZ,a,_,zZ,.inr (S2 b),_,zZ,zZ,_,zZ,zC (by rw[bF,lt]) ?_];refine#[_,zZ,a,zZ,#[_,S2 b],uh (f:=λ_=> .bl true) (small (by rw[bF];lia)) (S2 b) (λv Q o q=>?_) (λp r=>?_)]
 .obtain⟨x,u,rfl⟩:=b8.mp o;exact#[_,zZ,_,zZ,x,k,zZ,lk x u,q]
 .have e:(t.map nv).map (λ_=>V.bl true)=(t.map λ_=>true).map V.bl:=by rw[eJ,eJ];rfl
  try dsimp only
  rw[e];refine#[p,_,zZ,S1 bG,?_];rw[show(t.map λ_=>true).all id=true by rw[xh,oA];exact λ_ _=>rfl];exact q _ (bV r _)
def Sa(F:Fun K "check" "check" Fq f fd)(J:cE P w K mg base "is_turn" 5 [sY,sC] gE)(x:mg "isinstance"=none)(y:mg "tuple"=none)(e:mg "len"=none){L N:Tok}(O:mg "MOST_LETTERS"=some (.int 4 L))(T:mg "MOST_ROOMS"=some (.int 5 N)):FnOk P w K mg base b9 7 f fd [sY] iv:=by
 refine F.ok vA (λU A j s H vs Q E Y h=>?_)
 obtain⟨m,a,n,rfl,M,q⟩:=h;refine#[_,(bQ (dq (l6 (lC (c9 rB zZ x ry (cf (bI (pv 0) (bI (ug zZ y lR) ce zZ) zZ))))) (bS mz) dD) (bQ (dq (l6 (Jh ti ti bO (c9 fv zZ e eU (bK (pv 0) bJ)) (zX (v:= .int 4) zZ O #[_,zZ]))) (bS mz) dD) (bQ (cj (i:=1) vA.nd zZ Z' (ck dA (pv 0) bO (λ_ _=>rfl))) (bQ (dq (PW.pt (zz (l6 (lC (c9 rB zZ x ry (cf (bI (pv 1) (bI (ug zZ y lR) ce zZ) zZ))))) (yS (l6 (Jh ti ti bO (c9 fv zZ e eU (bK (pv 1) bJ)) (zX (v:= .int 5) zZ T #[_,zZ])))))) (bS mz) dD) (bS (fY fF zZ (pV (pv 0)) (eR (i:=2) vA.nd zZ Z') (bS (dq (l6 (lC (cC J Y.m zZ (cf (bI (pv 2) (bI (c9 fv zZ e eU (bK (pv 1) bJ)) ce zZ) zZ))))) (bS mz) dD)))))))),?_];obtain⟨B,c,h2,h3⟩:=M.refs;have s1:=M.some1;have few:=M.few;have n1:=M.n1;have n5:=M.n5;have C:(B.map V.ref).length=a.length:=by rw[bF,h2]
 refine#[_,zZ,_,_,_,_,zZ,.tup c,Dy,_,zZ,dv ?_];refine#[_,zZ,m,_,zZ,.inr (S2 c),_,_,zZ,zZ,_,zZ,yP (by rw[C];lia) #[_,_,zZ,zZ,_,zZ,zC (by rw[C];lia) ?_]];obtain⟨_,k,b1,b2,b3,t,b5,b6⟩:=M.at (l:=0) ();refine#[_,zZ,m,_,_,_,zZ,zZ,S2 b1,b3,?_];have u:((a.getD 0 []).map nv).length=n:=by rw[bF,b5]
 refine#[_,zZ,_,_,_,_,zZ,.tup t,Dy,_,zZ,dv ?_];refine#[_,zZ,k,_,zZ,.inr (S2 t),_,_,zZ,zZ,_,zZ,yP (by rw[u];lia) #[_,_,zZ,zZ,_,zZ,zC (by rw[u];lia) ?_]];refine#[_,zZ,m,zZ,#[_,S2 c],R0 (xs:=B.map V.ref) (λ_ d b=>Same H b/\∃o,d=[some (.ref m),some (.ref k),o]) #[Same.refl H,_,zZ] (λi d b _ p=>?_) (λi v d b D p=>?_) (λd b p=>?_)]
 .obtain⟨g,_⟩:=p;exact S2 (g _ _ c)
 .obtain⟨g,o,rfl⟩:=p;rw[bZ]at D;obtain⟨r,G,rfl⟩:=dm.mp D;have I:i<a.length:=by have:=(bU.mp G).1;lia
  have z:=h3 i r a[i] G (bE I);obtain⟨e1,e2⟩:=M.each a[i] (gh I);refine#[_,zZ,_,zZ,k,_,zZ,.inr (S2 (g _ _ t)),?_];rw[u];refine#[r,a[i],n,zZ,g _ _ z,e1,n5,e2,λH2 g2=>#[_,zZ,dv #[g.trans g2,_,zZ]]]
 .obtain⟨g,_⟩:=p;exact q b g
def GU{a:Ss}{b:LN}{i:Nat}{x:Str}{t:bB}(c:a[i]?=some x)(ht:b[i]?=some t):(iq a b)[i]?=some (nW x t):=by
 unfold iq;rw[FQ,c,ht]
def Bw{b:Ss}{a:LN}(c:b.length=a.length):(iq b a).length=a.length:=by
 unfold iq;rw[AQ,c,w6]
theorem qj:∀{l:Ss} {k:Nat},(∀y∈l,y.length<=k)->(l.map (·.length)).sum<=l.length * k
 | [],_,_=>iW _
 |y::l,k,h=>by
  rw[gv,List.sum_cons,iL,Nat.succ_mul];have:=h y (cR ..);have:=qj (l:=l) (k:=k) λy a=>h y (dS _ a);lia
def Ie{a:Ss}{ts:LN}(h:∀x∈a,NameOk x)(ht:∀t∈ts,t.length<=5):∀y∈iq a ts,y.length<=19:=λy b=>by
 unfold iq at b;obtain⟨i,c,e⟩:=Bz b;rw[List.getElem_zipWith]at e;rw[<-e];exact KI (h _ (gh _)) (ht _ (gh _))
def Ox{a:Ss}{b:LN}{i:Nat}{x:Str}{t:bB}(c:a[i]?=some x)(ht:b[i]?=some t):(iq a b).take (i+1)=(iq a b).take i++[nW x t]:=by
 rw[gQ,GU c ht];rfl
def Hl:V->V
 |.int i=> .str #[#v[32,48+i.toNat]]
 |v=>v
def HF{K:S4}:PySem.W.kitOne K (.type "str") (.type "str")=some true:=by rfl
structure ReadAt(H:Hp)(p:Ad)(xs:Ss)(ts:LN)(n:Nat):Prop where
 here:∃a b,H p=some (.tup [.ref a,.ref b])/\H a=some (.tup (xs.map V.str))/\Mach H b ts n
structure Fit(xs:Ss)(ts:LN)(n:Nat):Prop where
 el:xs.length=ts.length
 nd:xs.Nodup
 ok:∀x∈xs,NameOk x
 some1:1<=ts.length
 few:ts.length<=4
 n1:1<=n
 n5:n<=5
 each:∀t∈ts,t.length=n/\∀x∈t,x<n
def Qz{c:Ss}(h:c.Nodup):uy c=c:=by
 have go:∀(b a:Ss),(a++b).Nodup->b.foldl nQ a=a++b:=by
  intro b
  induction b with
  |nil=>intro a _;simp
  | cons y b d=>
   intro a nd;have e:nQ a y=a++[y]:=by
    unfold nQ;rw[wA λz=>(yq.mp nd).2.2 y z y (cR ..) zZ]
   rw[EE,e,d _ (by rw[dR];exact nd),dR];rfl
 exact go c [] h
def Rf{b:Ss}{a:LN}{n:Nat}(h:Fit b a n):(sf b a).length<=80:=by
 unfold sf;rw[eq_of_beq (D2 _ _)];have z:=StrLaws.join_length_le #[#v[10]] (iq b a);have y:=qj (Ie (ts:=a) h.ok λt ht=>by rw[(h.each t ht).1];exact h.n5);have l:=Bw h.el;have f:=h.few;have e:(#[#v[10]]:Str).length=1:=rfl;rw[e]at z;lia
inductive ku(e:List V)(H:Hp)(Q:VK)(a:XK):Prop|mk:∀(b:Ss) (c:LN) (n:Nat),e=[.str (sf b c)]->Fit b c n->(∀p d,Same H d->ReadAt d p b c n->Q (.ref p) d)->ku e H Q a
def Lu(F:Fun K "read" "read" qh f fd)(rP:cE P w K mg base "read_row" 5 [sF] fM)(vC:cE P w K mg base "check" 7 [sY] iv)(jE:mg "isinstance"=none)(jU:mg "str"=none)(jD:mg "tuple"=none)(uX:mg "set"=none)(jA:mg "len"=none):FnOk P w K mg base b9 9 f fd [sS] ku:=by
 refine F.ok vB (λau A ai s H vs Q E hr h=>?_)
 obtain⟨a,l,n,rfl,b,q⟩:=h;refine#[_,(bQ (dq (l6 (lC (c9 rB zZ jE ry (cf (bI (pv 0) (bI (ug zZ jU oW) ce zZ) zZ))))) (bS mz) dD) (bQ (u6 (CompSc.to (N:=[sS,"rows",sO,sA]) (osc:=bT qh) (vs:=[sF]) {}) zZ zZ vB.nd (j:=1) zZ zZ (fH (gJ qb PySem.F.slot_str_split PySem.F.type_str_split K9 (pv 0) (bK eV bJ))) (λ_ _ _ _=>fG) (λ_ _ _ _=>(cC rP hr.m zZ (bK (pv 0) bJ)))) (bQ (cj (i:=2) vB.nd zZ Z' (f9 oy zZ jD lR (bK (A5 (CompSc.to (N:=[sS,"rows",sO,sA]) (osc:=bT qh) (vs:=[wT,wJ]) {}) zZ (fH (pv 1)) (GL (CompSc.to (N:=[sS,"rows",sO,sA]) (osc:=bT qh) (vs:=[wT,wJ]) {}) zZ zZ zZ) (λ_ _ _ _=>fG) (λ_ _ _ _=>(pv 0))) bJ))) (bQ (dq (dQ CW (c9 NL zZ jA eU (bK (f9 (LZ zZ) zZ uX PyProof.Rows.boot_set (bK (pv 2) bJ)) bJ)) (c9 fv zZ jA eU (bK (pv 2) bJ)) (dy _)) (bS mz) dD) (bQ (cj (i:=3) vB.nd zZ Z' (f9 oy zZ jD lR (bK (A5 (CompSc.to (N:=[sS,"rows",sO,sA]) (osc:=bT qh) (vs:=[wT,wJ]) {}) zZ (fH (pv 1)) (GL (CompSc.to (N:=[sS,"rows",sO,sA]) (osc:=bT qh) (vs:=[wT,wJ]) {}) zZ zZ zZ) (λ_ _ _ _=>fG) (λ_ _ _ _=>(pv 1))) bJ))) (bQ (i3 (cC vC hr.m zZ (bK (pv 3) bJ))) (bS (cr (kh (cf (bI (pv 2) (bI (pv 3) ce zZ) zZ))))))))))),?_];have aj:Str.ofString "\n"=(#[#v[10]]:Str):=by decide+kernel
 have few:=b.few;have el:=b.el;have C:=b.some1;have n5:=b.n5;have tl:=Rf b;have lr:=Bw el;refine#[_,zZ,_,_,_,_,zZ,.str _,HF,_,zZ,dv ?_];refine#[_,zZ,zZ,sf a l,_,zZ,zZ,by decide+kernel,small (),λsl ak=>?_];rw[aj,Lr el C b.ok];have ks:=bV ak (.lst ((iq a l).map V.str));have es:bC H sl (.lst ((iq a l).map V.str)) sl=some (.lst ((iq a l).map V.str)):=bG;generalize bC H sl (.lst ((iq a l).map V.str))=H1 at ks es|-;refine#[sl,zZ,#[_,S1 es],j7 (xs:=(iq a l).map V.str) (λi o u=>Same H1 u/\∃k c:As,o=k.map V.ref/\k.length=i/\c.length=i/\∀(j:Nat) p r x t,k[j]?=some p->c[j]?=some r->a[j]?=some x->l[j]?=some t->u p=some (.tup [.str x,.ref r])/\u r=some (.tup (t.map nv))) (small (by rw[bF];lia)) #[Same.refl _,[],[],zZ,zZ,zZ,(λj p r x t e=>wC e (by simp))] (λi o u hi p=>?_) (λi v o u Y p=>?_) (λo H2 p rl al=>?_)]
 .obtain⟨g,k,c,rfl,l1,_,_⟩:=p;exact#[S1 (g _ _ es),by rw[bF,l1];exact bR _]
 .obtain⟨g,k,c,rfl,l1,l2,all⟩:=p;rw[bZ]at Y;obtain⟨y,ey,rfl⟩:=dm.mp Y;have il:i<l.length:=by have:=(bU.mp ey).1;lia
  have ix:i<a.length:=by lia
  rw[GU (bE ix) (bE il)]at ey;cases ey;obtain⟨e1,e2⟩:=b.each l[i] (gh il);have n1:=b.n1;refine#[iI,i5 #[_,zZ,a[i],l[i],zZ,b.ok _ (gh ix),(),(),λd hd=>by have:=e2 d hd;lia,λp r H3 g3 ep er=>#[g.trans g3,k++[p],c++[r],by simp,by simp[l1],by simp[l2],λj p' r' x' t' z B J L=>?_]]]
  rcases vd j i with hj|hj
  .rw[dN ()]at z B;obtain⟨z1,z2⟩:=all j p' r' x' t' z B J L;exact#[g3 _ _ z1,g3 _ _ z2]
  .have ji:j=i:=by
    have:=(bU.mp z).1;rw[cI]at this;have:j<k.length+1:=this
    lia
   subst ji;rw[dO (),l1,mO]at z;rw[dO (),l2,mO]at B;rw[bE ix]at J;rw[bE il]at L;cases z;cases B;cases J;cases L;exact#[ep,er]
 obtain⟨g2,k,c,rfl,l1,l2,all⟩:=p;rw[bF,lr]at l1 l2;have ab:=bV al (.lst (k.map V.ref));have M:bC H2 rl (.lst (k.map V.ref)) rl=some (.lst (k.map V.ref)):=bG;have af:=(ks.trans g2).trans ab;have m:∀(j:Nat) p r x t,k[j]?=some p->c[j]?=some r->a[j]?=some x->l[j]?=some t->bC H2 rl (.lst (k.map V.ref)) p=some (.tup [.str x,.ref r])/\bC H2 rl (.lst (k.map V.ref)) r=some (.tup (t.map nv)):=λj p r x t z B J L=>#[ab _ _ (all j p r x t z B J L).1,ab _ _ (all j p r x t z B J L).2];generalize bC H2 rl (.lst (k.map V.ref))=H3 at M af m|-;refine#[_,zZ,rl,zZ,#[_,S1 M],j7 (xs:=k.map V.ref) (λi o u=>u=H3/\o=(a.take i).map V.str) (small (by rw[bF];lia)) #[zZ,zZ] (λi o u hi p=>?_) (λi v o u Y p=>?_) (λo H4 p cl am=>?_)]
 .obtain⟨rfl,rfl⟩:=p;exact#[S1 M,by rw[bF,fh];exact Ej ..]
 .obtain⟨rfl,rfl⟩:=p;rw[bZ]at Y;obtain⟨pa,D,rfl⟩:=dm.mp Y;have ip:=(bU.mp D).1;have il:i<l.length:=by lia
  have ix:i<a.length:=by lia
  have ir:i<c.length:=by lia
  obtain⟨z1,z2⟩:=m i pa c[i] a[i] l[i] D (bE ir) (bE ix) (bE il);refine#[pa,_,zZ,S2 z1,zZ,_,_,zZ,_,_,zZ,zZ,DD,i5 #[_,zZ,zZ,?_]];rw[gQ,bE ix,dC];rfl
 obtain⟨rfl,rfl⟩:=p;rw[bF,l1,<-el,fZ];have an:=bV am (.lst (a.map V.str));refine#[cl,_,zZ,.inl #[S1 bG,λnm ao=>?_]];have ag:=an.trans (bV ao (.tup (a.map V.str)));have O:bC (bC H4 cl (.lst (a.map V.str))) nm (.tup (a.map V.str)) nm=some (.tup (a.map V.str)):=bG;generalize bC (bC H4 cl (.lst (a.map V.str))) nm (.tup (a.map V.str))=H5 at ag O|-;refine#[_,zZ,nm,a,zZ,S2 O,(),λsa ap=>?_];have ae:=bV ap (pC sa a);refine#[sa,a,zZ,bG,_,zZ,nm,_,zZ,.inr (S2 (ae _ _ O)),zZ,_,zZ,zC (by rw[Qz b.nd,bF]) ?_];have aa:=ae _ _ O;have T:=ag.trans ae;have G:=T _ _ M;have I:∀(j:Nat) p r x t,k[j]?=some p->c[j]?=some r->a[j]?=some x->l[j]?=some t->bC H5 sa (pC sa a) p=some (.tup [.str x,.ref r])/\bC H5 sa (pC sa a) r=some (.tup (t.map nv)):=λj p r x t z B J L=>#[T _ _ (m j p r x t z B J L).1,T _ _ (m j p r x t z B J L).2];have ah:=af.trans T;clear all m;generalize bC H5 sa (pC sa a)=H6 at aa G I ah|-;refine#[_,zZ,rl,zZ,#[_,S1 G],j7 (xs:=k.map V.ref) (λi o u=>u=H6/\o=(c.take i).map V.ref) (small (by rw[bF];lia)) #[zZ,zZ] (λi o u hi p=>?_) (λi v o u Y p=>?_) (λo H7 p dl aq=>?_)]
 .obtain⟨rfl,rfl⟩:=p;exact#[S1 G,by rw[bF,fh];exact Ej ..]
 .obtain⟨rfl,rfl⟩:=p;rw[bZ]at Y;obtain⟨pa,D,rfl⟩:=dm.mp Y;have ip:=(bU.mp D).1;have il:i<l.length:=by lia
  have ix:i<a.length:=by lia
  have ir:i<c.length:=by lia
  obtain⟨z1,z2⟩:=I i pa c[i] a[i] l[i] D (bE ir) (bE ix) (bE il);refine#[pa,_,zZ,S2 z1,zZ,_,_,zZ,_,_,zZ,zZ,DD,i5 #[_,zZ,zZ,?_]];rw[gQ,bE ir,dC];rfl
 obtain⟨rfl,rfl⟩:=p;rw[bF,l1,<-l2,fZ];have ar:=bV aq (.lst (c.map V.ref));refine#[dl,_,zZ,.inl #[S1 bG,λmm as=>?_]];have U:=ar.trans (bV as (.tup (c.map V.ref)));have MM:Mach (bC (bC H7 dl (.lst (c.map V.ref))) mm (.tup (c.map V.ref))) mm l n:=#[#[c,bG,l2,λi r t z B=>by
  have il:=(bU.mp B).1;exact U _ _ (I i k[i] r a[i] t (bE ()) z (bE ()) B).2],C,few,b.n1,n5,b.each]
 generalize bC (bC H7 dl (.lst (c.map V.ref))) mm (.tup (c.map V.ref))=H8 at U MM|-;refine#[_,zZ,mm,l,n,zZ,MM,λH9 g9=>?_];refine#[_,zZ,_,zZ,by show 2<=sizeLine;decide,λp np=>q p _ (((ah.trans U).trans g9).trans (bV np _)) #[#[nm,mm,bG,bV np _ _ _ (g9 _ _ (U _ _ aa)),(MM.same g9).same (bV np _)]]]
inductive nL(K:S4)(d:List V)(H:Hp)(Q:VK)(a:XK):Prop|mk:∀(m b:Ad) (c:LN) (n r:Nat) (word:bB),d=[.ref m,nv r,.ref b]->Mach H m c n->r<n->SqL K H b (word.map nv)->(∀l∈word,l<c.length)->Q (nv (di c r word)) H->nL K d H Q a
def OV(F:Fun K "led" "led" u0 f fd):FnOk P w K mg base b9 1 f fd [sA,tI,sW] (nL K):=by
 refine F.ok vV (λu A g s H D Q E G h=>?_)
 obtain⟨m,b,k,n,r,word,rfl,M,j,t,hw,q⟩:=h;refine#[_,(bQ (fY fF zZ (fH (pv 2)) (eR (i:=3) vV.nd zZ Z') (bS (cj (i:=1) vV.nd zZ Z' (ck dA (ck dA (pv 0) (pv 3) (λ_ _=>rfl)) (pv 1) (λ_ _=>rfl))))) (bS (cr (pv 1)))),?_];refine#[_,zZ,b,zZ,#[_,t],oo (xs:=word.map nv) (λi c d=>d=H/\∃o,c=[some (.ref m),some (nv (di k r (word.take i))),some (.ref b),o]) #[zZ,none,zZ] (λi c d _ p=>by obtain⟨rfl,_⟩:=p;exact t) (λi x c d a p=>?_) (λc d p=>?_)]
 .obtain⟨rfl,o,rfl⟩:=p;rw[bZ]at a;cases e:word[i]? with
  |none=>rw[e]at a;cases a
  | some l=>
   rw[e]at a;cases a;obtain⟨I,v,y,J,z,B,C,L⟩:=M.at (hw l (cb e));refine#[_,zZ,_,zZ,m,_,_,_,zZ,zZ,S2 y,z,_,zZ,v,_,_,_,zZ,zZ,S2 B,q0 ?_,zZ,some (nv l),?_]
   .rw[C];exact mS M _ _ j λx a=>hw x (qk a)
   .rw[gQ,e];show _=[some (.ref m),some (nv (di k r (word.take i++[l]))),some (.ref b),some (nv l)];rw[Ki];rfl
 .obtain⟨rfl,o,rfl⟩:=p;refine#[_,zZ,?_];rw[bF,fZ];exact q
def pG(b:LN)(a word:bB):bB:=a.map λr=>di b r word
def P5{n:Nat}{a:bB}(c:n<=5)(h:∀x∈a,x<n):eZ a=(List.range n).filter λi=>a.contains i:=by
 unfold eZ;have e:List.range 5=List.range n++(List.range (5-n)).map (n+ ·):=by rw[<-List.range_add];congr 1;lia
 rw[e,yV];have no:((List.range (5-n)).map (n+ ·)).filter (λi=>a.contains i)=[]:=by
  rw[List.filter_eq_nil_iff];intro y b z;obtain⟨k,_,rfl⟩:=b8.mp b;have:=h _ (gR.mp z);lia
 rw[no,i']
def BA{a:bB}{x:Nat}(h:x∈eZ a):x∈a:=gR.mp (cQ.mp h).2
def Gv{a:bB}{x:Nat}(h:x∈a)(b:x<5):x∈eZ a:=cQ.mpr #[fb.mpr b,gR.mpr h]
def OL(a:bB):(eZ a).length<=5:=cP (jo _ _) (by simp)
def zY(i:Nat)(a:bB):vb (nv i) (a.map nv)=a.contains i:=by
 unfold vb;rw[zg]
 induction a with
 |nil=>rfl
 | cons x a b=>
  rw[v4,List.contains_cons,b]
  congr 1
  show jj (.int (x:Int)) (.int (i:Int))=(i==x);by_cases h:x=i
  .subst h;show((x:Int)==(x:Int))=(x==x);simp
  .have c: ¬(x:Int)=(i:Int):=by lia
   have d: ¬i=x:=by lia
   show((x:Int)==(i:Int))=(i==x);rw[o0.mpr c,o0.mpr d]
def NS(a:bB):(a.map nv).all iY=true:=by
 rw[xh,oA];intro x _;rfl
inductive cT(K:S4)(e:List V)(H:Hp)(Q:VK)(c:XK):Prop|mk:∀(m p b:Ad) (d:LN) (n:Nat) (a word:bB),e=[.ref m,.ref p,.ref b]->Mach H m d n->SqT K H p (a.map nv)->a.length<=5->(∀r∈a,r<n)->SqL K H b (word.map nv)->(∀l∈word,l<d.length)->xT H ((eZ (pG d a word)).map nv) Q->cT K e H Q c
def Qx(F:Fun K tW tW AK f fd)(y:cE P w K mg base "led" 1 [sA,tI,sW] (nL K))(z:mg "tuple"=none)(B:mg "sorted"=none)(C:mg "set"=none):FnOk P w K mg base b9 3 f fd [sA,sC,sW] (cT K):=by
 refine F.ok ND (λD A j s H vs Q E G h=>?_)
 obtain⟨m,p,b,d,n,c,word,rfl,M,u,I,g,J,hw,q⟩:=h;refine#[_,(bS (cr (f9 oy zZ z lR (bK (c9 (Po zZ) zZ B boot_sorted (bK (f9 (Nc zZ) zZ C PyProof.Rows.boot_set (bK (gK (CompSc.to (N:=[sA,sC,sW]) (osc:=bT AK) (vs:=[tI]) {}) zZ zZ (pV (pv 1)) (λ_ _ _ _=>fG) (λ_ _ _ _=>(cC y G.m zZ (cf (bI (pv 1) (bI (pv 0) (bI (pv 3) ce zZ) zZ) zZ))))) bJ)) bJ)) bJ)))),?_];have n5:=M.n5;refine#[_,zZ,p,zZ,#[_,u],uh (f:=λv=>match v with|.int i=>nv (di d i.toNat word)|v=>v) (by rw[bF];exact small ()) u (λv Q L q=>?_) (λl O=>?_)]
 .obtain⟨r,k,rfl⟩:=b8.mp L;exact#[_,zZ,_,zZ,_,zZ,m,b,d,n,r,word,zZ,M,g r k,J,hw,q]
 .have e:(c.map nv).map (λv=>match v with|.int i=>nv (di d i.toNat word)|v=>v)=(pG d c word).map nv:=by
   unfold pG;rw[eJ,eJ];rfl
  try dsimp only
  rw[e];have T:=bV O (.lst ((pG d c word).map nv));refine#[l,_,zZ,S1 bG,λx U=>?_,λa Y=>#[a,_,zZ,bG,λo ho=>?_]]
  .obtain⟨r,k,rfl⟩:=b8.mp U;have:=mS M word r (g r k) hw;lia
  .try dsimp only
   rw[K7];exact#[o,_,zZ,.inl #[S1 bG,λt ht=>q t _ (T.trans ((bV Y _).trans ((bV ho _).trans (bV ht _)))) bG]]
inductive c7(P:Pg)(w:World)(K:S4)(mg:SV)(base:Heap)(f:List V)(H:Hp)(Q:VK)(c:XK):Prop|mk:∀(a st:Ad) (fd:Fd) (h:Ss) (d:bB) (L:Nat) (U:LN) (g:bB->Nat->List Nat),f=[.ref a,nv L,.ref st,.non]->H a=some (.tup (d.map nv))->H st=some (iO st fd)->d∈U->((∀x∈U,∀l,l<L->g x l∈U))->U.length<=4000->L<=4000->FnOk P w K mg base b9 5 st fd h (dL (Same H) U L g)->Binds K fd h []->(∀D i j e,Same H e->WordsAt e D i j->(∀b∈D::j,H b=none)->Told g L d i->Q (.ref D) e)->c7 P w K mg base f H Q c
def NR(F:Fun K wV wV Du f fd)(b:mg "len"=none):FnOk P w K mg base b9 1 f fd ["things",wR] dW:=by
 refine F.ok Mc (λc A a s H e Q E g h=>?_)
 obtain⟨d,rfl,q⟩:=h;refine#[_,(bS (dq (PW.pt (An (dQ Kd (pv 1) vp (dy _)) (yF (dQ Cn (c9 O2 zZ b eU (bK (pv 0) bJ)) (pv 1) (dy _))))) (bS mz) dD)),?_];exact#[_,zZ,zZ,_,zZ,q]
def NI{e m:Vl}(F:DefAt K tK pD f fd e m)(l:cE P w K mg base wV 1 ["things",wR] dW)(n:mg "range"=none):FnOk P w K mg base b9 8 f fd ["start","letters",wK,wR] (c7 P w K mg base):=by
 refine F.fnOk kH (λo H Q E h=>?_) (λA j s H o Q E h d=>?_)
 .obtain⟨a,st,fd,p,r,L,U,g,rfl,_⟩:=h;rfl
 obtain⟨a,st,z,p,r,L,U,g,rfl,t,k,u,v,few,c,x,y,q⟩:=h;have b:=ik d;exact#[_,M3 d.m t k u v few c x y q,(bQ (cj (i:=4) kH.nd zZ Z' (QD b (pv 0) (gT bJ))) (bQ (i3 (cC l d.m zZ (cf (bI (pv 4) (bI (pv 3) ce zZ) zZ)))) (bQ (cj (i:=5) kH.nd zZ Z' (gT (bK (pv 0) bJ))) (bQ (IH fF (F7 (pv 5) (λ_=>rfl)) (bQ (cj (i:=6) kH.nd zZ Z' (gT bJ)) (bQ (fY fF zZ (fH (pv 5)) (eR (i:=7) kH.nd zZ Z') (bS (fY fF zZ (je zZ n (bK (pv 1) bJ)) (eR (i:=8) kH.nd zZ Z') (bQ (cj (i:=9) kH.nd zZ Z' (Qi 2 (pv 2) (cf (bI (pv 7) (bI (pv 8) ce zZ) zZ)))) (bS (dq (sn (Db b (pv 9) (pv 4))) (bQ (xQ b (pv 4) (pv 9) (cu GB (oY b (pv 4) (pv 7) (λ_ _=>rfl)) (gT (bK (pv 8) bJ))) zZ) (bQ (i3 (cC l d.m zZ (cf (bI (pv 4) (bI (pv 3) ce zZ) zZ)))) (bS (i3 (gJ iE lM kS lL (pv 6) (bK (pv 9) bJ)))))) dD)))))) (bS (cj (i:=5) kH.nd zZ Z' (pv 6)))))) (bS (cr (pv 4)))))))]
def eY:List (Str×Pos×Ad):=[(sD,(#[78,40,78,93]:Pos),175),(sE,(#[152,61,152,110]:Pos),279)]
def Mr:(eY.map (·.2.2)).Nodup:=by decide
def Tabs(H:Hp):Prop:=∀q∈eY,TabOk q.1 q.2.1 H q.2.2
def _root_.L2.TabOk.most{a:Str}{c:Pos}{H f:Hp}{T:Ad}(t:TabOk a c H T)(g:∀b u,(∀d,u≠HO.dT d)->(∀h,u≠HO.lst h)->H b=some u->f b=some u):TabOk a c f T:=by
 rcases t with t|⟨i,j,k⟩
 .exact .inl (g _ _ (λ_ e=>nomatch e) (λ_ e=>nomatch e) t)
 .exact .inr #[i,g _ _ (λ_ e=>nomatch e) (λ_ e=>nomatch e) j,g _ _ (λ_ e=>nomatch e) (λ_ e=>nomatch e) k]
def Tabs.same{H a:Hp}(t:Tabs H)(g:Same H a):Tabs a:=λq b=>(t q b).same g
def Tabs.most{H c:Hp}(t:Tabs H)(g:∀b u,(∀a,u≠HO.dT a)->(∀d,u≠HO.lst d)->H b=some u->c b=some u):Tabs c:=λq e=>(t q e).most g
def KeepsBut(T:Ad)(H a:Hp):Prop:=∀b o,b≠T->H b=some o->a b=some o
def KeepsBut.keeps{T:Ad}{H a:Hp}{c:AV}(g:KeepsBut T H a)(hT:H T=some (.tbl c)):Keeps H a:=λb o d=>by
 obtain⟨z,f⟩:=vx d;exact g b o (ju z hT λe=>f _ e) z
theorem KU:∀{l:List (Str×Pos×Ad)} {p q:Str×Pos×Ad},(l.map (·.2.2)).Nodup->p∈l->q∈l->p.2.2=q.2.2->p=q
 | [],_,_,_,hp,_,_=>nomatch hp
 | r::l,p,q,nd,hp,hq,e=>by
  obtain⟨b,d⟩:=lE.mp nd
  rcases cX.mp hp with c|hp
  .rcases cX.mp hq with a|hq
   .rw[c,a]
   .exact wC (b8.mpr #[q,hq,by rw[<-c];exact e.symm]) b
  .rcases cX.mp hq with a|hq
   .exact wC (b8.mpr #[p,hp,by rw[<-a];exact e]) b
   .exact KU d hp hq e
def Tabs.but{a:Str}{b:Pos}{T:Ad}{H d:Hp}{i:AV}(j:(a,b,T)∈eY)(t:Tabs H)(hT:H T=some (.tbl i))(g:KeepsBut T H d)(k:TabOk a b d T):Tabs d:=λf c=>by
 by_cases e:f.2.2=T
 .have:=KU Mr c j e;subst this;exact k
 .rcases t f c with t|⟨l,m,h⟩
  .exact .inl (g _ _ e t)
  .exact .inr #[l,g _ _ e m,g _ _ (nE h hT) h]
def Jv{H:Hp}{T e a:Ad}(d:Pos)(c:Str)(hT:H T=some (.tbl #v[]))(f:H e=none)(g:H a=none)(h:e≠a)(lo:HO):KeepsBut T H (bC (bC (bC H T (.tbl (jv d a))) a (j9 a c)) e lo)/\
  (bC (bC (bC H T (.tbl (jv d a))) a (j9 a c)) e lo) T=some (.tbl (jv d a))/\(bC (bC (bC H T (.tbl (jv d a))) a (j9 a c)) e lo) a=some (j9 a c):=by
 refine#[λb o i z=>?_,?_,?_]
 .rw[bL (cV z f),bL (cV z g),bL i];exact z
 .rw[bL (cV hT f),bL (cV hT g),bG]
 .rw[bL (dM h),bG]
def bN(a:LN)(x:bB)(l:Nat):bB:=eZ (pG a x [l])
def dh(n:Nat):LN:=((List.range 32).map bX).filter λx=>x.all λr=>decide (r<n)
inductive cU(T:Ad)(d:Pos)(g:List V)(H:Hp)(Q:VK)(e:XK):Prop|mk:∀(m p:Ad) (f:LN) (n:Nat) (a:bB),g=[.ref m,.ref p]->Mach H m f n->H p=some (.tup (a.map nv))->a∈dh n->Tabs H->(∀D h i c,Keeps H c->Tabs c->WordsAt c D h i->(∀b∈D::i,noT H b=none)->Told (bN f) f.length a h->Q (.ref D) c)->cU T d g H Q e
def bH{n:Nat}{x:bB}:x∈dh n↔eZ x=x/\∀r∈x,r<n:=by
 unfold dh;rw[cQ,b8,oA];constructor
 .rintro⟨⟨k,a,rfl⟩,h⟩;refine#[?_,λr c=>hE (h r c)];have z:∀k:Fin 32,eZ (bX k)=bX k:=by decide+kernel
  exact z #[k,fb.mp a]
 .rintro⟨d,e⟩;refine#[#[mT 0 (eZ x),fb.mpr ?_,by rw[K7,d];exact d],λr c=>cG (e r c)];have z:∀(b:bB) (k:Nat),(∀n∈b,n<5)->k<32->mT k b<32:=by
   intro b
   induction b with
   |nil=>intro k _ a;exact a
   |cons n b f=>intro k h a;exact f _ (λy g=>h y (dS _ g)) (He #[k,a] #[n,h n (cR ..)])
  exact z _ 0 (λn i=>fb.mp (cQ.mp i).1) (by decide)
def Hs(a:bB):eZ (eZ a)=eZ a:=by
 unfold eZ;refine wp λi b=>?_;rw[jq,gR,gR,cQ,gR];exact#[λh=>h.2,λh=>#[b,h]]
def Mach.noT{H:Hp}{m:Ad}{a:LN}{n:Nat}(M:Mach H m a n):Mach (L2.noT H) m a n:=
 #[let⟨b,c,d,e⟩:=M.refs;#[b,nU c,d,λi r t f g=>nU (e i r t f g)],M.some1,M.few,M.n1,M.n5,M.each]
def Mach.keeps{H a:Hp}{m:Ad}{b:LN}{n:Nat}(M:Mach H m b n)(g:Keeps H a):Mach a m b n:=M.noT.same g
def Mach.drop{H:Hp}{m c:Ad}{a:LN}{n:Nat}{e:Heap->Prop}(M:Mach H m a n)(b:H c=some (.ext e)):Mach (L2.drop H c) m a n:=by
 obtain⟨f,d,g,h⟩:=M.refs;refine#[#[f,?_,g,λi r t j k=>?_],M.some1,M.few,M.n1,M.n5,M.each]
 .rw[db (nE d b)];exact d
 .have z:=h i r t j k;rw[db (nE z b)];exact z
def KO{u c m i:Ad}{N:Obj}{p:LN}{n:Nat}{j:Hp}{pm v:Vl}{a:Arguments}{f:Expr}{d:Scope}{Y a1 a2:Expr}{kw:List Keyword}{lp cp rp:Pos}(e:iD n7=[.Return (some (.Call Y [a1,a2,.Lambda a f d lp] kw cp)) rp])(jK:cE P w K mg base tW 3 [sA,sC,sW] (cT K)) (M:Mach j m p n) (h1:j u=some (iO u (gS sD a f d sA c pm (.ref i) v))) (O:j c=some (gt c m N)) (h3:j i=some (j9 i sD)):
  FnOk P w K mg base b9 5 u (gS sD a f d sA c pm (.ref i) v) [sM,sK] (dL (Same j) (dh n) p.length (bN p))/\Binds K (gS sD a f d sA c pm (.ref i) v) [sM,sK] []:=by
 cases e;refine#[HX (k:=4) (m:=m) (oc:=N) #[zZ,zZ,zZ,by decide+kernel,by decide+kernel,zZ,by decide+kernel] (λT H Q E h=>?_) (λT H Q E h=>?_) (λA B s H T Q E hr h=>?_),.all λus C=>match us,C with| [_,_],_=>rfl]
 .obtain⟨t,x,l,rfl,_⟩:=h;rfl
 .obtain⟨t,x,l,rfl,g,_⟩:=h;exact#[g _ _ h1,g _ _ O,g _ _ h3]
 .obtain⟨t,x,l,rfl,g,ht,hx,C,q⟩:=h;refine#[_,(cC jK hr.m zZ (cf (bI (pv 2) (bI (pv 0) (bI (gT (bK (pv 1) bJ)) ce zZ) zZ) zZ))),?_];obtain⟨x1,x2⟩:=bH.mp hx;have D:=g _ _ O;refine#[_,zZ,_,zZ,_,zZ,by show 1<=sizeLine;decide,λb hb=>?_];have G:=bV hb (.lst [nv l]);have M1:=((M.same g).drop D).same G;have I:(bC (L2.drop H c) b (.lst [nv l])) t=some (.tup (x.map nv)):=G _ _ (by rw[db (nE ht D)];exact ht);refine#[m,t,b,p,n,x,[l],zZ,M1,S2 I,by rw[<-x1];exact OL x,x2,S1 bG,λz hz=>by rw[ci.mp hz];exact C,λr H3 g3 U free=>q r _ (λy o J=>?_) ?_]
  .by_cases L:y=c
   .subst L;rw[D]at J;cases J;exact bG
   .rw[bL L];exact g3 _ _ (G _ _ (by rw[db L];exact J))
  .rw[bL (cV U free)];exact U
def PH{cd T:Ad}(F:DefAt K sR n7 f fd .none (.ref cd))(hC:PySem.W.CodeHd base cd T)(bm:oQ mg base)(hq:((sD:Str),(#[78,40,78,93]:Pos),T)∈eY)(jK:cE P w K mg base tW 3 [sA,sC,sW] (cT K))(qD:Cv P w K mg base tK 8 ["start","letters",wK,wR] (c7 P w K mg base) [.non]) (jA:mg "len"=none):FnOk P w K mg base b9 10 f fd [sA,sC] (cU T (#[78,40,78,93]:Pos)):=by
 refine F.fnOk OD (λvs H Q E h=>?_) (λA af s H vs Q E h hr=>?_)
 .obtain⟨m,p,Y,n,v,rfl,_⟩:=h;rfl
 obtain⟨m,p,Y,n,v,rfl,M,hp,hU,hT,q⟩:=h;refine#[_,?_,(bS (cr (JT qD hr.m zZ (j:=0) zZ zZ zZ zZ (cf (bI (pv 1) (bI (c9 fv zZ jA eU (bK (pv 0) bJ)) (bI (IS (qual:=sD) zZ hC bm (λ_ _ _ _ _=>rfl) zZ zZ) ce zZ) zZ) zZ)))))];obtain⟨rs,hm,ag,_⟩:=M.refs;refine#[_,zZ,_,zZ,m,_,zZ,.inr (S2 hm),?_]
 try dsimp only
 rw[bF,ag];have go:∀(B t:Ad) (J:Vl) (L:Hp) (aa:AV),H T=some (.tbl aa)->KeepsBut T H L->L T=some (.tbl (jv (#[78,40,78,93]:Pos) t))->L t=some (j9 t sD)->∀(d:Arguments) (k:Expr) (e:Scope) (pm:Vl) (c:Ad),L B=some (iO B (gS sD d k e sA c pm (.ref t) J))->
   ∀C,L c=none->(FnOk P w K mg base b9 5 B (gS sD d k e sA c pm (.ref t) J) [sM,sK] (dL (Same (bC L c (gt c m C))) (dh n) Y.length (bN Y)))->Binds K (gS sD d k e sA c pm (.ref t) J) [sM,sK] []->
   c7 P w K mg base [.ref p,nv Y.length,.ref B,.non] (bC L c (gt c m C)) (λr H2=>H2 c=some (gt c m C)/\Q r (L2.drop H2 c)) E0:=λB t J L aa ab kb h1 h2 d k e pm c h3 C G hF hB=>by
  have u:=kb.keeps ab;have i:=bV G (gt c m C);have n5:=M.n5;refine#[p,B,_,_,v,Y.length,dh n,bN Y,zZ,i _ _ (u _ _ (nU hp)),i _ _ h3,hU,λx hx l hl=>?_,?_,?_,hF,hB,λD ws as H2 N W nw TT=>#[N _ _ bG,q D ws as _ (λb o O=>?_) (hT.but hq ab (λb o nb O=>?_) (.inr #[t,?_,?_])) #[W.len,?_,λj a r e1 e2=>?_] (λb O=>?_) TT]]
  .obtain⟨x1,x2⟩:=bH.mp hx;refine bH.mpr #[Hs _,λr hr=>?_];obtain⟨y,h4,rfl⟩:=b8.mp (BA hr);exact mS M [l] y (x2 y h4) λz hz=>by rw[ci.mp hz];exact hl
  .exact cP (jo _ _) (by rw[bF,mC];decide)
  .have:=M.few;lia
  .have z:=u b o O;rw[db (cV z G)];exact N _ _ (i _ _ z)
  .have z:=kb b o nb O;rw[db (cV z G)];exact N _ _ (i _ _ z)
  .rw[db (cV h1 G)];exact N _ _ (i _ _ h1)
  .rw[db (cV h2 G)];exact N _ _ (i _ _ h2)
  .rw[db (nE W.dict (N _ _ bG))];exact W.dict
  .have z:=W.list j a r e1 e2;rw[db (nE z (N _ _ bG))];exact z
  .have z:=nw b O;cases y:L2.noT H b with
   |none=>rfl
   |some o=>
    have z2:=i _ _ (u _ _ y);rw[z]at z2;cases z2
 rcases hT _ hq with g|⟨t,g,I⟩
 .refine .inl #[g,λB t J U I ne=>#[m,zZ,λC G=>?_]];obtain⟨u,ah,ae⟩:=Jv (#[78,40,78,93]:Pos) sD g U I ne _;have i:=bV G (gt (s.heap.objs.size+1) m C);obtain⟨F1,F2⟩:=KO zZ jK ((M.keeps (u.keeps g)).same i) (i _ _ bG) bG (i _ _ ae);exact go B t J _ _ g u ah ae _ _ _ _ _ bG C G F1 F2
 .refine .inr #[t,g,I,λB J U=>#[m,zZ,λC G=>?_]];have u:∀lo,Same H (bC H B lo):=λlo=>bV U lo;have i:=bV G (gt (s.heap.objs.size+1) m C);obtain⟨F1,F2⟩:=KO zZ jK ((M.same (u _)).same i) (i _ _ bG) bG (i _ _ (u _ _ _ I));exact go B t J _ _ g (λb o _ O=>u _ _ _ O) (u _ _ _ g) (u _ _ _ I) _ _ _ _ _ bG C G F1 F2
inductive fi(b:List V)(H:Hp)(Q:VK)(a:XK):Prop|mk:∀n:Nat,b=[nv n]->n<=1000->xT H ((List.range n).map nv) Q->fi b H Q a
def RB(F:Fun K "still" "still" EU f fd)(b:mg "tuple"=none)(c:mg "range"=none):FnOk P w K mg base b9 1 f fd [sC] fi:=by
 refine F.ok Ot (λd A a s H g Q E i h=>?_)
 obtain⟨n,rfl,j,q⟩:=h;refine#[_,(bS (cr (f9 (Pu zZ) zZ b lR (bK (f9 JJ zZ c boot_range (bK (pv 0) bJ)) bJ)))),?_];refine#[_,zZ,(n:Int),zZ,λp e=>#[p,(n:Int),zZ,bG,(),(),λt ht=>?_]];exact q t _ ((bV e _).trans (bV ht _)) bG
def dX(xs a:bB):bB:=xs.map λx=>a.getD x 0
inductive dY(f:List V)(H:Hp)(Q:VK)(d:XK):Prop|mk:∀(a b:Ad) (c e:bB),f=[.ref a,.ref b]->H a=some (.tup (c.map nv))->H b=some (.tup (e.map nv))->(∀x∈c,x<e.length)->c.length<=1000->xT H ((dX c e).map nv) Q->dY f H Q d
def Rj(F:Fun K xD xD A7 f fd)(l:mg "tuple"=none):FnOk P w K mg base b9 1 f fd [tY,sZ] dY:=by
 refine F.ok RY (λm A c s H z Q E B h=>?_)
 obtain⟨a,b,j,d,rfl,k,n,g,o,q⟩:=h;refine#[_,(bS (cr (f9 oy zZ l lR (bK (gK (CompSc.to (N:=[tY,sZ]) (osc:=bT A7) (vs:=[tI]) {}) zZ zZ (pV (pv 0)) (λ_ _ _ _=>fG) (λ_ _ _ _=>(ck (IxR.k (K:=K) ud dA zZ) (pv 2) (pv 0) (λ_ _=>rfl)))) bJ)))),?_];have e:(j.map nv).map (λv=>match v with|.int i=>nv (d.getD i.toNat 0)|v=>v)=(dX j d).map nv:=by
  unfold dX;rw[eJ,eJ];rfl
 refine#[_,zZ,a,zZ,#[_,S2 k],uh (f:=λv=>match v with|.int i=>nv (d.getD i.toNat 0)|v=>v) (by rw[bF];exact small o) (S2 k) (λv Q r q=>?_) (λp u=>?_)]
 .obtain⟨x,y,rfl⟩:=b8.mp r;exact#[_,zZ,_,zZ,b,_,_,_,zZ,zZ,S2 n,q0 (g x y),q]
 .rw[e];exact#[p,_,zZ,.inl #[S1 bG,λt ht=>q t _ ((bV u _).trans (bV ht _)) bG]]
def lH(n:Nat):Nat->List bB
 |0=>[[]]
 |k+1=>(lH n k).flatMap λx=>(List.range n).map λr=>x++[r]
theorem cJ{n:Nat}:∀{k:Nat} {x:bB},x∈lH n k↔x.length=k/\∀r∈x,r<n
 | 0,x=>by
  show x∈[[]]↔_;rw[ci];constructor
  .rintro rfl;exact#[zZ,λr a=>nomatch a]
  .rintro⟨h,_⟩;exact pU.mp h
 | k+1,x=>by
  show x∈(lH n k).flatMap _↔_;rw[List.mem_flatMap];constructor
  .rintro⟨y,e,f⟩;obtain⟨r,a,rfl⟩:=b8.mp f;obtain⟨b,c⟩:=cJ.mp e;refine#[by simp[b],λz g=>?_]
   rcases cF.mp g with m|m
   .exact c z m
   .rw[ci.mp m];exact fb.mp a
  .rintro⟨b,c⟩;have d:x≠[]:=λz=>by rw[z]at b;cases b
   refine#[x.dropLast,cJ.mpr #[by rw[List.length_dropLast,b];rfl,λr a=>c r (List.dropLast_subset _ a)],b8.mpr #[x.getLast d,fb.mpr (c _ (List.getLast_mem d)),GO d]]
theorem Ky{n:Nat}:∀k,(lH n k).length=n ^ k
 |0=>rfl
 | k+1=>by
  show((lH n k).flatMap _).length=_;rw[List.length_flatMap];have z:∀l:LN,(l.map λx=>((List.range n).map λr=>x++[r]).length).sum=l.length * n:=by
   intro l
   induction l with
   |nil=>simp
   |cons a l b=>rw[gv,List.sum_cons,b,bF,mC,iL,Nat.succ_mul,Nat.add_comm]
  rw[z,Ky k,Nat.pow_succ]
def O4{n:Nat}(h:n<=5):(lH n n).length<=4000:=by
 rw[Ky];have z:∀k:Fin 6,(k:Nat) ^ (k:Nat)<=4000:=by decide
 exact z #[n,()]
def Nm(n:Nat):List.range n∈lH n n:=cJ.mpr #[mC,λr a=>fb.mp a]
def gl(t:bB):Int:= -((t.length:Nat):Int)
def mH(a:LN)(t:bB):LN:=if a.contains t then a else a++[t]
def uniq(a:LN):LN:=a.foldl mH []
def OZ(a:LN)(t:bB):uniq (a++[t])=mH (uniq a) t:=by
 unfold uniq;rw[oJ];rfl
def Sn{a:LN}{t x:bB}:x∈mH a t↔x∈a\/x=t:=by
 unfold mH;by_cases h:a.contains t=true
 .rw[wB h];constructor
  .exact .inl
  .rintro(b|rfl)
   .exact b
   .exact gR.mp h
 .rw[wA h,cF,ci]
def LD{a:LN}{t:bB}(nd:a.Nodup):(mH a t).Nodup:=by
 unfold mH;by_cases h:a.contains t=true
 .rw[wB h];exact nd
 .rw[wA h,yq];refine#[nd,by simp,λx b y c z=>h (List.contains_iff_mem.mpr ?_)];rw[<-ci.mp c,<-z];exact b
def Dz(b:LN):(uniq b).Nodup/\∀x,x∈uniq b↔x∈b:=by
 have go:∀(b a:LN),a.Nodup->(b.foldl mH a).Nodup/\∀x,x∈b.foldl mH a↔x∈a\/x∈b:=by
  intro b
  induction b with
  |nil=>intro a nd;exact#[nd,λx=>by simp]
  |cons t b e=>
   intro a nd;obtain⟨c,d⟩:=e (mH a t) (LD nd);refine#[c,λx=>?_];rw[EE,d x,Sn,cX,or_assoc]
 obtain⟨c,d⟩:=go b [] List.nodup_nil;exact#[c,λx=>by rw[show uniq b=b.foldl mH []from rfl,d x];simp]
def Pr{b:List (List cD×V)}{d:LN}{t:bB}{v:V}(h:b.map (·.1)=d.map nk):(i9 b (nk t) v).map (·.1)=(mH d t).map nk:=by
 have e:(b.any λa=>decide (a.1=nk t))=d.contains t:=by
  rw[jq,yx,gR];constructor
  .rintro⟨a,f,g⟩;have m:a.1∈d.map nk:=by rw[<-h];exact b8.mpr #[a,f,zZ]
   obtain⟨u,i,j⟩:=b8.mp m;have z:=By (j.trans (hE g));rw[<-z];exact i
  .intro ht;have m:nk t∈b.map (·.1):=by rw[h];exact b8.mpr #[t,ht,zZ]
   obtain⟨a,f,g⟩:=b8.mp m;exact#[a,f,cG g]
 unfold i9 mH;rw[e];by_cases c:d.contains t=true
 .rw[wB c,wB c,<-h,eJ];refine nH λa _=>?_;show(if a.1=nk t then(a.1,v)else a).1=a.1;split<;>rfl
 .rw[wA c,wA c,dC,dC,h];rfl
theorem Dj{g:Type}{lt:g->g->Bool}(i:∀x,lt x x=false)(j:∀x y z,lt x y=true->lt y z=true->lt x z=true):∀{c d:List g},c.Pairwise (λx y=>lt x y=true)->d.Pairwise (λx y=>lt x y=true)->(∀x,x∈c↔x∈d)->c=d
 | [],[],_,_,_=>rfl
 | [],q::d,_,_,h=>wC ((h q).mpr (cR ..)) (by simp)
 |p::c,[],_,_,h=>wC ((h p).mp (cR ..)) (by simp)
 | p::c,q::d,m,n,h=>by
  obtain⟨k,o⟩:=ww.mp m;obtain⟨l,s⟩:=ww.mp n;have no:∀{x y:g},lt x y=true->lt y x=true->False:=λ{x y} a b=>by
   have:=j _ _ _ a b;rw[i]at this;cases this
  have t:p=q:=by
   rcases cX.mp ((h p).mp (cR ..))with e|e
   .exact e
   .rcases cX.mp ((h q).mpr (cR ..))with e'|e'
    .exact e'.symm
    .exact(no (l p e) (k q e')).elim
  subst t;have rest:c=d:=Dj i j o s λr=>by
   constructor
   .intro f
    rcases cX.mp ((h r).mp (dS _ f))with e|e
    .subst e;have:=k r f;rw[i]at this;cases this
    .exact e
   .intro f
    rcases cX.mp ((h r).mpr (dS _ f))with e|e
    .subst e;have:=l r f;rw[i]at this;cases this
    .exact e
  rw[rest]
inductive fV(e:List V)(H:Hp)(Q:VK)(c:XK):Prop|mk:∀(l:Ad) (f:As) (a U:LN),e=[.ref l]->H l=some (.lst (f.map .ref))->TupsAt H f a->(∀t∈a,t∈U)->U.length<64->a.length<=4000->(∀D bs d b,Same H b->H D=none->b D=some (.lst (bs.map .ref))->TupsAt b bs d->(∀x,x∈d↔x∈a)->d.Pairwise (λx y=>gj gl x y=true)->Q (.ref D) b)->fV e H Q c
def MD(F:Fun K "place_of" "place_of" GC f fd)(d:mg "len"=none):FnOk P w K mg base b9 1 f fd [sC] (gI gl):=by
 refine F.ok Lq (λe A b s H j Q E k h=>?_)
 obtain⟨a,t,rfl,g,q⟩:=h;refine#[_,(bS (cr (kh (cf (bI (HY Lj (c9 fv zZ d eU (bK (pv 0) bJ))) (bI (pv 0) ce zZ) zZ))))),?_];refine#[_,zZ,a,_,zZ,.inr (S2 g),_,zZ,_,zZ,by show 2<=sizeLine;decide,λi c=>?_];refine q i _ (bV c _) ?_;rw[bG,bF];rfl
def NN(F:Fun K "in_order" "in_order" Ex f fd)(M:cE P w K mg base "place_of" 1 [sC] (gI gl))(N:mg "sorted"=none):FnOk P w K mg base b9 5 f fd [tG] fV:=by
 refine F.ok uA (λO A r s H vs Q E u h=>?_)
 obtain⟨l,Y,c,U,rfl,z,T,inU,few,B,q⟩:=h;have hu:=u.units;have v:=ik u;refine#[_,(bQ (cj (i:=1) uA.nd zZ Z' Ci) (bQ (fY fF zZ (fH (pv 0)) (eR (i:=2) uA.nd zZ Z') (bS (xQ v (pv 1) (pv 2) sj zZ))) (bS (cr (Qe zZ hu M u.m zZ N zZ (pv 1)))))),?_];intro d C;have G:=bV C (.dT []);have la:=T.len;obtain⟨un,I⟩:=Dz c;refine#[_,zZ,l,zZ,#[_,S1 (G _ _ z)],oo (xs:=Y.map .ref) (λi n j=>Same H j/\∃b o,j d=some (.dT b)/\b.map (·.1)=(uniq (c.take i)).map nk/\n=[some (.ref l),some (.ref d),o]) #[G,[],none,bG,zZ,zZ] (λi n j _ p=>S1 (p.1 _ _ z)) (λi x n j e p=>?_) (λn j p=>?_)]
 .obtain⟨g,b,o,y,k,rfl⟩:=p;rw[bZ]at e;obtain⟨a,J,rfl⟩:=dm.mp e;have li:=(bU.mp J).1;obtain⟨t,L⟩:∃t,c[i]?=some t:=#[_,bE ()];have ha:=g _ _ (T.is i a t J L);have lk:b.length<=c.length:=by
   rw[<-bF (f:=(·.1)) (as:=b),k,bF];refine cP (nR (Dz _).1 (U:=c) λx e=>?_) (bR _);exact qk (((Dz _).2 x).mp e)
  refine#[_,zZ,_,zZ,d,_,zZ,DPut.t y (by rw[jd];exact ha) (by rw[cH];lia),?_];refine#[gk g C,_,_,bG,?_,zZ];rw[Pr k,gQ,L];show _=(uniq (c.take i++[t])).map nk;rw[OZ]
 .obtain⟨g,b,o,y,k,rfl⟩:=p;rw[bF,la,fZ]at k;have lu:(uniq c).length<64:=yW (nR un λx e=>inU x ((I x).mp e)) few;refine#[_,zZ,d,zZ,d,b,uniq c,zZ,y,k,lu,λD bs us H2 g2 hD eD T2 m pw=>?_];exact q D bs us H2 (g.trans g2) (g.free hD) eD T2 (λx=>(m.mem_iff).trans (I x)) pw
def PicsAt(H:Hp)(l:Ad)(d:As)(e:TW):Prop:=H l=some (.lst (d.map .ref))/\d.length=e.length/\∀(j:Nat) (a:Ad) (p:bB×bB),d[j]?=some a->e[j]?=some p->∃b c,c≠l/\H a=some (.tup [.ref b,.ref c])/\H b=some (.tup (p.1.map nv))/\H c=some (.lst (p.2.map nv))
inductive fc(T:Ad)(b:Pos)(e:List V)(H:Hp)(Q:VK)(c:XK):Prop|mk:∀(m:Ad) (d:LN) (n:Nat),e=[.ref m]->Mach H m d n->Tabs H->(∀l g f a,Keeps H a->Tabs a->PicsAt a l g f->Told (bN d) d.length (List.range n) f->Q (.ref l) a)->fc T b e H Q c
def hZ(a:bB):List Dt:=(a.map λ(n:Nat)=>(n:Int)).map Dt.int
def F5{a b:bB}(h:hZ a=hZ b):a=b:=cO.mp (cK Dt.tup h)
def ED{n:Nat}(h:n<=5):List.range n∈dh n:=by
 have z:∀k:Fin 6,eZ (List.range k)=List.range k:=by decide+kernel
 exact bH.mpr #[z #[n,()],λr a=>fb.mp a]
def RU{T:Ad}(F:Fun K "pictures" "pictures" Dn f fd)(Y:cE P w K mg base "still" 1 [sC] fi)(jQ:cE P w K mg base sR 10 [sA,sC] (cU T (#[78,40,78,93]:Pos)))(jA:mg "len"=none)(uC:mg "list"=none):
  FnOk P w K mg base b9 12 f fd [sA] (fc T (#[78,40,78,93]:Pos)):=by
 refine F.ok uN (λaa A g s H vs Q E G h=>?_)
 obtain⟨m,ts,n,rfl,M,hT,q⟩:=h;have t1:=M.some1;have n5:=M.n5;obtain⟨_,r0,b1,b2,b3,b4,b5,b6⟩:=M.at (l:=0) ();refine#[_,(bQ (cj (i:=1) uN.nd zZ Z' (cC jQ G.m zZ (cf (bI (pv 0) (bI (cC Y G.m zZ (bK (c9 fv zZ jA eU (bK (ck dA (pv 0) bO (λ_ _=>rfl)) bJ)) bJ)) ce zZ) zZ)))) (bS (cr (f9 (Sg zZ) zZ uC boot_list (bK (L3 PySem.F.plainAttrs_dict PySem.F.slot_dict_items PySem.F.type_dict_items PQ (pv 1)) bJ))))),?_];refine#[_,zZ,_,zZ,m,_,_,_,zZ,zZ,S2 b1,b3,r0,_,zZ,.inr (S2 b4),?_]
 try dsimp only
 rw[bF,b5];refine#[n,zZ,(),λst H1 r t=>#[m,st,ts,n,List.range n,zZ,M.same r,t,ED n5,hT.same r,λD ws as I k2 T2 W _ TT=>?_]];refine#[_,zZ,.inr (.inr (.inl #[zZ,.inr #[_,W.dict]])),zZ,D,_,zZ,W.dict,λv hv=>?_];have u:=bV hv (zD v D);refine#[v,D,_,zZ,bG,u _ _ W.dict,λl ps y d=>?_];have B:Same (bC I v (zD v D)) y:=λb o e=>by
  rw[d.rest b (cV e d.new) λz=>by rw[d.news b z]at e;cases e];exact e
 have J:Same I y:=u.trans B;refine q l ps ws y ((r.keeps.trans k2).trans J.keeps) (T2.same J) #[d.lst,by rw[d.len,J' W.len],λj a p t C=>?_] TT;obtain⟨k,x,b,L,N,f3⟩:=d.is j a t;obtain⟨hj,_⟩:=bU.mp C;obtain⟨c,O⟩:∃c,as[j]?=some c:=#[_,bE (by rw[W.len];exact hj)];rw[RF C O]at L;cases L;have U:=u _ _ (W.list j c p O C);rw[jd]at N;exact#[b,c,cV U d.new,f3,B _ _ N,B _ _ U]
def IE{a b:bB}(h:∀r,r∈a↔r∈b):eZ a=eZ b:=by
 unfold eZ;refine wp λi _=>?_;rw[jq,gR,gR];exact h i
def yU{H:Hp}{m:Ad}{a:LN}{n:Nat}(M:Mach H m a n){x:bB}{l:Nat}(b:x∈dh n)(c:l<a.length):bN a x l∈dh n:=by
 obtain⟨h,d⟩:=bH.mp b;refine bH.mpr #[Hs _,λr e=>?_];obtain⟨y,f,rfl⟩:=b8.mp (BA e);exact mS M [l] y (d y f) λz g=>by rw[ci.mp g];exact c
theorem zL{H:Hp}{m:Ad}{a:LN}{n:Nat}(M:Mach H m a n):∀(word:bB) (x:bB),x∈dh n->(∀l∈word,l<a.length)->cw (bN a) x word=eZ (pG a x word)
 | [],x,c,_=>by
  show x=eZ (x.map λr=>di a r []);rw[show(λr=>di a r [])=id from rfl,List.map_id];exact(bH.mp c).1.symm
 | l::word,x,c,h=>by
  have e:=h l (cR ..);have f:=M.n5;show cw (bN a) (bN a x l) word=_;rw[zL M word _ (yU M c e) λy b=>h y (dS _ b)];refine IE λr=>?_;unfold pG;rw[b8,b8];constructor
  .rintro⟨y,b,rfl⟩;obtain⟨z,d,rfl⟩:=b8.mp (BA b);exact#[z,d,zZ]
  .rintro⟨z,d,rfl⟩;have g:=mS M [l] z ((bH.mp c).2 z d) λy b=>by rw[ci.mp b];exact e
   exact#[di a z [l],Gv (b8.mpr #[z,d,zZ]) (),zZ]
theorem E7{b:Type}{P:Nat->b->Prop}:∀{n:Nat},(∀j,j<n->∃x,P j x)->∃a:List b,a.length=n/\∀(j:Nat) (x:b),a[j]?=some x->P j x
 |0,_=>#[[],zZ,λj x e=>by simp at e]
 | n+1,h=>by
  obtain⟨a,c,d⟩:=E7 (n:=n) λj f=>h j ();obtain⟨x,g⟩:=h n ();refine#[a++[x],by simp[c],λj y e=>?_];by_cases f:j<n
  .rw[dN ()]at e;exact d j y e
  .rw[dO ()]at e;have z:j-a.length=0:=by
    have:=(bU.mp e).1;simp at this;lia
   rw[z]at e;cases e;have i:j=n:=by lia
   subst i;exact g
structure Prs(H:Hp)(l:Ad)(as:As)(bc:List (Ad×Ad))(ws:TW):Prop where
 lst:H l=some (.lst (as.map .ref))
 la:as.length=ws.length
 lb:bc.length=ws.length
 is:∀(j:Nat) (a:Ad) (q:Ad×Ad) (p:bB×bB),as[j]?=some a->bc[j]?=some q->ws[j]?=some p->q.2≠l/\H a=some (.tup [.ref q.1,.ref q.2])/\H q.1=some (.tup (p.1.map nv))/\H q.2=some (.lst (p.2.map nv))
def PicsAt.prs{H:Hp}{l:Ad}{g:As}{d:TW}(h:PicsAt H l g d):∃m,Prs H l g m d:=by
 obtain⟨o,r,s⟩:=h;obtain⟨m,t,u⟩:=E7 (n:=d.length) (P:=λj (q:Ad×Ad)=>∀a p,g[j]?=some a->d[j]?=some p->q.2≠l/\H a=some (.tup [.ref q.1,.ref q.2])/\H q.1=some (.tup (p.1.map nv))/\H q.2=some (.lst (p.2.map nv))) λj v=>by
  obtain⟨a,i⟩:∃a,g[j]?=some a:=#[_,bE ()];obtain⟨p,k⟩:∃p,d[j]?=some p:=#[_,bE v];obtain⟨b,c,w,x,y,z⟩:=s j a p i k;refine#[(b,c),λB C e f=>?_];rw[i]at e;rw[k]at f;cases e;cases f;exact#[w,x,y,z]
 exact#[m,o,r,t,λj a q p i A k=>u j q A a p i k]
def Prs.at{H:Hp}{l:Ad}{as:As}{c:List (Ad×Ad)}{b:TW}(h:Prs H l as c b){j:Nat}(g:j<b.length):∃a q p,as[j]?=some a/\c[j]?=some q/\b[j]?=some p/\q.2≠l/\H a=some (.tup [.ref q.1,.ref q.2])/\H q.1=some (.tup (p.1.map nv))/\H q.2=some (.lst (p.2.map nv)):=by
 have i:=h.la;have k:=h.lb;obtain⟨a,d⟩:∃a,as[j]?=some a:=#[_,bE ()];obtain⟨q,e⟩:∃q,c[j]?=some q:=#[_,bE ()];obtain⟨p,f⟩:∃p,b[j]?=some p:=#[_,bE g];exact#[a,q,p,d,e,f,h.is j a q p d e f]
def C2(a:LN)(n:Nat)(x:bB):Prop:=∃word:bB,(∀l∈word,l<a.length)/\cw (bN a) (List.range n) word=x
structure FamOf(ts:LN)(n:Nat)(us:LN):Prop where
 up:us.Pairwise λx y=>gj gl x y=true
 mem:∀x,x∈us↔(C2 ts n x\/∃r,r<n/\x=[r])
def FamOf.uniq{b:LN}{n:Nat}{a c:LN}(d:FamOf b n a)(e:FamOf b n c):a=c:=Dj (on gl a).irr (on gl a).trans d.up e.up λx=>(d.mem x).trans (e.mem x).symm
def Dw{a:LN}{n:Nat}{b:TW}(T:Told (bN a) a.length (List.range n) b)(x:bB):x∈b.map (·.1)↔C2 a n x:=by
 constructor
 .intro h;obtain⟨p,c,rfl⟩:=b8.mp h;obtain⟨d,e⟩:=T.run p c;exact#[p.2,d,e]
 .rintro⟨word,f,rfl⟩;obtain⟨u,g,_⟩:=T.least _ word zZ f;exact b8.mpr #[_,g,zZ]
def Ao{n r:Nat}(b:n<=5)(h:r<n):[r]∈dh n:=by
 have z:∀k:Fin 5,eZ [(k:Nat)]=[(k:Nat)]:=by decide+kernel
 exact bH.mpr #[z #[r,()],λx a=>by rw[ci.mp a];exact h]
def D8{H:Hp}{m:Ad}{a:LN}{n:Nat}(M:Mach H m a n){x:bB}(h:C2 a n x):x∈dh n:=by
 obtain⟨word,b,rfl⟩:=h;exact wj (ED M.n5) (λy c l d=>yU M c d) word b
def Gf(n:Nat):(dh n).length<=32:=cP (jo _ _) (by rw[bF,mC];decide)
def FamOf.inU{H:Hp}{m:Ad}{a:LN}{n:Nat}{b:LN}(M:Mach H m a n)(h:FamOf a n b){x:bB}(c:x∈b):x∈dh n:=by
 rcases (h.mem x).mp c with z|⟨r,d,rfl⟩
 .exact D8 M z
 .exact Ao M.n5 d
def FamOf.few{H:Hp}{m:Ad}{d:LN}{n:Nat}{c:LN}(M:Mach H m d n)(h:FamOf d n c):c.length<=32:=by
 refine cP (nR (U:=dh n) ?_ λx f=>h.inU M f) (Gf n);exact h.up.imp λ{a b} z e=>by
  subst e;rw[(on gl c).irr]at z;cases z
def OE{H:Hp}{m:Ad}{a:LN}{n:Nat}(M:Mach H m a n){x:bB}(h:C2 a n x):x≠[]:=by
 obtain⟨word,b,rfl⟩:=h;rw[zL M word _ (ED M.n5) b];intro z;have e:=M.n1;have f:=M.n5;have d:di a 0 word∈pG a (List.range n) word:=b8.mpr #[0,fb.mpr (),zZ];have g:=mS M word 0 () b;have c:=Gv d ();rw[z]at c;cases c
def u7{n:Nat}(a:n<=5){x:bB}(h:x∈dh n):x.length<=n:=by
 obtain⟨b,c⟩:=bH.mp h;rw[<-b,P5 a c];exact cP (jo _ _) (by simp)
def pY{H:Hp}{d:Ad}{o c:HO}{bs:As}{a:LN}(T:TupsAt H bs a)(h:H d=some o)(no:∀f,o≠ .tup f):TupsAt (bC H d c) bs a:=#[T.len,λi b u g j=>by
 have z:=T.is i b u g j;rw[bL (ju z h λe=>no _ e.symm)];exact z]
def Am{H:Hp}{bs:As}{d:LN}{p:Ad}{u:bB}(h:TupsAt H bs d)(e:H p=some (.tup (u.map nv))):TupsAt H (bs++[p]) (d++[u]):=by
 refine#[by simp[h.len],λi b v c a=>?_];have l:=h.len;by_cases f:i<d.length
 .rw[dN ()]at c a;exact h.is i b v c a
 .rw[dO ()]at c a;have z:i-d.length=0:=by
   have:=(bU.mp a).1;simp at this;lia
  rw[l,z]at c;rw[z]at a;cases c;cases a;exact e
def Pm{H:Hp}{bs e:As}{d f:LN}(h:TupsAt H bs d)(g:TupsAt H e f):TupsAt H (bs++e) (d++f):=by
 refine#[by simp[h.len,g.len],λi b v a c=>?_];have l:=h.len;by_cases j:i<d.length
 .rw[dN ()]at a c;exact h.is i b v a c
 .rw[dO ()]at a c;rw[l]at a;exact g.is _ b v a c
def HJ{c d:LN}(h:(Dt.lst (c.map λu=> .tup (hZ u)))=Dt.lst (d.map λu=> .tup (hZ u))):c=d:=by
 injection h with h
 exact vi (λa b e=>by injection e with e;exact F5 e) h
inductive fm(T:Ad)(b:Pos)(d:List V)(H:Hp)(Q:VK)(c:XK):Prop|mk:∀(m:Ad) (e:LN) (n:Nat),d=[.ref m]->Mach H m e n->Tabs H->(∀D bs f a,Keeps H a->Tabs a->L2.noT H D=none->a D=some (.lst (bs.map .ref))->TupsAt a bs f->FamOf e n f->Q (.ref D) a)->fm T b d H Q c
def Np{T:Ad}(F:Fun K "family" "family" we f fd)(rR:cE P w K mg base "pictures" 12 [sA] (fc T (#[78,40,78,93]:Pos)))(rS:cE P w K mg base "in_order" 5 [tG] fV)(jA:mg "len"=none)(jB:mg "range"=none):FnOk P w K mg base b9 14 f fd [sA] (fm T (#[78,40,78,93]:Pos)):=by
 refine F.ok vJ (λak A aa s H vs Q E hr h=>?_)
 obtain⟨m,ts,n,rfl,M,hT,q⟩:=h;have t1:=M.some1;have n1:=M.n1;have n5:=M.n5;obtain⟨_,r0,b1,b2,b3,b4,b5,b6⟩:=M.at (l:=0) ();refine#[_,(bQ (u6 (CompSc.to (N:=[sA,"singles"]) (osc:=bT we) (vs:=[tI]) {}) zZ zZ vJ.nd (j:=1) zZ zZ (je zZ jB (bK (c9 fv zZ jA eU (bK (ck dA (pv 0) bO (λ_ _=>rfl)) bJ)) bJ)) (λ_ _ _ _=>fG) (λ_ _ _ _=>(kh (bK (pv 0) bJ)))) (bS (cr (cC rS hr.m zZ (bK (cu GB (A5 (CompSc.to (N:=[sA,"singles"]) (osc:=bT we) (vs:=[sC,sW]) {}) zZ (fH (cC rR hr.m zZ (bK (pv 0) bJ))) (GL (CompSc.to (N:=[sA,"singles"]) (osc:=bT we) (vs:=[sC,sW]) {}) zZ zZ zZ) (λ_ _ _ _=>fG) (λ_ _ _ _=>(pv 0))) (pv 1)) bJ))))),?_];refine#[_,zZ,m,_,_,_,zZ,zZ,S2 b1,b3,r0,_,zZ,.inr (S2 b4),(n:Int),by rw[bF,b5],(),(),CA (λi d c=>Same H c/\∃a,d=a.map V.ref/\a.length=i/\TupsAt c a ((List.range i).map λr=>[r])) (by rw[hY];exact small ()) #[Same.refl _,[],zZ,zZ,zZ,λi b u e=>by simp at e] (λi d c _ p=>?_) (λi d c hi p=>?_) (λd H1 p U ab=>?_)]
 .obtain⟨_,a,rfl,e,_⟩:=p;rw[bF];lia
 .obtain⟨g,a,rfl,e,Y⟩:=p;have e0:V.int (0+(i:Int))=nv i:=by show V.int (0+(i:Int))=V.int (i:Int);rw[sd]
  refine#[iI,i5 #[_,zZ,by show 1<=sizeLine;decide,λp hp=>?_]];have k:=bV hp (.tup [V.int (0+(i:Int))]);refine#[g.trans k,a++[p],by simp,by simp[e],?_];rw[List.range_succ,dC];refine Am (Y.same k) ?_;rw[bG,e0];rfl
 obtain⟨g1,a,rfl,er,Y⟩:=p;rw[hY]at Y er;have k1:=bV ab (.lst (a.map V.ref));have I:bC H1 U (.lst (a.map V.ref)) U=some (.lst (a.map V.ref)):=bG;have T2:=Y.same k1;have B:=g1.trans k1;generalize bC H1 U (.lst (a.map V.ref))=H2 at k1 I T2 B|-;refine#[_,zZ,m,ts,n,zZ,M.same B,hT.same B,λl as ws H3 k3 T3 ae TT=>?_];obtain⟨bc,C⟩:=ae.prs;have aj:=(M.same B);have few:ws.length<=32:=by
  rw[<-bF (f:=(·.1)) (as:=ws)];exact cP (nR TT.keys λx hx=>D8 M ((Dw TT x).mp hx)) (Gf n)
 refine#[l,zZ,#[_,S1 C.lst],j7 (xs:=as.map .ref) (λi d c=>c=H3/\∃bs,d=bs.map V.ref/\bs.length=i/\TupsAt H3 bs ((ws.take i).map (·.1))) (by rw[bF,C.la,cH];lia) #[zZ,[],zZ,zZ,zZ,λi b u e=>by simp at e] (λi d c _ p=>?_) (λi v d c hv p=>?_) (λd c p c1 af=>?_)]
 .obtain⟨rfl,bs,rfl,e,_⟩:=p;exact#[S1 C.lst,by rw[bF];lia]
 .obtain⟨rfl,bs,rfl,e,J⟩:=p;rw[bZ]at hv;obtain⟨a1,ea,rfl⟩:=dm.mp hv;obtain⟨a',q',p',L,al,ag,f0,f1,f2,f3⟩:=C.at (j:=i) (by have:=(bU.mp ea).1;rw[<-C.la];exact this);rw[ea]at L;cases L;refine#[a1,_,zZ,S2 f1,zZ,_,_,zZ,_,_,zZ,zZ,DD,i5 #[_,zZ,zZ,bs++[q'.1],by simp,by simp[e],?_]];rw[gQ,ag,dC];exact Am J f2
 obtain⟨rfl,bs,rfl,e,J⟩:=p;rw[bF,C.la,fZ]at J;have G:=bV af (.lst (bs.map V.ref));have O:=G _ _ (k3 _ _ (nU I));have T5:TupsAt (bC c c1 (.lst (bs.map V.ref))) a ((List.range n).map λr=>[r]):=#[T2.len,λi b u e1 e2=>G _ _ (k3 _ _ (nU (T2.is i b u e1 e2)))];have lb:bs.length=ws.length:=by rw[J.len,bF]
 refine#[_,zZ,c1,U,_,_,zZ,zZ,S1 bG,S1 O,by rw[bF,bF,lb,er,cH];lia,λl2 ah=>?_];have k2:=bV ah (.lst (bs.map V.ref++a.map V.ref));have T6:=(Pm (J.same G) T5).same k2;refine#[l2,bs++a,_,dh n,zZ,by rw[bG,dC],T6,λt ht=>?_,yW (Gf n) (by decide),by rw[cI,bF,bF,mC];lia,λD ds us H5 g5 hD eD T7 mem up=>?_]
 .rcases cF.mp ht with z|z
  .exact D8 M ((Dw TT t).mp z)
  .obtain⟨r,ai,rfl⟩:=b8.mp z;exact Ao n5 (fb.mp ai)
 .have kk:Keeps H H5:=((B.keeps.trans k3).trans (G.trans k2).keeps).trans g5.keeps;refine q D ds us H5 kk (T3.same ((G.trans k2).trans g5)) ?_ eD T7 #[up,λx=>?_]
  .cases y:L2.noT H D with
   |none=>rfl
   |some o=>
    have z:=(G.trans k2) _ _ ((B.keeps.trans k3) _ _ y);rw[hD]at z;cases z
  .rw[mem x,cF,Dw TT x];refine or_congr Iff.rfl ?_;rw[b8];constructor
   .rintro⟨r,h1,rfl⟩;exact#[r,fb.mp h1,zZ]
   .rintro⟨r,h1,rfl⟩;exact#[r,fb.mpr h1,zZ]
def sub(x y:bB):Bool:=x.all λr=>y.contains r
inductive i4(d:List V)(H:Hp)(Q:VK)(c:XK):Prop|mk:∀(a b:Ad) (x y:bB),d=[.ref a,.ref b]->H a=some (.tup (x.map nv))->H b=some (.tup (y.map nv))->x.length<=5->(∀e,Same H e->Q (.bl (sub x y)) e)->i4 d H Q c
def hV(a:LN)(x:bB):LN:=a.filter λu=>decide (u≠x)&&sub u x
def mE(a:LN)(u:bB):Bool:=a.any λv=>decide (v≠u)&&sub u v
def iZ(a:LN)(x:bB):LN:=(hV a x).filter λu=> !mE (hV a x) u
inductive nO(d:List V)(H:Hp)(Q:VK)(b:XK):Prop|mk:∀(a l:Ad) (x:bB) (bs:As) (c:LN),d=[.ref a,.ref l]->H a=some (.tup (x.map nv))->H l=some (.lst (bs.map .ref))->TupsAt H bs c->x.length<=5->c.length<=32->(∀e,Same H e->Q (.bl (mE c x)) e)->nO d H Q b
inductive iK(T:Ad)(c:Pos)(e:List V)(H:Hp)(Q:VK)(d:XK):Prop|mk:∀(m p:Ad) (f:LN) (n:Nat) (x:bB),e=[.ref m,.ref p]->Mach H m f n->H p=some (.tup (x.map nv))->Tabs H->(∀D bs g a b,Keeps H b->Tabs b->L2.noT H D=none->b D=some (.lst (bs.map .ref))->TupsAt b bs g->FamOf f n a->g=iZ a x->Q (.ref D) b)->iK T c e H Q d
def AW{H:Hp}{d:As}{b:LN}{f:bB->Bool}{i:Nat}{a:Ad}{t:bB}(T:TupsAt H d ((b.take i).filter f))(e:b[i]?=some t)(g:H a=some (.tup (t.map nv))):if f t=true then TupsAt H (d++[a]) ((b.take (i+1)).filter f)else TupsAt H d ((b.take (i+1)).filter f):=by
 have h:(b.take (i+1)).filter f=(b.take i).filter f++(if f t=true then[t]else[]):=by
  rw[gQ,e,yV];cases c:f t with
  |true=>simp[c]
  |false=>simp[c]
 rw[h];cases c:f t with
 |true=>exact Am T g
 |false=>
  rw[wA (by decide),wA (by decide),i'];exact T
def N4(F:Fun K wU wU B7 f fd)(g:mg "all"=none):FnOk P w K mg base b9 1 f fd [tY,sZ] i4:=by
 refine F.ok Pf (λj A c s H p Q E t h=>?_)
 obtain⟨a,b,x,y,rfl,d,k,u,q⟩:=h;refine#[_,(bS (cr (c9 (D0 zZ) zZ g boot_all (bK (gK (CompSc.to (N:=[tY,sZ]) (osc:=bT B7) (vs:=[tI]) {}) zZ zZ (pV (pv 0)) (λ_ _ _ _=>fG) (λ_ _ _ _=>(lT (OpR.k (K:=K) (λK=>AX K false) JS zZ) (pv 0) (pv 2) (by with_unfolding_all rfl)))) bJ)))),?_];refine#[_,zZ,a,zZ,#[_,S2 d],uh (f:=λv=>match v with|.int i=> .bl (y.contains i.toNat)|v=>v) (by rw[bF];exact small ()) (S2 d) (λv Q m q=>?_) (λl n=>?_)]
 .obtain⟨r,z,rfl⟩:=b8.mp m;refine#[_,zZ,_,zZ,b,_,zZ,.inr (S2 k),zZ,NS _,?_]
  try dsimp only
  rw[zY];exact q
 .have e:(x.map nv).map (λv=>match v with|.int i=>V.bl (y.contains i.toNat)|v=>v)=(x.map λr=>y.contains r).map V.bl:=by
   rw[eJ,eJ];rfl
  try dsimp only
  rw[e];refine#[l,_,zZ,S1 bG,?_];have o:(x.map λr=>y.contains r).all id=sub x y:=by
   unfold sub;rw[xh];rfl
  try dsimp only
  rw[o];exact q _ (bV n _)
def Ol(F:Fun K xE xE B6 f fd)(L:cE P w K mg base wU 1 [tY,sZ] i4)(M:mg "any"=none):FnOk P w K mg base b9 3 f fd [wS,tG] nO:=by
 refine F.ok Ri (λO A n s H vs Q E r h=>?_)
 obtain⟨a,l,x,bs,j,rfl,U,t,T,Y,few,q⟩:=h;have hu:=r.units;have lb:=T.len;refine#[_,(bS (cr (c9 (G6 zZ) zZ M boot_any (bK (gK (CompSc.to (N:=[wS,tG]) (osc:=bT B6) (vs:=[sZ]) {}) zZ zZ (fH (pv 1)) (λ_ _ _ _=>fG) (λ_ _ _ _=>(uw (lT (OpR.k (K:=K) (λK=>j3 K true) (AM hu) zZ) (pv 0) (pv 1) (dy _)) (uf (cC L r.m zZ (cf (bI (pv 1) (bI (pv 0) ce zZ) zZ))))))) bJ)))),?_];refine#[_,zZ,l,zZ,#[_,S1 t],j7 (xs:=bs.map .ref) (λi k m=>Same H m/\k=((j.take i).map λv=>decide (v≠x)&&sub x v).map V.bl) (by rw[bF,cH];lia) #[Same.refl _,zZ] (λi k m hi p=>?_) (λi v k m y p=>?_) (λk m p c1 o=>?_)]
 .obtain⟨g,rfl⟩:=p;exact#[S1 (g _ _ t),by simp;lia]
 .obtain⟨g,rfl⟩:=p;rw[bZ]at y;obtain⟨b,B,rfl⟩:=dm.mp y;have li:=(bU.mp B).1;obtain⟨u,C⟩:∃u,j[i]?=some u:=#[_,bE ()];have D:=g _ _ (T.is i b u B C);have G:=g _ _ U;have I:((j.take (i+1)).map λv=>decide (v≠x)&&sub x v).map V.bl=((j.take i).map λv=>decide (v≠x)&&sub x v).map V.bl++[V.bl (decide (u≠x)&&sub x u)]:=by
   rw[gQ,C,dC,dC];rfl
  refine#[iI,i5 ?_];refine#[_,zZ,_,zZ,b,a,0,_,_,zZ,zZ,iS (S2 D),iS (S2 G),by decide,λc J=>?_];by_cases e:u=x
  .have d:c=true:=J.mpr (cO.mpr e);subst d;refine#[_,zZ,dv #[g,?_]];rw[I,eW (λz=>z e)];rfl
  .have d:c=false:=by
    cases c with
    |false=>rfl
    |true=>exact wC (cO.mp (J.mp zZ)) e
   subst d;refine#[_,zZ,eK #[_,zZ,_,zZ,a,b,x,u,zZ,G,D,Y,λH4 g4=>#[g.trans g4,?_]]];rw[I,cG e,y6]
 .obtain⟨g,rfl⟩:=p;rw[bF,lb,fZ];have e2:(j.map λv=>decide (v≠x)&&sub x v).any id=mE j x:=by
   unfold mE;rw[zg];rfl
  refine#[c1,_,zZ,S1 bG,?_]
  try dsimp only
  rw[e2];exact q _ (g.trans (bV o _))
def O'{T:Ad}(F:Fun K sH sH z5 f fd)(qN:cE P w K mg base "family" 14 [sA] (fm T (#[78,40,78,93]:Pos)))(jY:cE P w K mg base wU 1 [tY,sZ] i4)(qU:cE P w K mg base xE 3 [wS,tG] nO):FnOk P w K mg base b9 16 f fd [sA,sC] (iK T (#[78,40,78,93]:Pos)):=by
 refine F.ok vS (λag A ab s H vs Q E hr h=>?_)
 obtain⟨m,p,ts,n,x,rfl,M,hp,hT,q⟩:=h;have hu:=hr.units;have n5:=M.n5;refine#[_,(bQ (cj (i:=2) vS.nd zZ Z0 (gK (CompSc.to (N:=[sA,sC,wH]) (osc:=bT z5) (vs:=[wS]) {}) zZ zZ (fH (cC qN hr.m zZ (bK (pv 0) bJ))) (λ_ _ _ _=>zf (PW.pt (An (dQ (OpR.k (K:=K) (λK=>j3 K true) (AM hu) zZ) (pv 0) (pv 2) (dy _)) (yF (lC (cC jY hr.m zZ (cf (bI (pv 0) (bI (pv 2) ce zZ) zZ)))))))) (λ_ _ _ _=>(pv 0)))) (bS (cr (gK (CompSc.to (N:=[sA,sC,wH]) (osc:=bT z5) (vs:=[wS]) {}) zZ zZ (fH (pv 2)) (λ_ _ _ _=>zf (l6 (lC (cC qU hr.m zZ (cf (bI (pv 0) (bI (pv 3) ce zZ) zZ)))))) (λ_ _ _ _=>(pv 0)))))),?_];refine#[_,zZ,m,ts,n,zZ,M,hT,λl bs a H1 k1 T1 nl el Tf ff=>?_];have few:=ff.few M;have lb:=Tf.len;have ae:=k1 _ _ (nU hp);have l5:∀u∈a,u.length<=5:=λu h=>cP (u7 n5 (ff.inU M h)) n5;refine#[l,zZ,#[_,S1 el],j7 (xs:=bs.map .ref) (λi k r=>Same H1 r/\∃d,k=d.map V.ref/\d.length<=i/\TupsAt r d ((a.take i).filter λu=>decide (u≠x)&&sub u x)) (by rw[bF,cH];lia) #[Same.refl _,[],zZ,bR _,zZ,λi b u e=>by simp at e] (λi k r hi p=>?_) (λi v k r L p=>?_) (λk H2 p O af=>?_)]
 .obtain⟨g,d,rfl,e,_⟩:=p;exact#[S1 (g _ _ el),by rw[bF];exact e]
 .obtain⟨g,d,rfl,e,U⟩:=p;rw[bZ]at L;obtain⟨b,Y,rfl⟩:=dm.mp L;have li:=(bU.mp Y).1;obtain⟨u,B⟩:∃u,a[i]?=some u:=#[_,bE ()];have C:=g _ _ (Tf.is i b u Y B);have hx:=g _ _ ae;refine#[iI,_,zZ,_,zZ,b,_,0,_,_,zZ,zZ,iS (S2 C),iS (S2 hx),by decide,λc hc=>#[_,zZ,?_]];by_cases ex:u=x
  .have G:c=true:=hc.mpr (cO.mpr ex);subst G;have z:=AW U B C;rw[eW (λz=>z ex),AA,wA (by decide)]at z;refine dv (dv #[g,d,zZ,(),z])
  .have G:c=false:=by
    cases c with
    |false=>rfl
    |true=>exact wC (cO.mp (hc.mp zZ)) ex
   subst G;refine eK #[_,zZ,_,zZ,b,_,u,x,zZ,C,hx,l5 u (cb B),λH4 I=>#[_,zZ,?_]];have z:=AW (U.same I) B (I _ _ C);rw[cG ex,y6]at z;cases c2:sub u x with
   |true=>
    rw[c2,wB zZ]at z;exact eK #[_,zZ,g.trans I,d++[b],by simp,by simp;exact e,z]
   |false=>
    rw[c2,wA (by decide)]at z;exact dv #[g.trans I,d,zZ,(),z]
 obtain⟨g2,d,rfl,_,U⟩:=p;rw[bF,lb,fZ]at U;have Tw:TupsAt H2 d (hV a x):=U;have kw:=bV af (.lst (d.map V.ref));have t:bC H2 O (.lst (d.map V.ref)) O=some (.lst (d.map V.ref)):=bG;have J:=Tw.same kw;have g3:=g2.trans kw;generalize bC H2 O (.lst (d.map V.ref))=H3 at kw t J g3|-;have lw:(hV a x).length<=32:=cP (jo _ _) few;have lc:=Tw.len;have aa:∀u∈hV a x,u∈a:=λu h=>(cQ.mp h).1;refine#[_,zZ,O,zZ,#[_,S1 t],j7 (xs:=d.map .ref) (λi k r=>Same H3 r/\∃j,k=j.map V.ref/\j.length<=i/\TupsAt r j (((hV a x).take i).filter λu=> !mE (hV a x) u)) (by rw[bF,cH];lia) #[Same.refl _,[],zZ,bR _,zZ,λi b u e=>by simp at e] (λi k r hi p=>?_) (λi v k r L p=>?_) (λk H4 p D hD=>?_)]
 .obtain⟨g,j,rfl,e,_⟩:=p;exact#[S1 (g _ _ t),by rw[bF];exact e]
 .obtain⟨g,j,rfl,e,Td⟩:=p;rw[bZ]at L;obtain⟨b,Y,rfl⟩:=dm.mp L;have li:=(bU.mp Y).1;obtain⟨u,B⟩:∃u,(hV a x)[i]?=some u:=#[_,bE ()];have C:=g _ _ (J.is i b u Y B);refine#[iI,_,zZ,_,zZ,b,O,u,d,hV a x,zZ,C,g _ _ t,J.same g,l5 u (aa u (cb B)),lw,λH5 g5=>#[_,zZ,?_]];have z:=AW (Td.same g5) B (g5 _ _ C);cases c2:mE (hV a x) u with
  |true=>
   rw[c2,wA (by decide)]at z;exact dv #[g.trans g5,j,zZ,(),z]
  |false=>
   rw[c2,wB (by decide)]at z;exact eK #[_,zZ,g.trans g5,j++[b],by simp,by simp;exact e,z]
 obtain⟨I,j,rfl,_,Td⟩:=p;rw[bF,lc,fZ]at Td;have kD:=bV hD (.lst (j.map V.ref));have gg:=g3.trans (I.trans kD);refine q D j _ a _ (k1.trans gg.keeps) (T1.same gg) ?_ bG (Td.same kD) ff rfl;cases y:L2.noT H D with
 |none=>rfl
 |some o=>
  have z:=(g3.trans I) _ _ (k1 _ _ y);rw[hD]at z;cases z
def Rch(ts:LN)(x y:bB):Prop:=∃word:bB,(∀l∈word,l<ts.length)/\cw (bN ts) x word=y
open Classical in
noncomputable def dJ (a:LN) (x y:bB):Bool:=decide (Rch a x y)
def bP{a:LN}{x y:bB}:dJ a x y=true↔Rch a x y:=by
 unfold dJ;exact @decide_eq_true_iff _ (Classical.propDecidable _)
def Rch.refl(ts:LN)(x:bB):Rch ts x x:=#[[],λ_ h=>(nomatch h),zZ]
def Rch.trans{ts:LN}{x y z:bB}(a:Rch ts x y)(b:Rch ts y z):Rch ts x z:=by
 obtain⟨u,c,rfl⟩:=a;obtain⟨v,d,rfl⟩:=b;refine#[u++v,λl e=>(cF.mp e).elim (c l) (d l),?_];unfold cw;rw[oJ]
def DZ{a:LN}{x:bB}{b:TW}(T:Told (bN a) a.length x b)(y:bB):y∈b.map (·.1)↔Rch a x y:=by
 constructor
 .intro h;obtain⟨p,c,rfl⟩:=b8.mp h;obtain⟨d,e⟩:=T.run p c;exact#[p.2,d,e]
 .rintro⟨word,f,rfl⟩;obtain⟨u,g,_⟩:=T.least _ word zZ f;exact b8.mpr #[_,g,zZ]
abbrev WE:=Ad×TW×As
def fJ(a:LN)(ys:List WE):List (List cD×V):=a4k (a.map λx=>(x,[])) (ys.map (·.1))
structure WB(H:Hp)(D:Ad)(ts:LN)(xs:LN)(ys:List WE):Prop where
 len:ys.length=xs.length
 each:∀(i:Nat) (x:bB) (y:WE),xs[i]?=some x->ys[i]?=some y->WordsAt H y.1 y.2.1 y.2.2/\Told (bN ts) ts.length x y.2.1/\y.1≠D
 nd:xs.Nodup
def WB.same{H c:Hp}{D:Ad}{d e:LN}{ys:List WE}(h:WB H D d e ys)(g:Same H c):WB c D d e ys:=#[h.len,λi x y f j=>let⟨a,b⟩:=h.each i x y f j;#[a.same g,b],h.nd]
def QY{H b:Hp}{D:Ad}{c:TW}{d:As}(W:WordsAt H D c d)(g:Keeps H b):WordsAt b D c d:=#[W.len,g _ _ (nU W.dict),λj a p e f=>g _ _ (nU (W.list j a p e f))]
def WB.keeps{H c:Hp}{D:Ad}{d e:LN}{ys:List WE}(h:WB H D d e ys)(g:Keeps H c):WB c D d e ys:=#[h.len,λi x y f j=>let⟨a,b⟩:=h.each i x y f j;#[QY a g,b],h.nd]
def zP{a:LN}{ys:List WE}(h:ys.length=a.length):(fJ a ys).map (·.1)=a.map nk:=by
 unfold fJ L2.a4k
 induction a generalizing ys with
 |nil=>rfl
 | cons x a b=>
  cases ys with
  |nil=>simp at h
  |cons y ys=>
   have z:=b (ys:=ys) (by simpa using h);simp only[List.map_cons,List.zipWith_cons_cons];rw[z]
def WB.off{H:Hp}{D:Ad}{e f:LN}{ys:List WE}{d:List (List cD×V)}{o:HO}(h:WB H D e f ys)(g:H D=some (.dT d)):WB (bC H D o) D e f ys:=by
 refine#[h.len,λi x y k m=>?_,h.nd];obtain⟨a,b,c⟩:=h.each i x y k m;refine#[#[a.len,by rw[bL c];exact a.dict,λj l p n q=>?_],b,c];have z:=a.list j l p n q;rw[bL (nE z g)];exact z
def zS(a:LN):((a.map λx=>((x,[]):bB×bB)).map (·.1))=a:=by
 rw[eJ];exact List.map_id' a
def WB.get{H:Hp}{D b:Ad}{e c:LN}{ys:List WE}{x:bB}(h:WB H D e c ys)(k:Rd H D (.dT (fJ c ys)))(l:x∈c)(m:H b=some (.tup (x.map nv))):∃W f j,DGet H D (.ref b) (some (.ref W))/\WordsAt H W f j/\Told (bN e) e.length x f/\∃i:Nat,c[i]?=some x/\ys[i]?=some (W,f,j):=by
 obtain⟨i,d⟩:=fB.mp l;have n:=(bU.mp d).1;have o:=h.len;obtain⟨y,g⟩:∃y,ys[i]?=some y:=#[_,bE ()];obtain⟨a,t,_⟩:=h.each i x y d g;have v:hG (fJ c ys) (nk x)=some (.ref y.1):=Cj (p:=(x,[])) (by rw[zS];exact h.nd) (by rw[bZ,d];rfl) (by rw[bZ,g];rfl);exact#[y.1,y.2.1,y.2.2,.inr #[_,_,b,k,zZ,by rw[jd];exact m,v.symm],a,t,i,d,g]
def E6{H:Hp}{W c:Ad}{b:LN}{d:TW}{f:As}{x y:bB}(a:WordsAt H W d f)(t:Told (bN b) b.length x d)(g:H c=some (.tup (y.map nv))):∃o,DGet H W (.ref c) o/\o.isSome=dJ b x y:=by
 refine#[_,.inr #[_,nk y,c,.inl a.dict,zZ,by rw[jd];exact g,zZ],?_];by_cases m:y∈d.map (·.1)
 .rw[bP.mpr ((DZ t y).mp m)];obtain⟨p,h,rfl⟩:=b8.mp m;obtain⟨l,e,_⟩:=a.word t.keys h;rw[e];rfl
 .rw[ut m];cases z:dJ b x y with
  |false=>rfl
  |true=>exact wC ((DZ t y).mpr (bP.mp z)) m
noncomputable def cq (ts a:LN) (x:bB):LN:=a.filter λy=>dJ ts x y&&dJ ts y x
noncomputable def cn (ts a:LN):hO:=(a.filter λx=>(cq ts a x).head? ==some x).map (cq ts a)
def big(a:LN):LN:=a.filter λx=>decide (1<x.length)
inductive de(T:Ad)(e:Pos)(h:List V)(H:Hp)(Q:VK)(f:XK):Prop|mk:∀(m:Ad) (g:LN) (n:Nat),h=[.ref m]->Mach H m g n->Tabs H->(∀D a d c,Keeps H c->Tabs c->L2.noT H D=none->FamOf g n a->c D=some (.dT (fJ (big a) d))->WB c D g (big a) d->(∀y∈d,∀b∈y.2.2,L2.noT H b=none)->d.Pairwise (λp q=>∀b∈p.2.2,b∉q.2.2)->Q (.ref D) c)->de T e h H Q f
inductive iB(d:List V)(H:Hp)(Q:VK)(c:XK):Prop|mk:∀(D p:Ad) (o:Obj) (e a:LN) (f:List WE) (x:bB),d=[.ref D,.ref p]->H D=some (.frz o (.dT (fJ a f)))->WB H D e a f->H p=some (.tup (x.map nv))->x∈a->a.length<=32->(∀l bs b,Same H b->H l=none->b l=some (.lst (bs.map .ref))->TupsAt b bs (cq e a x)->Q (.ref l) b)->iB d H Q c
def Ly{T:Ad}(F:Fun K wL wL Ep f fd)(qN:cE P w K mg base "family" 14 [sA] (fm T (#[78,40,78,93]:Pos)))(jQ:cE P w K mg base sR 10 [sA,sC] (cU T (#[78,40,78,93]:Pos)))(jA:mg "len"=none):FnOk P w K mg base b9 16 f fd [sA] (de T (#[78,40,78,93]:Pos)):=by
 refine F.ok qE (λau A ah s H vs Q E hr h=>?_)
 obtain⟨m,ts,n,rfl,M,hT,q⟩:=h;have hu:=hr.units;have ai:=ik hr;refine#[_,(bQ (cj (i:=1) qE.nd zZ Z' Ci) (bQ (fY fF zZ (fH (cC qN hr.m zZ (bK (pv 0) bJ))) (eR (i:=2) qE.nd zZ Z') (bS (dq (dQ Cn (c9 fv zZ jA eU (bK (pv 2) bJ)) bO (dy _)) (bS (xQ ai (pv 1) (pv 2) (cC jQ hr.m zZ (cf (bI (pv 0) (bI (pv 2) ce zZ) zZ))) zZ)) dD))) (bS (cr (pv 1))))),?_];intro D hD;have kD:=bV hD (.dT []);refine#[_,zZ,m,ts,n,zZ,M.same kD,hT.same kD,λso fs d H1 k1 T1 av aa Tf ff=>?_];have aj:=k1 _ _ (nU (bG:bC H D (.dT []) D=_));have ak:=kD.keeps.trans k1;have lf:=Tf.len;have few:=ff.few M;have al:d.Nodup:=ff.up.imp λ{a b} z e=>by
  subst e;rw[(on gl d).irr]at z;cases z
 have ab:=IT hD
 let Pv:Nat->L2.St->Hp->Prop:=λi σ N=>Keeps H N/\Tabs N/\N so=some (.lst (fs.map .ref))/\TupsAt N fs d/\∃k o2,N D=some (.dT (fJ (big (d.take i)) k))/\WB N D ts (big (d.take i)) k/\(∀y∈k,∀b∈y.2.2,L2.noT H b=none)/\k.Pairwise (λp q=>∀b∈p.2.2,b∉q.2.2)/\σ=[some (.ref m),some (.ref D),o2]
 refine#[so,zZ,#[_,S1 aa],oo (xs:=fs.map .ref) Pv #[ak,T1,aa,Tf,[],none,aj,#[zZ,λi x y e=>by simp[big]at e,List.nodup_nil],λ_ h=>(nomatch h),.nil,zZ] (λi σ N _ p=>S1 p.2.2.1) (λi v σ H2 hv p=>?_) (λσ H2 p=>?_)]
 .obtain⟨Y,T2,O,C,k,o2,r,B,nw,ap,rfl⟩:=p;rw[bZ]at hv;obtain⟨b,eb,rfl⟩:=dm.mp hv;have li:=(bU.mp eb).1;obtain⟨x,ex⟩:∃x,d[i]?=some x:=#[_,bE ()];have hb:=C.is i b x eb ex;have mx:=cb ex;have G:big (d.take (i+1))=big (d.take i)++(if 1<x.length then[x]else[]):=by
   unfold big;rw[gQ,ex,yV];by_cases c:1<x.length
   .rw[wB c];simp[c]
   .rw[wA c];simp[c]
  refine#[_,zZ,b,_,zZ,.inr (S2 hb),_,_,zZ,zZ,_,zZ,lF (λc=>?_) (λc=>?_)]
  .have c1:1<x.length:=by
    have z:=hE c;rw[bF]at z;lia
   rw[wB c1]at G;refine#[_,zZ,_,zZ,m,b,ts,n,x,zZ,M.keeps Y,hb,ff.inU M mx,T2,λW ws as H3 k3 T3 Wd U TT=>?_];have t:=k3 _ _ (nU r);have am:=k3 _ _ (nU hb);have an:=B.keeps k3;have WD:W≠D:=λz=>by
    subst z;have z2:=U W (cR ..);rw[nU r]at z2;cases z2
   have xn:x∉big (d.take i):=λh=>by
    have h1:=(cQ.mp h).1;obtain⟨j,ej⟩:=fB.mp h1;have lj:=(bU.mp ej).1;rw[fh]at lj;rw[AE ()]at ej;have:=(jf () al).mp (ej.trans ex.symm)
    lia
   have vn:hG (fJ (big (d.take i)) k) (nk x)=none:=ut (by rw[zS];exact xn);have lk:(fJ (big (d.take i)) k).length<sizeLine:=by
    rw[<-bF (f:=(·.1)),zP B.len,bF,cH];have z1:(big (d.take i)).length<=(d.take i).length:=jo _ _;rw[fh]at z1;lia
   refine#[_,zZ,_,zZ,D,_,zZ,DPut.t t (by rw[jd];exact am) lk,?_];have ae:=k3 _ _ (nU O);have ao:TupsAt H3 fs d:=#[C.len,λi b u I J=>k3 _ _ (nU (C.is i b u I J))];have ek:i9 (fJ (big (d.take i)) k) (nk x) (.ref W)=fJ (big (d.take (i+1))) (k++[(W,ws,as)]):=by
    rw[FR _ vn,G];unfold fJ;rw[dC,dC];exact(DM (ws:=(big (d.take i)).map λx=>(x,[])) (as:=k.map (·.1)) (p:=(x,[])) (a:=W) (by simp[B.len])).symm
   have wo:=an.off (o:= .dT (fJ (big (d.take (i+1))) (k++[(W,ws,as)]))) t;have Wo:WordsAt (bC H3 D (.dT (fJ (big (d.take (i+1))) (k++[(W,ws,as)])))) W ws as:=#[Wd.len,by rw[bL WD];exact Wd.dict,λj l p h1 h2=>by
    have z:=Wd.list j l p h1 h2;rw[bL (nE z t)];exact z]
   rw[ek];refine#[λL o g=>?_,?_,?_,?_,k++[(W,ws,as)],_,bG,#[?_,λj x' y' I J=>?_,?_],?_,?_,zZ]
   .rw[bL λz=>?_]
    .exact(Y.trans k3) _ _ g
    .subst z;rw[ab]at g;cases g
   .exact T3.most λL u nd _ g=>by rw[bL (ju g t λe=>nd _ e)];exact g
   .rw[bL (nE ae t)];exact ae
   .exact pY ao t λ_ e=>nomatch e
   .rw[G,cI,cI,B.len];rfl
   .rw[G]at I;have hl:=B.len;by_cases hj:j<k.length
    .rw[dN ()]at I;rw[dN hj]at J;exact wo.each j x' y' I J
    .rw[dO ()]at I J;have z:j-k.length=0:=by
      have:=(bU.mp J).1;simp at this;lia
     rw[<-hl,z]at I;rw[z]at J;cases I;cases J;exact#[Wo,TT,WD]
   .rw[G,yq];refine#[B.nd,by simp,λa ha c hc e=>xn ?_];rw[ci.mp hc]at e;rw[<-e];exact ha
   .intro y hy L g
    rcases cF.mp hy with h|h
    .exact nw y h L g
    .rw[ci.mp h]at g;have z:=U L (.tail _ g);cases y2:L2.noT H L with
     |none=>rfl
     |some o=>
      have z3:=Y _ _ y2;rw[qo z3 (vx y2).2]at z;cases z
   .rw[iX];refine#[ap,td _ _,λp hp q' hq L g af=>?_];rw[ci.mp hq]at af;have z:=U L (.tail _ af);obtain⟨j,ej⟩:=fB.mp hp;have lj:=(bU.mp ej).1;have hl:=B.len;obtain⟨x',aq⟩:∃x',(big (d.take i))[j]?=some x':=#[_,bE ()];obtain⟨a',_⟩:=B.each j x' p aq ej;obtain⟨j2,ag⟩:=fB.mp g;have ar:=(bU.mp ag).1;have z2:=a'.list j2 L _ ag (bE (by rw[<-a'.len];exact ar));rw[nU z2]at z;cases z
  .have c1: ¬1<x.length:=by
    have z:=Ed (pT.mpr c);rw[bF]at z;lia
   rw[wA c1,i']at G;refine#[Y,T2,O,C,k,_,?_,?_,nw,ap,zZ]
   .rw[G];exact r
   .rw[G];exact B
 .obtain⟨Y,T2,O,C,k,o2,r,B,nw,ap,rfl⟩:=p;rw[bF,lf,fZ]at r B;exact#[_,zZ,q D d k H2 Y T2 ab ff r B nw ap]
def Na(F:Fun K xF xF Ch f fd):FnOk P w K mg base b9 1 f fd [sI,sC] iB:=by
 refine F.ok SJ (λaa A G s H vs Q E T h=>?_)
 obtain⟨D,p,o,j,I,ys,x,rfl,k,n,U,hx,few,q⟩:=h;have hu:=T.units;have d:=ik T;refine#[_,(bS (cr (gK (CompSc.to (N:=[sI,sC]) (osc:=bT Ch) (vs:=[sZ]) {}) zZ zZ (HH (pv 0)) (λ_ _ _ _=>zf (PW.pt (An (sn (zJ d (pv 0) (oY d (pv 1) (pv 2) (λ_ _=>rfl)))) (yF (sn (zJ d (pv 2) (oY d (pv 1) (pv 0) (λ_ _=>rfl)))))))) (λ_ _ _ _=>(pv 0))))),?_];refine#[_,zZ,D,_,I,zZ,zP n.len,.inr #[o,k],λo' r fz=>?_];have e2:o'=o/\r=H:=by
  rcases fz with⟨e,rfl⟩|⟨e,_⟩
  .rw[k]at e;injection e with e
   injection e with e _
   exact#[e.symm,zZ]
  .rw[k]at e;cases e
 obtain⟨rfl,rfl⟩:=e2;have Y:Rd r D (.dT (fJ I ys)):= .inr #[_,k];refine MI (zP n.len) (λi g v=>v=r/\∃c,g=c.map V.ref/\c.length<=i/\TupsAt r c ((I.take i).filter λy=>dJ j x y&&dJ j y x)) (by rw[cH];lia) #[zZ,[],zZ,bR _,zZ,λi b u e=>by simp at e] (λi g v _ l=>?_) (λi a t g v et J l=>?_) (λg v l B m=>?_)
 .obtain⟨rfl,c,rfl,e,_⟩:=l;exact#[k,by rw[bF];exact e]
 .obtain⟨rfl,c,rfl,e,C⟩:=l;have z:=AW (f:=λy=>dJ j x y&&dJ j y x) C et J;obtain⟨W,ws,as,dg,wa,tt,_⟩:=n.get Y hx U;obtain⟨o1,d1,s1⟩:=E6 wa tt J;have ht:=cb et;obtain⟨W2,ab,ae,L,M,O,_⟩:=n.get Y ht J;obtain⟨o2,d2,s2⟩:=E6 M O U;refine#[iI,_,zZ,_,zZ,_,zZ,D,_,zZ,dg,W,o1,zZ,d1,_,zZ,?_];rw[s1];cases B:dJ j x t with
  |false=>
   rw[B,AA,wA (by decide)]at z;exact dv (dv #[zZ,c,zZ,(),z])
  | true=>
   rw[B,y6]at z;refine eK #[_,zZ,_,zZ,_,zZ,D,_,zZ,L,W2,o2,zZ,d2,_,zZ,?_];rw[s2];cases c2:dJ j t x with
   |true=>
    rw[c2,wB zZ]at z;exact eK #[_,zZ,zZ,c++[a],by simp,by simp;exact e,z]
   |false=>
    rw[c2,wA (by decide)]at z;exact dv #[zZ,c,zZ,(),z]
 .obtain⟨rfl,c,rfl,_,C⟩:=l;rw[fZ]at C;have kc:=bV m (.lst (c.map V.ref));exact q B c _ kc m bG (C.same kc)
structure LsAt(H:Hp)(as:As)(cs:hO):Prop where
 len:as.length=cs.length
 is:∀(i:Nat) (a:Ad) (c:LN),as[i]?=some a->cs[i]?=some c->∃bs:As,H a=some (.lst (bs.map .ref))/\TupsAt H bs c
def LsAt.same{H b:Hp}{d:As}{e:hO}(h:LsAt H d e)(g:Same H b):LsAt b d e:=#[h.len,λi a c f j=>let⟨bs,k,l⟩:=h.is i a c f j;#[bs,g _ _ k,l.same g]]
def LsAt.off{H:Hp}{l:Ad}{g:List V}{o:HO}{b:As}{d:hO}(h:LsAt H b d)(j:H l=some (.lst g))(no:l∉b):LsAt (bC H l o) b d:=#[h.len,λi a c f k=>by
 obtain⟨bs,m,n⟩:=h.is i a c f k;refine#[bs,?_,pY n j λ_ e=>nomatch e];rw[bL λ(z:a=l)=>no (by rw[<-z];exact cb f)];exact m]
def LsAt.snoc{H:Hp}{g:As}{f:hO}{a:Ad}{c:LN}{bs:As}(h:LsAt H g f)(j:H a=some (.lst (bs.map .ref)))(T:TupsAt H bs c):LsAt H (g++[a]) (f++[c]):=by
 refine#[by simp[h.len],λi b v e d=>?_];have l:=h.len;by_cases k:i<f.length
 .rw[dN ()]at e d;exact h.is i b v e d
 .rw[dO ()]at e d;have z:i-f.length=0:=by
   have:=(bU.mp d).1;simp at this;lia
  rw[l,z]at e;rw[z]at d;cases e;cases d;exact#[bs,j,T]
def Dh{ts a:LN}{x:bB}(b:x∈a):x∈cq ts a x:=cQ.mpr #[b,by rw[bP.mpr (Rch.refl ts x)];rfl]
inductive gO(g:List V)(H:Hp)(Q:VK)(d:XK):Prop|mk:∀(D:Ad) (h b:LN) (e:List WE),g=[.ref D]->H D=some (.dT (fJ b e))->WB H D h b e->b.length<=32->(∀l o f c,Same (bC H D (.frz o (.dT (fJ b e)))) c->H l=none->c l=some (.lst (f.map .ref))->LsAt c f (cn h b)->(∀a∈f,H a=none)->Q (.ref l) c)->gO g H Q d
def Mx(F:Fun K wI wI DG f fd)(qV:cE P w K mg base xF 1 [sI,sC] iB):FnOk P w K mg base b9 3 f fd [sI] gO:=by
 refine F.ok kI (λaj A aa s H vs Q E hr h=>?_)
 obtain⟨D,g,d,v,rfl,hD,wb,few,q⟩:=h;have hu:=hr.units;have ak:=ik hr;refine#[_,(bQ (cj (i:=1) kI.nd zZ Z' (gT bJ)) (bQ (fY fF zZ (HH (pv 0)) (eR (i:=2) kI.nd zZ Z') (bQ (cj (i:=3) kI.nd zZ Z' (cC qV hr.m zZ (cf (bI (pv 0) (bI (pv 2) ce zZ) zZ)))) (bS (dq (dQ (EJ hu) (ck d9 (pv 3) bO (λ_ _=>rfl)) (pv 2) (dy _)) (bS (i3 (gJ iE lM kS lL (pv 1) (bK (pv 3) bJ)))) dD)))) (bS (cr (pv 1))))),?_];refine#[by show 0<=sizeLine;decide,λj m=>?_];have kf:=bV m (.lst []);have L:=kf _ _ hD;have M:j≠D:=(cV hD m).symm;refine#[_,zZ,D,_,d,zZ,zP wb.len,.inl L,λo H2 fz=>?_];have e2:H2=bC (bC H j (.lst [])) D (.frz o (.dT (fJ d v))):=by
  rcases fz with⟨e,_⟩|⟨_,e⟩
  .rw[L]at e;cases e
  .exact e
 have gz:Same (bC H D (.frz o (.dT (fJ d v)))) H2:=λb u I=>by
  rw[e2];by_cases z:b=D
  .subst z;rw[bG]at I|-;exact I
  .rw[bL z]at I|-;exact kf _ _ I
 have wz:WB (bC H D (.frz o (.dT (fJ d v)))) D g d v:=wb.off hD;have ab:H2 j=some (.lst []):=by rw[e2,bL M,bG]
 have ae:bC H D (.frz o (.dT (fJ d v))) j=none:=by rw[bL M];exact m
 clear e2 fz
 let Pv:Nat->L2.St->Hp->Prop:=λi T U=>Same (bC H D (.frz o (.dT (fJ d v)))) U/\∃k o2 o3,U j=some (.lst (k.map .ref))/\j∉k/\(∀a∈k,H a=none)/\k.length<=i/\LsAt U k (((d.take i).filter λx=>(cq g d x).head? ==some x).map (cq g d))/\T=[some (.ref D),some (.ref j),o2,o3]
 refine Og (zP wb.len) Pv #[gz,[],none,none,ab,by simp,(λ_ h=>nomatch h),Nat.le_refl _,#[zZ,λi a c e=>by simp at e],zZ] (λi T U _ p=>p.1 _ _ bG) (λi a x T H3 ex Y p=>?_) (λT H3 p=>?_)
 .obtain⟨B,k,o2,o3,n,C,r,af,N,rfl⟩:=p;have mx:=cb ex;refine#[_,zZ,_,zZ,D,a,o,g,d,v,x,zZ,B _ _ bG,wz.same B,Y,mx,few,λl bs H4 J nl el Tl=>?_];have lb:=Tl.len;have self:=Dh (ts:=g) mx;obtain⟨y,rest,ea⟩:∃y rest,cq g d x=y::rest:=by
   cases z:cq g d x with
   |nil=>rw[z]at self;cases self
   |cons y rest=>exact#[y,rest,zZ]
  have b1:0<bs.length:=by
   rw[lb,ea];simp
  obtain⟨b,eb⟩:∃b,bs[0]?=some b:=#[_,bE b1];have I:H4 b=some (.tup (y.map nv)):=Tl.is 0 b y eb (by rw[ea];rfl);have ag:fP (bs.map V.ref) ((0:Nat):Int)=some (.ref b):=ge (by rw[bZ,eb];rfl);have nx:((d.take (i+1)).filter λx=>(cq g d x).head? ==some x).map (cq g d)=((d.take i).filter λx=>(cq g d x).head? ==some x).map (cq g d)++(if y=x then[cq g d x]else[]):=by
   rw[gQ,ex,yV,dC];by_cases c:y=x
   .rw[wB c];simp[ea,c]
   .rw[wA c];simp[ea,c]
  refine#[_,zZ,l,_,_,_,zZ,zZ,S1 el,ag,_,zZ,b,a,0,_,_,zZ,zZ,iS (S2 I),iS (S2 (J _ _ Y)),by decide,λc hc=>#[_,zZ,?_]];have t:=J _ _ n;have ah:l≠j:=(cV n nl).symm;have ai:H l=none:=by
   cases z:H l with
   |none=>rfl
   | some u=>
    by_cases e:l=D
    .have O:=B _ _ (bG (H:=H) (a:=D) (o:= .frz o (.dT (fJ d v))));rw[<-e,nl]at O;cases O
    .have O:=B l u (by rw[bL e];exact z);rw[nl]at O;cases O
  by_cases e:y=x
  .have G:c=true:=hc.mpr (cO.mpr e);subst G;rw[wB e]at nx;refine eK #[_,zZ,.inl #[zZ,_,S1 t],_,zZ,j,_,_,zZ,zZ,t,by rw[bF,cH];have:=(bU.mp ex).1;lia,?_];have L4:=(N.same J).snoc el Tl;have na:j∉k++[l]:=λz=>(cF.mp z).elim C λz=>ah (ci.mp z).symm
   refine#[gk (B.trans J) ae,k++[l],_,_,by rw[bG,dC];rfl,na,(λa Y=>(cF.mp Y).elim (r a) λz=>by rw[ci.mp z];exact ai),by rw[cI];simp;lia,?_,zZ];rw[nx];exact L4.off t na
  .have G:c=false:=by
    cases c with
    |false=>rfl
    |true=>exact wC (cO.mp (hc.mp zZ)) e
   subst G;rw[wA e,i']at nx;refine dv #[B.trans J,k,_,_,t,C,r,(),?_,zZ];rw[nx];exact N.same J
 .obtain⟨B,k,o2,o3,n,C,r,af,N,rfl⟩:=p;rw[fZ]at N;exact#[_,zZ,q j o k H3 B m n N r]
noncomputable def cB (ts:LN) (cs:hO) (c:LN):Bool:=cs.any λd=>decide (d≠c)&&dJ ts (d.headD []) (c.headD [])
def Ct{K:S4}{H:Hp}{a:Ad}{bs:As}{c:LN}{n:Nat}(f:H a=some (.lst (bs.map .ref)))(T:TupsAt H bs c):Rep K H (n+2) (.lst (c.map λu=> .tup (hZ u))) (.ref a):=by
 refine .lst (S1 f) (by rw[bF,bF,T.len]) λi d v b e=>?_;rw[bZ]at b e;obtain⟨p,g,rfl⟩:=dm.mp b;obtain⟨a,h,rfl⟩:=dm.mp e;exact iS (S2 (T.is i a p h g))
def EB{H:Hp}{bs:As}{c:LN}(T:TupsAt H bs c)(d:c≠[]):∃b,fP (bs.map V.ref) 0=some (.ref b)/\H b=some (.tup ((c.headD []).map nv))/\c.headD []∈c:=by
 have e:=T.len;obtain⟨y,rest,f⟩:∃y rest,c=y::rest:=by
  cases c with
  |nil=>exact wC zZ d
  |cons y rest=>exact#[y,rest,zZ]
 subst f;obtain⟨b,a⟩:∃b,bs[0]?=some b:=#[_,bE (by rw[e];simp)];have z:fP (bs.map V.ref) ((0:Nat):Int)=some (.ref b):=ge (by rw[bZ,a];rfl);exact#[b,z,T.is 0 b y a zZ,cR ..]
inductive iF(g:List V)(H:Hp)(Q:VK)(e:XK):Prop|mk:∀(D a l:Ad) (h f:LN) (i:List WE) (c:LN) (b:hO) (bs j:As),g=[.ref D,.ref a,.ref l]->Rd H D (.dT (fJ f i))->WB H D h f i->H a=some (.lst (bs.map .ref))->TupsAt H bs c->H l=some (.lst (j.map .ref))->LsAt H j b->c≠[]->(∀d∈b,d≠[]/\∀x∈d,x∈f)->b.length<=32->(∀k,Same H k->Q (.bl (cB h b c)) k)->iF g H Q e
def Qv(F:Fun K "is_led_to" "is_led_to" CC f fd)(uY:mg "any"=none):FnOk P w K mg base b9 1 f fd [sI,tG,tJ] iF:=by
 refine F.ok RV (λaa A r s H vs Q E M h=>?_)
 obtain⟨D,a,l,j,xs,ys,c,k,bs,as,rfl,rd,wb,O,T,U,L,cne,t,few,q⟩:=h;have hu:=M.units;have m:=ik M;have la:=L.len;obtain⟨b0,u,x,_⟩:=EB T cne;refine#[_,(bS (cr (c9 (G6 zZ) zZ uY boot_any (bK (gK (CompSc.to (N:=[sI,tG,tJ]) (osc:=bT CC) (vs:=[sZ]) {}) zZ zZ (fH (pv 2)) (λ_ _ _ _=>fG) (λ_ _ _ _=>(uw (lT (OpR.k (K:=K) (λK=>j3 K true) (AM hu) zZ) (pv 0) (pv 2) (dy _)) (uf (Ll (zJ m (ck (IxR.k (K:=K) mj d9 zZ) (pv 2) bO (λ_ _=>rfl)) (oY m (pv 1) (ck (IxR.k (K:=K) mj d9 zZ) (pv 0) bO (λ_ _=>rfl)) (λ_ _=>rfl)))))))) bJ)))),?_];refine#[_,zZ,l,zZ,#[_,S1 U],j7 (xs:=as.map .ref) (λi b n=>n=H/\b=((k.take i).map λd=>decide (d≠c)&&dJ j (d.headD []) (c.headD [])).map V.bl) (by rw[bF,cH];lia) #[zZ,zZ] (λi b n hi p=>?_) (λi v b n Y p=>?_) (λb n p c1 y=>?_)]
 .obtain⟨rfl,rfl⟩:=p;exact#[S1 U,by simp;lia]
 .obtain⟨rfl,rfl⟩:=p;rw[bZ]at Y;obtain⟨e,ee,rfl⟩:=dm.mp Y;have li:=(bU.mp ee).1;obtain⟨d,B⟩:∃d,k[i]?=some d:=#[_,bE ()];obtain⟨ds,he,Td⟩:=L.is i e d ee B;obtain⟨C,dx⟩:=t d (cb B);obtain⟨b1,G,I,m1⟩:=EB Td C;have nx:((k.take (i+1)).map λd=>decide (d≠c)&&dJ j (d.headD []) (c.headD [])).map V.bl=((k.take i).map λd=>decide (d≠c)&&dJ j (d.headD []) (c.headD [])).map V.bl++[V.bl (decide (d≠c)&&dJ j (d.headD []) (c.headD []))]:=by
   rw[gQ,B,dC,dC];rfl
  refine#[iI,i5 ?_];refine#[_,zZ,_,zZ,e,a,1,_,_,zZ,zZ,Ct he Td,Ct O T,by decide,λJ hc=>?_];by_cases o:d=c
  .have g:J=true:=hc.mpr (by rw[o]);subst g;refine#[_,zZ,dv #[zZ,?_]];rw[nx,eW (λz=>z o)];rfl
  .have g:J=false:=by
    cases J with
    |false=>rfl
    |true=>exact wC (HJ (hc.mp zZ)) o
   subst g;obtain⟨W,ws,wa,dg,wt,tt,_⟩:=wb.get rd (dx _ m1) I;obtain⟨o1,d1,s1⟩:=E6 wt tt x;refine#[_,zZ,eK #[_,zZ,a,_,_,_,zZ,zZ,S1 O,u,_,zZ,_,zZ,e,_,_,_,zZ,zZ,S1 he,G,D,_,zZ,dg,W,o1,zZ,d1,zZ,?_]];rw[nx,cG o,y6,s1]
 .obtain⟨rfl,rfl⟩:=p;rw[bF,la,fZ];have e2:(k.map λd=>decide (d≠c)&&dJ j (d.headD []) (c.headD [])).any id=cB j k c:=by
   unfold cB;rw[zg];rfl
  refine#[c1,_,zZ,S1 bG,?_]
  try dsimp only
  rw[e2];exact q _ (bV y _)
inductive Ord (ts:LN):hO->List LN->Prop
 |nil:Ord ts [] []
 |cons {cs told:hO} {s:LN} (h:(cs.filter λc=> !cB ts cs c).head?=some s) (r:Ord ts (cs.filter λc=>decide (c≠s)) told):Ord ts cs (s::told)
def xw(a:LN)(b:hO):Prop:=∀c∈b,∀d∈b,dJ a (c.headD []) (d.headD [])=true->dJ a (d.headD []) (c.headD [])=true->c=d
def J4{a:Type}{xs:List a}{p q:a->Bool}(h:∀z∈xs,p z=true->q z=true)(e:∃z∈xs,q z=true/\p z=false):xs.countP p<xs.countP q:=by
 induction xs with
 |nil=>
  obtain⟨z,hz,_⟩:=e;cases hz
 | cons x xs d=>
  rw[Bn,Bn];have mono:xs.countP p<=xs.countP q:=List.countP_mono_left λz hz f=>h z (.tail _ hz) f;obtain⟨z,hz,b,c⟩:=e
  rcases cX.mp hz with rfl|hz
  .rw[b,c];simp;lia
  .have:=d (λz hz=>h z (.tail _ hz)) #[z,hz,b,c];have g:=h x (cR ..);cases i:p x with
   |true=>
    rw[g i];simp;lia
   |false=>
    simp;split<;>lia
theorem Fz{ts:LN}{cs:hO}(un:xw ts cs):∀(k:Nat) (s:LN),s∈cs->cs.countP (λt=>dJ ts (t.headD []) (s.headD []))<=k->∃s∈cs,cB ts cs s=false
 |0,s,a,f=>by
  have z:0<cs.countP (λt=>dJ ts (t.headD []) (s.headD [])):=List.countP_pos_iff.mpr #[s,a,bP.mpr (Rch.refl ts _)];lia
 | k+1,s,a,f=>by
  cases c:cB ts cs s with
  |false=>exact#[s,a,c]
  | true=>
   obtain⟨d,b,e⟩:=yx.mp c;rw[mq,Aw]at e;obtain⟨g,r⟩:=e;have lt:=J4 (xs:=cs) (p:=λt=>dJ ts (t.headD []) (d.headD [])) (q:=λt=>dJ ts (t.headD []) (s.headD [])) (λz _ h=>bP.mpr ((bP.mp h).trans (bP.mp r))) #[s,a,bP.mpr (Rch.refl ts _),by
    cases z:dJ ts (s.headD []) (d.headD [])with
    |false=>rfl
    |true=>exact wC (un d b s a r z) g]
   exact Fz un k d b ()
def Je{H:Hp}{d as:As}{b:hO}{f:LN->Bool}{i:Nat}{a:Ad}{c:LN}(L:LsAt H d ((b.take i).filter f))(g:b[i]?=some c){bs:As}(h:H a=some (.lst (bs.map .ref)))(T:TupsAt H bs c):if f c=true then LsAt H (d++[a]) ((b.take (i+1)).filter f)else LsAt H d ((b.take (i+1)).filter f):=by
 have e:(b.take (i+1)).filter f=(b.take i).filter f++(if f c=true then[c]else[]):=by
  rw[gQ,g,yV];cases z:f c with
  |true=>simp[z]
  |false=>simp[z]
 by_cases z:f c=true
 .rw[wB z,e,wB z];exact L.snoc h T
 .rw[wA z,e,wA z,i'];exact L
inductive e7(k:List V)(H:Hp)(Q:VK)(f:XK):Prop|mk:∀(D l:Ad) (g h:LN) (m:List WE) (c:hO) (i:As),k=[.ref D,.ref l]->Rd H D (.dT (fJ h m))->WB H D g h m->H l=some (.lst (i.map .ref))->LsAt H i c->(∀d∈c,d≠[]/\∀x∈d,x∈h)->xw g c->c.length<=32->(∀j b told e,Same H e->H j=none->e j=some (.lst (b.map .ref))->LsAt e b told->Ord g c told->told.length<=32->(∀d∈told,d∈c)->(∀a∈b,a∈i)->Q (.ref j) e)->e7 k H Q f
def Hk{H b:Hp}{a:Ad}{u:HO}(h:Rd H a u)(g:Same H b):Rd b a u:=h.elim (λe=> .inl (g _ _ e)) λ⟨o,e⟩=> .inr #[o,g _ _ e]
def Px(F:Fun K wF wF zw f fd)(rE:cE P w K mg base "is_led_to" 1 [sI,tG,tJ] iF):FnOk P w K mg base b9 3 f fd [sI,tJ] e7:=by
 refine F.ok kB (λaT A aJ s H vs Q E hr h=>?_)
 obtain⟨D,l0,M,xs,ys,aa,ab,rfl,rd,wb,av,L0,aK,un,few,q⟩:=h;have hu:=hr.units;have aU:=ik hr;refine#[_,(bQ (cj (i:=2) kB.nd zZ Z' (gT bJ)) (bQ (IH fF (F7 (pv 1) (λ_=>rfl)) (bQ (cj (i:=3) kB.nd zZ Z0 (gK (CompSc.to (N:=[sI,tJ,"told","free"]) (osc:=bT zw) (vs:=[tG]) {}) zZ zZ (fH (pv 1)) (λ_ _ _ _=>zf (l6 (lC (cC rE hr.m zZ (cf (bI (pv 1) (bI (pv 0) (bI (pv 2) ce zZ) zZ) zZ)))))) (λ_ _ _ _=>(pv 0)))) (bQ (i3 (gJ iE lM kS lL (pv 2) (bK (ck d9 (pv 3) bO (λ_ _=>rfl)) bJ))) (bS (cj (i:=1) kB.nd zZ Z0 (gK (CompSc.to (N:=[sI,tJ,"told","free"]) (osc:=bT zw) (vs:=[tG]) {}) zZ zZ (fH (pv 1)) (λ_ _ _ _=>zf (dQ (OpR.k (K:=K) (λK=>j3 K true) (AM hu) zZ) (pv 0) (ck (IxR.k (K:=K) mj d9 zZ) (pv 4) bO (λ_ _=>rfl)) (dy _))) (λ_ _ _ _=>(pv 0)))))))) (bS (cr (pv 2))))),?_];refine#[by show 0<=sizeLine;decide,λt O=>?_];have kf:=bV O (.lst []);have aw:t∉ab:=λz=>by
  obtain⟨j,ej⟩:=fB.mp z;have lj:=(bU.mp ej).1;obtain⟨bs,e,_⟩:=L0.is j t _ ej (bE (by rw[<-L0.len];exact lj));rw[O]at e;cases e
 let Wv:Nat->L2.St->Hp->Prop:=λm σ C=>Same H C/\∃l B n k told o3,C l=some (.lst (B.map .ref))/\LsAt C B n/\l≠t/\t∉B/\(∀c∈n,c∈aa)/\C t=some (.lst (k.map .ref))/\LsAt C k told/\t∉k/\(∀c∈told,c∈aa)/\told.length+n.length<=32/\(∀a∈B,a∈ab)/\(∀a∈k,a∈ab)/\(∀rest,Ord M n rest->Ord M aa (told++rest))/\m=n.length/\σ=[some (.ref D),some (.ref l),some (.ref t),o3]
 refine#[Wv,#[_,kf,l0,ab,aa,[],[],none,kf _ _ av,L0.same kf,cV av O,aw,λc h=>h,bG,#[zZ,λi a c e=>by simp at e],by simp,λc h=>(nomatch h),by simpa using few,(λ_ h=>h),(λ_ h=>nomatch h),λrest h=>h,zZ,zZ],λm σ H1 p=>?_];obtain⟨g1,l,B,n,k,told,o3,el,L,aL,ak,G,al,am,aM,ag,aV,ia,ax,ah,hm,rfl⟩:=p;have la:=L.len;have aW:=am.len;refine#[_,zZ,!(B.map V.ref).isEmpty,.inl #[_,S1 el,zZ],?_];by_cases an:n=[]
 .subst an;have e:B=[]:=pU.mp la;subst e;rw[wA (by simp)];have od:=ah [] .nil;rw[i']at od;exact#[_,zZ,q t k told H1 g1 O al am od () ag ax]
 have ne:B≠[]:=λz=>an (pU.mp (by rw[<-la,z];rfl));have c1:(!(B.map V.ref).isEmpty)=true:=by
  cases B with
  |nil=>exact wC zZ ne
  |cons=>rfl
 rw[c1];refine eK ?_;refine#[λay C=>∃m',m'<m/\Wv m' ay C,λay C h=>h,?_];have ai:∀d∈n,d≠[]/\∀x∈d,x∈xs:=λd hd=>aK d (G d hd);have aN:xw M n:=λc hc d hd=>un c (G c hc) d (G d hd);have aO:=wb.same g1;have aP:=Hk rd g1;refine#[_,zZ,l,zZ,#[_,S1 el],j7 (xs:=B.map .ref) (λi u C=>Same H1 C/\∃r,u=r.map V.ref/\r.length<=i/\(∀e∈r,e∈B)/\LsAt C r ((n.take i).filter λc=> !cB M n c)) (by rw[bF,cH];lia) #[Same.refl _,[],zZ,bR _,λ_ h=>(nomatch h),#[zZ,λi a c e=>by simp at e]] (λi u C hi p=>?_) (λi v u C hv p=>?_) (λu H2 p fr ao=>?_)]
 .obtain⟨g,r,rfl,e,_⟩:=p;exact#[S1 (g _ _ el),by rw[bF];exact e]
 .obtain⟨g,r,rfl,e,sb,Le⟩:=p;rw[bZ]at hv;obtain⟨a,ea,rfl⟩:=dm.mp hv;have li:=(bU.mp ea).1;obtain⟨c,ec⟩:∃c,n[i]?=some c:=#[_,bE ()];obtain⟨bs,ha,Ta⟩:=(L.same g).is i a c ea ec;have mc:=cb ec;refine#[iI,_,zZ,_,zZ,_,zZ,D,a,l,M,xs,ys,c,n,bs,B,zZ,Hk aP g,aO.same g,ha,Ta,g _ _ el,L.same g,(ai c mc).1,ai,(),λH4 g4=>#[_,zZ,?_]];have z:=Je (as:=B) (f:=λc=> !cB M n c) (Le.same g4) ec (g4 _ _ ha) (Ta.same g4);cases c2:cB M n c with
  |false=>
   rw[c2,wB (show(!false)=true from rfl)]at z;refine eK #[_,zZ,g.trans g4,r++[a],by simp,by simp;exact e,λe' he=>?_,z];exact(cF.mp he).elim (sb e') λh=>by rw[ci.mp h];exact cb ea
  |true=>
   rw[c2,wA (by decide)]at z;exact dv #[g.trans g4,r,zZ,(),sb,z]
 obtain⟨g2,r,rfl,_,sb,Le⟩:=p;rw[bF,la,fZ]at Le;have k3:=bV ao (.lst (r.map V.ref));have ap:bC H2 fr (.lst (r.map V.ref)) fr=some (.lst (r.map V.ref)):=bG;have az:fr≠t:=(cV (g2 _ _ al) ao).symm;have aX:fr≠l:=(cV (g2 _ _ el) ao).symm;have J:=g2.trans k3;have aq:=Le.same k3;generalize bC H2 fr (.lst (r.map V.ref))=H3 at k3 ap J aq|-;obtain⟨s0,aQ,aR⟩:∃s∈n,cB M n s=false:=by
  cases n with
  |nil=>exact wC zZ an
  |cons c n=>exact Fz aN _ c (cR ..) (bR _)
 have mf:s0∈n.filter λc=> !cB M n c:=cQ.mpr #[aQ,by rw[aR];rfl];obtain⟨s,hs⟩:∃s,(n.filter λc=> !cB M n c).head?=some s:=by
  cases z:n.filter λc=> !cB M n c with
  |nil=>rw[z]at mf;cases mf
  |cons y ys=>exact#[y,zZ]
 have ms:s∈n:=(cQ.mp (List.mem_of_mem_head? hs)).1;have aA:(n.filter λc=> !cB M n c)[0]?=some s:=by rw[<-List.head?_eq_getElem?];exact hs
 have le:=aq.len;obtain⟨a,ea⟩:∃a,r[0]?=some a:=#[_,bE (by rw[le];exact(bU.mp aA).1)];have aB:fP (r.map V.ref) ((0:Nat):Int)=some (.ref a):=ge (by rw[bZ,ea];rfl);obtain⟨bs,ha,Ta⟩:=aq.is 0 a s ea aA;have aC:=sb a (cb ea);have aD:a≠t:=λz=>ak (z▸aC);have I:=J _ _ al;refine#[_,zZ,.inl #[zZ,_,S1 I],_,zZ,fr,_,_,_,zZ,zZ,S1 ap,aB,t,_,_,zZ,zZ,I,by rw[bF,cH];lia,?_];have g4:Same H (bC H3 t (.lst (k.map V.ref++[.ref a]))):=gk (g1.trans J) O;have aE:t∉k++[a]:=λz=>(cF.mp z).elim aM λz=>aD (ci.mp z).symm;have L4:=((am.same J).snoc ha Ta).off (o:= .lst (k.map V.ref++[.ref a])) I aE;have aF:=(L.same J).off (o:= .lst (k.map V.ref++[.ref a])) I ak;have T:bC H3 t (.lst (k.map V.ref++[.ref a])) t=some (.lst ((k++[a]).map V.ref)):=by rw[bG,dC];rfl
 have ar:bC H3 t (.lst (k.map V.ref++[.ref a])) l=some (.lst (B.map V.ref)):=by
  rw[bL aL];exact J _ _ el
 have aj:bC H3 t (.lst (k.map V.ref++[.ref a])) fr=some (.lst (r.map V.ref)):=by
  rw[bL az];exact ap
 have aG:bC H3 t (.lst (k.map V.ref++[.ref a])) a=some (.lst (bs.map V.ref)):=by
  rw[bL aD];exact ha
 have aH:TupsAt (bC H3 t (.lst (k.map V.ref++[.ref a]))) bs s:=pY Ta I λ_ e=>nomatch e;generalize bC H3 t (.lst (k.map V.ref++[.ref a]))=H4 at g4 L4 aF T ar aj aG aH|-;refine#[_,zZ,l,zZ,#[_,S1 ar],j7 (xs:=B.map .ref) (λi u C=>C=H4/\∃r,u=r.map V.ref/\r.length<=i/\(∀e∈r,e∈B)/\LsAt H4 r ((n.take i).filter λc=>decide (c≠s))) (by rw[bF,cH];lia) #[zZ,[],zZ,bR _,λ_ h=>(nomatch h),#[zZ,λi a c e=>by simp at e]] (λi u C hi p=>?_) (λi v u C hv p=>?_) (λu H5 p wl aI=>?_)]
 .obtain⟨rfl,r,rfl,e,_⟩:=p;exact#[S1 ar,by rw[bF];exact e]
 .obtain⟨rfl,U,rfl,e,Y,ae⟩:=p;rw[bZ]at hv;obtain⟨b,eb,rfl⟩:=dm.mp hv;have li:=(bU.mp eb).1;obtain⟨c,ec⟩:∃c,n[i]?=some c:=#[_,bE ()];obtain⟨ds,hb,Tb⟩:=aF.is i b c eb ec;have z:=Je (as:=B) (f:=λc=>decide (c≠s)) ae ec hb Tb;refine#[iI,_,zZ,_,zZ,fr,_,_,_,zZ,zZ,S1 aj,aB,b,a,1,_,_,zZ,zZ,Ct hb Tb,Ct aG aH,by decide,λcc hc=>#[_,zZ,?_]];by_cases af:c=s
  .have au:cc=true:=hc.mpr (by rw[af]);subst au;rw[eW (λz=>z af),wA (by decide)]at z;exact dv #[zZ,U,zZ,(),Y,z]
  .have au:cc=false:=by
    cases cc with
    |false=>rfl
    |true=>exact wC (HJ (hc.mp zZ)) af
   subst au;rw[cG af,wB zZ]at z;refine eK #[_,zZ,zZ,U++[b],by simp,by simp;exact e,λe' he=>?_,z];exact(cF.mp he).elim (Y e') λh=>by rw[ci.mp h];exact cb eb
 obtain⟨rfl,U,rfl,_,Y,ae⟩:=p;rw[bF,la,fZ]at ae;have k5:=bV aI (.lst (U.map V.ref));have less:(n.filter λc=>decide (c≠s)).length<n.length:=by
  rw[<-Gq];have z:=J4 (xs:=n) (p:=λc=>decide (c≠s)) (q:=λ_=>true) (λ_ _ _=>rfl) #[s,ms,zZ,eW λz=>z zZ];rw[List.countP_true]at z;exact z
 refine#[(n.filter λc=>decide (c≠s)).length,(),g4.trans k5,wl,U,n.filter λc=>decide (c≠s),k++[a],told++[s],_,bG,ae.same k5,(cV T aI).symm,λz=>ak (Y _ z),λc hc=>G c (cQ.mp hc).1,k5 _ _ T,L4.same k5,aE,λc hc=>(cF.mp hc).elim (ag c) λh=>by rw[ci.mp h];exact G s ms,by rw[cI];simp only[List.length_singleton];lia,(λb hb=>ia b (Y b hb)),(λb hb=>(List.mem_append.mp hb).elim (ax b) λz=>by rw[List.mem_singleton.mp z];exact ia a aC),λrest aS=>?_,zZ,zZ];rw[dR];exact ah _ (.cons hs aS)
def MR{H b:Hp}{a:Ad}{u:HO}(h:Rd H a u)(no:∀c,u≠ .tbl c)(g:Keeps H b):Rd b a u:=h.elim (λe=> .inl (g _ _ (qo e no))) λ⟨o,e⟩=> .inr #[o,g _ _ (nU e)]
def re{H a:Hp}{bs:As}{c:LN}(T:TupsAt H bs c)(g:Keeps H a):TupsAt a bs c:=#[T.len,λi b u d e=>g _ _ (nU (T.is i b u d e))]
def LsAt.keeps{H b:Hp}{d:As}{e:hO}(h:LsAt H d e)(g:Keeps H b):LsAt b d e:=#[h.len,λi a c f j=>let⟨bs,k,l⟩:=h.is i a c f j;#[bs,g _ _ (nU k),re l g]]
def WB.off2{H:Hp}{D l:Ad}{d e:LN}{ys:List WE}{m:List V}{o:HO}(h:WB H D d e ys)(n:H l=some (.lst m))(no:∀y∈ys,l∉y.2.2):WB (bC H l o) D d e ys:=by
 refine#[h.len,λi x y q f=>?_,h.nd];obtain⟨a,b,c⟩:=h.each i x y q f;refine#[#[a.len,by rw[bL (nE a.dict n)];exact a.dict,λj g p k r=>?_],b,c];rw[bL λ(z:g=l)=>no y (cb f) (by rw[<-z];exact cb k)];exact a.list j g p k r
def gP{ts b:LN}{c:LN}(h:c∈cn ts b):c≠[]/\c=cq ts b (c.headD [])/\c.headD []∈b/\∀x∈c,x∈b/\Rch ts (c.headD []) x/\Rch ts x (c.headD []):=by
 obtain⟨x,g,rfl⟩:=b8.mp h;obtain⟨f,i⟩:=cQ.mp g;have e:(cq ts b x).headD []=x:=by
  have z:(cq ts b x).head?=some x:=eq_of_beq i;cases y:cq ts b x with
  |nil=>rw[y]at z;cases z
  |cons a l=>
   rw[y]at z;injection z with z
 refine#[λz=>?_,by rw[e],by rw[e];exact f,λy j=>?_]
 .have s:=Dh (ts:=ts) f;rw[z]at s;cases s
 .obtain⟨k,d⟩:=cQ.mp j;rw[mq]at d;rw[e];exact#[k,bP.mp d.1,bP.mp d.2]
def Hr(e i:LN):xw e (cn e i):=λc j d k f g=>by
 obtain⟨_,l,_⟩:=gP j;obtain⟨_,m,_⟩:=gP k;rw[l,m];generalize c.headD []=x at f g;generalize d.headD []=y at f g;refine wp λz _=>?_;have go:∀{x y:bB},dJ e x y=true->dJ e y x=true->(dJ e x z&&dJ e z x)=true->(dJ e y z&&dJ e z y)=true:=λ{x y} a b h=>by
  rw[mq]at h|-;exact#[bP.mpr ((bP.mp b).trans (bP.mp h.1)),bP.mpr ((bP.mp h.2).trans (bP.mp a))]
 rw[jq];exact#[go f g,go g f]
def LevAt(H:Hp)(l:Ad)(f e:LN)(h:LN)(j:List WE)(a:Ad)(c:LN):Prop:=∃(s t v:Ad) (bs g d:As) (i:Nat) (y:WE),H a=some (.tup [.ref s,.ref t,.ref v])/\s≠l/\t≠l/\v≠l/\l∉d/\H s=some (.lst (bs.map .ref))/\TupsAt H bs c/\H t=some (.lst (g.map .ref))/\TupsAt H g (iZ e (c.headD []))/\H v=some (.lst (d.map .ref))/\d.length=c.length/\h[i]?=some (c.headD [])/\j[i]?=some y/\Told (bN f) f.length (c.headD []) y.2.1/\
 (∀b∈d,b∈y.2.2)/\∀(k:Nat) (x:bB) (b:Ad),c[k]?=some x->d[k]?=some b->∃word,(x,word)∈y.2.1/\H b=some (.lst (word.map nv))
def LevAt.keeps{H q:Hp}{l:Ad}{r d u:LN}{ys:List WE}{a:Ad}{c:LN}(h:LevAt H l r d u ys a c)(g:Keeps H q):LevAt q l r d u ys a c:=by
 obtain⟨s,t,v,bs,w,z,i,y,A,B,C,D,E,G,I,J,L,e,f,j,m,n,o,p⟩:=h;refine#[s,t,v,bs,w,z,i,y,g _ _ (nU A),B,C,D,E,g _ _ (nU G),re I g,g _ _ (nU J),re L g,g _ _ (nU e),f,j,m,n,o,λk x b M N=>?_];obtain⟨word,O,Q⟩:=p k x b M N;exact#[word,O,g _ _ (nU Q)]
def LevAt.off{H:Hp}{l:Ad}{u d w:LN}{A:List WE}{a:Ad}{c:LN}{J:List V}{o:HO}(h:LevAt H l u d w A a c)(f:H l=some (.lst J)):LevAt (bC H l o) l u d w A a c:=by
 obtain⟨s,t,v,bs,L,M,i,y,B,C,D,E,G,N,O,Q,T,g,j,m,n,p,q,r⟩:=h;refine#[s,t,v,bs,L,M,i,y,by rw[bL (nE B f)];exact B,C,D,E,G,by rw[bL C];exact N,pY O f (λ_ e=>nomatch e),by rw[bL D];exact Q,pY T f (λ_ e=>nomatch e),by rw[bL E];exact g,j,m,n,p,q,λk x b U I=>?_];obtain⟨word,Y,z2⟩:=r k x b U I;refine#[word,Y,?_];rw[bL λ(z:b=l)=>G (by rw[<-z];exact cb I)];exact z2
structure LevsAt(H:Hp)(l:Ad)(ts fam xs:LN)(ys:List WE)(as:As)(told:hO):Prop where
 len:as.length=told.length
 is:∀(i:Nat) (a:Ad) (c:LN),as[i]?=some a->told[i]?=some c->LevAt H l ts fam xs ys a c
def IU(H b:Hp)(a:Ad):Prop:=∃s t v,b a=some (.tup [.ref s,.ref t,.ref v])/\L2.noT H s=none/\L2.noT H t=none/\L2.noT H v=none
inductive gM(T:Ad)(g:Pos)(k:List V)(H:Hp)(Q:VK)(h:XK):Prop|mk:∀(m:Ad) (e:LN) (n:Nat),k=[.ref m]->Mach H m e n->Tabs H->(∀l i told d j f,Keeps H f->Tabs f->L2.noT H l=none->f l=some (.lst (i.map .ref))->FamOf e n d->Ord e (cn e (big d)) told->(∀c∈told,c∈cn e (big d))->told.length<=32->LevsAt f l e d (big d) j i told->(∀y∈j,∀b∈y.2.2,L2.noT H b=none)->j.Pairwise (λp q=>∀b∈p.2.2,b∉q.2.2)->(∀a∈i,IU H f a)->Q (.ref l) f)->gM T g k H Q h
def Qh{T:Ad}(F:Fun K "levels" "levels" Cz f fd)(qB:cE P w K mg base wL 16 [sA] (de T (#[78,40,78,93]:Pos)))(kU:cE P w K mg base wI 3 [sI] gO)(kM:cE P w K mg base wF 3 [sI,tJ] e7)(vD:cE P w K mg base sH 16 [sA,sC] (iK T (#[78,40,78,93]:Pos))):FnOk P w K mg base b9 18 f fd [sA] (gM T (#[78,40,78,93]:Pos)):=by
 refine F.ok qK (λbh A aT s H vs Q E hr h=>?_)
 obtain⟨m,ts,n,rfl,M,hT,q⟩:=h;have hu:=hr.units;have az:=ik hr;refine#[_,(bQ (cj (i:=1) qK.nd zZ Z0 (cC qB hr.m zZ (bK (pv 0) bJ))) (bQ (cj (i:=2) qK.nd zZ Z' (gT bJ)) (bQ (fY fF zZ (fH (cC kM hr.m zZ (cf (bI (pv 1) (bI (cC kU hr.m zZ (bK (pv 1) bJ)) ce zZ) zZ)))) (eR (i:=3) qK.nd zZ Z') (bQ (cj (i:=4) qK.nd zZ Z0 (ck d9 (pv 3) bO (λ_ _=>rfl))) (bQ (u6 (CompSc.to (N:=[sA,sI,"told",tG,"face","ways"]) (osc:=bT Cz) (vs:=[sC]) {}) zZ zZ qK.nd (j:=5) zZ zZ (fH (pv 3)) (λ_ _ _ _=>fG) (λ_ _ _ _=>(oY az (oY az (pv 2) (pv 5) (λ_ _=>rfl)) (pv 0) (λ_ _=>rfl)))) (bS (i3 (gJ iE lM kS lL (pv 2) (bK (kh (cf (bI (pv 3) (bI (cC vD hr.m zZ (cf (bI (pv 0) (bI (pv 4) ce zZ) zZ))) (bI (pv 5) ce zZ) zZ) zZ))) bJ))))))) (bS (cr (pv 2)))))),?_];refine#[_,zZ,m,ts,n,zZ,M,hT,λD l ys H1 k1 T1 nD ff eD wb nw ap=>?_];have few:=ff.few M;have O:(big l).length<=32:=cP (jo _ _) few;refine#[by show 0<=sizeLine;decide,λto af=>?_];have kt:=bV af (.lst []);have aA:∀y∈ys,to∉y.2.2:=λy hy r=>by
  obtain⟨j,ej⟩:=fB.mp hy;have lj:=(bU.mp ej).1;have hl:=wb.len;obtain⟨x',aU⟩:∃x',(big l)[j]?=some x':=#[_,bE ()];obtain⟨a',_⟩:=wb.each j x' y aU ej;obtain⟨j2,aB⟩:=fB.mp r;have aV:=(bU.mp aB).1;have U:=a'.list j2 to _ aB (bE (by rw[<-a'.len];exact aV));rw[af]at U;cases U
 have aW:to≠D:=(cV eD af).symm;have ar:=kt _ _ eD;refine#[_,zZ,_,zZ,D,ts,big l,ys,zZ,ar,wb.same kt,O,λwl o as H3 g3 bi aX Lw aC=>?_];have aD:H3 D=some (.frz o (.dT (fJ (big l) ys))):=g3 _ _ bG;have aE:WB H3 D ts (big l) ys:=((wb.same kt).off ar).same g3;have k13:∀{b:Ad} {u:HO},b≠D->bC H1 to (.lst []) b=some u->H3 b=some u:=λnb r=>g3 _ _ (by rw[bL nb];exact r);have Y:H3 to=some (.lst []):=k13 aW bG;have aY:∀{b:Ad} {u:HO},L2.noT H b=some u->b≠D:=λr z=>by
  subst z;rw[nD]at r;cases r
 have aZ:Keeps H H3:=λb u r=>k13 (aY r) (kt _ _ (k1 _ _ r));have T3:Tabs H3:=(T1.same kt).most λb u nd _ r=>k13 (ju r ar λe=>nd _ e) r;have a0:∀d∈cn ts (big l),d≠[]/\∀x∈d,x∈big l:=λd hd=>#[(gP hd).1,λx hx=>((gP hd).2.2.2 x hx).1];have aF:(cn ts (big l)).length<=32:=by
  unfold cn;rw[bF];exact cP (jo _ _) O
 refine#[D,wl,ts,big l,ys,_,as,zZ,.inr #[o,aD],aE,aX,Lw,a0,Hr ts _,aF,λol ag told H4 g4 a1 aG Lo od a2 sub a3=>?_];have lo:=Lo.len;have aH:ol≠to:=(cV Y a1).symm;have an:to∉ag:=λz=>by
  obtain⟨j,ej⟩:=fB.mp z;have lj:=(bU.mp ej).1;obtain⟨bs,e,_⟩:=Lo.is j to _ ej (bE (by rw[<-lo];exact lj));have ec:=gh (show j<told.length by lia);have C:=g4 _ _ Y;rw[e]at C;injection C with C
  injection C with C
  have U:bs=[]:=v5.mp C;obtain⟨a4,e',a5⟩:=Lo.is j to _ ej (bE ());rw[e]at e';injection e' with e'
  injection e' with e'
  rw[U]at e';have z3:a4=[]:=v5.mp e'.symm;have z4:=a5.len;rw[z3]at z4;exact(gP (sub _ ec)).1 (pU.mp z4.symm)
 have a6:Keeps H H4:=aZ.trans g4.keeps;have T4:=T3.same g4;have aI:=g4 _ _ Y;have aJ:L2.noT H to=none:=by
  cases z:L2.noT H to with
  |none=>rfl
  |some u=>
   have U:=k1 _ _ z;rw[af]at U;cases U
 let Pv:Nat->L2.St->Hp->Prop:=λi σ t=>Keeps H t/\Tabs t/\t ol=some (.lst (ag.map .ref))/\LsAt t ag told/\Rd t D (.dT (fJ (big l) ys))/\WB t D ts (big l) ys/\∃ls o3 o4 o5,t to=some (.lst (ls.map .ref))/\LevsAt t to ts l (big l) ys ls (told.take i)/\(∀a∈ls,IU H t a)/\σ=[some (.ref m),some (.ref D),some (.ref to),o3,o4,o5]
 refine#[ol,zZ,#[_,S1 aG],oo (xs:=ag.map .ref) Pv #[a6,T4,aG,Lo,.inr #[o,g4 _ _ aD],aE.same g4,[],none,none,none,aI,#[zZ,λi a c e=>by simp at e],(λ_ h=>nomatch h),zZ] (λi σ t _ p=>S1 p.2.2.1) (λi v σ H5 hv p=>?_) (λσ H5 p=>?_)]
 .obtain⟨k5,T5,ao,au,av,aw,ls,o3,o4,o5,I,aa,ax,rfl⟩:=p;rw[bZ]at hv;obtain⟨a,ea,rfl⟩:=dm.mp hv;have li:=(bU.mp ea).1;obtain⟨c,ec⟩:∃c,told[i]?=some c:=#[_,bE ()];obtain⟨bs,ha,Ta⟩:=au.is i a c ea ec;obtain⟨cne,_,cx,call⟩:=gP (sub c (cb ec));obtain⟨b0,a7,aK,m0⟩:=EB Ta cne;have bj:=Ta.len;have bk:c.length<=32:=by
   rw[(gP (sub c (cb ec))).2.1];exact cP (jo _ _) O
  have a8:a≠to:=λz=>an (z▸cb ea);obtain⟨W,ws,wa,dg,wt,tt,ix,ex,ey⟩:=aw.get av cx aK;refine#[_,zZ,a,_,_,_,zZ,zZ,S1 ha,a7,?_];refine#[_,zZ,a,zZ,#[_,S1 ha],j7 (xs:=bs.map .ref) (λj ah t=>t=H5/\∃G:As,ah=G.map V.ref/\G.length=j/\(∀b∈G,b∈wa)/\∀(k:Nat) (x:bB) (b:Ad),c[k]?=some x->G[k]?=some b->∃word,(x,word)∈ws/\H5 b=some (.lst (word.map nv))) (by rw[bF,cH];lia) #[zZ,[],zZ,zZ,λ_ h=>(nomatch h),λk x b _ e=>by simp at e] (λj ah t hi p=>?_) (λj v ah t hv p=>?_) (λah t p J ai=>?_)]
  .obtain⟨rfl,G,rfl,e,_⟩:=p;exact#[S1 ha,by rw[bF];lia]
  .obtain⟨rfl,G,rfl,e,sb,al⟩:=p;rw[bZ]at hv;obtain⟨b,eb,rfl⟩:=dm.mp hv;have lj:=(bU.mp eb).1;obtain⟨x,ay⟩:∃x,c[j]?=some x:=#[_,bE ()];have r:=Ta.is j b x eb ay;obtain⟨_,r1,_⟩:=call x (cb ay);obtain⟨⟨x',u⟩,hp,e'⟩:=b8.mp ((DZ tt x).mpr r1);have B:x'=x:=e';subst B;obtain⟨aL,v1,v2⟩:=wt.word tt.keys hp;have a9:DGet t W (.ref b) (some (.ref aL)):= .inr #[_,nk x',b,.inl wt.dict,zZ,by rw[jd];exact r,v1.symm];refine#[iI,i5 #[_,zZ,_,zZ,D,_,zZ,dg,_,zZ,W,_,zZ,a9,zZ,G++[aL],by simp,by simp[e],λb' aj=>?_,λk x b' L B=>?_]]
   .exact(cF.mp aj).elim (sb b') λh=>by rw[ci.mp h];exact L9 v1
   .by_cases hk:k<G.length
    .rw[dN hk]at B;exact al k x b' L B
    .rw[dO ()]at B;have z:k-G.length=0:=by
      have:=(bU.mp B).1;simp at this;lia
     rw[z]at B;cases B;have kj:k=j:=by lia
     subst kj;rw[ay]at L;cases L;exact#[u,hp,v2]
  .obtain⟨rfl,G,rfl,ba,sb,al⟩:=p;rw[bF]at ba;have kw:=bV ai (.lst (G.map V.ref));have aM:J≠to:=(cV I ai).symm;have aN:bC t J (.lst (G.map V.ref)) J=some (.lst (G.map V.ref)):=bG;generalize bC t J (.lst (G.map V.ref))=H6 at kw aN|-;have ab:=kw _ _ I;refine#[_,zZ,.inl #[zZ,_,S1 ab],_,zZ,_,zZ,_,zZ,m,b0,ts,n,c.headD [],zZ,(M.keeps k5).same kw,kw _ _ aK,T5.same kw,λtl ds us aO H7 k7 T7 ak bb Td bc bd=>?_];have ef:aO=l:=bc.uniq ff;subst ef;subst bd;have aP:=k7 _ _ (nU ab);have aQ:tl≠to:=λz=>by
    subst z;rw[nU ab]at ak;cases ak
   refine#[_,zZ,by show 3<=sizeLine;decide,λlv be=>?_];have kl:=bV be (.tup [.ref a,.ref tl,.ref J]);have am:bC H7 lv (.tup [.ref a,.ref tl,.ref J]) lv=some (.tup [.ref a,.ref tl,.ref J]):=bG;have kk:Keeps t (bC H7 lv (.tup [.ref a,.ref tl,.ref J])):=(kw.keeps.trans k7).trans kl.keeps;have aR:Keeps H6 (bC H7 lv (.tup [.ref a,.ref tl,.ref J])):=k7.trans kl.keeps;have aq:=kl _ _ bb;have aS:=Td.same kl;have T8:=T7.same kl;have g:=kl _ _ aP;generalize bC H7 lv (.tup [.ref a,.ref tl,.ref J])=H8 at kl am kk aR aq aS T8 g|-;have bf:=aa.len;rw[fh]at bf;refine#[to,_,_,zZ,zZ,g,by rw[bF,cH];lia,?_];have ae:∀{b:Ad} {u:HO},t b=some u->(∀ps,u≠ .tbl ps)->H8 b=some u:=λr no=>kk _ _ (qo r no)
   refine#[λb u r=>?_,?_,?_,?_,?_,?_,ls++[lv],_,_,_,by rw[bG,dC];rfl,#[?_,λj a' c' L B=>?_],λa' bg=>?_,zZ]
   .rw[bL λ(z:b=to)=>by subst z;rw[aJ]at r;cases r];exact(k5.trans kk) _ _ r
   .exact T8.most λb' u _ nl aj=>by rw[bL (ju aj g λe=>nl _ e)];exact aj
   .rw[bL aH];exact ae ao λ_ e=>nomatch e
   .exact(au.keeps kk).off g an
   .rcases MR av (λ_ e=>nomatch e) kk with z|⟨o',z⟩
    .exact .inl (by rw[bL (nE z g)];exact z)
    .exact .inr #[o',by rw[bL (nE z g)];exact z]
   .exact(aw.keeps kk).off2 g aA
   .rw[cI,fh];simp only[List.length_singleton];lia
   .have lt':told.take (i+1)=told.take i++[c]:=by rw[gQ,ec];rfl
    rw[lt']at B;by_cases hj:j<ls.length
    .rw[dN hj]at L;rw[dN (by rw[fh];lia)]at B;exact((aa.is j a' c' L B).keeps kk).off g
    .rw[dO ()]at L;rw[dO (by rw[fh];lia)]at B;have z:j-ls.length=0:=by
      have:=(bU.mp L).1;simp at this;lia
     have z':j-(told.take i).length=0:=by rw[fh];lia
     rw[z]at L;rw[z']at B;cases L;cases B;refine LevAt.off #[a,tl,J,bs,ds,G,ix,(W,ws,wa),am,a8,aQ,aM,λz=>aA _ (cb ey) (sb _ z),ae ha (λ_ e=>nomatch e),re Ta kk,aq,aS,aR _ _ (nU aN),(),ex,ey,tt,sb,λk x b L B=>?_] g;obtain⟨word,C,U⟩:=al k x b L B;exact#[word,C,ae U λ_ e=>nomatch e]
   .rcases cF.mp bg with z|z
    .obtain⟨s',t',v',C,U⟩:=ax a' z;exact#[s',t',v',(by rw[bL (nE (ae C λ_ e=>nomatch e) g)];exact ae C λ_ e=>nomatch e),U]
    .rw[ci.mp z];refine#[a,tl,J,by rw[bL (nE am g)];exact am,?_,?_,?_]
     .have C:=aC a (a3 a (cb ea));cases y:L2.noT H a with
      |none=>rfl
      |some u=>
       rw[kt _ _ (k1 _ _ y)]at C;cases C
     .cases y:L2.noT H tl with
      |none=>rfl
      |some u=>
       have C:=kw _ _ (k5 _ _ y);rw[qo C (vx y).2]at ak;cases ak
     .cases y:L2.noT H J with
      |none=>rfl
      |some u=>
       rw[k5 _ _ y]at ai;cases ai
 .obtain⟨k5,T5,ao,au,av,aw,ls,o3,o4,o5,I,aa,ax,rfl⟩:=p;rw[bF,lo,fZ]at aa;exact#[_,zZ,q to ls told l ys H5 k5 T5 aJ I ff od sub a2 aa nw ap ax]
def bY{x y:bB}:sub x y=true↔ ∀r∈x,r∈y:=by
 unfold sub;rw[oA];exact#[λh r a=>gR.mp (h r a),λh r a=>gR.mpr (h r a)]
def Kz{n:Nat}{u v:bB}(d:u∈dh n)(f:v∈dh n)(h:sub u v=true)(g:u≠v):u.length<v.length:=by
 obtain⟨a,_⟩:=bH.mp d;obtain⟨b,_⟩:=bH.mp f;have s:=bY.mp h;have e:∃z∈List.range 5,u.contains z=false/\v.contains z=true:=by
  refine Bh λno=>g ?_;rw[<-a,<-b];unfold eZ;refine wp λz j=>?_;rw[jq];constructor
  .exact λq=>gR.mpr (s z (gR.mp q))
  .intro q;cases c:u.contains z with
   |true=>rfl
   |false=>exact wC #[z,j,c,q] no
 have z:=Ef (xs:=List.range 5) (p:=λi=>u.contains i) (q:=λi=>v.contains i) (λz _ q=>gR.mpr (s z (gR.mp q))) e;rw[Gq,Gq]at z;unfold eZ at a b;rw[a,b]at z;exact z
structure TileFacts(fam:LN)(x:bB)(us:LN):Prop where
 mem:∀u∈us,u∈fam/\u≠x/\sub u x=true
 apart:∀u∈us,∀v∈us,u≠v->sub u v=false
 up:us.Pairwise λa b=>gj gl a b=true
 all:∀u∈fam,u≠x->sub u x=true->∃t∈us,sub u t=true
 few:us.length<=32
 few2:fam.length<=32
 l5:∀u∈fam,u.length<=5
def qf{H:Hp}{m:Ad}{s:LN}{n:Nat}{a:LN}(M:Mach H m s n)(j:FamOf s n a)(x:bB):TileFacts a x (iZ a x):=by
 have few:=j.few M;have b:∀u,u∈hV a x↔u∈a/\u≠x/\sub u x=true:=λu=>by
  unfold hV;rw[cQ,mq,Aw]
 have k:∀u,mE (hV a x) u=true↔ ∃v∈hV a x,v≠u/\sub u v=true:=λu=>by
  unfold mE;rw[yx];constructor
  .rintro⟨v,g,e⟩;rw[mq,Aw]at e;exact#[v,g,e]
  .rintro⟨v,g,e⟩;exact#[v,g,by rw[mq,Aw];exact e]
 have f:∀u,u∈iZ a x↔u∈hV a x/\mE (hV a x) u=false:=λu=>by
  unfold iZ;rw[cQ];refine and_congr Iff.rfl ?_;cases mE (hV a x) u<;>simp
 have w:∀u∈a,u.length<=5:=λu h=>cP (u7 M.n5 (j.inU M h)) M.n5;have l:∀(d:Nat) (u:bB),u∈hV a x->5-u.length<=d->∃t∈iZ a x,sub u t=true:=by
  intro d
  induction d with
  | zero=>
   intro u i y;cases c:mE (hV a x) u with
   |false=>exact#[u,(f u).mpr #[i,c],bY.mpr λr p=>p]
   |true=>
    obtain⟨v,o,g,e⟩:=(k u).mp c;have:=Kz (j.inU M ((b u).mp i).1) (j.inU M ((b v).mp o).1) e (dM g)
    have:=w v ((b v).mp o).1;lia
  | succ d A=>
   intro u i y;cases c:mE (hV a x) u with
   |false=>exact#[u,(f u).mpr #[i,c],bY.mpr λr p=>p]
   |true=>
    obtain⟨v,o,g,e⟩:=(k u).mp c;have:=Kz (j.inU M ((b u).mp i).1) (j.inU M ((b v).mp o).1) e (dM g)
    obtain⟨t,ht,q⟩:=A v o ();exact#[t,ht,bY.mpr λr p=>bY.mp q r (bY.mp e r p)]
 refine#[λu i=>(b u).mp ((f u).mp i).1,λu i v o B=>?_,?_,λu g e q=>l 5 u ((b u).mpr #[g,e,q]) (),?_,few,w]
 .cases c:sub u v with
  |false=>rfl
  |true=>
   have z:=(k u).mpr #[v,((f v).mp o).1,dM B,c];rw[((f u).mp i).2]at z;cases z
 .exact(j.up.filter _).filter _
 .exact cP (jo _ _) (cP (jo _ _) few)
def IN(x:bB):gj gl x x=false:=(on gl [x]).irr x
def CI{K:S4}{H:Hp}{fs:As}{b:LN}{n:Nat}(T:TupsAt H fs b)(i:Nat)(d:Dt)(v:V)(c:(b.map λu=>Dt.tup (hZ u))[i]?=some d)(e:(fs.map V.ref)[i]?=some v):Rep K H (n+1) d v:=by
 rw[bZ]at c e;obtain⟨p,f,rfl⟩:=dm.mp c;obtain⟨a,g,rfl⟩:=dm.mp e;exact iS (S2 (T.is i a p g f))
def Qm{u:bB}{a:LN}:Dt.tup (hZ u)∈a.map (λu=>Dt.tup (hZ u))↔u∈a:=by
 rw[b8];constructor
 .rintro⟨v,c,b⟩;injection b with b
  rw[<-F5 b];exact c
 .exact λh=>#[u,h,zZ]
def ka(f:Nat->Nat):Nat->Nat->Nat
 |0,r=>r
 |k+1,r=>ka f k (f r)
theorem Ez(f:Nat->Nat):∀(a b r:Nat),ka f (a+b) r=ka f b (ka f a r)
 |0,b,r=>by rw[wm];rfl
 |a+1,b,r=>by
  rw[Nat.add_right_comm];exact Ez f a b (f r)
theorem v9{f:Nat->Nat}{d r:Nat}(h:ka f d r=r):∀k,ka f (d * k) r=r
 |0=>rfl
 |k+1=>by rw[Nat.mul_succ,Ez,v9 h k,h]
def Fx(a:LN)(r:Nat)(u v:bB):di a r (u++v)=di a (di a r u) v:=by
 unfold di;rw[oJ]
def qi(u:bB):Nat->List Nat
 |0=>[]
 |k+1=>u++qi u k
theorem JX(a:LN)(u:bB):∀(k r:Nat),di a r (qi u k)=ka (λr=>di a r u) k r
 |0,_=>rfl
 |k+1,r=>by
  show di a r (u++qi u k)=_;rw[Fx,JX a u k];rfl
theorem KG{u:bB}{l:Nat}:∀{k:Nat},l∈qi u k->l∈u
 |0,h=>nomatch h
 |k+1,h=>(cF.mp h).elim id KG
def BC(a:LN)(x u v:bB):cw (bN a) x (u++v)=cw (bN a) (cw (bN a) x u) v:=by
 unfold cw;rw[oJ]
def Bd{n:Nat}{x y:bB}(a:x∈dh n)(b:y∈dh n)(h:∀r,r∈x↔r∈y):x=y:=by
 rw[<-(bH.mp a).1,<-(bH.mp b).1];exact IE h
def DC{n:Nat}{x:bB}(a:x∈dh n):x.Nodup:=by
 rw[<-(bH.mp a).1];unfold eZ;exact List.Nodup.sublist tA List.nodup_range
def mB{H:Hp}{m:Ad}{b:LN}{n:Nat}(M:Mach H m b n){x word:bB}(d:x∈dh n)(hw:∀l∈word,l<b.length){r:Nat}:r∈cw (bN b) x word↔ ∃a∈x,di b a word=r:=by
 have f:=M.n5;rw[zL M word x d hw];constructor
 .intro h;obtain⟨a,c,e⟩:=b8.mp (BA h);exact#[a,c,e]
 .rintro⟨a,c,rfl⟩;have:=mS M word a ((bH.mp d).2 a c) hw;exact Gv (b8.mpr #[a,c,zZ]) ()
def n'{H:Hp}{m:Ad}{a:LN}{n:Nat}(M:Mach H m a n){x word:bB}(b:x∈dh n)(hw:∀l∈word,l<a.length):cw (bN a) x word∈dh n:=wj b (λy c l d=>yU M c d) word hw
structure Bij(ts:LN)(x y w p:bB):Prop where
 to:cw (bN ts) x w=y
 fro:cw (bN ts) y p=x
 lw:∀l∈w,l<ts.length
 lp:∀l∈p,l<ts.length
 here:∀r∈x,di ts (di ts r w) p=r
 there:∀r∈y,di ts (di ts r p) w=r
def Bij.symm{a:LN}{x y w p:bB}(b:Bij a x y w p):Bij a y x p w:=#[b.fro,b.to,b.lp,b.lw,b.there,b.here]
def Qn{x:bB}{f:Nat->Nat}(nd:x.Nodup)(j:∀r∈x,∃c∈x,f c=r):∀a∈x,∀b∈x,f a=f b->a=b:=λa d b k e=>by
 by_cases g:a=b
 .exact g
 have z:=wn (l₂:=(x.erase a).map f) nd λr l=>by
  obtain⟨c,m,h⟩:=j r l;by_cases i:c=a
  .exact b8.mpr #[b,(A8 (dM g)).mpr k,by rw[<-e,<-i,h]]
  .exact b8.mpr #[c,(A8 i).mpr m,h]
 rw[bF,DL d]at z;have:=C1 d;lia
theorem FK{x:bB}{f:Nat->Nat}(a:∀r∈x,f r∈x):∀(k r:Nat),r∈x->ka f k r∈x
 |0,_,h=>h
 |k+1,r,h=>FK a k (f r) (a r h)
theorem HE{x:bB}{f:Nat->Nat}(c:∀r∈x,f r∈x)(inj:∀a∈x,∀b∈x,f a=f b->a=b):∀(k:Nat),∀a∈x,∀b∈x,ka f k a=ka f k b->a=b
 |0,_,_,_,_,e=>e
 |k+1,a,d,b,g,e=>inj a d b g (HE c inj k (f a) (c a d) (f b) (c b g) e)
def zI{x:bB}{f:Nat->Nat}(p:x.length<=5)(g:∀r∈x,f r∈x)(inj:∀a∈x,∀b∈x,f a=f b->a=b)(r:Nat)(k:r∈x):ka f 60 r=r:=by
 have:∃d,1<=d/\d<=5/\ka f d r=r:=by
  by_cases h:∃i j,i<j/\j<=5/\ka f i r=ka f j r
  .obtain⟨i,j,l,m,c⟩:=h;refine#[j-i,(),(),?_];have e:j=(j-i)+i:=by lia
   rw[e,Ez]at c;exact(HE g inj i r k _ (FK g (j-i) r k) c).symm
  .have nd:((List.range 6).map λi=>ka f i r).Nodup:=by
    rw[Fw,v8];refine Dr ?_ List.pairwise_lt_range;intro i j q n lt e;exact h #[i,j,lt,by have:=fb.mp n;lia,e]
   have z:=wn (l₂:=x) nd λy o=>by
    obtain⟨i,_,rfl⟩:=b8.mp o;exact FK g i r k
   rw[bF,mC]at z;lia
 obtain⟨d,l,m,c⟩:=this;have:d=1\/d=2\/d=3\/d=4\/d=5:=by lia
 rcases this with rfl|rfl|rfl|rfl|rfl
 .exact v9 c 60
 .exact v9 c 30
 .exact v9 c 20
 .exact v9 c 15
 .exact v9 c 12
def DV{H:Hp}{m:Ad}{a:LN}{n:Nat}(M:Mach H m a n){x y w:bB}(b:x∈dh n)(i:∀l∈w,l<a.length)(e:cw (bN a) x w=y)(back:Rch a y x):∃p,Bij a x y w p:=by
 obtain⟨v,s,B⟩:=back;have t:y∈dh n:=by rw[<-e];exact n' M b i
 have d:∀l∈w++v,l<a.length:=λl o=>(cF.mp o).elim (i l) (s l);have u:cw (bN a) x (w++v)=x:=by rw[BC,e,B]
 have C:∀r∈x,di a r (w++v)∈x:=λr c=>by
  have z:=(mB M b d).mpr #[r,c,zZ];rw[u]at z;exact z
 have D:∀r∈x,∃j∈x,di a j (w++v)=r:=λr c=>(mB M b d).mp (by rw[u];exact c);have inj:=Qn (DC b) D;have E:=zI (f:=λr=>di a r (w++v)) (cP (u7 M.n5 b) M.n5) C inj;have here:∀r∈x,di a (di a r w) (v++qi (w++v) 59)=r:=λr c=>by
  rw[<-Fx,<-dR,Fx,JX];exact E r c
 have q:∀l∈v++qi (w++v) 59,l<a.length:=λl o=>(cF.mp o).elim (s l) λh=>d l (KG h);have g:∀r∈y,di a (di a r (v++qi (w++v) 59)) w=r:=λr c=>by
  rw[<-e]at c;obtain⟨j,k,rfl⟩:=(mB M b i).mp c;rw[here j k]
 refine#[v++qi (w++v) 59,e,Bd (n' M t q) b λr=>?_,i,q,here,g];rw[mB M t q];constructor
 .rintro⟨j,k,rfl⟩;rw[<-e]at k;obtain⟨G,A,rfl⟩:=(mB M b i).mp k;rw[here G A];exact A
 .intro h;exact#[di a r w,by rw[<-e];exact(mB M b i).mpr #[r,h,zZ],here r h]
def Bij.back{H:Hp}{m:Ad}{a:LN}{n:Nat}(M:Mach H m a n){x y w p u:bB}(b:Bij a x y w p)(c:u∈dh n)(s:sub u x=true):cw (bN a) (cw (bN a) u w) p=u:=by
 have d:=bY.mp s;have e:=n' M c b.lw;refine Bd (n' M e b.lp) c λr=>?_;rw[mB M e b.lp];constructor
 .rintro⟨i,h,rfl⟩;obtain⟨f,g,rfl⟩:=(mB M c b.lw).mp h;rw[b.here f (d f g)];exact g
 .intro z;exact#[di a r w,(mB M c b.lw).mpr #[r,z,zZ],b.here r (d r z)]
def zH{H:Hp}{m:Ad}{a:LN}{n:Nat}(M:Mach H m a n){u v w:bB}(d:u∈dh n)(e:v∈dh n)(b:∀l∈w,l<a.length)(s:sub u v=true):sub (cw (bN a) u w) (cw (bN a) v w)=true:=by
 refine bY.mpr λr f=>?_;obtain⟨c,g,rfl⟩:=(mB M d b).mp f;exact(mB M e b).mpr #[c,bY.mp s c g,zZ]
def Ea{H:Hp}{m:Ad}{b:LN}{n:Nat}{a:LN}(M:Mach H m b n)(f:FamOf b n a){u w:bB}(g:u∈a)(c:∀l∈w,l<b.length):cw (bN b) u w∈a:=by
 have d:=M.n5;refine(f.mem _).mpr ?_
 rcases (f.mem u).mp g with⟨h,i,j⟩|⟨r,e,rfl⟩
 .refine .inl #[h++w,λl k=>(cF.mp k).elim (i l) (c l),?_];rw[BC,j]
 .have lt:=mS M w r e c;refine .inr #[di b r w,lt,Bd (n' M (Ao d e) c) (Ao d lt) λp=>?_];rw[mB M (Ao d e) c];constructor
  .rintro⟨q,o,rfl⟩;rw[ci.mp o];exact ci.mpr rfl
  .intro z;exact#[r,ci.mpr zZ,(ci.mp z).symm]
def JK{n:Nat}{u v:bB}(c:u∈dh n)(d:v∈dh n)(a:sub u v=true)(b:sub v u=true):u=v:=Bd c d λr=>#[bY.mp a r,bY.mp b r]
def Fh{u v w:bB}(a:sub u v=true)(b:sub v w=true):sub u w=true:=bY.mpr λr c=>bY.mp b r (bY.mp a r c)
def n0{H:Hp}{m:Ad}{h:LN}{n:Nat}{a:LN}(M:Mach H m h n)(d:FamOf h n a){x u:bB}:u∈iZ a x↔u∈a/\u≠x/\sub u x=true/\∀v∈a,v≠x->sub v x=true->sub u v=true->v=u:=by
 have b:=qf M d x;constructor
 .intro i;obtain⟨c,f,g⟩:=b.mem u i;refine#[c,f,g,λv j l o k=>?_];obtain⟨t,ht,st⟩:=b.all v j l o;have p:u=t:=by
   by_cases e:u=t
   .exact e
   .have z:=b.apart u i t ht e;rw[Fh k st]at z;cases z
  subst p;exact JK (d.inU M j) (d.inU M c) st k
 .rintro⟨c,f,g,q⟩;obtain⟨t,ht,st⟩:=b.all u c f g;obtain⟨r,s,w⟩:=b.mem t ht;rw[<-q t r s w st];exact ht
def vq{H:Hp}{m:Ad}{a:LN}{n:Nat}{c:LN}(M:Mach H m a n)(d:FamOf a n c){x y w p u:bB}(j:x∈dh n)(b:Bij a x y w p)(o:u∈iZ c x):cw (bN a) u w∈iZ c y:=by
 obtain⟨k,q,h,r⟩:=(n0 M d).mp o;have s:y∈dh n:=by rw[<-b.to];exact n' M j b.lw
 have f:=d.inU M k;have gU:=n' M f b.lw;have t:sub (cw (bN a) u w) y=true:=by
  have z:=zH M f j b.lw h;rw[b.to]at z;exact z
 refine(n0 M d).mpr #[Ea M d k b.lw,λe=>q ?_,t,λv l A i B=>?_]
 .rw[<-b.back M f h,e,b.fro]
 .have g:=d.inU M l;have bs:=b.symm;have C:=Ea M d l b.lp;have D:cw (bN a) v p≠x:=λe=>A (by rw[<-bs.back M g i,e,b.to]);have E:sub (cw (bN a) v p) x=true:=by
   have z:=zH M g s b.lp i;rw[b.fro]at z;exact z
  have G:sub u (cw (bN a) v p)=true:=by
   have z:=zH M gU g b.lp B;rw[b.back M f h]at z;exact z
  rw[<-bs.back M g i,r _ C D E G]
def LvH(H:Hp)(a:Ad)(c g:LN)(d:LN):Prop:=∃(s t v:Ad) (bs ds e:As),H a=some (.tup [.ref s,.ref t,.ref v])/\H s=some (.lst (bs.map .ref))/\TupsAt H bs c/\H t=some (.lst (ds.map .ref))/\TupsAt H ds g/\H v=some (.lst (e.map .ref))/\e.length=d.length/\∀(k:Nat) (b:Ad) (f:bB),e[k]?=some b->d[k]?=some f->H b=some (.lst (f.map nv))
def LvH.same{H e:Hp}{a:Ad}{c f d:LN}(h:LvH H a c f d)(g:Same H e):LvH e a c f d:=by
 obtain⟨s,t,v,bs,ds,i,j,l,m,n,o,p,q,r⟩:=h;exact#[s,t,v,bs,ds,i,g _ _ j,g _ _ l,m.same g,g _ _ n,o.same g,g _ _ p,q,λk b u w x=>g _ _ (r k b u w x)]
structure LvP(ts fam:LN)(c us wds:LN):Prop where
 cls:c∈cn ts (big fam)
 tl:us=iZ fam (c.headD [])
 len:wds.length=c.length
 go:∀(k:Nat) (x wd:bB),c[k]?=some x->wds[k]?=some wd->(∀l∈wd,l<ts.length)/\cw (bN ts) (c.headD []) wd=x
inductive kv(g:List V)(H:Hp)(Q:VK)(d:XK):Prop|mk:∀(m a:Ad) (k j:Nat) (e:LN) (n:Nat) (c h b:LN) (u f:bB),g=[.ref m,.ref a,nv k,nv j]->Mach H m e n->LvH H a c h b->h[j]?=some u->b[k]?=some f->u∈dh n->(∀l∈f,l<e.length)->xT H ((cw (bN e) u f).map nv) Q->kv g H Q d
inductive eI(i:List V)(H:Hp)(Q:VK)(f:XK):Prop|mk:∀(m a:Ad) (k:Nat) (g:LN) (n:Nat) (c d b:LN) (h:bB),i=[.ref m,.ref a,nv k]->Mach H m g n->LvH H a c d b->b[k]?=some h->(∀u∈d,u∈dh n)->d.length<=32->(∀l∈h,l<g.length)->(∀l j e,Same H e->e l=some (.lst (j.map .ref))->TupsAt e j (d.map λu=>cw (bN g) u h)->Q (.ref l) e)->eI i H Q f
def jh(a b:LN)(g c:bB)(l:Nat)(d:bB):Prop:=d.length=b.length/\∀(j:Nat) (u:bB) (e:Nat),b[j]?=some u->d[j]?=some e->∃f,b[e]?=some f/\cw (bN a) f c=bN a (cw (bN a) u g) l
inductive ft(j:List V)(H:Hp)(Q:VK)(h:XK):Prop|mk:∀(m a:Ad) (k l:Nat) (d:LN) (n:Nat) (f c i b:LN) (x o:bB),j=[.ref m,.ref a,nv k,nv l]->Mach H m d n->FamOf d n f->LvH H a c i b->LvP d f c i b->c[k]?=some x->b[k]?=some o->l<d.length->((bN d x l∉c->∀e,Same H e->Q .non e))->(∀(q:Nat) (g:bB),c[q]?=some (bN d x l)->b[q]?=some g->∀p r e,Same H e->e p=some (.tup (r.map nv))->jh d i o g l r->Q (.ref p) e)->ft j H Q h
theorem Fo{b:Type}{d:b}:∀{ds:List b},d∈ds->∃j:Nat,ds[j]?=some d/\∀i:Nat,i<j->ds[i]? ≠some d
 | [],h=>nomatch h
 | e::ds,h=>by
  by_cases z:e=d
  .exact#[0,by rw[z];rfl,λi c=>wC c (qm i)]
  .obtain⟨j,f,g⟩:=Fo (ds:=ds) ((cX.mp h).resolve_left λa=>z a.symm);refine#[j+1,f,λi c=>?_];cases i with
   |zero=>exact λa=>z (by injection a)
   |succ i=>exact g i ()
def nq{u:bB}{a:LN}:Dt.tup (hZ u)∈a.map (λu=>Dt.tup (hZ u))↔u∈a:=Qm
def fT{u:bB}{a:LN}{j:Nat}:(a.map λu=>Dt.tup (hZ u))[j]?=some (Dt.tup (hZ u))↔a[j]?=some u:=by
 rw[bZ];constructor
 .intro h;obtain⟨v,c,b⟩:=dm.mp h;injection b with b
  rw[<-F5 b];exact c
 .intro h;rw[h];rfl
def LvP.bij{H:Hp}{m:Ad}{d:LN}{n:Nat}{a c h b:LN}(M:Mach H m d n)(i:FamOf d n a)(f:LvP d a c h b){k:Nat}{x e:bB}(g:c[k]?=some x)(j:b[k]?=some e):∃p,Bij d (c.headD []) x e p:=by
 obtain⟨_,_,l,call⟩:=gP f.cls;obtain⟨o,q⟩:=f.go k x e g j;exact DV M (i.inU M (cQ.mp l).1) o q (call x (cb g)).2.2
def Jb{H:Hp}{m:Ad}{a:LN}{n:Nat}{d c i e:LN}(M:Mach H m a n)(b:FamOf a n d)(f:LvP a d c i e){k s l:Nat}{x j g:bB}(t:c[k]?=some x)(D:e[k]?=some j)(E:l<a.length)(v:c[s]?=some (bN a x l))(o:e[s]?=some g){u:bB}(G:u∈i):bN a (cw (bN a) u j) l∈i.map λu=>cw (bN a) u g:=by
 obtain⟨_,_,I,call⟩:=gP f.cls;have J:=b.inU M (cQ.mp I).1;obtain⟨p,L⟩:=f.bij M b t D;obtain⟨p',y⟩:=f.bij M b v o;obtain⟨N,q,O⟩:=call x (cb t);obtain⟨Q,T,r⟩:=call _ (cb v);have A:=b.inU M (cQ.mp N).1;have U:=b.inU M (cQ.mp Q).1;obtain⟨p2,Y⟩:=DV M (w:=[l]) A (λz hz=>by rw[ci.mp hz];exact E) zZ (r.trans q);have h:=G;rw[f.tl]at h;have t1:=vq M b J L h;have B:bN a (cw (bN a) u j) l∈iZ d (bN a x l):=vq M b A Y t1;obtain⟨f1,f2,f3,_⟩:=(n0 M b).mp B;have C:=vq M b U y.symm B;rw[<-f.tl]at C;exact b8.mpr #[_,C,y.symm.back M (b.inU M f1) f3]
def LvP.nd{h:LN}{n:Nat}{d c i f:LN}(j:FamOf h n d)(k:LvP h d c i f):c.Nodup:=by
 have g:d.Nodup:=j.up.imp λ{a b} z e=>by
  subst e;rw[(on gl d).irr]at z;cases z
 rw[(gP k.cls).2.1];exact List.Nodup.sublist (tA.trans tA) g
def LvP.inU{H:Hp}{m:Ad}{b:LN}{n:Nat}{a c d e:LN}(M:Mach H m b n)(g:FamOf b n a)(h:LvP b a c d e):(∀u∈d,u∈dh n)/\d.length<=32:=by
 have f:=qf M g (c.headD []);rw[<-h.tl]at f;exact#[λu i=>g.inU M (f.mem u i).1,f.few]
def Mm(F:Fun K "tile" "tile" D4 f fd)(C:cE P w K mg base tW 3 [sA,sC,sW] (cT K)):FnOk P w K mg base b9 5 f fd [sA,sL,"k","j"] kv:=by
 refine F.ok LO (λD A e s H vs Q E l h=>?_)
 obtain⟨m,a,k,j,G,n,c,us,I,u,g,rfl,M,J,o,r,i,t,q⟩:=h;have hu:=l.units;obtain⟨s',L,N,bs,O,T,v,h2,h3,U,x,Y,h7,h8⟩:=J;have l5:=x.len;have lj:=(bU.mp o).1;have lk:=(bU.mp r).1;obtain⟨d,y⟩:∃d,O[j]?=some d:=#[_,bE ()];obtain⟨b,z⟩:∃b,T[k]?=some b:=#[_,bE ()];have hd:=x.is j d u y o;have hb:=h8 k b g z r;refine#[_,(bS (cr (cC C l.m zZ (cf (bI (pv 0) (bI (ck d9 (ck dA (pv 1) bO (λ_ _=>rfl)) (pv 3) (λ_ _=>rfl)) (bI (ck d9 (ck dA (pv 1) bO (λ_ _=>rfl)) (pv 2) (λ_ _=>rfl)) ce zZ) zZ) zZ))))),?_];refine#[_,zZ,_,zZ,a,_,_,_,zZ,zZ,S2 v,zZ,_,zZ,L,_,_,_,zZ,zZ,S1 U,ge (by rw[bZ,y];rfl),_,zZ,a,_,_,_,zZ,zZ,S2 v,zZ,_,zZ,N,_,_,_,zZ,zZ,S1 Y,ge (by rw[bZ,z];rfl),m,d,b,G,n,u,g,zZ,M,S2 hd,cP (u7 M.n5 i) M.n5,(bH.mp i).2,S1 hb,t,λp H2 g2 B=>?_];rw[<-zL M g u i t]at B;exact q p H2 g2 B
def MW(F:Fun K vY vY Cw f fd)(L:cE P w K mg base "tile" 5 [sA,sL,"k","j"] kv)(O:mg "len"=none)(T:mg "range"=none):FnOk P w K mg base b9 7 f fd [sA,sL,"k"] eI:=by
 refine F.ok L' (λU A t s H vs Q E B h=>?_)
 obtain⟨m,a,k,C,n,c,j,v,D,rfl,M,G,Y,uU,few,lw,q⟩:=h;have hu:=B.units;obtain⟨s',t',v',bs,ds,cs,h1,h2,h3,h4,h5,h6,h7,h8⟩:=id G;have l5:=h5.len;refine#[_,(bS (cr (gK (CompSc.to (N:=[sA,sL,"k"]) (osc:=bT Cw) (vs:=["j"]) {}) zZ zZ (je zZ T (bK (c9 fv zZ O eU (bK (ck dA (pv 1) bO (λ_ _=>rfl)) bJ)) bJ)) (λ_ _ _ _=>fG) (λ_ _ _ _=>(cC L B.m zZ (cf (bI (pv 1) (bI (pv 2) (bI (pv 3) (bI (pv 0) ce zZ) zZ) zZ) zZ))))))),?_];refine#[_,zZ,a,_,_,_,zZ,zZ,S2 h1,zZ,t',_,zZ,.inl (S1 h4),(j.length:Int),by rw[bF,l5],(),(),CA (λi l o=>Same H o/\∃d,l=d.map V.ref/\d.length=i/\TupsAt o d ((j.take i).map λu=>cw (bN C) u D)) (by rw[hY];exact small ()) #[Same.refl _,[],zZ,zZ,zZ,λi b u e=>by simp at e] (λi l o _ p=>?_) (λi l o hi p=>?_) (λl H1 p sg x=>?_)]
 .obtain⟨_,d,rfl,e,_⟩:=p;rw[bF];lia
 .obtain⟨g,d,rfl,e,r⟩:=p;have e0:V.int (0+(i:Int))=nv i:=by show V.int (0+(i:Int))=V.int (i:Int);rw[sd]
  have y:i<j.length:=by simpa using hi
  obtain⟨u,z⟩:∃u,j[i]?=some u:=#[_,bE y];rw[e0];refine#[iI,i5 #[_,zZ,_,zZ,_,zZ,_,zZ,m,a,k,i,C,n,c,j,v,u,D,zZ,M.same g,G.same g,z,Y,uU u (cb z),lw,λp H2 I e2=>?_]];refine#[g.trans I,d++[p],by simp,by simp[e],?_];rw[gQ,z,dC];exact Am (r.same I) e2
 obtain⟨g1,d,rfl,er,r⟩:=p;rw[hY,fZ]at r;have J:=bV x (.lst (d.map V.ref));exact q sg d _ (g1.trans J) bG (r.same J)
def OG(F:Fun K vZ vZ CK f fd)(jK:cE P w K mg base tW 3 [sA,sC,sW] (cT K))(jL:cE P w K mg base vY 7 [sA,sL,"k"] eI)(jD:mg "tuple"=none):FnOk P w K mg base b9 9 f fd [sA,sL,"k",sK] ft:=by
 refine F.ok qH (λay A an s H vs Q E hr h=>?_)
 obtain⟨m,a,k,l,o,n,ao,c,us,J,x,wd,rfl,M,ff,lv,lp,ex,ew,ll,q1,q2⟩:=h;have hu:=hr.units;obtain⟨s',t',v',bs,ds,cs,h1,h2,h3,h4,h5,h6,h7,h8⟩:=id lv;obtain⟨cne,az,cx,call⟩:=gP lp.cls;have lb:=h3.len;have lk:=(bU.mp ex).1;obtain⟨b,eb⟩:∃b,bs[k]?=some b:=#[_,bE ()];have hb:=h3.is k b x eb ex;have ab:∀y∈big ao,y∈dh n:=λy hy=>ff.inU M (cQ.mp hy).1;have mx:=cb ex;have hU:=ab x (call x mx).1;refine#[_,(bQ (cj (i:=4) qH.nd zZ Z' (cC jK hr.m zZ (cf (bI (pv 0) (bI (ck d9 (ck dA (pv 1) bO (λ_ _=>rfl)) (pv 2) (λ_ _=>rfl)) (bI (gT (bK (pv 3) bJ)) ce zZ) zZ) zZ)))) (bQ (dq (dQ (Qa hu) (pv 4) (ck dA (pv 1) bO (λ_ _=>rfl)) (by with_unfolding_all rfl)) (bS (cr vp)) dD) (bQ (cj (i:=5) qH.nd zZ Z0 (cC jL hr.m zZ (cf (bI (pv 0) (bI (pv 1) (bI (gJ iE yp zE (AB hu) (ck dA (pv 1) bO (λ_ _=>rfl)) (bK (pv 4) bJ)) ce zZ) zZ) zZ)))) (bS (cr (f9 oy zZ jD lR (bK (gK (CompSc.to (N:=[sA,sL,"k",sK,wX,"ends"]) (osc:=bT CK) (vs:=[wS]) {}) zZ zZ (fH (cC jL hr.m zZ (cf (bI (pv 0) (bI (pv 1) (bI (pv 2) ce zZ) zZ) zZ)))) (λ_ _ _ _=>fG) (λ_ _ _ _=>(RS (K:=K) ig zZ (gJ iE yp zE (AB hu) (pv 6) (bK (cC jK hr.m zZ (cf (bI (pv 1) (bI (pv 0) (bI (gT (bK (pv 4) bJ)) ce zZ) zZ) zZ))) bJ))))) bJ))))))),?_];obtain⟨uU,few⟩:=lp.inU M ff;have ae:=(lp.go k x wd ex ew).1;have l1:∀z∈[l],z<o.length:=λz hz=>by rw[ci.mp hz];exact ll
 refine#[_,zZ,_,zZ,a,_,_,_,zZ,zZ,S2 h1,zZ,_,zZ,s',_,_,_,zZ,zZ,S1 h2,ge (by rw[bZ,eb];rfl),_,zZ,by show 1<=sizeLine;decide,λp1 L=>?_];have G:=bV L (.lst [nv l]);refine#[m,b,p1,o,n,x,[l],zZ,M.same G,S2 (G _ _ hb),cP (u7 M.n5 hU) M.n5,(bH.mp hU).2,S1 bG,l1,λth H2 ap I=>?_];have B:=G.trans ap;have O:H2 th=some (.tup ((bN o x l).map nv)):=I;generalize hy:bN o x l=y at O q1 q2;have T:=B _ _ h2;refine#[_,zZ,_,zZ,a,_,_,_,zZ,zZ,S2 (B _ _ h1),zZ,s',1,.tup (hZ y),c.map λu=>Dt.tup (hZ u),_,zZ,S1 T,by rw[bF,bF,lb],iS (S2 O),CI (h3.same B),by decide,λcc hc=>#[_,zZ,?_]];by_cases my:y∈c
 .have U:cc=true:=hc.mpr (nq.mpr my);subst U;refine dv ?_;obtain⟨k',ey,no⟩:=Fo my;have aq:=(bU.mp ey).1;obtain⟨q,C⟩:∃q,J[k']?=some q:=#[_,bE (by rw[lp.len];exact aq)];have af:=(lp.go k' y q ey C).1;refine#[_,zZ,_,zZ,_,zZ,a,_,_,_,zZ,zZ,S2 (B _ _ h1),zZ,.inl #[zZ,_,S1 T],_,zZ,s',_,1,.tup (hZ y),c.map λu=>Dt.tup (hZ u),_,k',zZ,zZ,S1 T,by rw[bF,bF,lb],iS (S2 O),CI (h3.same B),by decide,fT.mpr ey,λi hi e=>no i hi (fT.mp e),?_];refine#[m,a,k',o,n,c,us,J,q,zZ,M.same B,lv.same B,C,uU,few,af,λen es H3 ar ag ah=>?_];have g3:=B.trans ar;have len:=ah.len;rw[bF]at len;refine#[_,zZ,_,zZ,_,zZ,m,a,k,o,n,c,us,J,wd,zZ,M.same g3,lv.same g3,ew,uU,few,ae,λpl ps H4 Y ai aj=>?_];have g4:=g3.trans Y;have as:=aj.len;rw[bF]at as;refine#[pl,zZ,#[_,S1 ai],j7 (xs:=ps.map .ref) (λi D H'=>Same H4 H'/\∃t:bB,D=t.map nv/\t.length=i/\∀(j:Nat) (u:bB) (j':Nat),us[j]?=some u->t[j]?=some j'->∃u',us[j']?=some u'/\cw (bN o) u' q=bN o (cw (bN o) u wd) l) (by rw[bF,cH];lia) #[Same.refl _,[],zZ,zZ,λj u j' _ e=>by simp at e] (λi D H' hi p=>?_) (λi v D H' hv p=>?_) (λD H5 p tl au=>?_)]
  .obtain⟨g,t,rfl,e,_⟩:=p;exact#[S1 (g _ _ ai),by rw[bF];lia]
  .obtain⟨g,t,rfl,e,al⟩:=p;rw[bZ]at hv;obtain⟨d,ed,rfl⟩:=dm.mp hv;have li:=(bU.mp ed).1;obtain⟨u,eu⟩:∃u,us[i]?=some u:=#[_,bE ()];have mu:=cb eu;have hd:=g _ _ (aj.is i d _ ed (by rw[bZ,eu];rfl));have ak:=n' M (uU u mu) ae;have gH:=g4.trans g;refine#[iI,i5 #[_,zZ,.inl #[zZ,_,S1 ((Y.trans g) _ _ ag)],_,zZ,_,zZ,_,zZ,by show 1<=sizeLine;decide,λp1 L=>?_]];have G:=bV L (.lst [nv l]);refine#[m,d,p1,o,n,_,[l],zZ,M.same (gH.trans G),S2 (G _ _ hd),cP (u7 M.n5 ak) M.n5,(bH.mp ak).2,S1 bG,l1,λca H6 am e6=>?_];have av:H6 ca=some (.tup ((bN o (cw (bN o) u wd) l).map nv)):=e6;have g6:=(Y.trans g).trans (G.trans am);have mi:=Jb M ff lp ex ew ll (by rw[hy];exact ey) C mu;obtain⟨j0,aa,aw⟩:=Fo mi;refine#[en,_,1,.tup (hZ (bN o (cw (bN o) u wd) l)),(us.map λu=>cw (bN o) u q).map λu=>Dt.tup (hZ u),_,j0,zZ,zZ,S1 (g6 _ _ ag),by rw[bF,bF,bF,len],iS (S2 av),CI (ah.same g6),by decide,fT.mpr aa,λi hi e=>aw i hi (fT.mp e),?_];refine#[g.trans (G.trans am),t++[j0],by simp,by simp[e],λj u2 j' e1 I=>?_];by_cases hj:j<t.length
   .rw[dN hj]at I;exact al j u2 j' e1 I
   .rw[dO ()]at I;have z:j-t.length=0:=by
     have:=(bU.mp I).1;simp at this;lia
    rw[z]at I;cases I;have ji:j=i:=by lia
    subst ji;rw[eu]at e1;cases e1;rw[bZ]at aa;obtain⟨u',f1,f2⟩:=dm.mp aa;exact#[u',f1,f2]
  .obtain⟨g5,t,rfl,ej,al⟩:=p;rw[bF]at ej;have kt:=bV au (.lst (t.map nv));refine#[tl,_,zZ,.inl #[S1 bG,λr ax=>?_]];have kr:=bV ax (.tup (t.map nv));exact q2 k' q ey C r t _ (((g4.trans g5).trans kt).trans kr) bG #[(),al]
 .have U:cc=false:=by
   cases cc with
   |false=>rfl
   |true=>exact wC (nq.mp (hc.mp zZ)) my
  subst U;exact eK (q1 my H2 B)
def GG:(eY[0]'(by decide))∈eY:=gh _
def Fl:(eY[1]'(by decide))∈eY:=gh _
def g7(t u:bB):bB:=eZ (u.map λr=>t.getD r 0)
def iP{a:bB}{r:Nat}:r∈eZ a↔r<5/\r∈a:=by
 unfold eZ;rw[cQ,fb,gR]
def P8{a b:bB}(h:∀r,r∈a↔r∈b):eZ a=eZ b:=by
 unfold eZ;refine wp λi _=>?_;rw[jq,gR,gR];exact h i
def Pq{f:Nat->Nat}{n r:Nat}(h:r<n):((List.range n).map f).getD r 0=f r:=by
 rw[cZ,bZ,nB h];rfl
def LG{H:Hp}{m:Ad}{a:LN}{n:Nat}(M:Mach H m a n){u w:bB}(b:u∈dh n)(c:∀l∈w,l<a.length):cw (bN a) u w=g7 (vj a n w) u:=by
 rw[zL M w u b c];unfold g7 pG vj
 congr 1
 refine nH λr d=>?_;rw[Pq ((bH.mp b).2 r d)]
def Sf{H:Hp}{m:Ad}{a:LN}{n:Nat}(M:Mach H m a n){w:bB}(b:∀l∈w,l<a.length):vj a n w∈lH n n:=by
 refine cJ.mpr #[PN a n w,λr c=>?_];obtain⟨x,d,rfl⟩:=b8.mp c;exact mS M w x (fb.mp d) b
def dB(a:LN)(x:bB):Nat:=a.findIdx λy=>decide (y=x)
def jp{a:LN}{x:bB}(h:x∈a):dB a x<a.length/\a[dB a x]?=some x:=by
 have l:dB a x<a.length:=List.findIdx_lt_length_of_exists #[x,h,cG zZ];refine#[l,?_];rw[bE l];have z:decide (a[dB a x]=x)=true:=List.findIdx_getElem (p:=λy=>decide (y=x)) (w:=l);rw[hE z]
def BD{a:LN}{x:bB}{j:Nat}(nd:a.Nodup)(h:a[j]?=some x):dB a x=j:=by
 obtain⟨l,e⟩:=jp (cb h);exact(jf l nd).mp (e.trans h.symm)
def xk(a:LN)(t:bB):bB:=a.map λu=>dB a (g7 t u)
def gU(a:LN)(n:Nat):LN:=((lH n n).filter λt=>a.all λu=>a.contains (g7 t u)).map (xk a)
def fK{a:LN}{n:Nat}{x:bB}:x∈gU a n↔ ∃t∈lH n n,(∀u∈a,g7 t u∈a)/\x=xk a t:=by
 unfold gU;rw[b8];constructor
 .rintro⟨t,ht,rfl⟩;obtain⟨b,c⟩:=cQ.mp ht;exact#[t,b,λu d=>gR.mp (oA.mp c u d),zZ]
 .rintro⟨t,b,c,rfl⟩;exact#[t,cQ.mpr #[b,oA.mpr λu d=>gR.mpr (c u d)],zZ]
def FZ{a:LN}{n:Nat}(h:n<=5):(gU a n).length<=4000:=by
 unfold gU;rw[bF];exact cP (jo _ _) (O4 h)
def Dq{a:LN}{n:Nat}{x:bB}(h:x∈gU a n):x.length=a.length/\∀r∈x,r<a.length:=by
 obtain⟨t,_,g,rfl⟩:=fK.mp h;refine#[by simp[xk],λr b=>?_];obtain⟨u,c,rfl⟩:=b8.mp b;exact(jp (g u c)).1
def C8{a:LN}{n:Nat}(nd:a.Nodup)(d:∀u∈a,u∈dh n):List.range a.length∈gU a n:=by
 have b:∀u∈a,g7 (List.range n) u=u:=λu c=>by
  obtain⟨e,f⟩:=bH.mp (d u c);unfold g7;have:u.map (λr=>(List.range n).getD r 0)=u.map id:=nH λr g=>by
   rw[cZ,nB (f r g)];rfl
  rw[this,List.map_id,e]
 refine fK.mpr #[List.range n,Nm n,λu c=>by rw[b u c];exact c,?_];refine nj λj=>?_;unfold xk;rw[bZ];by_cases h:j<a.length
 .rw[nB h,bE h];show some j=some (dB a (g7 (List.range n) a[j]));rw[b _ (gh h),BD nd (bE h)]
 .rw[iM (by simp;lia),List.getElem?_eq_none ()];rfl
def SG{n:Nat}{t b u:bB}(k:n<=5)(ht:t∈lH n n)(i:u∈dh n):g7 b (g7 t u)=g7 (dX t b) u:=by
 obtain⟨f,j⟩:=cJ.mp ht;obtain⟨_,g⟩:=bH.mp i;unfold g7;refine P8 λr=>?_;have e:∀x∈u,(dX t b).getD x 0=b.getD (t.getD x 0) 0:=λx a=>by
  have h:x<t.length:=by rw[f];exact g x a
  unfold dX;rw[cZ,bZ,bE h,cZ (l:=t),bE h];rfl
 have c:∀x∈u,t.getD x 0<5:=λx a=>by
  have:=wD j (by rw[f];exact g x a);lia
 rw[b8,b8];constructor
 .rintro⟨y,d,rfl⟩;obtain⟨_,d⟩:=iP.mp d;obtain⟨x,a,rfl⟩:=b8.mp d;exact#[x,a,e x a]
 .rintro⟨x,a,rfl⟩;exact#[t.getD x 0,iP.mpr #[c x a,b8.mpr #[x,a,zZ]],(e x a).symm]
def Su{n:Nat}{t a:bB}(h:t∈lH n n)(b:a∈lH n n):dX t a∈lH n n:=by
 obtain⟨c,d⟩:=cJ.mp h;obtain⟨e,f⟩:=cJ.mp b;refine cJ.mpr #[by unfold dX;rw[List.length_map,c],λr g=>?_];obtain⟨x,i,rfl⟩:=b8.mp g;exact wD f (by rw[e];exact d x i)
def D5{a:LN}{n:Nat}{x y:bB}(g:n<=5)(h:∀u∈a,u∈dh n)(i:x∈gU a n)(j:y∈gU a n):dX x y∈gU a n:=by
 obtain⟨t,d,f,rfl⟩:=fK.mp i;obtain⟨c,k,m,rfl⟩:=fK.mp j;have e:∀u∈a,g7 (dX t c) u=g7 c (g7 t u):=λu b=>(SG g d (h u b)).symm;refine fK.mpr #[dX t c,Su d k,λu b=>by rw[e u b];exact m _ (f u b),?_];unfold xk;show(a.map λu=>dB a (g7 t u)).map (λx=>(a.map λu=>dB a (g7 c u)).getD x 0)=_;rw[eJ];refine nH λu b=>?_;obtain⟨l,o⟩:=jp (f u b);show(a.map λu=>dB a (g7 c u)).getD (dB a (g7 t u)) 0=dB a (g7 (dX t c) u);rw[cZ,bZ,o,e u b];rfl
def wq{H:Hp}{m:Ad}{f:LN}{n:Nat}{d c h g:LN}(M:Mach H m f n)(j:FamOf f n d)(k:LvP f d c h g):h.Nodup:=by
 have i:=qf M j (c.headD []);rw[<-k.tl]at i;exact i.up.imp λ{a b} z e=>by
  subst e;rw[IN]at z;cases z
def K0{H:Hp}{m:Ad}{d:LN}{n:Nat}{q c g i:LN}(M:Mach H m d n)(y:FamOf d n q)(r:LvP d q c g i){k C l:Nat}{x o s t:bB}(O:c[k]?=some x)(Q:i[k]?=some o)(T:l<d.length)(U:c[C]?=some (bN d x l))(A:i[C]?=some s)(D:jh d g o s l t):
  t∈gU g n:=by
 obtain⟨E,_⟩:=r.inU M y;have nd:=wq M y r;have B:=(r.go k x o O Q).1;obtain⟨p,b⟩:=r.bij M y U A;have G:=qf M y (c.headD []);rw[<-r.tl]at G;have I:∀z∈o++[l]++p,z<d.length:=λz Y=>by
  rcases cF.mp Y with h|h
  .rcases cF.mp h with h|h
   .exact B z h
   .rw[ci.mp h];exact T
  .exact b.lp z h
 have v:∀(j:Nat) (u:bB) (a:Nat),g[j]?=some u->t[j]?=some a->g[a]?=some (g7 (vj d n (o++[l]++p)) u):=λj u a J f=>by
  obtain⟨L,N,f2⟩:=D.2 j u a J f;have w:=cb N;rw[<-LG M (E u (cb J)) I,BC,BC];show g[a]?=some (cw (bN d) (bN d (cw (bN d) u o) l) p);rw[<-f2,b.back M (E L w) (G.mem L w).2.2];exact N
 have lj:=D.1;refine fK.mpr #[_,Sf M I,λu hu=>?_,?_]
 .obtain⟨j,f⟩:=wc hu;obtain⟨a,e⟩:∃a,t[j]?=some a:=#[_,bE (by rw[lj];exact(bU.mp f).1)];exact cb (v j u a f e)
 .refine nj λj=>?_;unfold xk;rw[bZ];cases f:g[j]? with
  |none=>
   have:=List.getElem?_eq_none_iff.mp f;rw[iM ()];rfl
  |some u=>
   have:=(bU.mp f).1;obtain⟨a,e⟩:∃a,t[j]?=some a:=#[_,bE ()];rw[e];exact cK some (BD nd (v j u a f e)).symm
def LI{H:Hp}{m:Ad}{f:LN}{n:Nat}{g c q h:LN}(M:Mach H m f n)(r:FamOf f n g)(s:LvP f g c q h){B l:Nat}{y C d D i:bB}(N:c[B]?=some y)(t:h[B]?=some d)(w:jh f q C d l D)(k:jh f q C d l i):D=i:=by
 obtain⟨E,_⟩:=s.inU M r;have nd:=wq M r s;obtain⟨p,b⟩:=s.bij M r N t;have x:=qf M r (c.headD []);rw[<-s.tl]at x;refine yT (by rw[w.1,k.1]) λj a O G Q=>?_;obtain⟨u,I⟩:∃u,q[j]?=some u:=#[_,bE (by rw[<-w.1];exact(bU.mp G).1)];obtain⟨v,z,T⟩:=w.2 j u a I G;obtain⟨A,J,U⟩:=k.2 j u O I Q;have L:=cb z;have o:=cb J;have e:v=A:=by
  rw[<-b.back M (E v L) (x.mem v L).2.2,<-b.back M (E A o) (x.mem A o).2.2,T,U]
 subst e;exact(jf (bU.mp z).1 nd).mp (z.trans J.symm)
def GZ{H:Hp}{m:Ad}{d:LN}{n:Nat}{b c i f:LN}(M:Mach H m d n)(g:FamOf d n b)(j:LvP d b c i f):0<i.length:=by
 obtain⟨_,_,l,_⟩:=gP j.cls;obtain⟨o,a⟩:=cQ.mp l;have h:=qf M g (c.headD []);rw[<-j.tl]at h;obtain⟨_,k⟩:=bH.mp (g.inU M o);cases e:c.headD []with
 |nil=>
  rw[e]at a;cases a
 | cons r q=>
  rw[e]at h k a;obtain⟨t,ht,_⟩:=h.all [r] ((g.mem [r]).mpr (.inr #[r,k r (cR ..),zZ])) (λz=>by
   have p:=cK List.length z;have a:=hE a;rw[<-p]at a;simp at a) (by simp[sub])
  exact C1 ht
structure Makers(ts c us wds mk:LN):Prop where
 mem:∀t∈mk,∃(k l k':Nat) (x wd wd':bB),c[k]?=some x/\wds[k]?=some wd/\l<ts.length/\c[k']?=some (bN ts x l)/\wds[k']?=some wd'/\jh ts us wd wd' l t
 all:∀(k l:Nat) (x wd:bB),c[k]?=some x->wds[k]?=some wd->l<ts.length->bN ts x l∈c->∃(k':Nat) (wd' t:bB),t∈mk/\c[k']?=some (bN ts x l)/\wds[k']?=some wd'/\jh ts us wd wd' l t
theorem Hz:∀{ws:TW} {as:As},as.length=ws.length->(a4k ws as).map (·.1)=(ws.map (·.1)).map nk
 | [],[],_=>rfl
 |p::ws,a::as,h=>cK (nk p.1:: ·) (Hz (ws:=ws) (as:=as) (Nat.succ.inj h))
def m8(a:LN)(x:bB)(i:Nat):bB:=dX x (a.getD i [])
inductive eA(i:List V)(H:Hp)(Q:VK)(g:XK):Prop|mk:∀(m a:Ad) (e:LN) (n:Nat) (d c h b:LN),i=[.ref m,.ref a]->Mach H m e n->FamOf e n d->LvH H a c h b->LvP e d c h b->(∀l j mk f,Same H f->f l=some (.lst (j.map .ref))->TupsAt f j mk->Makers e c h b mk->mk.length<=200->Q (.ref l) f)->eA i H Q g
inductive iw(j:List V)(H:Hp)(Q:VK)(h:XK):Prop|mk:∀(m a:Ad) (f:LN) (n:Nat) (d c g b:LN),j=[.ref m,.ref a]->Mach H m f n->FamOf f n d->LvH H a c g b->LvP f d c g b->Tabs H->(∀l bs i mk k e,Keeps H e->Tabs e->L2.noT H l=none->e l=some (.lst (bs.map .ref))->TupsAt e bs i->i.Perm (k.map (·.1))->i.Pairwise (λx y=>dF x y=true)->Makers f c g b mk->Told (m8 mk) mk.length (List.range g.length) k->Q (.ref l) e)->iw j H Q h
def LB(F:Fun K tX tX Eb f fd)(jR:cE P w K mg base vZ 9 [sA,sL,"k",sK] ft)(jA:mg "len"=none)(jB:mg "range"=none):FnOk P w K mg base b9 11 f fd [sA,sL] eA:=by
 refine F.ok jP (λam A ai s H vs Q E hr h=>?_)
 obtain⟨m,a,G,n,aj,c,us,B,rfl,M,ff,lv,lp,q⟩:=h;have hu:=hr.units;refine#[_,(bQ (cj (i:=2) jP.nd zZ Z' (gT bJ)) (bQ (fY fF zZ (je zZ jB (bK (c9 fv zZ jA eU (bK (ck dA (pv 1) bO (λ_ _=>rfl)) bJ)) bJ)) (eR (i:=3) jP.nd zZ Z') (bS (fY fF zZ (je zZ jB (bK (c9 fv zZ jA eU (bK (pv 0) bJ)) bJ)) (eR (i:=4) jP.nd zZ Z') (bQ (cj (i:=5) jP.nd zZ Z' (cC jR hr.m zZ (cf (bI (pv 0) (bI (pv 1) (bI (pv 3) (bI (pv 4) ce zZ) zZ) zZ) zZ)))) (bS (dq (dQ Kd (pv 5) vp (dy _)) (bS (i3 (gJ iE lM kS lL (pv 2) (bK (pv 5) bJ)))) dD)))))) (bS (cr (pv 2))))),?_];obtain⟨s',t',v',bs,ds,cs,h1,h2,h3,h4,h5,h6,h7,h8⟩:=id lv;have lb:=h3.len;have t1:=M.some1;have t4:=M.few;obtain⟨rs,hm,ak,_⟩:=M.refs;have an:c.length<=32:=by
  rw[(gP lp.cls).2.1];exact cP (jo _ _) (cP (jo _ _) (ff.few M))
 refine#[by show 0<=sizeLine;decide,λfo ab=>?_];have k0:=bV ab (.lst [])
 let Mk:Nat->Nat->List bB->Prop:=λk l g=>g.length<=4 * k+l/\(∀t∈g,∃(k l J:Nat) (x C o:bB),c[k]?=some x/\B[k]?=some C/\l<G.length/\c[J]?=some (bN G x l)/\B[J]?=some o/\jh G us C o l t)/\
  ∀(i j:Nat) (x C:bB),(i<k\/i=k/\j<l)->c[i]?=some x->B[i]?=some C->j<G.length->bN G x j∈c->∃(J:Nat) (o t:bB),t∈g/\c[J]?=some (bN G x j)/\B[J]?=some o/\jh G us C o j t
 let Pk:Nat->L2.St->Hp->Prop:=λk T U=>Same H U/\∃(y:As) (g:LN) (o3 Y o5:Option V),U fo=some (.lst (y.map .ref))/\TupsAt U y g/\Mk k 0 g/\T=[some (.ref m),some (.ref a),some (.ref fo),o3,Y,o5]
 refine#[_,zZ,a,_,_,_,zZ,zZ,S2 (k0 _ _ h1),zZ,s',_,zZ,.inl (S1 (k0 _ _ h2)),(c.length:Int),by rw[bF,lb],(),(),oB Pk #[k0,[],[],none,none,none,bG,#[zZ,λi b u e=>by simp at e],#[Nat.zero_le _,(λt ht=>nomatch ht),λi j x C aa=>by lia],zZ] (λk T H1 hk p=>?_) (λT H1 p=>?_)]
 .obtain⟨g1,y,g,o3,Y,o5,L,T1,K1,rfl⟩:=p;have ae:k<c.length:=by simpa using hk
  have zk:V.int ((0:Int)+((k:Nat):Int))=nv k:=by show V.int (0+(k:Int))=V.int (k:Int);rw[sd]
  rw[zk];obtain⟨C,ew⟩:∃C,B[k]?=some C:=#[_,bE (by rw[lp.len];exact ae)];obtain⟨x,ex⟩:∃x,c[k]?=some x:=#[_,bE ae]
  let Pl:Nat->L2.St->Hp->Prop:=λl T U=>Same H U/\∃(y:As) (g:LN) (Y o5:Option V),U fo=some (.lst (y.map .ref))/\TupsAt U y g/\Mk k l g/\T=[some (.ref m),some (.ref a),some (.ref fo),some (nv k),Y,o5]
  refine#[_,zZ,m,_,zZ,.inr (S2 (g1 _ _ hm)),(G.length:Int),by rw[bF,ak],(),(),oB Pl #[g1,y,g,_,_,L,T1,K1,zZ] (λl T H2 hl p=>?_) (λT H2 p=>?_)]
  .obtain⟨g2,y,g,Y,o5,N,T2,K2,rfl⟩:=p;have af:l<G.length:=by simpa using hl
   have zl:V.int ((0:Int)+((l:Nat):Int))=nv l:=by show V.int (0+(l:Int))=V.int (l:Int);rw[sd]
   rw[zl];obtain⟨kz,km,O⟩:=K2;refine#[_,zZ,_,zZ,_,zZ,_,zZ,m,a,k,l,G,n,aj,c,us,B,x,C,zZ,M.same g2,ff,lv.same g2,lp,ex,ew,af,λmy H3 g3=>?_,λJ o ey ag tp js H3 g3 ah tb=>?_]
   .refine#[_,zZ,zZ,_,zZ,dv #[g2.trans g3,y,g,_,_,g3 _ _ N,T2.same g3,#[(),km,λi j x' r aa d v I D=>?_],zZ]];by_cases z:i=k/\j=l
    .obtain⟨rfl,rfl⟩:=z;rw[ex]at d;cases d;exact wC D my
    .exact O i j x' r () d v I D
   .refine#[_,zZ,zZ,_,zZ,eK ?_];have e3:=g3 _ _ N;have lq:=T2.len;refine#[_,zZ,.inl #[zZ,_,S1 e3],_,zZ,fo,_,_,zZ,zZ,e3,by rw[bF,cH];lia,?_];refine#[gk (g2.trans g3) ab,y++[tp],g++[js],_,_,by rw[bG,dC];rfl,Am #[lq,λi b u L N=>?_] ?_,#[by rw[cI,yD];lia,λt ht=>?_,λi j x' r aa d v I D=>?_],zZ]
    .have z:=(T2.same g3).is i b u L N;rw[bL (nE z e3)];exact z
    .rw[bL (nE ah e3)];exact ah
    .rcases cF.mp ht with z|z
     .exact km t z
     .rw[ci.mp z];exact#[k,l,J,x,C,o,ex,ew,af,ey,ag,tb]
    .by_cases z:i=k/\j=l
     .obtain⟨rfl,rfl⟩:=z;rw[ex]at d;cases d;rw[ew]at v;cases v;exact#[J,o,js,cF.mpr (.inr (ci.mpr zZ)),ey,ag,tb]
     .obtain⟨k2,al,t,r1,r2⟩:=O i j x' r () d v I D;exact#[k2,al,t,cF.mpr (.inl r1),r2]
  .obtain⟨g2,y,g,Y,o5,N,T2,⟨kz,km,O⟩,rfl⟩:=p;have el:(G.length:Int).toNat=G.length:=hY _;rw[el]at kz O;exact#[g2,y,g,_,_,_,N,T2,#[(),km,λi j x' r aa d v I D=>O i j x' r () d v I D],zZ]
 .obtain⟨g1,y,g,o3,Y,o5,L,T1,⟨kz,km,O⟩,rfl⟩:=p;have el:(c.length:Int).toNat=c.length:=hY _;rw[el]at kz O;exact#[_,zZ,q fo y g H1 g1 L T1 #[km,λk l x C L N e3 e4=>O k l x C (.inl (bU.mp L).1) L N e3 e4] ()]
def Iu{I c G B:Ad}{oc:Obj}{i C:LN}{n:Nat}{J:As}{z:Hp}{pm L:Vl}{a:Arguments}{f:Expr}{d:Scope}{sx fx a1 a2:Expr}{kw M:List Keyword}{lp cp N rp:Pos}{s0:Stmt}(e:iD ou=[s0,.Return (some (.Call sx [.Call fx [a1,a2,.Lambda a f d lp] kw cp] M N)) rp])(kN:cE P w K mg base xD 1 [tY,sZ] dY) (O:z G=some (.lst (J.map .ref))) (Tm:TupsAt z J i) (mU:∀t∈i,t∈gU C n) (few:C.length<=32) (h1:z I=some (iO I (gS sE a f d wN c pm (.ref B) L))) (h2:z c=some (gt c G oc)) (h3:z B=some (j9 B sE)):
  FnOk P w K mg base b9 5 I (gS sE a f d wN c pm (.ref B) L) [wJ,"number"] (dL (Same z) (gU C n) i.length (m8 i))/\Binds K (gS sE a f d wN c pm (.ref B) L) [wJ,"number"] []:=by
 cases e;refine#[HX (k:=4) (m:=G) (oc:=oc) #[zZ,zZ,zZ,by decide+kernel,by decide+kernel,zZ,by decide+kernel] (λvs H Q E h=>?_) (λvs H Q E h=>?_) (λA T s H vs Q E hr h=>?_),.all λC O=>match C,O with| [_,_],_=>rfl]
 .obtain⟨t,x,l,rfl,_⟩:=h;rfl
 .obtain⟨t,x,l,rfl,g,_⟩:=h;exact#[g _ _ h1,g _ _ h2,g _ _ h3]
 .obtain⟨t,x,l,rfl,g,ht,hx,U,q⟩:=h;refine#[_,(cC kN hr.m zZ (cf (bI (pv 0) (bI (ck d9 (pv 2) (pv 1) (λ_ _=>rfl)) ce zZ) zZ))),?_];have hc:=g _ _ h2;have off:∀{b:Ad} {u:HO},(∀φ,u≠ .ext φ)->H b=some u->(L2.drop H c) b=some u:=λnu hb=>by
   rw[db (ju hb hc λe=>nu _ e)];exact hb
  have ln:=Tm.len;obtain⟨r,er⟩:∃r,J[l]?=some r:=#[_,bE ()];have et:i[l]?=some (i.getD l []):=by rw[cZ,bE U];rfl
  have Y:=off (u:= .tup _) (λ_ e=>nomatch e) (g _ _ (Tm.is l r _ er et));have mt:=mU _ (cb et);obtain⟨x1,x2⟩:=Dq hx;obtain⟨y1,y2⟩:=Dq mt;refine#[_,zZ,_,zZ,_,zZ,G,_,_,_,zZ,zZ,S1 (off (u:= .lst _) (λ_ e=>nomatch e) (g _ _ O)),ge (j:=l) (v:= .ref r) (by rw[bZ,er];rfl),t,r,x,i.getD l [],zZ,off (u:= .tup _) (λ_ e=>nomatch e) ht,Y,λy D=>by rw[y1];exact x2 y D,(),λp H3 g3 e3 free=>q p _ (λy o ho=>?_) ?_]
  .by_cases D:y=c
   .subst D;rw[hc]at ho;cases ho;exact bG
   .rw[bL D];exact g3 _ _ (by rw[db D];exact ho)
  .rw[bL (cV e3 free)];exact e3
def Mj{cd T:Ad}(F:DefAt K sU ou f fd .none (.ref cd))(hC:PySem.W.CodeHd base cd T)(bm:oQ mg base)(hq:((sE:Str),(#[152,61,152,110]:Pos),T)∈eY)(kF:cE P w K mg base tX 11 [sA,sL] eA)(qC:cE P w K mg base "still" 1 [sC] fi)(kN:cE P w K mg base xD 1 [tY,sZ] dY)(qD:Cv P w K mg base tK 8 ["start","letters",wK,wR] (c7 P w K mg base) [.non]) (jA:mg "len"=none) (kL:mg "sorted"=none):FnOk P w K mg base b9 13 f fd [sA,sL] iw:=by
 refine F.fnOk rW (λvs H Q E h=>?_) (λA an s H vs Q E h hr=>?_)
 .obtain⟨m,a,ts,n,af,c,us,ag,rfl,_⟩:=h;rfl
 obtain⟨m,a,ts,n,af,c,us,ag,rfl,M,ff,lv,lp,hT,q⟩:=h;refine#[_,?_,(bQ (cj (i:=2) rW.nd zZ Z0 (cC kF hr.m zZ (cf (bI (pv 0) (bI (pv 1) ce zZ) zZ)))) (bS (cr (c9 (Pd zZ) zZ kL boot_sorted (bK (JT qD hr.m zZ (j:=2) zZ zZ zZ zZ (cf (bI (cC qC hr.m zZ (bK (c9 fv zZ jA eU (bK (ck dA (pv 1) bO (λ_ _=>rfl)) bJ)) bJ)) (bI (c9 fv zZ jA eU (bK (pv 2) bJ)) (bI (IS (qual:=sE) zZ hC bm (λ_ _ _ _ _=>rfl) zZ zZ) ce zZ) zZ) zZ))) bJ)))))];refine#[_,zZ,_,zZ,m,a,ts,n,af,c,us,ag,zZ,M,ff,lv,lp,λlm rs mk H1 g1 ao Tm Mk am=>?_];obtain⟨s',t',v',bs,ds,cs,h1,h2,h3,h4,h5,h6,h7,h8⟩:=id (lv.same g1);have l5:=h5.len;obtain⟨uU,few⟩:=lp.inU M ff;have n5:=M.n5;have nd:=wq M ff lp;have mU:∀t∈mk,t∈gU us n:=λt ht=>by
  obtain⟨k,l,k',x,wd,aq,e1,e2,e3,e4,e5,e6⟩:=Mk.mem t ht;exact K0 M ff lp e1 e2 e3 e4 e5 e6
 refine#[_,zZ,a,_,_,_,zZ,zZ,S2 h1,zZ,t',_,zZ,.inl (S1 h4),?_]
 try dsimp only
 rw[bF,l5];refine#[us.length,zZ,(),λst H2 g2 e2=>?_];have L:=g2 _ _ ao;have ab:=Tm.same g2;have T2:Tabs H2:=(hT.same g1).same g2;refine#[_,zZ,lm,_,zZ,.inl (S1 L),?_]
 try dsimp only
 rw[bF,ab.len];have ah:∀(B:Hp) (D:Ad) (ws:TW) (as:As),Keeps H B->Tabs B->WordsAt B D ws as->Told (m8 mk) mk.length (List.range us.length) ws->iG [.ref D] B Q:=λB D ws as k3 t3 W TT=>by
  have inG:∀p∈ws,p.1∈gU us n:=λp hp=>by
   obtain⟨r1,r2⟩:=TT.run p hp;rw[<-r2];refine wj (C8 nd uU) (λx hx l hl=>D5 n5 uU hx ?_) p.2 r1;rw[cZ,bE hl];exact mU _ (gh hl)
  refine#[D,_,ws.map (·.1),zZ,W.dict,?_,λt ht e=>?_,?_,λl bs gs hl Tb pm up=>?_]
  .exact Hz W.len
  .obtain⟨p,hp,rfl⟩:=b8.mp ht;have z:=(Dq (inG p hp)).1;rw[e]at z;have:=GZ M ff lp
   simp at z;lia
  .refine cP (nR (U:=gU us n) TT.keys λx hx=>?_) (FZ n5);obtain⟨p,hp,rfl⟩:=b8.mp hx;exact inG p hp
  .have gl:=bV hl (.lst (bs.map V.ref));refine q l bs gs mk ws _ (k3.trans gl.keeps) (t3.same gl) ?_ bG (Tb.same gl) pm up Mk TT;cases y:L2.noT H l with
   |none=>rfl
   |some o=>
    have z:=k3 _ _ y;rw[hl]at z;cases z
 have go:∀(N G:Ad) (ct:Vl) (B:Hp) (ai:AV),H2 T=some (.tbl ai)->KeepsBut T H2 B->B T=some (.tbl (jv (#[152,61,152,110]:Pos) G))->B G=some (j9 G sE)->∀(d:Arguments) (C:Expr) (g:Scope) (pm:Vl) (I:Ad),B N=some (iO N (gS sE d C g wN I pm (.ref G) ct))->
   ∀O,B I=none->(FnOk P w K mg base b9 5 N (gS sE d C g wN I pm (.ref G) ct) [wJ,"number"] (dL (Same (bC B I (gt I lm O))) (gU us n) mk.length (m8 mk)))->Binds K (gS sE d C g wN I pm (.ref G) ct) [wJ,"number"] []->
   c7 P w K mg base [.ref st,nv mk.length,.ref N,.non] (bC B I (gt I lm O)) (λr H4=>H4 I=some (gt I lm O)/\iG [r] (L2.drop H4 I) Q) E0:=λN G ct B ai aj kb h1 h2 d C g pm I h3 O Y hF hB=>by
  have J:=kb.keeps aj;have v:=bV Y (gt I lm O);refine#[st,N,_,_,List.range us.length,mk.length,gU us n,m8 mk,zZ,v _ _ (J _ _ (nU e2)),v _ _ h3,C8 nd uU,λx hx l hl=>D5 n5 uU hx ?_,FZ n5,(),hF,hB,λD ws as H4 g4 W nw TT=>#[g4 _ _ bG,ah _ D ws as (λb o hb=>?_) (T2.but hq aj (λb o nb hb=>?_) (.inr #[G,?_,?_])) #[W.len,?_,λj a r e1 e2=>?_] TT]]
  .rw[cZ,bE hl];exact mU _ (gh hl)
  .have z:=((g1.trans g2).keeps.trans J) b o hb;rw[db (cV z Y)];exact g4 _ _ (v _ _ z)
  .have z:=kb b o nb hb;rw[db (cV z Y)];exact g4 _ _ (v _ _ z)
  .rw[db (cV h1 Y)];exact g4 _ _ (v _ _ h1)
  .rw[db (cV h2 Y)];exact g4 _ _ (v _ _ h2)
  .rw[db (nE W.dict (g4 _ _ bG))];exact W.dict
  .have z:=W.list j a r e1 e2;rw[db (nE z (g4 _ _ bG))];exact z
 rcases T2 _ hq with u|⟨G,u,aa⟩
 .refine .inl #[u,λN G ct ae aa ne=>#[lm,zZ,λO Y=>?_]];obtain⟨J,ap,ak⟩:=Jv (#[152,61,152,110]:Pos) sE u ae aa ne _;have v:=bV Y (gt (s.heap.objs.size+1) lm O);have al:=J.keeps u;obtain⟨F1,F2⟩:=Iu zZ kN (v _ _ (al _ _ (nU L))) ((re ab al).same v) mU few (v _ _ bG) bG (v _ _ ak);exact go N G ct _ _ u J ap ak _ _ _ _ _ bG O Y F1 F2
 .refine .inr #[G,u,aa,λN ct ae=>#[lm,zZ,λO Y=>?_]];have J:∀lo,Same H2 (bC H2 N lo):=λlo=>bV ae lo;have v:=bV Y (gt (s.heap.objs.size+1) lm O);obtain⟨F1,F2⟩:=Iu zZ kN (v _ _ (J _ _ _ L)) ((ab.same (J _)).same v) mU few (v _ _ bG) bG (v _ _ (J _ _ _ aa));exact go N G ct _ _ u (λb o _ hb=>J _ _ _ hb) (J _ _ _ u) (J _ _ _ aa) _ _ _ _ _ bG O Y F1 F2
def QR{d:LN}{a told:hO}(o:Ord d a told):(∀c∈told,c∈a)/\told.Nodup:=by
 induction o with
 |nil=>exact#[λ_ h=>h,List.nodup_nil]
 | @cons a told s h r f=>
  obtain⟨b,g⟩:=f;refine#[λc i=>?_,lE.mpr #[λm=>?_,g]]
  .rcases cX.mp i with e|e
   .rw[e];exact(cQ.mp (List.mem_of_head? h)).1
   .exact(cQ.mp (b c e)).1
  .have:=hE (cQ.mp (b s m)).2;exact this rfl
def FD{b:LN}{a told:hO}(o:Ord b a told):∀c∈a,c∈told:=by
 induction o with
 |nil=>exact λ_ h=>h
 | @cons a told s h r d=>
  intro c f;by_cases e:c=s
  .rw[e];exact cR ..
  .exact dS _ (d c (cQ.mpr #[f,cG e]))
def Om{b:LN}{n:Nat}{a:LN}(g:FamOf b n a):(cn b (big a)).Pairwise λc d=>gj gl (c.headD []) (d.headD [])=true:=by
 unfold cn;rw[v8];refine Dr ?_ (pF (tA.trans tA) g.up);intro x y i j h;have f:∀z,z∈(big a).filter (λx=>(cq b (big a) x).head? ==some x)->(cq b (big a) z).headD []=z:=λz k=>by
  have e:=eq_of_beq (cQ.mp k).2;rw[List.headD_eq_head?_getD,e];rfl
 rw[f x i,f y j];exact h
def BO{H:Hp}{m:Ad}{ts:LN}{n:Nat}(M:Mach H m ts n){x y:bB}(a:x∈dh n)(h:dJ ts x y=true):y.length<=x.length:=by
 obtain⟨word,hw,rfl⟩:=bP.mp h;have z:=wn (l₂:=x.map λr=>di ts r word) (DC (n' M a hw)) λr b=>by
  obtain⟨c,d,e⟩:=(mB M a hw).mp b;exact b8.mpr #[c,d,e]
 rw[bF]at z;exact z
def NQ{x y:bB}(h:gj gl x y=true):y.length<=x.length:=by
 unfold gj sr gl at h;split at h
 .lia
 .have:=hE h;lia
def QF{x y:bB}(h:gj gl x y=true)(e:x.length=y.length):dF y x=false:=by
 cases z:dF y x with
 |false=>rfl
 | true=>
  have b:gj gl y x=true:=by
   unfold gj sr gl;rw[wB (by rw[e])];exact z
  have a:=(on gl [x,y]).trans _ _ _ h b;rw[(on gl [x,y]).irr]at a;cases a
def Ke{b:Type}{R:b->b->Prop}{a:List b}{s d:b}(up:a.Pairwise R)(h:a.head?=some s)(c:d∈a):d=s\/R s d:=by
 cases a with
 |nil=>cases h
 |cons x a=>
  injection h with h
  subst h
  rcases cX.mp c with e|e
  .exact .inl e
  .exact .inr ((ww.mp up).1 d e)
structure Due(ts:LN)(rest:hO)(c:LN):Prop where
 most:∀d∈rest,(d.headD []).length<=(c.headD []).length
 free:∀d∈rest,d≠c->dJ ts (d.headD []) (c.headD [])=false
 first:∀d∈rest,(d.headD []).length=(c.headD []).length->(∀e∈rest,e≠d->(e.headD []).length=(d.headD []).length->dJ ts (e.headD []) (d.headD [])=false)->dF (d.headD []) (c.headD [])=false
def Ql{i:LN}{g:hO}{s:LN}(un:xw i g)(up:g.Pairwise λc d=>gj gl (c.headD []) (d.headD [])=true)(w:∀c∈g,∀d∈g,dJ i (c.headD []) (d.headD [])=true->(d.headD []).length<=(c.headD []).length)(h:(g.filter λc=> !cB i g c).head?=some s):Due i g s:=by
 obtain⟨E,fs⟩:=cQ.mp (List.mem_of_head? h);have free:∀{c:LN},c∈g->(∀e∈g,e≠c->dJ i (e.headD []) (c.headD [])=false)->c∈g.filter λc=> !cB i g c:=λ{c} A f=>by
  refine cQ.mpr #[A,?_];rw[Bool.not_eq_true',cB,Bk];intro e j;by_cases z:e=c
  .rw[eW (λk=>k z),AA];decide
  .rw[f e j z,Bool.and_false];decide
 have o:=pF (tA (p:=λc=> !cB i g c)) up;have most:∀d∈g,(d.headD []).length<=(s.headD []).length:=λd n=>by
  by_cases lt:(d.headD []).length<=(s.headD []).length
  .exact lt
  obtain⟨t,ht,x⟩:=Fz (ts:=i) (cs:=g.filter λe=>decide ((d.headD []).length<=(e.headD []).length)) (λa B b C=>un a (cQ.mp B).1 b (cQ.mp C).1) _ d (cQ.mpr #[n,cG (bR _)]) (bR _);obtain⟨y,u⟩:=cQ.mp ht;have u:=hE u;have v:t∈g.filter λc=> !cB i g c:=free y λe j q=>by
   cases r:dJ i (e.headD []) (t.headD [])with
   |false=>rfl
   |true=>
    have l:=w e j t y r;have m:e∈g.filter λe=>decide ((d.headD []).length<=(e.headD []).length):=cQ.mpr #[j,cG ()]
    rw[cB,Bk]at x;exact wC (by rw[cG q,r];rfl) (x e m)
  rcases Ke o h v with z|z
  .rw[<-z];exact u
  .have:=NQ z;lia
 refine#[most,λd n q=>?_,λd n D f=>?_]
 .rw[Bool.not_eq_true',cB,Bk]at fs;have z:=fs d n;rw[cG q,y6]at z;exact pT.mpr z
 .have fd:d∈g.filter λc=> !cB i g c:=free n λe j q=>by
   cases r:dJ i (e.headD []) (d.headD [])with
   |false=>rfl
   |true=>
    have l:=w e j d n r;have G:=most e j;have z:=f e j q ();rw[r]at z;cases z
  rcases Ke o h fd with z|z
  .rw[z];exact pK _
  .exact QF z D.symm
def Qq{j:LN}{g told:hO}(o:Ord j g told)(un:xw j g)(up:g.Pairwise λc d=>gj gl (c.headD []) (d.headD [])=true)(n:∀c∈g,∀d∈g,dJ j (c.headD []) (d.headD [])=true->(d.headD []).length<=(c.headD []).length):∀(k:Nat) (c:LN),told[k]?=some c->Due j (told.drop k) c:=by
 induction o with
 |nil=>exact λk c e=>by simp at e
 | @cons g told s h r p=>
  intro k c e;cases k with
  |zero=>
   injection e with e
   subst e;have d:=Ql un up n h;have all:=QR (Ord.cons h r);have mem:∀d,d∈s::told↔d∈g:=λd=>#[all.1 d,FD (Ord.cons h r) d]
   rw[A0];exact#[λx i=>d.most x ((mem x).mp i),λx i=>d.free x ((mem x).mp i),λx i q f=>d.first x ((mem x).mp i) q λe t=>f e ((mem e).mpr t)]
  |succ k=>
   have u:told[k]?=some c:=by simpa using e
   rw[List.drop_succ_cons];exact p (λa l b m=>un a (cQ.mp l).1 b (cQ.mp m).1) (pF tA up) (λa l b m=>n a (cQ.mp l).1 b (cQ.mp m).1) k c u
section
variable{H:Hp}{m:Ad}{ts:LN}{n:Nat}{d:LN}
def Ht(M:Mach H m ts n)(a:FamOf ts n d){c:LN}(b:c∈cn ts (big d)){x:bB}(e:x∈c):x.length=(c.headD []).length:=by
 obtain⟨_,_,f,call⟩:=gP b;obtain⟨g,h,i⟩:=call x e;have j:=BO M (a.inU M (cQ.mp f).1) (bP.mpr h);have k:=BO M (a.inU M (cQ.mp g).1) (bP.mpr i);lia
def LC{x t:bB}(c:x∈dh n)(ht:t∈dh n)(s:sub t x=true)(d:t≠x):t.length<x.length:=by
 have f:∃r∈x,r∉t:=by
  apply Bh;intro no;refine d (JK ht c s (bY.mpr λr a=>?_));apply Bh;exact λz=>no #[r,a,z]
 obtain⟨r,a,g⟩:=f;have z:=wn (l₂:=x.erase r) (DC ht) λy b=>(A8 λ(e:y=r)=>g (e▸b)).mpr (bY.mp s y b);rw[DL a]at z;have:0<x.length:=C1 a;lia
def Ja{x:bB}(i:x∈big d):∃c∈cn ts (big d),x∈c:=by
 have self:=Dh (ts:=ts) i;cases e:cq ts (big d) x with
 |nil=>rw[e]at self;cases self
 | cons y rest=>
  have j:y∈cq ts (big d) x:=by rw[e];exact cR ..
  obtain⟨k,f⟩:=cQ.mp j;rw[mq]at f;have g:=bP.mp f.1;have h:=bP.mp f.2;have same:cq ts (big d) y=cq ts (big d) x:=by
   unfold cq;refine wp λz _=>?_;rw[jq,mq,mq,bP,bP,bP,bP];exact#[λ⟨a,b⟩=>#[g.trans a,b.trans h],λ⟨a,b⟩=>#[h.trans a,b.trans g]]
  refine#[cq ts (big d) y,b8.mpr #[y,cQ.mpr #[k,?_],zZ],by rw[same];exact self];rw[same,e];simp
end
def Q1{H:Hp}{m:Ad}{e:LN}{n:Nat}{a c j d:LN}(M:Mach H m e n)(b:FamOf e n a)(f:LvP e a c j d){k:Nat}{x l:bB}(o:c[k]?=some x)(p:d[k]?=some l)(y:bB):y∈(j.map λu=>cw (bN e) u l)↔y∈iZ a x:=by
 obtain⟨w,h⟩:=f.bij M b o p;obtain⟨_,_,q,call⟩:=gP f.cls;have r:=b.inU M (cQ.mp q).1;have s:=b.inU M (cQ.mp (call x (cb o)).1).1;constructor
 .intro g;obtain⟨u,i,rfl⟩:=b8.mp g;exact vq M b r h (by rw[<-f.tl];exact i)
 .intro g;have z:=vq M b s h.symm g;rw[<-f.tl]at z;obtain⟨t,A,v,_⟩:=(n0 M b).mp g;exact b8.mpr #[_,z,h.symm.back M (b.inU M t) v]
def On{H:Hp}{m:Ad}{d:LN}{n:Nat}{s c f t:LN}(M:Mach H m d n)(y:FamOf d n s)(J:LvP d s c f t){k k' l:Nat}{x q A:bB}{o:bB}(ex:c[k]?=some x)(ew:t[k]?=some q)(ll:l<d.length)(ey:c[k']?=some (bN d x l))(L:jh d f q A l o):o.Perm (List.range f.length):=by
 obtain⟨_,_,cx,call⟩:=gP J.cls;obtain⟨p,E⟩:=J.bij M y ex ew;obtain⟨xb,N,aa⟩:=call x (cb ex);obtain⟨yb,ae,O⟩:=call _ (cb ey);have xU:=y.inU M (cQ.mp xb).1;have fU:=y.inU M (cQ.mp cx).1;obtain⟨p2,b2⟩:=DV M (w:=[l]) xU (λz hz=>by rw[ci.mp hz];exact ll) zZ (O.trans N);have Q:=qf M y (c.headD []);rw[<-J.tl]at Q;have T:f.Nodup:=Q.up.imp λ{a b} z e=>by
  subst e;rw[IN]at z;cases z
 obtain⟨lj,L⟩:=L;have back:∀u∈f,cw (bN d) (cw (bN d) (bN d (cw (bN d) u q) l) p2) p=u:=λu hu=>by
  obtain⟨h1,h2,h3⟩:=Q.mem u hu;have U:=y.inU M h1;have s1:sub (cw (bN d) u q) x=true:=by
   have z:=zH M U fU E.lw h3;rw[E.to]at z;exact z
  have z:cw (bN d) (bN d (cw (bN d) u q) l) p2=cw (bN d) u q:=b2.back M (n' M U E.lw) s1;rw[z];exact E.back M U h3
 have r:∀i:Nat,i<o.length->∃u g,f[i]?=some u/\o[i]?=some g/\g<f.length/\∃B,f[g]?=some B/\cw (bN d) B A=bN d (cw (bN d) u q) l:=λi G=>by
  obtain⟨u,C⟩:∃u,f[i]?=some u:=#[_,bE ()];obtain⟨g,D⟩:∃g,o[i]?=some g:=#[_,bE G];obtain⟨B,I,Y⟩:=L i u g C D;exact#[u,g,C,D,(bU.mp I).1,B,I,Y]
 have nd:o.Nodup:=by
  rw[Fw,oi];intro i j G hj ij e;obtain⟨u,a,C,ea,_,B,I,Y⟩:=r i G;obtain⟨v,b,ev,eb,_,v',g1,g2⟩:=r j hj;rw[bE G]at ea;rw[bE hj]at eb;have ab:a=b:=by
   have z1:=f' ea;have z2:=f' eb;rw[<-z1,<-z2];exact e
  subst ab;rw[I]at g1;cases g1;have uv:u=v:=by rw[<-back u (cb C),<-back v (cb ev),<-Y,<-g2]
  subst uv;have:=(jf () T).mp (C.trans ev.symm);lia
 have sb:∀a∈o,a<f.length:=λa ha=>by
  obtain⟨i,ei⟩:=fB.mp ha;obtain⟨_,g,_,D,lt,_⟩:=r i (bU.mp ei).1;rw[ei]at D;cases D;exact lt
 refine(List.perm_ext_iff_of_nodup nd List.nodup_range).mpr λa=>#[λh=>fb.mpr (sb a h),λh=>?_];by_cases z:a∈o
 .exact z
 .have le:=wn (l₂:=(List.range f.length).erase a) nd λb hb=>(A8 λ(e:b=a)=>z (by rw[<-e];exact hb)).mpr (fb.mpr (sb b hb));rw[DL h,mC]at le;have:=fb.mp h;lia
def LvH.keeps{H e:Hp}{a:Ad}{c f d:LN}(h:LvH H a c f d)(g:Keeps H e):LvH e a c f d:=by
 obtain⟨s,t,v,bs,ds,i,j,l,m,n,o,p,q,r⟩:=h;exact#[s,t,v,bs,ds,i,g _ _ (nU j),g _ _ (nU l),re m g,g _ _ (nU n),re o g,g _ _ (nU p),q,λk b u w x=>g _ _ (nU (r k b u w x))]
def DE{H c:Hp}{l:Ad}{o:HO}(g:Keeps H c)(n:L2.noT H l=none):Keeps H (bC c l o):=λb u a=>by
 rw[bL (λz=>by rw[z,n]at a;cases a)];exact g b u a
inductive Gen (S:bB->Prop) (N:Nat):bB->Prop
 |base:Gen S N (List.range N)
 |step {x m:bB}:Gen S N x->S m->Gen S N (dX x m)
def Sb{a:LN}{N:Nat}:∀(v x:bB),(∀i∈v,i<a.length)->Gen (· ∈a) N x->Gen (· ∈a) N (cw (m8 a) x v):=by
 intro v
 induction v with
 |nil=>exact λx _ h=>h
 |cons i v d=>
  intro x b h;have c:=b i (cR ..);refine d (m8 a x i) (λl e=>b l (dS _ e)) ?_;show Gen _ _ (dX x (a.getD i []));rw[cZ,bE c];exact .step h (gh c)
def Sx{a:LN}{N:Nat}{e:TW}(T:Told (m8 a) a.length (List.range N) e)(t:bB):t∈e.map (·.1)↔Gen (· ∈a) N t:=by
 constructor
 .intro h;obtain⟨p,b,rfl⟩:=b8.mp h;obtain⟨c,d⟩:=T.run p b;rw[<-d];exact Sb p.2 _ c .base
 .intro h
  induction h with
  |base=>exact b8.mpr #[_,cb T.head,zZ]
  | @step x m _ j k=>
   obtain⟨i,f⟩:=wc j;have l:=(bU.mp f).1;obtain⟨p,b,rfl⟩:=b8.mp k;obtain⟨c,d⟩:=T.run p b;obtain⟨u,g,_⟩:=T.least _ (p.2++[i]) zZ λx n=>(cF.mp n).elim (c x) λz=>by rw[ci.mp z];exact l
   have o:cw (m8 a) (List.range N) (p.2++[i])=dX p.1 m:=by
    have q:m8 a p.1 i=dX p.1 m:=by
     show dX _ (a.getD i [])=_;rw[cZ,f];rfl
    rw[<-q,<-d];unfold cw;rw[oJ];rfl
   rw[o]at g;exact b8.mpr #[_,g,zZ]
def Qr{S a:bB->Prop}{N:Nat}(h:∀t,S t↔a t)(t:bB):Gen S N t↔Gen a N t:=by
 have e:S=a:=funext λt=>propext (h t);rw[e]
def rz(d c g a:LN)(t:bB):Prop:=∃(k l e:Nat) (x f b:bB),c[k]?=some x/\a[k]?=some f/\l<d.length/\c[e]?=some (bN d x l)/\a[e]?=some b/\jh d g f b l t
def RO{H:Hp}{m:Ad}{b:LN}{n:Nat}{d c f a g:LN}(M:Mach H m b n)(h:FamOf b n d)(i:LvP b d c f a)(Mk:Makers b c f a g)(t:bB):t∈g↔rz b c f a t:=by
 refine#[Mk.mem t,?_];rintro⟨k,l,C,x,p,q,r,s,u,e,j,v⟩;obtain⟨D,w,E,y,z,o,A⟩:=Mk.all k l x p r s u (cb e);have B:=(jf (bU.mp e).1 (i.nd h)).mp (e.trans z.symm);subst B;rw[j]at o;cases o;rw[LI M h i e j v A];exact y
def Mz{N:Nat}{x:bB}(h:∀r∈x,r<N):dX x (List.range N)=x:=by
 unfold dX;have:x.map (λr=>(List.range N).getD r 0)=x.map id:=nH λr a=>by
  rw[cZ,nB (h r a)];rfl
 rw[this,List.map_id]
def Qt{N:Nat}{t:bB}(h:t.length=N):dX (List.range N) t=t:=by
 subst h;refine nj λj=>?_;unfold dX;rw[bZ];by_cases z:j<t.length
 .rw[nB z,bE z];show some (t.getD j 0)=_;rw[cZ,bE z];rfl
 .rw[iM (by simp;lia),List.getElem?_eq_none ()];rfl
section
variable{S:bB->Prop}{N:Nat}
def xO{t:bB}(h:t.Perm (List.range N)):t.length=N/\∀r∈t,r<N:=#[by rw[h.length_eq,mC],λr a=>fb.mp (h.mem_iff.mp a)]
def R9(a:∀m,S m->m.Perm (List.range N)){t:bB}(h:Gen S N t):t.Perm (List.range N):=by
 induction h with
 |base=>exact List.Perm.refl _
 | @step x m _ b c=>
  have z:=c.map λr=>m.getD r 0;exact z.trans ((List.Perm.of_eq (Qt (xO (a m b)).1)).trans (a m b))
end
theorem JL:∀(n k:Nat) (g:bB),g.Perm (List.range' k n)->gc g (List.range' k n)=none\/gc g (List.range' k n)=some false
 |0,k,g,h=>by
  rw[h.eq_nil];exact .inl rfl
 |n+1,k,[],h=>wC h.length_eq (by simp)
 | n+1,k,a::g,h=>by
  rw[List.range'_succ]at h|-;have b:=h.mem_iff.mp (cR ..);show(if a=k then gc g (List.range' (k+1) n)else some (decide (a<k)))=none\/(if a=k then gc g (List.range' (k+1) n)else some (decide (a<k)))=some false;by_cases e:a=k
  .subst e;rw[wB zZ];exact JL n (a+1) g (List.perm_cons a |>.mp h)
  .rw[wA e];refine .inr (cK some (eW ?_))
   rcases cX.mp b with z|z
   .exact wC z e
   .have:=(List.mem_range'_1.mp z).1;lia
def PM{N:Nat}{a:LN}(pm:∀t∈a,t.Perm (List.range N))(up:a.Pairwise λx y=>dF x y=true)(h:List.range N∈a):a[0]?=some (List.range N):=by
 cases a with
 |nil=>cases h
 | cons g a=>
  rcases cX.mp h with e|e
  .rw[e];rfl
  .have z:=(ww.mp up).1 _ e;have p:=pm g (cR ..);rw[List.range_eq_range']at p z;have b:=p.length_eq;unfold dF at z
   rcases JL N 0 g p with y|y
   .rw[y]at z;have:=hE z;lia
   .rw[y]at z;cases z
theorem Kl{x u v:bB}:∀{a:TW},(a.map (·.1)).Nodup->(x,u)∈a->(x,v)∈a->u=v
 | [],_,h,_=>nomatch h
 | p::a,nd,d,b=>by
  obtain⟨c,e⟩:=lE.mp nd
  rcases cX.mp d with e1|e1
  .rcases cX.mp b with e2|e2
   .rw[<-e1]at e2;injection e2 with _ e2
    exact e2.symm
   .exact wC (b8.mpr #[_,e2,by rw[<-e1]]) c
  .rcases cX.mp b with e2|e2
   .exact wC (b8.mpr #[_,e1,by rw[<-e2]]) c
   .exact Kl e e1 e2
def Wds(b c a:LN):Prop:=a.length=c.length/\∃d,Told (bN b) b.length (c.headD []) d/\∀(k:Nat) (x e:bB),c[k]?=some x->a[k]?=some e->(x,e)∈d
def Wds.uniq{i c e d:LN}(h:Wds i c e)(n:Wds i c d):e=d:=by
 obtain⟨r,s,T,a⟩:=h;obtain⟨t,o,p,b⟩:=n;cases T.uniq p;refine nj λk=>?_;by_cases q:k<c.length
 .obtain⟨g,j⟩:∃g,e[k]?=some g:=#[_,bE ()];obtain⟨f,l⟩:∃f,d[k]?=some f:=#[_,bE ()];have m:=bE q;rw[j,l,Kl T.keys (a k _ g m j) (b k _ f m l)]
 .rw[iM (),iM ()]
def Ord.uniq{b:LN}{c told a:hO}(h:Ord b c told)(d:Ord b c a):told=a:=by
 induction h generalizing a with
 |nil=>
  cases d with
  |nil=>rfl
  |cons h r=>cases h
 | cons h r f=>
  cases d with
  |nil=>cases h
  |cons e g=>
   rw[h]at e;cases e;rw[f g]
def LevAt.lvw{H:Hp}{l:Ad}{p d:LN}{E:List WE}{a:Ad}{c:LN}(h:LevAt H l p d (big d) E a c)(G:c∈cn p (big d)):∃e,LvH H a c (iZ d (c.headD [])) e/\LvP p d c (iZ d (c.headD [])) e/\Wds p c e:=by
 obtain⟨s,t,v,bs,I,u,i,y,J,h2,h3,h4,h5,L,M,N,O,w,Q,T,U,g,Y,z⟩:=h;obtain⟨e,A,B⟩:=E7 (n:=c.length) (P:=λk f=>∃x b,c[k]?=some x/\u[k]?=some b/\(x,f)∈y.2.1/\H b=some (.lst (f.map nv))) λk hk=>by
  obtain⟨x,C⟩:∃x,c[k]?=some x:=#[_,bE hk];obtain⟨b,D⟩:∃b,u[k]?=some b:=#[_,bE ()];obtain⟨f,q,r⟩:=z k x b C D;exact#[f,x,b,C,D,q,r]
 have j:∀(k:Nat) (x f:bB),c[k]?=some x->e[k]?=some f->(x,f)∈y.2.1:=λk x f m o=>by
  obtain⟨x',b',q,_,z3,_⟩:=B k f o;rw[m]at q;cases q;exact z3
 refine#[e,#[s,t,v,bs,I,u,J,L,M,N,O,w,(),λk b f m o=>?_],#[G,zZ,A,λk x f m o=>g.run _ (j k x f m o)],A,y.2.1,g,j];obtain⟨x',b',_,r,_,z4⟩:=B k f o;rw[m]at r;cases r;exact z4
structure Lv where
 c:LN
 us:LN
 wds:LN
 gs:LN
structure GrpOf(ts c us wds gs:LN):Prop where
 up:gs.Pairwise λx y=>dF x y=true
 mem:∀t,t∈gs↔Gen (rz ts c us wds) us.length t
def GrpOf.uniq{d c e a f b:LN}(h:GrpOf d c e a f)(g:GrpOf d c e a b):f=b:=Dj pK Az h.up g.up λt=>(h.mem t).trans (g.mem t).symm
def PF{H:Hp}{m:Ad}{b:LN}{n:Nat}{d c e a f g:LN}{h:TW}(M:Mach H m b n)(i:FamOf b n d)(j:LvP b d c e a)(pm:g.Perm (h.map (·.1)))(up:g.Pairwise (λx y=>dF x y=true))(Mk:Makers b c e a f)(TT:Told (m8 f) f.length (List.range e.length) h):GrpOf b c e a g:=
 #[up,λt=>by rw[pm.mem_iff,Sx TT,Qr (RO M i j Mk)]]
structure LvOk(ts fam:LN)(L:Lv):Prop where
 p:LvP ts fam L.c L.us L.wds
 w:Wds ts L.c L.wds
 g:GrpOf ts L.c L.us L.wds L.gs
def LvOk.uniq{ts a:LN}{L b:Lv}(h:LvOk ts a L)(d:LvOk ts a b)(e:L.c=b.c):L=b:=by
 obtain⟨c,i,j,m⟩:=L;obtain⟨n,f,g,k⟩:=b;cases e;have l:i=f:=h.p.tl.trans d.p.tl.symm;cases l;cases h.w.uniq d.w;cases h.g.uniq d.g;rfl
structure RowOf(ts:LN)(n:Nat)(fam:LN)(Ls:List Lv):Prop where
 ff:FamOf ts n fam
 od:Ord ts (cn ts (big fam)) (Ls.map (·.c))
 few:Ls.length<=32
 ok:∀L∈Ls,LvOk ts fam L
def RowOf.uniq{j:LN}{n:Nat}{c a:LN}{d b:List Lv}(h:RowOf j n c d)(g:RowOf j n a b):c=a/\d=b:=by
 cases h.ff.uniq g.ff;refine#[zZ,?_];have e:=h.od.uniq g.od;have len:d.length=b.length:=by rw[<-bF (f:=(·.c)),e,bF]
 refine AS len λi k m=>(h.ok _ (gh k)).uniq (g.ok _ (gh m)) ?_;have z:=cK (λl=>l[i]?) e;simpa[k,m]using z
section
variable{H:Hp}{m:Ad}{ts:LN}{n:Nat}{c:LN}{L:Lv}
def LvOk.isPm(M:Mach H m ts n)(a:FamOf ts n c)(ok:LvOk ts c L):∀t,rz ts L.c L.us L.wds t->t.Perm (List.range L.us.length):=λ_ ⟨_,_,_,_,_,_,b,d,e,f,_,g⟩=>On M a ok.p b d e f g
def LvOk.pm(M:Mach H m ts n)(a:FamOf ts n c)(ok:LvOk ts c L){t:bB}(h:t∈L.gs):t.Perm (List.range L.us.length):=R9 (ok.isPm M a) ((ok.g.mem t).mp h)
def LvOk.inG(M:Mach H m ts n)(a:FamOf ts n c)(ok:LvOk ts c L){t:bB}(h:t∈L.gs):t∈gU L.us n:=by
 have z:=(ok.g.mem t).mp h;have b:=(ok.p.inU M a).1
 induction z with
 |base=>exact C8 (wq M a ok.p) b
 |step d e f=>
  obtain⟨k,l,s,x,u,g,i,j,o,p,q,r⟩:=e;exact D5 M.n5 b (f ((ok.g.mem _).mpr d)) (K0 M a ok.p i j o p q r)
def LvOk.nd(ok:LvOk ts c L):L.gs.Nodup:=ok.g.up.imp λ{a b} z e=>by
 subst e;rw[pK]at z;cases z
def LvOk.few(M:Mach H m ts n)(a:FamOf ts n c)(ok:LvOk ts c L):L.gs.length<=4000:=cP (nR (U:=gU L.us n) ok.nd λ_ ht=>ok.inG M a ht) (FZ M.n5)
def LvOk.first(M:Mach H m ts n)(a:FamOf ts n c)(ok:LvOk ts c L):L.gs[0]?=some (List.range L.us.length):=PM (λ_ ht=>ok.pm M a ht) ok.g.up ((ok.g.mem _).mpr .base)
end
def fu(a:LN)(b:As):List (List cD×V):=a4k (a.map λx=>(x,[])) b
def KZ{a:LN}{b:As}(h:b.length=a.length):(fu a b).length=a.length:=by
 unfold fu L2.a4k;rw[AQ,bF,h,w6]
def G0{b:LN}{c:As}{x:bB}{a:Ad}(h:c.length=b.length)(d:x∉b):i9 (fu b c) (nk x) (.ref a)=fu (b++[x]) (c++[a]):=by
 unfold fu;rw[FR _ (ut (by rw[zS];exact d)),dC];exact(DM (ws:=b.map λx=>(x,[])) (p:=(x,[])) (a:=a) (by rw[bF,h])).symm
def Nj{b:LN}{c:As}{x:bB}{a:Ad}{k:Nat}(nd:b.Nodup)(d:b[k]?=some x)(e:c[k]?=some a):hG (fu b c) (nk x)=some (.ref a):=Cj (p:=(x,[])) (by rw[zS];exact nd) (by rw[bZ,d];rfl) e
def LS{a:LN}{b:As}{x:bB}(h:x∉a):hG (fu a b) (nk x)=none:=ut (by rw[zS];exact h)
def xx{H:Hp}{D b a:Ad}{c:LN}{d:As}{x:bB}{k:Nat}(nd:c.Nodup)(e:H D=some (.dT (fu c d)))(f:H b=some (.tup (x.map nv)))(g:c[k]?=some x)(h:d[k]?=some a):DGet H D (.ref b) (some (.ref a)):=
 .inr #[_,nk x,b,.inl e,zZ,by rw[jd];exact f,(Nj nd g h).symm]
def Bx{H:Hp}{D b:Ad}{a:LN}{c:As}{x:bB}(d:H D=some (.dT (fu a c)))(e:H b=some (.tup (x.map nv)))(h:x∉a):DGet H D (.ref b) none:=
 .inr #[_,nk x,b,.inl d,zZ,by rw[jd];exact e,(LS h).symm]
def tl(a b:LN)(c:bB):LN:=b.map λu=>cw (bN a) u c
def TiledAs(H:Hp)(e f b:LN)(g:As):Prop:=∀(k:Nat) (c:bB) (a:Ad),b[k]?=some c->g[k]?=some a->∃d,H a=some (.lst (d.map .ref))/\TupsAt H d (tl e f c)
def TiledAt(H:Hp)(t:Ad)(d c e a:LN):Prop:=∃b,H t=some (.dT (fu c b))/\b.length=c.length/\TiledAs H d e a b
def TurnL(H:Hp)(b c h d:LN)(x i:bB)(e:List V):Prop:=e.length=b.length/\∀(l:Nat) (v:V),e[l]?=some v->(bN b x l∉c/\v=.non)\/∃(p:Ad) (f:bB) (g:Nat) (a:bB),v=.ref p/\H p=some (.tup (f.map nv))/\c[g]?=some (bN b x l)/\d[g]?=some a/\jh b h i a l f
def TurnsAs(H:Hp)(f c g b:LN)(h:As):Prop:=∀(k:Nat) (x d:bB) (a:Ad),c[k]?=some x->b[k]?=some d->h[k]?=some a->∃e,H a=some (.lst e)/\TurnL H f c g b x d e
def TurnsAt(H:Hp)(t:Ad)(d c e a:LN):Prop:=∃b,H t=some (.dT (fu c b))/\b.length=c.length/\TurnsAs H d c e a b
def Stays(f:HO->Bool)(H a:Hp):Prop:=∀b o,f o=false->H b=some o->a b=some o
def Aa:HO->Bool
 |.tbl _=>true
 |_=>false
def E':HO->Bool
 |.tbl _=>true
 |.dT _=>true
 |_=>false
def vy:HO->Bool
 |.ins _ _ _=>true
 |_=>false
def Gg:HO->Bool
 |.lst _=>true
 |_=>false
abbrev xI:=Stays E'
abbrev At:=Stays Gg
def Stays.a{f:HO->Bool}{H H':Hp}{b:Ad}{o:HO}(g:Stays f H H')(h:H b=some o)(d:f o=false:=by rfl):H' b=some o:=g b o d h
def nz{H:Hp}{a:Ad}{o:HO}(h:H a=some o)(d:Aa o=false:=by rfl):L2.noT H a=some o:=qo h λb e=>by subst e;cases d
def EV{H a:Hp}(g:Keeps H a):Stays Aa H a:=λb o d h=>g b o (nz h d)
def xu{H a:Hp}(g:Same H a):xI H a:=λb o _ h=>g b o h
def Stays.off{H:Hp}{D:Ad}{a:List (List cD×V)}{o:HO}(h:H D=some (.dT a)):xI H (bC H D o):=λb u n c=>by
 rw[bL (ju c h λe=>by rw[e]at n;cases n)];exact c
def Stays.offL{H:Hp}{D:Ad}{c:List V}{o:HO}(h:H D=some (.lst c)):At H (bC H D o):=λb u n a=>by
 rw[bL (ju a h λe=>by rw[e]at n;cases n)];exact a
def Stays.offI{H:Hp}{D C d:Ad}{fs:List (Str×V)}{o:HO}(h:H D=some (.ins C d fs)):Stays vy H (bC H D o):=λb u n a=>by
 rw[bL (ju a h λe=>by rw[e]at n;cases n)];exact a
section
variable{f:HO->Bool}{H m:Hp}{n c j d:LN}
def Stays.tups{bs:As}{j:LN}(g:Stays f H m)(T:TupsAt H bs j)(a:∀c,f (.tup c)=false:=by intro;rfl):TupsAt m bs j:=#[T.len,λi b u d e=>g _ _ (a _) (T.is i b u d e)]
def TiledAs.lts{c:As}(h:TiledAs H n j d c)(g:Stays f H m)(e:∀b,f (.lst b)=false:=by intro;rfl)(i:∀b,f (.tup b)=false:=by intro;rfl):TiledAs m n j d c:=λk l a o p=>let⟨q,r,s⟩:=h k l a o p;#[q,g _ _ (e _) r,g.tups s i]
def TurnL.lts{x b:bB}{i:List V}(h:TurnL H n c j d x b i)(g:Stays f H m)(k:∀o,f (.tup o)=false:=by intro;rfl):TurnL m n c j d x b i:=#[h.1,λl v e=>(h.2 l v e).imp id λ⟨p,q,r,a,s,t,u⟩=>#[p,q,r,a,s,g _ _ (k _) t,u]]
def TurnsAs.lts{e:As}(h:TurnsAs H n c j d e)(g:Stays f H m)(i:∀b,f (.lst b)=false:=by intro;rfl)(l:∀b,f (.tup b)=false:=by intro;rfl):TurnsAs m n c j d e:=λk x o a p q r=>let⟨s,t,u⟩:=h k x o a p q r;#[s,g _ _ (i _) t,u.lts g l]
def TiledAt.keeps{t:Ad}(h:TiledAt H t n c j d)(g:Keeps H m):TiledAt m t n c j d:=let⟨a,b,e,f⟩:=h;#[a,g _ _ (nz b),e,f.lts (EV g)]
def TurnsAt.keeps{t:Ad}(h:TurnsAt H t n c j d)(g:Keeps H m):TurnsAt m t n c j d:=let⟨a,b,e,f⟩:=h;#[a,g _ _ (nz b),e,f.lts (EV g)]
end
def Ai(m g t u:Ad)(k:Nat):List (Str×V):=[(sA,.ref m),(sG,.ref g),(sH,.ref t),(sQ,.ref u),(sN,nv k)]
section
variable{m g t u:Ad}{k:Nat}
def zo:(Ai m g t u k).lookup (sA:Str)=some (.ref m):=by kernel_rfl
def vr:(Ai m g t u k).lookup (sG:Str)=some (.ref g):=by kernel_rfl
def nY:(Ai m g t u k).lookup (sH:Str)=some (.ref t):=by kernel_rfl
def Af:(Ai m g t u k).lookup (sQ:Str)=some (.ref u):=by kernel_rfl
end
def StepAt(C:Ad)(H:Hp)(q m:Ad)(a:LN)(L:Lv):Prop:=∃(c g t u:Ad) (b:As),H q=some (.ins C c (Ai m g t u L.us.length))/\H g=some (.lst (b.map .ref))/\TupsAt H b L.gs/\TiledAt H t a L.c L.us L.wds/\TurnsAt H u a L.c L.us L.wds
def StepAt.keeps{C:Ad}{H a:Hp}{q m:Ad}{b:LN}{L:Lv}(h:StepAt C H q m b L)(k:Keeps H a):StepAt C a q m b L:=
 let⟨c,g,t,u,d,e,f,i,j,l⟩:=h;#[c,g,t,u,d,k _ _ (nz e),k _ _ (nz f),re i k,j.keeps k,l.keeps k]
structure StepsAt(C:Ad)(H:Hp)(qs:As)(m:Ad)(ts:LN)(Ls:List Lv):Prop where
 len:qs.length=Ls.length
 is:∀(i:Nat) (q:Ad) (L:Lv),qs[i]?=some q->Ls[i]?=some L->StepAt C H q m ts L
def StepsAt.keeps{C:Ad}{H a:Hp}{b:As}{m:Ad}{c:LN}{d:List Lv}(h:StepsAt C H b m c d)(k:Keeps H a):StepsAt C a b m c d:=#[h.len,λi q L e f=>(h.is i q L e f).keeps k]
def uo(r s:Ad):List (Str×V):=[(sC,.ref r),(tE,.ref s)]
def BV{r s:Ad}:(uo r s).lookup (sC:Str)=some (.ref r):=by kernel_rfl
def zy{r s:Ad}:(uo r s).lookup (tE:Str)=some (.ref s):=by kernel_rfl
def RowAt(b CR:Ad)(H:Hp)(p m:Ad)(c:LN)(n:Nat)(d:List Lv):Prop:=∃(e r s:Ad) (a:As),H p=some (.ins CR e (uo r s))/\H r=some (.tup ((List.range n).map nv))/\H s=some (.lst (a.map .ref))/\StepsAt b H a m c d
def RowAt.keeps{a CR:Ad}{H b:Hp}{p m:Ad}{c:LN}{n:Nat}{d:List Lv}(h:RowAt a CR H p m c n d)(k:Keeps H b):RowAt a CR b p m c n d:=
 let⟨e,r,s,f,g,i,j,l⟩:=h;#[e,r,s,f,k _ _ (nz g),k _ _ (nz i),k _ _ (nz j),l.keeps k]
inductive gu(C:Ad)(j:List V)(H:Hp)(Q:VK)(i:XK):Prop|mk:∀(d:Hp) (p l m a:Ad) (e:LN) (n:Nat) (f c g b:LN),j=[.ref p,.ref m,.ref a]->Same d H->d p=none->H p=some (.ins C l [])->Mach d m e n->FamOf e n f->LvH d a c g b->LvP e f c g b->Tabs d->(∀k h,Keeps d h->Tabs h->GrpOf e c g b k->StepAt C h p m e #[c,g,b,k]->Q .non h)->gu C j H Q i
inductive eB(f CR:Ad)(g:List V)(H:Hp)(Q:VK)(c:XK):Prop|mk:∀(a:Hp) (p i m:Ad) (d:LN) (n:Nat),g=[.ref p,.ref m]->Same a H->a p=none->H p=some (.ins CR i [])->Mach a m d n->Tabs a->(∀e h b,Keeps a b->Tabs b->RowOf d n e h->RowAt f CR b p m d n h->Q .non b)->eB f CR g H Q c
def Tabs.offI{H:Hp}{p C a:Ad}{fs:List (Str×V)}{o:HO}(t:Tabs H)(h:H p=some (.ins C a fs)):Tabs (bC H p o):=λq d=>by
 have k:∀{b:Ad} {u:HO},u≠ .ins C a fs->H b=some u->bC H p o b=some u:=λn c=>by
  rw[bL (ju c h n)];exact c
 rcases t q d with t|⟨f,g,i⟩
 .exact .inl (k (λe=>nomatch e) t)
 .exact .inr #[f,k (λe=>nomatch e) g,k (λe=>nomatch e) i]
def Tabs.offD{H:Hp}{D:Ad}{a:List (List cD×V)}{o:HO}(t:Tabs H)(h:H D=some (.dT a)):Tabs (bC H D o):=t.most λb u n _ c=>by
 rw[bL (ju c h λe=>n _ e)];exact c
def t8{H a:Hp}{l:Ad}{o:HO}(g:Keeps H a)(n:H l=none):Keeps H (bC a l o):=DE g (IT n)
def JM{H a:Hp}{l:Ad}(g:Keeps H a)(n:a l=none):L2.noT H l=none:=by
 cases y:L2.noT H l with
 |none=>rfl
 |some o=>
  rw[g _ _ y]at n;cases n
def StepAt.off{C i:Ad}{H:Hp}{q m p d:Ad}{b:LN}{L:Lv}{fs:List (Str×V)}{o:HO}(h:StepAt C H q m b L)(c:H p=some (.ins i d fs))(n:fs.length≠5):StepAt C (bC H p o) q m b L:=by
 obtain⟨j,g,t,u,k,f,l,r,⟨s,v,w,x⟩,a,y,z,A⟩:=h;have lo:Stays vy H (bC H p o):=Stays.offI c;refine#[j,g,t,u,k,?_,lo.a l,lo.tups r,#[s,lo.a v,w,x.lts lo],a,lo.a y,z,A.lts lo];rw[bL (ju f c λe=>by injection e with _ _ e;exact n (by rw[<-e];rfl))];exact f
def xa{b:Type}{P:Nat->b->Prop}{a:List b}{x:b}(h:∀k y,a[k]?=some y->P k y)(c:P a.length x)(k:Nat)(y:b)(e:(a++[x])[k]?=some y):P k y:=by
 by_cases d:k<a.length
 .rw[dN d]at e;exact h k y e
 .have lk:=(bU.mp e).1;rw[cI,yD]at lk;have f:k=a.length:=by lia
  subst f;rw[dO (bR _),mO]at e;cases e;exact c
def RL{C:Ad}(F:Fun K tL "LevelParts.__init__" AN f fd)(P3:OwnC K C [sA,sG,sH,sQ,sN])(qI:cE P w K mg base sU 13 [sA,sL] iw)(jL:cE P w K mg base vY 7 [sA,sL,"k"] eI)(jR:cE P w K mg base vZ 9 [sA,sL,"k",sK] ft)(rF:mg "enumerate"=none)(jB:mg "range"=none)(jA:mg "len"=none):FnOk P w K mg base b9 15 f fd [sB,sA,sL] (gu C):=by
 refine F.ok kQ (λaX A aN s H vs Q E hr h=>?_)
 obtain⟨H0,p,d,m,a,I,n,aw,c,Y,y,rfl,g0,np,hp,M,ff,lv,lp,hT,q⟩:=h;have hu:=hr.units;have ax:=ik hr;obtain⟨s',t',v',bs,ds,cs,h1,h2,h3,h4,h5,h6,h7,h8⟩:=id lv;have lb:=h3.len;have l5:=h5.len;obtain⟨uU,few⟩:=lp.inU M ff;obtain⟨rs,hm,aO,_⟩:=M.refs;have t4:=M.few;have nd:=lp.nd ff;have aY:c.length<=32:=by
  rw[(gP lp.cls).2.1];exact cP (jo _ _) (cP (jo _ _) (ff.few M))
 refine#[_,(bQ (md (pv 0) (pv 1) zZ) (bQ (md (pv 0) (cC qI hr.m zZ (cf (bI (pv 1) (bI (pv 2) ce zZ) zZ))) zZ) (bQ (md (pv 0) Ci zZ) (bQ (md (pv 0) Ci zZ) (bQ (fY fF zZ (P7 zZ rF (bK (ck dA (pv 2) bO (λ_ _=>rfl)) bJ)) (zV zZ (oj (eR (i:=3) kQ.nd zZ Z0) (oj (eR (i:=4) kQ.nd zZ Z') y9))) (bQ (xQ ax (dP (pv 0) zZ) (pv 4) (cC jL hr.m zZ (cf (bI (pv 1) (bI (pv 2) (bI (pv 3) ce zZ) zZ) zZ))) zZ) (bS (xQ ax (dP (pv 0) zZ) (pv 4) (gK (CompSc.to (N:=[sB,sA,sL,"k",sC]) (osc:=bT AN) (vs:=[sK]) {}) zZ zZ (je zZ jB (bK (c9 fv zZ jA eU (bK (pv 1) bJ)) bJ)) (λ_ _ _ _=>fG) (λ_ _ _ _=>(cC jR hr.m zZ (cf (bI (pv 2) (bI (pv 3) (bI (pv 4) (bI (pv 0) ce zZ) zZ) zZ) zZ))))) zZ)))) (bS (md (pv 0) (c9 fv zZ jA eU (bK (ck dA (pv 2) bO (λ_ _=>rfl)) bJ)) zZ))))))),?_];refine#[_,zZ,_,zZ,p,C,d,_,zZ,hp,P3.cl,P3.no,by show 0<1000;decide,?_];have g1:Same H0 (bC H p (.ins C d (cL sA (.ref m) []))):=gk g0 np;have p1:bC H p (.ins C d (cL sA (.ref m) [])) p=some (.ins C d (cL sA (.ref m) [])):=bG;generalize bC H p (.ins C d (cL sA (.ref m) []))=H1 at g1 p1|-;refine#[_,zZ,_,zZ,m,a,I,n,aw,c,Y,y,zZ,M.same g1,ff,lv.same g1,lp,hT.same g1,λg gr gs mk ws H2 k2 T2 ng eg Tg pm up Mk TT=>?_];have G:=PF M ff lp pm up Mk TT;have p2:=k2 _ _ (nz p1);refine#[_,zZ,p,C,d,_,zZ,p2,P3.cl,P3.no,by show 1<1000;decide,?_];have gp:g≠p:=nE eg p2;have k3:Keeps H0 (bC H2 p (.ins C d (cL sG (.ref g) (cL sA (.ref m) [])))):=t8 (g1.keeps.trans k2) np;have T3:Tabs (bC H2 p (.ins C d (cL sG (.ref g) (cL sA (.ref m) [])))):=T2.offI p2;have p3:bC H2 p (.ins C d (cL sG (.ref g) (cL sA (.ref m) []))) p=some (.ins C d [(sA,.ref m),(sG,.ref g)]):=by rw[bG];exact cK (λl=>some (HO.ins C d l)) (by kernel_rfl)
 have an:bC H2 p (.ins C d (cL sG (.ref g) (cL sA (.ref m) []))) g=some (.lst (gr.map .ref)):=by rw[bL gp];exact eg
 have ao:TupsAt (bC H2 p (.ins C d (cL sG (.ref g) (cL sA (.ref m) [])))) gr gs:=pY Tg p2 λ_ e=>nomatch e;generalize bC H2 p (.ins C d (cL sG (.ref g) (cL sA (.ref m) [])))=H3 at k3 T3 p3 an ao|-;intro t ht;have J:=bV ht (.dT []);have ay:p≠t:=cV p3 ht;have aP:=JM k3 ht;refine#[_,zZ,p,C,d,_,zZ,J _ _ p3,P3.cl,P3.no,by show 2<1000;decide,?_];have k4:Keeps H0 (bC (bC H3 t (.dT [])) p (.ins C d (cL sH (.ref t) [(sA,.ref m),(sG,.ref g)]))):=t8 (k3.trans J.keeps) np;have T4:Tabs (bC (bC H3 t (.dT [])) p (.ins C d (cL sH (.ref t) [(sA,.ref m),(sG,.ref g)]))):=(T3.same J).offI (J _ _ p3);have p4:bC (bC H3 t (.dT [])) p (.ins C d (cL sH (.ref t) [(sA,.ref m),(sG,.ref g)])) p=some (.ins C d [(sA,.ref m),(sG,.ref g),(sH,.ref t)]):=by rw[bG];exact cK (λl=>some (HO.ins C d l)) (by kernel_rfl)
 have ap:bC (bC H3 t (.dT [])) p (.ins C d (cL sH (.ref t) [(sA,.ref m),(sG,.ref g)])) g=some (.lst (gr.map .ref)):=by rw[bL gp];exact J _ _ an
 have aq:TupsAt (bC (bC H3 t (.dT [])) p (.ins C d (cL sH (.ref t) [(sA,.ref m),(sG,.ref g)]))) gr gs:=pY (ao.same J) (J _ _ p3) λ_ e=>nomatch e;have aj:bC (bC H3 t (.dT [])) p (.ins C d (cL sH (.ref t) [(sA,.ref m),(sG,.ref g)])) t=some (.dT []):=by rw[bL ay.symm];exact bG
 generalize bC (bC H3 t (.dT [])) p (.ins C d (cL sH (.ref t) [(sA,.ref m),(sG,.ref g)]))=H4 at k4 T4 p4 ap aq aj|-;clear k3 T3 p3 an ao J ht k2 T2 p2 eg Tg g1 p1 g0 hp;intro u af;have J:=bV af (.dT []);have aQ:p≠u:=cV p4 af;have az:t≠u:=cV aj af;refine#[_,zZ,p,C,d,_,zZ,J _ _ p4,P3.cl,P3.no,by show 3<1000;decide,?_];have k5:Keeps H0 (bC (bC H4 u (.dT [])) p (.ins C d (cL sQ (.ref u) [(sA,.ref m),(sG,.ref g),(sH,.ref t)]))):=t8 (k4.trans J.keeps) np;have T5:Tabs (bC (bC H4 u (.dT [])) p (.ins C d (cL sQ (.ref u) [(sA,.ref m),(sG,.ref g),(sH,.ref t)]))):=(T4.same J).offI (J _ _ p4);have p5:bC (bC H4 u (.dT [])) p (.ins C d (cL sQ (.ref u) [(sA,.ref m),(sG,.ref g),(sH,.ref t)])) p=some (.ins C d [(sA,.ref m),(sG,.ref g),(sH,.ref t),(sQ,.ref u)]):=by rw[bG];exact cK (λl=>some (HO.ins C d l)) (by kernel_rfl)
 have aA:bC (bC H4 u (.dT [])) p (.ins C d (cL sQ (.ref u) [(sA,.ref m),(sG,.ref g),(sH,.ref t)])) g=some (.lst (gr.map .ref)):=by rw[bL gp];exact J _ _ ap
 have aB:TupsAt (bC (bC H4 u (.dT [])) p (.ins C d (cL sQ (.ref u) [(sA,.ref m),(sG,.ref g),(sH,.ref t)]))) gr gs:=pY (aq.same J) (J _ _ p4) λ_ e=>nomatch e;have aC:bC (bC H4 u (.dT [])) p (.ins C d (cL sQ (.ref u) [(sA,.ref m),(sG,.ref g),(sH,.ref t)])) t=some (.dT []):=by rw[bL ay.symm];exact J _ _ aj
 have aD:bC (bC H4 u (.dT [])) p (.ins C d (cL sQ (.ref u) [(sA,.ref m),(sG,.ref g),(sH,.ref t)])) u=some (.dT []):=by rw[bL aQ.symm];exact bG
 have aR:=JM k4 af;generalize bC (bC H4 u (.dT [])) p (.ins C d (cL sQ (.ref u) [(sA,.ref m),(sG,.ref g),(sH,.ref t)]))=H5 at k5 T5 p5 aA aB aC aD|-;clear k4 T4 p4 ap aq aj J af
 let Pv:Nat->L2.St->Hp->Prop:=λi σ B=>Keeps H0 B/\Tabs B/\B p=some (.ins C d [(sA,.ref m),(sG,.ref g),(sH,.ref t),(sQ,.ref u)])/\B g=some (.lst (gr.map .ref))/\TupsAt B gr gs/\(∃z,B t=some (.dT (fu (c.take i) z))/\z.length=i/\TiledAs B I Y y z)/\(∃z,B u=some (.dT (fu (c.take i) z))/\z.length=i/\TurnsAs B I c Y y z)/\∃o3 o4,σ=[some (.ref p),some (.ref m),some (.ref a),o3,o4]
 have L:=λ{B:Hp} (k:Keeps H0 B)=>EV k;refine#[_,zZ,a,_,_,_,zZ,zZ,S2 ((L k5).a h1),zZ,s',_,zZ,S1 ((L k5).a h2),RC (xs:=bs.map .ref) Pv #[k5,T5,p5,aA,aB,#[[],aC,zZ,λk D a _ e=>by simp at e],#[[],aD,zZ,λk x D a _ _ e=>by simp at e],_,_,zZ] (λi σ B _ p=>S1 ((L p.1).a h2)) (λi Tp v σ H6 hv nT pv=>?_) (λσ H6 pv=>?_)]
 .obtain⟨k6,T6,p6,ar,au,⟨z,ab,la,ta⟩,⟨O,ag,ae,tb⟩,o3,o4,rfl⟩:=pv;rw[bZ]at hv;obtain⟨b,eb,rfl⟩:=dm.mp hv;have li:=(bU.mp eb).1;obtain⟨x,ex⟩:∃x,c[i]?=some x:=#[_,bE ()];obtain⟨D,ew⟩:∃D,y[i]?=some D:=#[_,bE (by rw[lp.len];lia)];have aS:=(lp.go i x D ex ew).1;have tk:c.take (i+1)=c.take i++[x]:=by rw[gQ,ex];rfl
  have xn:x∉c.take i:=λh=>by
   obtain⟨j,ej⟩:=fB.mp h;have lj:=(bU.mp ej).1;rw[fh]at lj;rw[AE ()]at ej;have:=(jf () nd).mp (ej.trans ex.symm)
   lia
  have lt:(c.take i).length=i:=by rw[fh];lia
  have kT:=bV nT (.tup [.int (i:Nat),.ref b]);have eT:bC H6 Tp (.tup [.int (i:Nat),.ref b]) Tp=some (.tup [.int (i:Nat),.ref b]):=bG;generalize bC H6 Tp (.tup [.int (i:Nat),.ref b])=H7 at kT eT|-;have k7:=k6.trans kT.keeps;refine#[Tp,_,zZ,S2 eT,zZ,_,_,zZ,_,_,zZ,zZ,?_];refine#[_,zZ,_,zZ,_,zZ,m,a,i,I,n,c,Y,y,D,zZ,M.keeps k7,LvH.keeps lv k7,ew,uU,few,aS,λl es H8 g8 el aE=>?_];have T:=kT.trans g8;have k8:=k6.trans T.keeps;have aF:=(L k8).a (h3.is i b x eb ex);refine#[_,zZ,p,C,d,_,_,zZ,T _ _ p6,P3.cl,P3.no,(by kernel_rfl),_,zZ,t,_,zZ,DPut.t (T _ _ ab) (by rw[jd];exact aF) (by rw[KZ (),cH];lia),?_];rw[G0 () xn,<-tk];have ak:=T _ _ ab;have lo:xI H6 (bC H8 t (.dT (fu (c.take (i+1)) (z++[l])))):=λb o n hb=>Stays.off ak b o n (T _ _ hb);have av:xI H8 (bC H8 t (.dT (fu (c.take (i+1)) (z++[l])))):=Stays.off ak;have k9:Keeps H0 (bC H8 t (.dT (fu (c.take (i+1)) (z++[l])))):=DE k8 aP;have T9:Tabs (bC H8 t (.dT (fu (c.take (i+1)) (z++[l])))):=(T6.same T).offD ak;have aG:bC H8 t (.dT (fu (c.take (i+1)) (z++[l]))) t=some (.dT (fu (c.take (i+1)) (z++[l]))):=bG;have aH:bC H8 t (.dT (fu (c.take (i+1)) (z++[l]))) u=some (.dT (fu (c.take i) O)):=by rw[bL az.symm];exact T _ _ ag
  have aI:TiledAs (bC H8 t (.dT (fu (c.take (i+1)) (z++[l])))) I Y y (z++[l]):=λk r a' e1 e2=>xa (P:=λk a=>∀D,y[k]?=some D->∃es,bC H8 t (.dT (fu (c.take (i+1)) (z++[l]))) a=some (.lst (es.map .ref))/\TupsAt (bC H8 t (.dT (fu (c.take (i+1)) (z++[l])))) es (tl I Y D)) (λk a e D e'=>(ta.lts lo) k D a e' e) (λr e=>by
   rw[la,ew]at e;cases e;exact#[es,av.a el,av.tups aE]) k a' e2 r e1
  have p9:=lo.a p6;have aJ:=lo.a ar;have aK:=lo.tups au;have aL:=tb.lts lo;generalize bC H8 t (.dT (fu (c.take (i+1)) (z++[l])))=H9 at k9 T9 aG aH aI p9 aJ aK aL|-;clear lo av T g8 k8 aF ak kT eT k7 el aE;refine#[_,zZ,m,_,zZ,.inr (S2 ((L k9).a hm)),(I.length:Int),by rw[bF,aO],(),(),CA (λj ys B=>Same H9 B/\ys.length=j/\∀(l:Nat) (v:V),ys[l]?=some v->(bN I x l∉c/\v=.non)\/∃(p:Ad) (js:bB) (k':Nat) (r:bB),v=.ref p/\B p=some (.tup (js.map nv))/\c[k']?=some (bN I x l)/\y[k']?=some r/\jh I Y D r l js) (by rw[hY];exact small ()) #[Same.refl _,zZ,λl v e=>by simp at e] (λj ys B _ pv=>Nat.le_of_eq pv.2.1) (λj ys B hj pv=>?_) (λys B pv sg aT=>?_)]
  .obtain⟨g,ly,al⟩:=pv;have e0:V.int (0+(j:Int))=nv j:=by show V.int (0+(j:Int))=V.int (j:Int);rw[sd]
   have aU:j<I.length:=by simpa using hj
   rw[e0];have ah:=k9.trans g.keeps;refine#[iI,i5 #[_,zZ,_,zZ,_,zZ,_,zZ,m,a,i,j,I,n,aw,c,Y,y,x,D,zZ,M.keeps ah,ff,LvH.keeps lv ah,lp,ex,ew,aU,λno H2 g2=>?_,λk' r ey aV pp js H2 g2 ep aW=>?_]]
   .refine#[g.trans g2,by rw[cI,ly];rfl,λl v e=>xa (P:=λl v=>(bN I x l∉c/\v=V.non)\/∃(p:Ad) (js:bB) (k':Nat) (r:bB),v=.ref p/\H2 p=some (.tup (js.map nv))/\c[k']?=some (bN I x l)/\y[k']?=some r/\jh I Y D r l js) (λl v e=>(al l v e).imp id λ⟨p,js,k',r,z1,z2,z3⟩=>#[p,js,k',r,z1,g2 _ _ z2,z3]) (.inl #[by rw[ly];exact no,zZ]) l v e]
   .refine#[g.trans g2,by rw[cI,ly];rfl,λl v e=>xa (P:=λl v=>(bN I x l∉c/\v=V.non)\/∃(p:Ad) (js:bB) (k':Nat) (r:bB),v=.ref p/\H2 p=some (.tup (js.map nv))/\c[k']?=some (bN I x l)/\y[k']?=some r/\jh I Y D r l js) (λl v e=>(al l v e).imp id λ⟨p,js,k',r,z1,z2,z3⟩=>#[p,js,k',r,z1,g2 _ _ z2,z3]) (.inr #[pp,js,k',r,zZ,ep,by rw[ly];exact ey,aV,by rw[ly];exact aW]) l v e]
  .obtain⟨g,ly,al⟩:=pv;rw[hY]at ly;have ks:=bV aT (.lst ys);have es:bC B sg (.lst ys) sg=some (.lst ys):=bG;have U:=g.trans ks;have TL:TurnL (bC B sg (.lst ys)) I c Y y x D ys:=TurnL.lts #[ly,al] (xu ks);generalize bC B sg (.lst ys)=ai at ks es U TL|-;have ah:=k9.trans U.keeps;have aM:=(L ah).a (h3.is i b x eb ex);have aa:=U _ _ aH;refine#[_,zZ,p,C,d,_,_,zZ,U _ _ p9,P3.cl,P3.no,(by kernel_rfl),_,zZ,u,_,zZ,DPut.t aa (by rw[jd];exact aM) (by rw[KZ (),cH];lia),?_];rw[G0 () xn,<-tk];have lo:xI H9 (bC ai u (.dT (fu (c.take (i+1)) (O++[sg])))):=λb o n hb=>Stays.off aa b o n (U _ _ hb)
   have am:xI ai (bC ai u (.dT (fu (c.take (i+1)) (O++[sg])))):=Stays.off aa;refine#[DE ah aR,(T9.same U).offD aa,lo.a p9,lo.a aJ,lo.tups aK,#[z++[l],by rw[bL az];exact U _ _ aG,by rw[cI,la];rfl,aI.lts lo],#[O++[sg],bG,by rw[cI,ae];rfl,λk x' r a' e1 e2 e3=>?_],_,_,zZ];refine xa (P:=λk a=>∀x D,c[k]?=some x->y[k]?=some D->∃vs,bC ai u (.dT (fu (c.take (i+1)) (O++[sg]))) a=some (.lst vs)/\TurnL (bC ai u (.dT (fu (c.take (i+1)) (O++[sg])))) I c Y y x D vs) (λk a e x D e1 e2=>(aL.lts lo) k x D a e1 e2 e) (λx' r e1 e2=>?_) k a' e3 x' r e1 e2;rw[ae,ex]at e1;rw[ae,ew]at e2;cases e1;cases e2;exact#[ys,am.a es,TL.lts am]
 .obtain⟨k6,T6,p6,ar,au,⟨z,ab,la,ta⟩,⟨O,ag,ae,tb⟩,o3,o4,rfl⟩:=pv;rw[bF,lb]at ab ag la ae;rw[fZ]at ab ag;refine#[_,zZ,a,_,_,_,zZ,zZ,S2 ((L k6).a h1),zZ,t',_,zZ,.inl (S1 ((L k6).a h4)),_,zZ,p,C,d,_,zZ,p6,P3.cl,P3.no,by show 4<1000;decide,?_];rw[show((ds.map V.ref).length)=Y.length by rw[bF,l5]];have lo:Stays vy H6 (bC H6 p (.ins C d (cL sN (nv Y.length) [(sA,.ref m),(sG,.ref g),(sH,.ref t),(sQ,.ref u)]))):=Stays.offI p6;refine q gs _ (t8 k6 np) (T6.offI p6) G #[d,g,t,u,gr,?_,lo.a ar,lo.tups au,#[z,lo.a ab,la,ta.lts lo],O,lo.a ag,ae,tb.lts lo];rw[bG];exact cK (λl=>some (HO.ins C d l)) (by kernel_rfl)
def Pc{I CR T:Ad}(F:Fun K tL "Row.__init__" BS f fd)(S0:OwnC K CR [sC,tE])(qW:xv P w K mg base "LevelParts" I 15 [sB,sA,sL] (gu I))(uP:cE P w K mg base "levels" 18 [sA] (gM T (#[78,40,78,93]:Pos)))(qC:cE P w K mg base "still" 1 [sC] fi)(jA:mg "len"=none):FnOk P w K mg base b9 20 f fd [sB,sA] (eB I CR):=by
 refine F.ok NB (λar A ag s H O Q E U h=>?_)
 obtain⟨H0,p,g,m,Y,n,rfl,g0,np,hp,M,hT,q⟩:=h;have hu:=U.units;have au:=ik U;obtain⟨rs,r0,hm,av,ah,ai,aj,_⟩:=M.at (l:=0) M.some1;have n5:=M.n5;refine#[_,(bQ (md (pv 0) (cC qC U.m zZ (bK (c9 fv zZ jA eU (bK (ck dA (pv 1) bO (λ_ _=>rfl)) bJ)) bJ)) zZ) (bS (md (pv 0) (gK (CompSc.to (N:=[sB,sA]) (osc:=bT BS) (vs:=[sL]) {}) zZ zZ (fH (cC uP U.m zZ (bK (pv 1) bJ))) (λ_ _ _ _=>fG) (λ_ _ _ _=>(yR qW U.m zZ (cf (bI (pv 2) (bI (pv 0) ce zZ) zZ))))) zZ))),?_];refine#[_,zZ,m,_,_,_,zZ,zZ,S2 (g0 _ _ hm),ah,r0,_,zZ,.inr (S2 (g0 _ _ ai)),?_]
 try dsimp only
 rw[bF,aj];refine#[n,zZ,(),λr H1 g1 er=>?_];have p1:=g1 _ _ hp;have ak:p≠r:=nE p1 er;refine#[_,zZ,p,CR,g,_,zZ,p1,S0.cl,S0.no,by show 0<1000;decide,?_];have g2:Same H0 (bC H1 p (.ins CR g (cL sC (.ref r) []))):=gk (g0.trans g1) np;have p2:bC H1 p (.ins CR g (cL sC (.ref r) [])) p=some (.ins CR g [(sC,.ref r)]):=bG;have aa:bC H1 p (.ins CR g (cL sC (.ref r) [])) r=some (.tup ((List.range n).map nv)):=by rw[bL ak.symm];exact er
 generalize bC H1 p (.ins CR g (cL sC (.ref r) []))=H2 at g2 p2 aa|-;clear g1 er p1 g0 hp;refine#[_,zZ,m,Y,n,zZ,M.same g2,hT.same g2,λl as told a ys H3 k3 T3 nl el ff od sub al LL nw ap aw=>?_];have ab:=g2.keeps.trans k3;have la:=LL.len;refine#[l,zZ,#[_,S1 el],j7 (xs:=as.map .ref) (λi O d=>Keeps H3 d/\Tabs d/\∃(k:As) (t:List Lv),O=k.map V.ref/\t.length=i/\t.map (·.c)=told.take i/\(∀L∈t,LvOk Y a L)/\StepsAt I d k m Y t) (by rw[bF];exact small ()) #[Keeps.refl _,T3,[],[],zZ,zZ,zZ,(λL h=>nomatch h),zZ,λi q L e=>by simp at e] (λi O d _ pv=>?_) (λi v O d hv pv=>?_) (λO d pv sg am=>?_)]
 .obtain⟨y,_,k,t,rfl,J,_,_,S⟩:=pv;exact#[S1 (y _ _ (nz el)),by rw[bF,S.len,J];exact bR _]
 .obtain⟨y,T4,k,t,rfl,J,eL,B,S⟩:=pv;rw[bZ]at hv;obtain⟨lv,ae,rfl⟩:=dm.mp hv;have li:=(bU.mp ae).1;obtain⟨c,ec⟩:∃c,told[i]?=some c:=#[_,bE ()];obtain⟨C,an,lp,wd⟩:=(LL.is i lv c ae ec).lvw (sub c (cb ec));have ao:=ab.trans y;refine#[iI,i5 #[_,zZ,_,zZ,λx D nx aq ax=>?_]];have gx:Same d (bC (bC d D (.own x)) x (.ins I D [])):=λb o hb=>by
   rw[bL (cV hb nx),bL (cV hb aq)];exact hb
  refine#[d,x,D,m,lv,Y,n,a,c,_,C,zZ,gx,nx,bG,M.keeps ao,ff,LvH.keeps an y,lp,T4,λgs H5 k5 T5 G St=>#[zZ,y.trans k5,T5,k++[x],t++[#[c,iZ a (c.headD []),C,gs]],by rw[dC];rfl,by rw[cI,J];rfl,?_,λL hL=>?_,#[by rw[cI,cI,S.len];rfl,λj q' L e1 u=>?_]]]
  .rw[dC,eL,gQ,ec];rfl
  .rcases cF.mp hL with z|z
   .exact B L z
   .rw[ci.mp z];exact#[lp,wd,G]
  .refine xa (P:=λj q=>∀L,(t++[#[c,iZ a (c.headD []),C,gs]])[j]?=some L->StepAt I H5 q m Y L) (λj q e L u=>?_) (λL u=>?_) j q' e1 L u
   .have lj:=(bU.mp e).1;rw[dN (by rw[<-S.len];exact lj)]at u;exact(S.is j q L e u).keeps k5
   .rw[S.len,dO (bR _),mO]at u;cases u;exact St
 .obtain⟨y,T4,k,t,rfl,J,eL,B,S⟩:=pv;rw[bF]at J eL;rw[la,fZ]at eL;have ks:=bV am (.lst (k.map V.ref));have af:=(k3.trans y).trans ks.keeps;have p5:=af _ _ (nz p2);refine#[_,zZ,p,CR,g,_,zZ,p5,S0.cl,S0.no,by show 1<1000;decide,?_];have lo:Stays vy (bC d sg (.lst (k.map V.ref))) (bC (bC d sg (.lst (k.map V.ref))) p (.ins CR g (cL tE (.ref sg) [(sC,.ref r)]))):=Stays.offI p5;refine q a t _ (t8 ((ab.trans y).trans ks.keeps) np) ((T4.same ks).offI p5) #[ff,by rw[eL];exact od,by rw[J,la];exact al,B] #[g,r,sg,k,?_,lo.a (af _ _ (nz aa)),lo.a bG,S.len,λi q' L e1 u=>((S.is i q' L e1 u).keeps ks.keeps).off p5 (by show ¬1=5;decide)];rw[bG];exact cK (λl=>some (HO.ins CR g l)) (by kernel_rfl)
def jw(k:Nat)(L:Lv):List (Bool×Nat×Nat):=(if 1<L.gs.length then[(true,k,L.gs.length)]else[])++[(false,k,L.us.length)]
def lK(a:List Lv):Nat->List (Bool×Nat×Nat)
 |0=>[]
 |i+1=>lK a i++(match a[i]? with|some L=>jw i L|none=>[])
def pH(a:List Lv):List (Bool×Nat×Nat):=lK a a.length
def MC(k:Nat)(L:Lv):(jw k L).length<=2:=by
 unfold jw;by_cases h:1<L.gs.length
 .rw[wB h];exact bR 2
 .rw[wA h];exact ub 1
theorem IP(a:List Lv):∀i,(lK a i).length<=2 * i
 |0=>bR _
 | i+1=>by
  have z:=IP a i;unfold lK;rw[cI];cases e:a[i]? with
  |none=>
   simp only[List.length_nil];lia
  |some L=>
   have y:=MC i L;simp only;lia
def Cy{a:List Lv}{i:Nat}{L:Lv}(e:a[i]?=some L):lK a (i+1)=lK a i++jw i L:=by
 show lK a i++_=_;rw[e]
inductive l9(C:Ad)(b:List V)(H:Hp)(Q:VK)(a:XK):Prop|mk:∀(q m:Ad) (c:LN) (L:Lv),b=[.ref q]->StepAt C H q m c L->Q (.bl (decide (1<L.gs.length))) H->l9 C b H Q a
def NV{C:Ad}(F:Fun K xG "LevelParts.is_turning" DS f fd)(P3:OwnC K C [sA,sG,sH,sQ,sN])(b:mg "len"=none):FnOk P w K mg base b9 1 f fd [sB] (l9 C):=by
 refine F.ok Mb (λc A a s H n Q E o h=>?_)
 obtain⟨q,m,p,L,rfl,⟨d,g,t,u,e,i,j,l,_⟩,k⟩:=h;refine#[_,(bS (cr (lT Cn (c9 fv zZ b eU (bK (dP (pv 0) zZ) bJ)) bO (dy _)))),?_];refine#[_,zZ,q,C,d,_,_,zZ,i,P3.cl,P3.no,vr,g,_,zZ,.inl (S1 j),_,_,zZ,zZ,?_];show Q (.bl (decide ((1:Int)<(((e.map V.ref).length:Nat):Int)))) H;rw[bF,l.len,show decide ((1:Int)<((L.gs.length:Nat):Int))=decide (1<L.gs.length)from decide_eq_decide.mpr ()];exact k
def gY(a:List Lv)(i:Nat):Nat:=(lK a i).length
def iT(b:List Lv)(a:bB)(i:Nat)(L:Lv):Nat×Nat:=if 1<L.gs.length then(a.getD (gY b i) 0,a.getD (gY b i+1) 0)else(0,a.getD (gY b i) 0)
def nZ(b:List Lv)(a:bB):Nat->List (Nat×Nat)
 |0=>[]
 |i+1=>nZ b a i++(match b[i]? with|some L=>[iT b a i L]|none=>[])
def me(b:List Lv)(a:bB):List (Nat×Nat):=nZ b a b.length
structure RowIn(Ls:List Lv)(row:bB):Prop where
 len:row.length=(pH Ls).length
 lt:∀(j:Nat) (p:Bool×Nat×Nat) (r:Nat),(pH Ls)[j]?=some p->row[j]?=some r->r<p.2.2
def Ew{b:List Lv}{a:bB}{i:Nat}{L:Lv}(e:b[i]?=some L):nZ b a (i+1)=nZ b a i++[iT b a i L]:=by
 show nZ b a i++_=_;rw[e]
theorem om{a:List Lv}{row:bB}:∀{i:Nat},i<=a.length->(nZ a row i).length=i
 |0,_=>rfl
 |i+1,h=>by
  rw[Ew (bE h),cI,om (eM h)];rfl
theorem xg{b:Type}{t:Nat->List b}(h:∀i,∃r,t (i+1)=t i++r):∀{i j:Nat},i<=j->∃r,t j=t i++r
 |i,0,a=>#[[],by rw[Nat.le_zero.mp a,i']]
 | i,j+1,a=>by
  by_cases e:i=j+1
  .exact#[[],by rw[e,i']]
  .obtain⟨r,z⟩:=xg h (show i<=j by lia);obtain⟨c,d⟩:=h j;exact#[r++c,by rw[d,z,dR]]
def Jk(a:List Lv){i j:Nat}(h:i<=j):∃r,lK a j=lK a i++r:=xg (t:=lK a) (λi=>#[_,zZ]) h
def MG(b:List Lv)(a:bB){i j:Nat}(h:i<=j):∃r,nZ b a j=nZ b a i++r:=xg (t:=nZ b a) (λi=>#[_,zZ]) h
def Df{a:List Lv}{i:Nat}{L:Lv}(e:a[i]?=some L):gY a (i+1)=gY a i+(if 1<L.gs.length then 2 else 1):=by
 unfold gY;rw[Cy e,cI];unfold jw;by_cases h:1<L.gs.length
 .rw[wB h,wB h];rfl
 .rw[wA h,wA h];rfl
def Ev{a:List Lv}{row:bB}{i:Nat}{L:Lv}(e:a[i]?=some L):(me a row)[i]?=some (iT a row i L):=by
 have b:=(bU.mp e).1;obtain⟨r,z⟩:=MG a row (show i+1<=a.length from b);unfold me;rw[z,Ew e,dR,dO (by rw[om (eM b)];exact bR _),om (eM b),mO];rfl
def FO{a:List Lv}{i j:Nat}{L:Lv}{p:Bool×Nat×Nat}(e:a[i]?=some L)(b:(jw i L)[j]?=some p):(pH a)[gY a i+j]?=some p:=by
 have c:=(bU.mp e).1;obtain⟨r,z⟩:=Jk a (show i+1<=a.length from c);unfold pH gY;rw[z,Cy e,dR,dO (nN _ _),xt,dN (bU.mp b).1];exact b
def Kt{a:List Lv}{i:Nat}{L:Lv}(e:a[i]?=some L):gY a i+(if 1<L.gs.length then 1 else 0)<(pH a).length:=by
 have b:=(bU.mp e).1;obtain⟨r,z⟩:=Jk a (show i+1<=a.length from b);have y:=Df e;unfold pH;rw[z,cI];unfold gY at y|-;by_cases h:1<L.gs.length
 .rw[wB h]at y|-;lia
 .rw[wA h]at y|-;lia
structure PairOk(L:Lv)(p:Nat×Nat):Prop where
 g:p.1<L.gs.length
 t:p.2<L.us.length
def cz{a:bB}{j:Nat}(h:j<a.length):a[j]?=some (a.getD j 0):=by rw[cZ,bE h];rfl
def RowIn.pair{b:List Lv}{a:bB}(R:RowIn b a){i:Nat}{L:Lv}(e:b[i]?=some L)(g0:0<L.gs.length):PairOk L (iT b a i L):=by
 have z:=Kt e;have len:=R.len;unfold iT;by_cases h:1<L.gs.length
 .rw[wB h]at z|-;have c:(jw i L)[0]?=some (true,i,L.gs.length):=by unfold jw;rw[wB h];rfl
  have d:(jw i L)[1]?=some (false,i,L.us.length):=by unfold jw;rw[wB h];rfl
  exact#[R.lt _ _ _ (FO e c) (cz ()),R.lt _ _ _ (FO e d) (cz ())]
 .rw[wA h]at z|-;have c:(jw i L)[0]?=some (false,i,L.us.length):=by unfold jw;rw[wA h];rfl
  exact#[g0,R.lt _ _ _ (FO e c) (cz ())]
def jt(L:Lv)(p:Nat×Nat):Nat:=(L.gs.getD p.1 []).getD p.2 0
def eQ(ts:LN)(L:Lv)(here:bB)(p:Nat×Nat):bB:=if here∈L.c then(tl ts L.us (L.wds.getD (dB L.c here) [])).getD (jt L p) []else here
def fS(a:LN)(n:Nat)(b:List Lv)(prs:List (Nat×Nat)):Nat->List Nat
 |0=>List.range n
 |i+1=>match b[i]?,prs[i]? with
  |some L,some p=>eQ a L (fS a n b prs i) p
  |_,_=>fS a n b prs i
def sh{a:LN}{n:Nat}{b:List Lv}{prs:List (Nat×Nat)}{i:Nat}{L:Lv}{p:Nat×Nat}(c:b[i]?=some L)(d:prs[i]?=some p):fS a n b prs (i+1)=eQ a L (fS a n b prs i) p:=by
 show(match b[i]?,prs[i]? with|some L,some p=>eQ a L (fS a n b prs i) p|_,_=>fS a n b prs i)=_;rw[c,d]
def jm(c:LN)(n:Nat)(a:List Lv)(b:bB):Nat:=(fS c n a (me a b) a.length).headD 0
structure WOk(L:Lv)(p:Nat×Nat):Prop where
 nd:L.c.Nodup
 wl:L.wds.length=L.c.length
 g1:p.1<L.gs.length
 g2:p.2<(L.gs.getD p.1 []).length
 g3:jt L p<L.us.length
section
variable{H:Hp}{m:Ad}{ts:LN}{n:Nat}{a:LN}{L:Lv}
def LvOk.g0(M:Mach H m ts n)(b:FamOf ts n a)(ok:LvOk ts a L):0<L.gs.length:=(bU.mp (ok.first M b)).1
def gD{a:LN}{k:Nat}(h:k<a.length):a[k]?=some (a.getD k []):=by rw[cZ,bE h];rfl
def LvOk.wok(M:Mach H m ts n)(b:FamOf ts n a)(ok:LvOk ts a L){p:Nat×Nat}(po:PairOk L p):WOk L p:=by
 have pm:=ok.pm M b (cb (gD po.g));have l:(L.gs.getD p.1 []).length=L.us.length:=by rw[pm.length_eq,mC]
 refine#[ok.p.nd b,ok.p.len,po.g,by rw[l];exact po.t,?_];exact fb.mp (pm.mem_iff.mp (cb (cz (by rw[l];exact po.t))))
def LvOk.wthn_in(M:Mach H m ts n)(c:FamOf ts n a)(ok:LvOk ts a L){here:bB}(d:here∈L.c){p:Nat×Nat}(po:PairOk L p):eQ ts L here p∈iZ a here:=by
 have w:=ok.wok M c po;obtain⟨l,e⟩:=jp d;unfold eQ tl;rw[wB d,cZ,bZ];have f:L.us[jt L p]?=some (L.us.getD (jt L p) []):=gD w.g3;rw[f];have h:L.wds[dB L.c here]?=some (L.wds.getD (dB L.c here) []):=gD (by rw[w.wl];exact l);obtain⟨b,i⟩:=ok.p.bij M c e h;have g:=cb f;rw[ok.p.tl]at g;have:=vq M c (c.inU M (cQ.mp (gP ok.p.cls).2.2.1).1) i g;rw[<-ok.p.tl]at this;exact this
def LvOk.wthn_fam(M:Mach H m ts n)(b:FamOf ts n a)(ok:LvOk ts a L){here:bB}(c:here∈a){p:Nat×Nat}(po:PairOk L p):eQ ts L here p∈a:=by
 by_cases h:here∈L.c
 .exact((n0 M b).mp (ok.wthn_in M b h po)).1
 .unfold eQ;rw[wA h];exact c
def zM(b:FamOf ts n a):List.range n∈a:=(b.mem _).mpr (.inl #[[],(λ_ h=>nomatch h),zZ])
def GW(M:Mach H m ts n)(b:FamOf ts n a){x:bB}(h:x∈a):x≠[]:=by
 rcases (b.mem x).mp h with z|⟨r,_,rfl⟩
 .exact OE M z
 .exact λe=>nomatch e
theorem E5(M:Mach H m ts n){b:List Lv}(R:RowOf ts n a b){prs:List (Nat×Nat)}(po:∀(i:Nat) (L:Lv) (p:Nat×Nat),b[i]?=some L->prs[i]?=some p->PairOk L p):∀i,fS ts n b prs i∈a
 |0=>zM R.ff
 | i+1=>by
  have d:=E5 M R po i;cases c:b[i]? with
  |none=>
   show(match b[i]?,prs[i]? with|some L,some p=>eQ ts L (fS ts n b prs i) p|_,_=>fS ts n b prs i)∈a;rw[c];exact d
  | some L=>
   cases e:prs[i]? with
   |none=>
    show(match b[i]?,prs[i]? with|some L,some p=>eQ ts L (fS ts n b prs i) p|_,_=>fS ts n b prs i)∈a;rw[c,e];exact d
   |some p=>
    rw[sh c e];exact(R.ok L (cb c)).wthn_fam M R.ff d (po i L p c e)
def RowIn.po(M:Mach H m ts n){c:List Lv}(R:RowOf ts n a c){b:bB}(f:RowIn c b)(i:Nat)(L:Lv)(p:Nat×Nat)(d:c[i]?=some L)(e:(me c b)[i]?=some p):PairOk L p:=by
 rw[Ev d]at e;cases e;exact f.pair d ((R.ok L (cb d)).g0 M R.ff)
end
inductive dZ(C:Ad)(c:List V)(H:Hp)(Q:VK)(b:XK):Prop|mk:∀(q h d m:Ad) (e:LN) (L:Lv) (here:bB) (p:Nat×Nat),c=[.ref q,.ref h,.ref d]->StepAt C H q m e L->H h=some (.tup (here.map nv))->H d=some (.tup [nv p.1,nv p.2])->WOk L p->(∀a,H a=some (.tup ((eQ e L here p).map nv))->Q (.ref a) H)->dZ C c H Q b
def LX{C:Ad}(F:Fun K wH "LevelParts.within" Gj f fd)(P3:OwnC K C [sA,sG,sH,sQ,sN]):FnOk P w K mg base b9 1 f fd [sB,sM,tO] (dZ C):=by
 refine F.ok Ow (λY A x s H vs Q E B h=>?_)
 obtain⟨q,h,D,m,G,L,here,p,rfl,⟨l,g,t,u,gr,n,h2,I,⟨as,J,t2,t3⟩,_⟩,y,M,a,k⟩:=h;have hu:=B.units;have d:=ik B;refine#[_,(bQ (dq (sn (Db d (pv 1) (dP (pv 0) zZ))) (bS (cr (pv 1))) dD) (bS (cr (ck d9 (oY d (dP (pv 0) zZ) (pv 1) (λ_ _=>rfl)) (ck dA (ck d9 (dP (pv 0) zZ) (ck dA (pv 2) bO (λ_ _=>rfl)) (λ_ _=>rfl)) (ck dA (pv 2) bO (λ_ _=>rfl)) (λ_ _=>rfl)) (λ_ _=>rfl))))),?_];by_cases c:here∈L.c
 .obtain⟨li,ei⟩:=jp c;obtain⟨b,N⟩:∃b,as[dB L.c here]?=some b:=#[_,bE ()];have ew:L.wds[dB L.c here]?=some (L.wds.getD (dB L.c here) []):=gD (by rw[a.wl];exact li);obtain⟨es,e1,O⟩:=t3 _ _ _ ew N;have o:=xx a.nd J y ei N;have lg:=I.len;obtain⟨e,i⟩:∃e,gr[p.1]?=some e:=#[_,bE (by rw[lg];exact a.g1)];have z:=I.is p.1 e _ i (gD a.g1);have T:(tl G L.us (L.wds.getD (dB L.c here) []))[jt L p]?=some (eQ G L here p):=by
   unfold eQ;rw[wB c];exact gD (by unfold tl;rw[List.length_map];exact a.g3)
  obtain⟨r,U⟩:∃r,es[jt L p]?=some r:=#[_,bE (by rw[O.len];exact(bU.mp T).1)];refine#[_,zZ,_,zZ,q,C,l,_,_,zZ,n,P3.cl,P3.no,nY,t,_,zZ,o,_,zZ,dv ?_];refine#[_,zZ,q,C,l,_,_,zZ,n,P3.cl,P3.no,nY,_,zZ,t,_,zZ,o,_,zZ,q,C,l,_,_,zZ,n,P3.cl,P3.no,vr,_,zZ,D,_,_,_,zZ,zZ,S2 M,zZ,g,_,_,_,zZ,zZ,S1 h2,ge (j:=p.1) (v:= .ref e) (by rw[bZ,i];rfl),_,zZ,D,_,_,_,zZ,zZ,S2 M,zZ,e,_,_,_,zZ,zZ,S2 z,q0 a.g2,b,_,_,_,zZ,zZ,S1 e1,ge (j:=jt L p) (v:= .ref r) (by rw[bZ,U];rfl),?_];exact k r (O.is _ r _ U T)
 .have o:=Bx J y c;refine#[_,zZ,_,zZ,q,C,l,_,_,zZ,n,P3.cl,P3.no,nY,t,_,zZ,o,_,zZ,eK ?_];refine#[_,zZ,k h ?_];unfold eQ;rw[wA c];exact y
structure PairsAt(H:Hp)(as:As)(ps:List (Nat×Nat)):Prop where
 len:as.length=ps.length
 is:∀(i:Nat) (a:Ad) (p:Nat×Nat),as[i]?=some a->ps[i]?=some p->H a=some (.tup [nv p.1,nv p.2])
def PairsAt.st{f:HO->Bool}{H b:Hp}{c:As}{d:List (Nat×Nat)}(h:PairsAt H c d)(g:Stays f H b)(e:∀xs,f (.tup xs)=false:=by intro;rfl):PairsAt b c d:=#[h.len,λi a p j k=>g _ _ (e _) (h.is i a p j k)]
def PairsAt.snoc{H:Hp}{j:As}{g:List (Nat×Nat)}{a:Ad}{p:Nat×Nat}(h:PairsAt H j g)(e:H a=some (.tup [nv p.1,nv p.2])):PairsAt H (j++[a]) (g++[p]):=by
 refine#[by rw[cI,cI,h.len];rfl,λi d b f c=>?_];refine xa (P:=λi d=>∀b,(g++[p])[i]?=some b->H d=some (.tup [nv b.1,nv b.2])) (λi d f b c=>?_) (λb c=>?_) i d f b c
 .rw[dN (by rw[<-h.len];exact(bU.mp f).1)]at c;exact h.is i d b f c
 .rw[h.len,dO (bR _),mO]at c;cases c;exact e
inductive fy(e CR:Ad)(f:List V)(H:Hp)(Q:VK)(d:XK):Prop|mk:∀(p g m:Ad) (i:LN) (n:Nat) (b:List Lv) (a:bB),f=[.ref p,.ref g]->RowAt e CR H p m i n b->b.length<=32->H g=some (.tup (a.map nv))->a.length=(pH b).length->(∀l h c,Same H c->H l=none->c l=some (.lst (h.map .ref))->PairsAt c h (me b a)->Q (.ref l) c)->fy e CR f H Q d
inductive jH(f CR:Ad)(g:List V)(H:Hp)(Q:VK)(d:XK):Prop|mk:∀(p h m:Ad) (b:LN) (n:Nat) (e:LN) (c:List Lv) (a:bB),g=[.ref p,.ref h]->RowAt f CR H p m b n c->Mach H m b n->RowOf b n e c->H h=some (.tup (a.map nv))->RowIn c a->(∀i,Same H i->Q (nv (jm b n c a)) i)->jH f CR g H Q d
def Ob{M CR:Ad}(F:Fun K "paired" "Row.paired" EL f fd)(P3:OwnC K M [sA,sG,sH,sQ,sN])(S0:OwnC K CR [sC,tE])(jF:fg P w K mg base M xG 1 [sB] (l9 M)):FnOk P w K mg base b9 3 f fd [sB,sF] (fy M CR):=by
 refine F.ok jT (λag A aa s H vs Q E hr h=>?_)
 obtain⟨p,N,m,ts,n,j,d,rfl,⟨dx,r,st,qs,h1,h2,h3,S⟩,few,D,lr,q⟩:=h;have hu:=hr.units;refine#[_,(bQ (cj (i:=2) jT.nd zZ Z' (gT bJ)) (bQ (cj (i:=3) jT.nd zZ Z' bO) (bQ (fY fF zZ (fH (dP (pv 0) zZ)) (eR (i:=4) jT.nd zZ Z') (bQ (cj (i:=5) jT.nd zZ Z' bO) (bQ (ua (dq (lC (IJ (pv 4) P3.cl jF hr.m)) (bQ (cj (i:=5) jT.nd zZ Z' (ck dA (pv 1) (pv 3) (λ_ _=>rfl))) (bS (KJ (i:=3) jT.nd zZ Z' bO GV))) dD)) (bQ (i3 (gJ iE lM kS lL (pv 2) (bK (kh (cf (bI (pv 5) (bI (ck dA (pv 1) (pv 3) (λ_ _=>rfl)) ce zZ) zZ))) bJ))) (bS (KJ (i:=3) jT.nd zZ Z' bO GV)))))) (bS (cr (pv 2)))))),?_];refine#[by show 0<=sizeLine;decide,λB x=>?_];have k0:=bV x (.lst []);have lq:=S.len
 let Pv:Nat->L2.St->Hp->Prop:=λi O o=>Same H o/\∃(y:As) (o4 o5:Option V),o B=some (.lst (y.map .ref))/\PairsAt o y (nZ j d i)/\O=[some (.ref p),some (.ref N),some (.ref B),some (nv (gY j i)),o4,o5]
 refine#[_,zZ,p,CR,dx,_,_,zZ,k0 _ _ h1,S0.cl,S0.no,zy,st,zZ,#[_,S1 (k0 _ _ h3)],oo (xs:=qs.map .ref) Pv #[k0,[],_,_,bG,#[zZ,λi a p e=>by simp at e],zZ] (λi O o _ p=>S1 (p.1 _ _ h3)) (λi v O H1 hv pv=>?_) (λO H1 pv=>?_)]
 .obtain⟨C,y,o4,o5,G,l,rfl⟩:=pv;rw[bZ]at hv;obtain⟨b,eb,rfl⟩:=dm.mp hv;have li:=(bU.mp eb).1;obtain⟨L,T⟩:∃L,j[i]?=some L:=#[_,bE ()];have SA:=(S.is i b L eb T).keeps C.keeps;obtain⟨ab,g,t,u,gr,s1,s2,s3,s4⟩:=id SA;have pl:=Kt T;have pn:=Df T;have la:=l.len;rw[om ()]at la;refine#[λI o=>o=H1/\I=[some (.ref p),some (.ref N),some (.ref B),some (nv (gY j i+if 1<L.gs.length then 1 else 0)),some (.ref b),some (nv (iT j d i L).1)],#[_,zZ,b,ab,_,zZ,s1,(by kernel_rfl),b,m,ts,L,zZ,SA,_,zZ,lF (λc=>?_) (λc=>?_)],λI o z=>?_]
  .have J:1<L.gs.length:=hE c;rw[wB J]at pl|-;refine#[_,zZ,_,zZ,N,_,_,_,zZ,zZ,S2 (C _ _ D),q0 (k:=gY j i) (),?_];unfold iT;rw[wB J];exact#[_,zZ,_,_,zZ,zZ,zZ,zZ]
  .have J: ¬1<L.gs.length:=Ed (pT.mpr c);rw[wA J]at pl|-;unfold iT;rw[wA J];exact#[zZ,zZ]
  .obtain⟨rfl,rfl⟩:=z;have ae:gY j i+(if 1<L.gs.length then 1 else 0)<d.length:=by rw[lr];exact pl
   refine#[_,zZ,.inl #[zZ,_,S1 G],_,zZ,_,zZ,_,zZ,N,_,_,_,zZ,zZ,S2 (C _ _ D),q0 ae,by show 2<=sizeLine;decide,λU af=>?_];have e2:(iT j d i L).2=d.getD (gY j i+if 1<L.gs.length then 1 else 0) 0:=by
    unfold iT;by_cases c:1<L.gs.length
    .rw[wB c,wB c]
    .rw[wA c,wA c];rfl
   rw[<-e2];have Y:=bV af (.tup [nv (iT j d i L).1,nv (iT j d i L).2]);refine#[B,_,_,zZ,zZ,Y _ _ G,by rw[bF,cH];lia,_,zZ,_,_,zZ,zZ,?_];have lo:At (bC o U (.tup [nv (iT j d i L).1,nv (iT j d i L).2])) (bC (bC o U (.tup [nv (iT j d i L).1,nv (iT j d i L).2])) B (.lst (y.map V.ref++[.ref U]))):=Stays.offL (Y _ _ G);refine#[gk (C.trans Y) x,y++[U],some (.ref b),some (nv (iT j d i L).1),by rw[bG,dC];rfl,?_,?_]
   .rw[Ew T];exact((l.st (xu Y)).st lo).snoc (lo.a bG)
   .rw[pn];by_cases c:1<L.gs.length
    .rw[wB c,wB c];rfl
    .rw[wA c,wA c];rfl
 .obtain⟨C,y,o4,o5,G,l,rfl⟩:=pv;rw[bF,lq]at l;exact#[_,zZ,q B y H1 C x G l]
def Ru{o CR:Ad}(F:Fun K "told" "Row.told" FY f fd)(P3:OwnC K o [sA,sG,sH,sQ,sN])(S0:OwnC K CR [sC,tE])(jC:fg P w K mg base o wH 1 [sB,sM,tO] (dZ o))(jZ:fg P w K mg base CR "paired" 3 [sB,sF] (fy o CR))(rZ:mg "zip"=none):FnOk P w K mg base b9 5 f fd [sB,sF] (jH o CR):=by
 refine F.ok qM (λae A N s H vs Q E O h=>?_)
 obtain⟨p,ra,m,C,n,af,c,d,rfl,RA,M,R,T,ri,q⟩:=h;have hu:=O.units;obtain⟨U,r,st,qs,Y,h2,h3,S⟩:=id RA;have lq:=S.len;have po:=ri.po M R;refine#[_,(bQ (cj (i:=2) qM.nd zZ Z' (dP (pv 0) zZ)) (bQ (fY fF zZ (EZ zZ rZ (cf (bI (dP (pv 0) zZ) (bI (eX (pv 0) S0.cl jZ O.m (bK (pv 1) bJ)) ce zZ) zZ))) (zV zZ (oj (eR (i:=3) qM.nd zZ Z') (oj (eR (i:=4) qM.nd zZ Z') y9))) (bS (cj (i:=2) qM.nd zZ Z' (eX (pv 3) P3.cl jC O.m (cf (bI (pv 2) (bI (pv 4) ce zZ) zZ)))))) (bS (cr (ck dA (pv 2) bO (λ_ _=>rfl)))))),?_];refine#[_,zZ,p,CR,U,_,_,zZ,Y,S0.cl,S0.no,BV,?_];refine#[_,zZ,p,CR,U,_,_,zZ,Y,S0.cl,S0.no,zy,_,zZ,p,U,_,zZ,Y,(by kernel_rfl),_,zZ,p,ra,m,C,n,c,d,zZ,RA,R.few,T,ri.len,λl as H1 z nl el PA=>?_];have lp:as.length=c.length:=by rw[PA.len];exact om (bR _)
 let Pv:Nat->L2.St->Hp->Prop:=λi D H'=>Same H1 H'/\∃(h:Ad) (o3 o4:Option V),H' h=some (.tup ((fS C n c (me c d) i).map nv))/\D=[some (.ref p),some (.ref ra),some (.ref h),o3,o4]
 refine#[st,l,_,_,zZ,S1 (z _ _ h3),S1 el,De (xs:=qs.map .ref) (ys:=as.map .ref) Pv #[Same.refl _,r,_,_,z _ _ h2,zZ] (λi D H' p=>#[S1 (p.1 _ _ (z _ _ h3)),S1 (p.1 _ _ el)]) (λi x y G D I hx hy nT pv=>?_) (λD I pv=>?_)]
 .obtain⟨g2,h,o3,o4,J,rfl⟩:=pv;rw[bZ]at hx hy;obtain⟨b,eb,rfl⟩:=dm.mp hx;obtain⟨k,aa,rfl⟩:=dm.mp hy;have li:=(bU.mp eb).1;obtain⟨L,B⟩:∃L,c[i]?=some L:=#[_,bE ()];have ep:=Ev (row:=d) B;have kT:=bV nT (.tup [.ref b,.ref k]);have eT:bC I G (.tup [.ref b,.ref k]) G=some (.tup [.ref b,.ref k]):=bG;generalize bC I G (.tup [.ref b,.ref k])=H3 at kT eT|-;have g3:=g2.trans kT;have SA:=(S.is i b L eb B).keeps (z.trans g3).keeps;obtain⟨ab,g,t,u,gr,s1,s2⟩:=id SA;refine#[G,_,zZ,S2 eT,zZ,_,_,zZ,_,_,zZ,zZ,?_];refine#[_,zZ,b,ab,_,zZ,s1,(by kernel_rfl),_,zZ,_,zZ,b,h,k,m,C,L,_,_,zZ,SA,kT _ _ J,g3 _ _ (PA.is i k _ aa ep),(R.ok L (cb B)).wok M R.ff (po i L _ B ep),λa ea=>?_];exact#[g3,a,_,_,by rw[sh B ep];exact ea,zZ]
 .obtain⟨g2,h,o3,o4,J,rfl⟩:=pv;have lm:min (qs.map V.ref).length (as.map V.ref).length=c.length:=by rw[bF,bF,lq,lp,w6]
  rw[lm]at J;have ne:=GW M R.ff (E5 M R po c.length);refine#[_,zZ,h,_,_,_,zZ,zZ,S2 J,?_,q I (z.trans g2)];unfold jm;cases e:fS C n c (me c d) c.length with
  |nil=>exact wC e ne
  |cons x xs=>exact(ge (j:=0) (v:=nv x) rfl:fP ((x::xs).map nv) ((0:Nat):Int)=some (nv x))
def oX(a:List Lv)(i:Nat)(x:bB):Prop:=∀(j:Nat) (L:Lv),j<i->a[j]?=some L->x∉L.c
section
variable{H:Hp}{m:Ad}{ts:LN}{n:Nat}{a:LN}{b:List Lv}
def RowOf.due(M:Mach H m ts n)(R:RowOf ts n a b){i:Nat}{L:Lv}(e:b[i]?=some L):Due ts ((b.map (·.c)).drop i) L.c:=by
 refine Qq R.od (Hr ts _) (Om R.ff) (λc f d g r=>?_) i L.c (by rw[bZ,e];rfl);exact BO M (R.ff.inU M (cQ.mp (gP f).2.2.1).1) r
def RowOf.in_drop{i j:Nat}{L:Lv}(h:i<=j)(e:b[j]?=some L):L.c∈(b.map (·.c)).drop i:=by
 refine cb (i:=j-i) ?_;rw[wr,bZ,show i+(j-i)=j by lia,e];rfl
def RowOf.len_le(M:Mach H m ts n)(R:RowOf ts n a b){i j:Nat}{L c:Lv}(h:i<=j)(e:b[i]?=some L)(d:b[j]?=some c){x y:bB}(f:x∈L.c)(g:y∈c.c):y.length<=x.length:=by
 rw[Ht M R.ff (R.ok L (cb e)).p.cls f,Ht M R.ff (R.ok c (cb d)).p.cls g];exact(R.due M e).most _ (RowOf.in_drop h d)
def FJ(M:Mach H m ts n)(R:RowOf ts n a b){i:Nat}{L:Lv}(e:b[i]?=some L){here:bB}(h:here∈a)(k:oX b i here){p:Nat×Nat}(po:PairOk L p):oX b (i+1) (eQ ts L here p):=by
 by_cases c:here∈L.c
 .have ok:=R.ok L (cb e);obtain⟨l,o,q,_⟩:=(n0 M R.ff).mp (ok.wthn_in M R.ff c po);have lt:=LC (R.ff.inU M h) (R.ff.inU M l) q o;intro j g r d f;have:=R.len_le M (show j<=i by lia) d e f c;lia
 .have s:eQ ts L here p=here:=by unfold eQ;rw[wA c]
  rw[s];intro j g r d f;by_cases z:j=i
  .subst z;rw[e]at d;cases d;exact c f
  .exact k j g () d f
def DF(M:Mach H m ts n)(R:RowOf ts n a b){x:bB}(d:x∈a)(f:oX b b.length x):∃r,x=[r]/\r<n:=by
 have g:=GW M R.ff d;have i: ¬1<x.length:=λh=>by
  obtain⟨c,k,l⟩:=Ja (ts:=ts) (cQ.mpr #[d,cG h]);obtain⟨L,o,rfl⟩:=b8.mp (FD R.od c k);obtain⟨j,e⟩:=fB.mp o;exact f j L (bU.mp e).1 e l
 cases x with
 |nil=>exact wC zZ g
 |cons r p=>
  cases p with
  |nil=>exact#[r,zZ,(bH.mp (R.ff.inU M d)).2 r (cR ..)]
  |cons y q=>exact wC (by simp) i
theorem J9(M:Mach H m ts n)(R:RowOf ts n a b){prs:List (Nat×Nat)}(e:prs.length=b.length)(po:∀(i:Nat) (L:Lv) (p:Nat×Nat),b[i]?=some L->prs[i]?=some p->PairOk L p):∀i,i<=b.length->oX b i (fS ts n b prs i)
 |0,_=>λj L f=>wC f (qm j)
 |i+1,h=>by
  have c:=bE (show i<b.length from h);have d:=bE (show i<prs.length by lia);rw[sh c d];exact FJ M R c (E5 M R po i) (J9 M R e po i (eM h)) (po i _ _ c d)
def dU(ts:LN)(L:Lv)(here:bB):LN:=tl ts L.us (L.wds.getD (dB L.c here) [])
def LvOk.tls_iff(M:Mach H m ts n)(b:FamOf ts n a){L:Lv}(ok:LvOk ts a L){here:bB}(c:here∈L.c)(y:bB):y∈dU ts L here↔y∈iZ a here:=by
 obtain⟨d,e⟩:=jp c;exact Q1 M b ok.p e (gD (by rw[ok.p.len];exact d)) y
def CT{L:Lv}{here:bB}(c:here∈L.c)(p:Nat×Nat):eQ ts L here p=(dU ts L here).getD (jt L p) []:=by
 unfold eQ;rw[wB c];rfl
def xq{L:Lv}{here:bB}:(dU ts L here).length=L.us.length:=by unfold dU tl;rw[List.length_map]
def iy(b:LN)(a:bB):Nat:=(b.map (sub a)).idxOf true
def Fv{b:LN}{a:bB}(h:∃t∈b,sub a t=true):true∈b.map (sub a)/\iy b a<b.length/\sub a (b.getD (iy b a) [])=true:=by
 obtain⟨t,ht,st⟩:=h;have e:true∈b.map (sub a):=b8.mpr #[t,ht,st];have c:iy b a<(b.map (sub a)).length:=xJ.mpr e;have d:iy b a<b.length:=by rw[bF]at c;exact c
 have z:(b.map (sub a))[iy b a]?=some true:=by rw[bE c];exact cK some (zb c)
 refine#[e,d,?_];rw[bZ,bE d]at z;rw[cZ,bE d];exact f' z
def LvOk.has_tile(M:Mach H m ts n)(b:FamOf ts n a){L:Lv}(ok:LvOk ts a L){here u:bB}(c:here∈L.c)(d:u∈a)(e:u≠here)(s:sub u here=true):∃t∈dU ts L here,sub u t=true:=by
 obtain⟨t,ht,st⟩:=(qf M b here).all u d e s;exact#[t,(ok.tls_iff M b c t).mpr ht,st]
def LvOk.big_len{L:Lv}(ok:LvOk ts a L){here:bB}(c:here∈L.c):1<here.length/\here∈a:=by
 obtain⟨b,d⟩:=cQ.mp ((gP ok.p.cls).2.2.2 here c).1;exact#[hE d,b]
def LvOk.tile0(M:Mach H m ts n)(b:FamOf ts n a){L:Lv}(ok:LvOk ts a L){j:Nat}(h:j<L.us.length):jt L (0,j)=j:=by
 unfold jt;rw[cZ (l:=L.gs),ok.first M b];show(List.range L.us.length).getD j 0=j;rw[cZ,nB h];rfl
end
structure Al(ps:List (Bool×Nat×Nat))(rs:bB):Prop where
 len:rs.length=ps.length
 lt:∀(j:Nat) (p:Bool×Nat×Nat) (r:Nat),ps[j]?=some p->rs[j]?=some r->r<p.2.2
def Al.app{f a:List (Bool×Nat×Nat)}{g b:bB}(h:Al f g)(i:Al a b):Al (f++a) (g++b):=by
 refine#[by rw[cI,cI,h.len,i.len],λj p r d e=>?_];by_cases c:j<f.length
 .rw[dN c]at d;rw[dN (by rw[h.len];exact c)]at e;exact h.lt j p r d e
 .rw[dO ()]at d;rw[dO (by rw[h.len];lia),h.len]at e;exact i.lt _ p r d e
theorem Al.one{p:Bool×Nat×Nat}{r:Nat}(h:r<p.2.2):Al [p] [r]:=#[zZ,λj c d a b=>by
 cases j with
 |zero=>cases a;cases b;exact h
 |succ j=>cases a]
def ql(L:Lv)(p:Nat×Nat):bB:=(if 1<L.gs.length then[p.1]else[])++[p.2]
def lI(a:List Lv)(prs:List (Nat×Nat)):Nat->List Nat
 |0=>[]
 |i+1=>lI a prs i++(match a[i]?,prs[i]? with|some L,some p=>ql L p|_,_=>[])
def rh(a:List Lv)(prs:List (Nat×Nat)):bB:=lI a prs a.length
def CS{a:List Lv}{prs:List (Nat×Nat)}{i:Nat}{L:Lv}{p:Nat×Nat}(b:a[i]?=some L)(c:prs[i]?=some p):lI a prs (i+1)=lI a prs i++ql L p:=by
 show lI a prs i++_=_;rw[b,c]
def NU{i:Nat}{L:Lv}{p:Nat×Nat}(po:PairOk L p):Al (jw i L) (ql L p):=by
 unfold jw ql;refine Al.app ?_ (Al.one po.t);by_cases c:1<L.gs.length
 .rw[wB c,wB c];exact Al.one po.g
 .rw[wA c,wA c];exact#[zZ,λj p r e=>by simp at e]
theorem Ju{a:List Lv}{prs:List (Nat×Nat)}(d:prs.length=a.length)(po:∀(i:Nat) (L:Lv) (p:Nat×Nat),a[i]?=some L->prs[i]?=some p->PairOk L p):∀i,i<=a.length->Al (lK a i) (lI a prs i)
 |0,_=>#[zZ,λj p r e=>by simp[lK]at e]
 |i+1,h=>by
  have b:=bE (show i<a.length from h);have c:=bE (show i<prs.length by lia);rw[Cy b,CS b c];exact(Ju d po i (eM h)).app (NU (po i _ _ b c))
def JE{a:List Lv}{prs:List (Nat×Nat)}(b:prs.length=a.length)(po:∀(i:Nat) (L:Lv) (p:Nat×Nat),a[i]?=some L->prs[i]?=some p->PairOk L p):RowIn a (rh a prs):=let z:=Ju b po a.length (bR _);#[z.len,z.lt]
theorem GY{a:List Lv}{prs:List (Nat×Nat)}(d:prs.length=a.length):∀i,i<=a.length->(lI a prs i).length=gY a i
 |0,_=>rfl
 | i+1,h=>by
  have b:=bE (show i<a.length from h);have e:=bE (show i<prs.length by lia);rw[CS b e,cI,GY d i (eM h),Df b];unfold ql;by_cases c:1<(a[i]'h).gs.length
  .rw[wB c,wB c];rfl
  .rw[wA c,wA c];rfl
def JQ{a:List Lv}{prs:List (Nat×Nat)}(j:prs.length=a.length)(l:∀(i:Nat) (L:Lv) (p:Nat×Nat),a[i]?=some L->prs[i]?=some p-> ¬1<L.gs.length->p.1=0):me a (rh a prs)=prs:=by
 refine nj λi=>?_;by_cases e:i<a.length
 .have f:=bE e;have g:=bE (show i<prs.length by lia);rw[Ev f,g];obtain⟨r,z⟩:=xg (t:=lI a prs) (λi=>#[_,zZ]) (show i+1<=a.length from e);have m:=GY j i (eM e);have b:∀k,(rh a prs).getD (gY a i+k) 0=((ql a[i] (prs[i]'())++r)[k]?).getD 0:=λk=>by
   unfold rh;rw[z,CS f g,dR,cZ,dO (),m,xt]
  unfold iT;by_cases c:1<(a[i]'e).gs.length
  .have d:=b 0;have h:=b 1;unfold ql at d h;rw[wB c]at d h|-;rw[show gY a i=gY a i+0 from rfl,d,h];rfl
  .have d:=b 0;unfold ql at d;rw[wA c]at d|-;rw[show gY a i=gY a i+0 from rfl,d];exact cK some (Prod.ext (l i _ _ f g c).symm zZ)
 .have n:(me a (rh a prs)).length=a.length:=om (bR _);rw[iM (),iM ()]
def EY{H:Hp}{m:Ad}{a:LN}{n:Nat}(M:Mach H m a n){x:bB}(h:x∈dh n):x.length<=5:=cP (u7 M.n5 h) M.n5
inductive gm(C:Ad)(d:List V)(H:Hp)(Q:VK)(b:XK):Prop|mk:∀(q h e m:Ad) (c:LN) (L:Lv) (here a:bB),d=[.ref q,.ref h,.ref e]->StepAt C H q m c L->H h=some (.tup (here.map nv))->H e=some (.tup (a.map nv))->here∈L.c->L.c.Nodup->L.wds.length=L.c.length->L.us.length<=32->a.length<=5->(∃t∈dU c L here,sub a t=true)->(∀f,Same H f->Q (nv (iy (dU c L here) a)) f)->gm C d H Q b
inductive dH(d CR:Ad)(e:List V)(H:Hp)(Q:VK)(b:XK):Prop|mk:∀(p l m:Ad) (f:As) (g:LN) (n:Nat) (a:List Lv) (prs:List (Nat×Nat)),e=[.ref p,.ref l]->RowAt d CR H p m g n a->a.length<=32->H l=some (.lst (f.map .ref))->PairsAt H f prs->prs.length=a.length->(∀t c,Same H c->c t=some (.tup ((rh a prs).map nv))->Q (.ref t) c)->dH d CR e H Q b
def MV{C:Ad}(F:Fun K xH "LevelParts.least_tile" AZ f fd)(P3:OwnC K C [sA,sG,sH,sQ,sN])(T:cE P w K mg base wU 1 [tY,sZ] i4):FnOk P w K mg base b9 3 f fd [sB,sM,sC] (gm C):=by
 refine F.ok Sl (λU A o s H vs Q E r h=>?_)
 obtain⟨q,h,Y,m,j,L,here,a,rfl,⟨dx,g,t,u,gr,h1,h2,h3,⟨as,t1,t2,t3⟩,_⟩,hh,x,c,nd,wl,few,r5,ex,k⟩:=h;have hu:=r.units;have y:=ik r;refine#[_,(bS (cr (gJ iE yp zE Sr (gK (CompSc.to (N:=[sB,sM,sC]) (osc:=bT AZ) (vs:=[wS]) {}) zZ zZ (fH (oY y (dP (pv 0) zZ) (pv 1) (λ_ _=>rfl))) (λ_ _ _ _=>fG) (λ_ _ _ _=>(cC T r.m zZ (cf (bI (pv 3) (bI (pv 0) ce zZ) zZ))))) (bK sj bJ)))),?_];obtain⟨li,ei⟩:=jp c;obtain⟨b,B⟩:∃b,as[dB L.c here]?=some b:=#[_,bE ()];have ew:L.wds[dB L.c here]?=some (L.wds.getD (dB L.c here) []):=gD (by rw[wl];exact li);obtain⟨D,G,I⟩:=t3 _ _ _ ew B;have dg:=xx nd t1 hh ei B;have le:=I.len;have lt:(dU j L here).length=L.us.length:=xq;have e:D.length=L.us.length:=by rw[le];exact lt
 refine#[_,zZ,q,C,dx,_,_,zZ,h1,P3.cl,P3.no,nY,_,zZ,t,_,zZ,dg,b,zZ,#[_,S1 G],j7 (xs:=D.map .ref) (λi l n=>Same H n/\l=(((dU j L here).take i).map (sub a)).map V.bl) (by rw[bF];exact small ()) #[Same.refl _,zZ] (λi l n _ p=>?_) (λi v l n J p=>?_) (λl n p sg z=>?_)]
 .obtain⟨g,rfl⟩:=p;refine#[S1 (g _ _ G),?_];rw[bF,bF,fh];exact Ej _ _
 .obtain⟨g,rfl⟩:=p;rw[bZ]at J;obtain⟨d,M,rfl⟩:=dm.mp J;obtain⟨u,O⟩:∃u,(dU j L here)[i]?=some u:=#[_,bE (by rw[lt,<-e];exact(bU.mp M).1)];refine#[iI,i5 #[_,zZ,_,zZ,Y,d,a,u,zZ,g _ _ x,g _ _ (I.is i d u M O),r5,λH2 g2=>#[g.trans g2,?_]]];rw[gQ,O,dC,dC];rfl
 .obtain⟨g,rfl⟩:=p;rw[bF,e,<-lt,fZ];obtain⟨m1,_,_⟩:=Fv ex;have ks:=bV z (.lst (((dU j L here).map (sub a)).map V.bl));refine#[.inl #[zZ,_,S1 bG],sg,_,zZ,zZ,S1 bG,m1,k _ (g.trans ks)]
def QB{G CR:Ad}(F:Fun K "unpaired" "Row.unpaired" Fb f fd)(P3:OwnC K G [sA,sG,sH,sQ,sN])(S0:OwnC K CR [sC,tE])(jF:fg P w K mg base G xG 1 [sB] (l9 G))(rZ:mg "zip"=none)(jD:mg "tuple"=none):FnOk P w K mg base b9 3 f fd [sB,tT] (dH G CR):=by
 refine F.ok kY (λae A T s H vs Q E hr h=>?_)
 obtain⟨p,l,m,as,ts,n,e,prs,rfl,⟨dx,r,st,qs,h1,h2,h3,S⟩,few,el,PA,lp,q⟩:=h;have hu:=hr.units;have lq:=S.len;have la:=PA.len;refine#[_,(bQ (cj (i:=2) kY.nd zZ Z' (gT bJ)) (bQ (fY fF zZ (EZ zZ rZ (cf (bI (dP (pv 0) zZ) (bI (pv 1) ce zZ) zZ))) (zV zZ (oj (eR (i:=3) kY.nd zZ Z') (oj (eR (i:=4) kY.nd zZ Z') y9))) (bQ (ua (dq (lC (IJ (pv 3) P3.cl jF hr.m)) (bS (i3 (gJ iE lM kS lL (pv 2) (bK (ck dA (pv 4) bO (λ_ _=>rfl)) bJ)))) dD)) (bS (i3 (gJ iE lM kS lL (pv 2) (bK (ck dA (pv 4) bO (λ_ _=>rfl)) bJ)))))) (bS (cr (f9 oy zZ jD lR (bK (pv 2) bJ)))))),?_];refine#[by show 0<=sizeLine;decide,λj k=>?_];have I:=bV k (.lst [])
 let Pv:Nat->L2.St->Hp->Prop:=λi J o=>Same H o/\∃(U Y:Option V),o j=some (.lst ((lI e prs i).map nv))/\(lI e prs i).length<=2 * i/\J=[some (.ref p),some (.ref l),some (.ref j),U,Y]
 refine#[_,zZ,p,CR,dx,_,_,zZ,I _ _ h1,S0.cl,S0.no,zy,_,zZ,st,l,_,_,zZ,S1 (I _ _ h3),S1 (I _ _ el),De (xs:=qs.map .ref) (ys:=as.map .ref) Pv #[I,_,_,bG,bR _,zZ] (λi J o p=>#[S1 (p.1 _ _ h3),S1 (p.1 _ _ el)]) (λi x y M J H1 hx hy nT pv=>?_) (λJ H1 pv=>?_)]
 .obtain⟨g1,U,Y,N,l2,rfl⟩:=pv;rw[bZ]at hx hy;obtain⟨b,eb,rfl⟩:=dm.mp hx;obtain⟨a,B,rfl⟩:=dm.mp hy;have li:=(bU.mp eb).1;obtain⟨L,eL⟩:∃L,e[i]?=some L:=#[_,bE ()];obtain⟨d,v⟩:∃d,prs[i]?=some d:=#[_,bE ()];have kT:=bV nT (.tup [.ref b,.ref a]);have eT:bC H1 M (.tup [.ref b,.ref a]) M=some (.tup [.ref b,.ref a]):=bG;generalize bC H1 M (.tup [.ref b,.ref a])=H2 at kT eT|-;have O:=g1.trans kT;have f2:=kT _ _ N;have SA:=(S.is i b L eb eL).keeps O.keeps;obtain⟨aa,g,t,u,gr,s1,s2⟩:=id SA;have ab:=O _ _ (PA.is i a d B v);refine#[M,_,zZ,S2 eT,zZ,_,_,zZ,_,_,zZ,zZ,?_];refine#[λC o=>Same H o/\o j=some (.lst ((lI e prs i++(if 1<L.gs.length then[d.1]else[])).map nv))/\C=[some (.ref p),some (.ref l),some (.ref j),some (.ref b),some (.ref a)],#[_,zZ,b,aa,_,zZ,s1,(by kernel_rfl),b,m,ts,L,zZ,SA,_,zZ,lF (λc=>?_) (λc=>?_)],λC o z=>?_]
  .have c1:1<L.gs.length:=hE c;rw[wB c1];refine#[_,zZ,.inl #[zZ,_,S1 f2],_,zZ,a,_,_,_,zZ,zZ,S2 ab,zZ,j,_,_,zZ,zZ,f2,by rw[bF,cH];lia,?_];exact#[gk O k,by rw[bG,dC];rfl,zZ]
  .have c1: ¬1<L.gs.length:=Ed (pT.mpr c);rw[wA c1,i'];exact#[O,f2,zZ]
  .obtain⟨g3,f3,rfl⟩:=z;have D:=g3 _ _ (PA.is i a d B v);have l3:(lI e prs i++(if 1<L.gs.length then[d.1]else[])).length<=2 * i+1:=by
    rw[cI];by_cases h:1<L.gs.length
    .rw[wB h];exact Nat.add_le_add_right l2 1
    .rw[wA h];exact cP l2 (ub _)
   refine#[_,zZ,.inl #[zZ,_,S1 f3],_,zZ,a,_,_,_,zZ,zZ,S2 D,zZ,j,_,_,zZ,zZ,f3,by rw[bF,cH];lia,?_];have eu:lI e prs (i+1)=lI e prs i++(if 1<L.gs.length then[d.1]else[])++[d.2]:=by rw[CS eL v,dR];rfl
   refine#[gk g3 k,_,_,by rw[bG,eu,dC (l₂:=[d.2])];rfl,?_,zZ];rw[eu,cI];exact cP (Nat.add_le_add_right l3 1) ()
 .obtain⟨g1,U,Y,N,l2,rfl⟩:=pv;have lm:min (qs.map V.ref).length (as.map V.ref).length=e.length:=by rw[bF,bF,lq,la,lp,w6]
  rw[lm]at N;refine#[_,zZ,j,_,zZ,.inl #[S1 N,λt ht=>?_]];exact q t _ (g1.trans (bV ht _)) bG
def iR(a:LN)(L:Lv)(here:bB)(l:Nat):bB:=(dU a L here).map λu=>dB (dU a L (bN a here l)) (bN a u l)
def fL(b:LN)(L:Lv)(here a:bB)(l:Nat):bB×Option Nat:=
 if a∈L.c then(if here∈L.c/\bN b here l=a then(iR b L here l,none)else(List.range L.us.length,some (iy (dU b L a) (bN b here l))))else(List.range L.us.length,none)
def xf(L:Lv)(d:bB×Option Nat)(a:Nat):Nat:=L.gs.idxOf (dX (L.gs.getD a []) d.1)
def Ji(L:Lv)(d:bB×Option Nat)(a b:Nat):Nat:=match d.2 with
 |none=>b
 |some j=>(L.gs.getD a []).idxOf j
def mv(L:Lv)(d:bB×Option Nat)(p:Nat×Nat):Nat×Nat:=(xf L d p.1,Ji L d p.1 p.2)
section
variable{H:Hp}{m:Ad}{ts:LN}{n:Nat}{d:LN}{f:List Lv}{L:Lv}
def CJ{l:Nat}(a:l<ts.length):∀z∈[l],z<ts.length:=λz b=>by rw[ci.mp b];exact a
def LvOk.tls_nd(M:Mach H m ts n)(f:FamOf ts n d)(ok:LvOk ts d L){here:bB}(c:here∈L.c):(dU ts L here).Nodup:=by
 obtain⟨j,k⟩:=jp c;obtain⟨p,g⟩:=ok.p.bij M f k (gD (by rw[ok.p.len];exact j));unfold dU tl;rw[List.Nodup,v8];refine Dr (λ{a b} h i l e=>l ?_) (wq M f ok.p);rw[ok.p.tl]at h i;obtain⟨o,_,q,_⟩:=(n0 M f).mp h;obtain⟨r,_,s,_⟩:=(n0 M f).mp i;rw[<-g.back M (f.inU M o) q,<-g.back M (f.inU M r) s,e]
def x9{here:bB}{j:Nat}{u:bB}(e:L.us[j]?=some u):(dU ts L here)[j]?=some (cw (bN ts) u (L.wds.getD (dB L.c here) [])):=by
 unfold dU tl;rw[bZ,e];rfl
def LvOk.trn_eq(M:Mach H m ts n)(e:FamOf ts n d)(ok:LvOk ts d L){here:bB}{l:Nat}(f:bN ts here l∈L.c){a:bB}(g:jh ts L.us (L.wds.getD (dB L.c here) []) (L.wds.getD (dB L.c (bN ts here l)) []) l a):a=iR ts L here l:=by
 obtain⟨p,h⟩:=g;refine nj λj=>?_;by_cases i:j<L.us.length
 .have b:=bE i;have c:=bE (show j<a.length by lia);obtain⟨q,k,o⟩:=h j _ _ b c;unfold iR;rw[bZ,x9 b,c];exact cK some (BD (ok.tls_nd M e f) (j:=a[j]) (by rw[x9 k,o])).symm
 .have r:(iR ts L here l).length=L.us.length:=by unfold iR;rw[List.length_map,xq]
  rw[iM (),iM ()]
def LvOk.trn_by(M:Mach H m ts n)(e:FamOf ts n d)(ok:LvOk ts d L){here:bB}{l:Nat}(f:l<ts.length)(g:here∈L.c)(h:bN ts here l∈L.c):jh ts L.us (L.wds.getD (dB L.c here) []) (L.wds.getD (dB L.c (bN ts here l)) []) l (iR ts L here l):=by
 obtain⟨i,k⟩:=jp g;obtain⟨o,p⟩:=jp h;have q:=gD (show dB L.c here<L.wds.length by rw[ok.p.len];exact i);have r:=gD (show dB L.c (bN ts here l)<L.wds.length by rw[ok.p.len];exact o);refine#[by unfold iR;rw[List.length_map,xq],λj u s c a=>?_];unfold iR at a;rw[bZ,x9 c]at a;have a:dB (dU ts L (bN ts here l)) (bN ts (cw (bN ts) u (L.wds.getD (dB L.c here) [])) l)=s:=f' a;have t:bN ts (cw (bN ts) u (L.wds.getD (dB L.c here) [])) l∈dU ts L (bN ts here l):=Jb M e ok.p k q f p r (cb c);obtain⟨y,b⟩:=jp t;rw[a]at b;unfold dU tl at b;rw[bZ]at b;obtain⟨v,w,x⟩:=dm.mp b;exact#[v,w,x]
def LvOk.trn_gs(M:Mach H m ts n)(e:FamOf ts n d)(ok:LvOk ts d L){here:bB}{l:Nat}(a:l<ts.length)(b:here∈L.c)(c:bN ts here l∈L.c){g:bB}(f:g∈L.gs):dX g (iR ts L here l)∈L.gs:=by
 obtain⟨h,i⟩:=jp b;obtain⟨j,k⟩:=jp c;exact(ok.g.mem _).mpr (.step ((ok.g.mem g).mp f) #[_,l,_,here,_,_,i,gD (by rw[ok.p.len];exact h),a,k,gD (by rw[ok.p.len];exact j),ok.trn_by M e a b c])
def ID(M:Mach H m ts n)(a:FamOf ts n d){x:bB}(b:x∈d){l:Nat}(c:l<ts.length):bN ts x l∈d:=Ea M a (w:=[l]) b (CJ c)
def DP{a:LN}{g:bB}(h:g∈a):a.idxOf g<a.length/\a.getD (a.idxOf g) []=g:=by
 have l:=xJ.mpr h;refine#[l,?_];rw[cZ,bE l];exact zb l
def Lk{a:bB}{g:Nat}(h:g∈a):a.idxOf g<a.length/\a.getD (a.idxOf g) 0=g:=by
 have l:=xJ.mpr h;refine#[l,?_];rw[cZ,bE l];exact zb l
def LvOk.still(M:Mach H m ts n)(b:FamOf ts n d)(ok:LvOk ts d L){a:Nat}(h:a<L.gs.length):dX (L.gs.getD a []) (List.range L.us.length)=L.gs.getD a []:=Mz λr c=>fb.mp ((ok.pm M b (cb (gD h))).mem_iff.mp c)
def LvOk.idx_still(M:Mach H m ts n)(b:FamOf ts n d)(ok:LvOk ts d L){a:Nat}(h:a<L.gs.length):L.gs.idxOf (dX (L.gs.getD a []) (List.range L.us.length))=a:=by
 rw[ok.still M b h];obtain⟨l,e⟩:=DP (cb (gD h));exact(jf l ok.nd).mp ((gD l).trans (by rw[e];exact(gD h).symm))
def MX(M:Mach H m ts n)(R:RowOf ts n d f){i:Nat}(e:f[i]?=some L){here:bB}{l:Nat}(r:l<ts.length)(h:here∈d)(s:oX f i here)(k:bN ts here l∈L.c):here∈L.c:=by
 have ok:=R.ok L (cb e);have o:Rch ts here (bN ts here l):=#[[l],CJ r,zZ];have x:=BO M (R.ff.inU M h) (bP.mpr o);have y:=(ok.big_len k).1;obtain⟨t,a,b⟩:=Ja (ts:=ts) (cQ.mpr #[h,cG (show 1<here.length by lia)]);obtain⟨c,u,rfl⟩:=b8.mp (FD R.od t a);obtain⟨j,p⟩:=fB.mp u;by_cases g:j<i
 .exact wC b (s j c g p)
 .by_cases q:c.c=L.c
  .rw[<-q];exact b
  .have z:=(R.due M e).free c.c (RowOf.in_drop () p) q;have v:=((gP a).2.2.2 here b).2.1;have w:=((gP ok.p.cls).2.2.2 _ k).2.2;rw[bP.mpr ((v.trans o).trans w)]at z;cases z
def HM(M:Mach H m ts n)(R:RowOf ts n d f){i:Nat}(e:f[i]?=some L){here a:bB}{l:Nat}(b:l<ts.length)(c:here∈d)(h:oX f i here)(s:sub (bN ts here l) a=true)(g:a∈L.c)(no: ¬(here∈L.c/\bN ts here l=a)):∃t∈dU ts L a,sub (bN ts here l) t=true:=by
 refine(R.ok L (cb e)).has_tile M R.ff g (ID M R.ff c b) (λz=>no #[?_,z]) s;exact MX M R e b c h (by rw[z];exact g)
def LvOk.wthn_sub(M:Mach H m ts n)(a:FamOf ts n d)(ok:LvOk ts d L){here:bB}{p:Nat×Nat}(po:PairOk L p):sub (eQ ts L here p) here=true:=by
 by_cases c:here∈L.c
 .exact((n0 M a).mp (ok.wthn_in M a c po)).2.2.1
 .unfold eQ;rw[wA c];exact bY.mpr λr b=>b
def El(M:Mach H m ts n)(R:RowOf ts n d f){i:Nat}(e:f[i]?=some L){here a:bB}{l:Nat}{p:Nat×Nat}(po:PairOk L p)(o:l<ts.length)(t:here∈d)(C:oX f i here)(tf:a∈d)(s:sub (bN ts here l) a=true):
  PairOk L (mv L (fL ts L here a l) p)/\sub (bN ts (eQ ts L here p) l) (eQ ts L a (mv L (fL ts L here a l) p))=true/\dX (L.gs.getD p.1 []) (fL ts L here a l).1∈L.gs/\(∀j,(fL ts L here a l).2=some j->j∈L.gs.getD p.1 []):=by
 have ok:=R.ok L (cb e);have D:=gD po.g;have mg:=cb D;have pm:=ok.pm M R.ff mg;have gl:(L.gs.getD p.1 []).length=L.us.length:=by rw[pm.length_eq,mC]
 have E:=ok.wthn_fam M R.ff t po;have mono:sub (bN ts (eQ ts L here p) l) (bN ts here l)=true:=zH M (R.ff.inU M E) (R.ff.inU M t) (CJ o) (ok.wthn_sub M R.ff po);by_cases b:a∈L.c
 .by_cases c:here∈L.c/\bN ts here l=a
  .obtain⟨c,u⟩:=c;have h:fL ts L here a l=(iR ts L here l,none):=by unfold fL;rw[wB b,wB #[c,u]]
   rw[h];have k:bN ts here l∈L.c:=by rw[u];exact b
   have v:=ok.trn_gs M R.ff o c k mg;obtain⟨G,I⟩:=DP v;refine#[#[G,po.t],?_,v,λj z=>nomatch z];have g:jt L (mv L (iR ts L here l,none) p)=(iR ts L here l).getD (jt L p) 0:=by
    show(L.gs.getD (L.gs.idxOf (dX (L.gs.getD p.1 []) (iR ts L here l))) []).getD p.2 0=_;rw[I];unfold dX;rw[cZ,bZ,cz (by rw[gl];exact po.t)];rfl
   have w:=ok.wok M R.ff po;obtain⟨J,N⟩:=ok.trn_by M R.ff o c k;have x:=gD w.g3;have O:(iR ts L here l)[jt L p]?=some ((iR ts L here l).getD (jt L p) 0):=cz (by rw[J];exact w.g3);obtain⟨Q,T,U⟩:=N _ _ _ x O;have Y:eQ ts L here p=cw (bN ts) (L.us.getD (jt L p) []) (L.wds.getD (dB L.c here) []):=by rw[CT c,cZ,x9 x];rfl
   have a2:eQ ts L a (mv L (iR ts L here l,none) p)=cw (bN ts) Q (L.wds.getD (dB L.c (bN ts here l)) []):=by rw[CT b,g,cZ,x9 T,u];rfl
   rw[Y,a2,U];exact bY.mpr λr hr=>hr
  .have h:fL ts L here a l=(List.range L.us.length,some (iy (dU ts L a) (bN ts here l))):=by unfold fL;rw[wB b,wA c]
   rw[h];obtain⟨_,y,st⟩:=Fv (HM M R e o t C s b c);rw[xq]at y;have A:iy (dU ts L a) (bN ts here l)∈L.gs.getD p.1 []:=pm.mem_iff.mpr (fb.mpr y);obtain⟨B,j2⟩:=Lk A;have q:xf L (List.range L.us.length,some (iy (dU ts L a) (bN ts here l))) p.1=p.1:=ok.idx_still M R.ff po.g;refine#[#[by show xf L _ p.1<_;rw[q];exact po.g,by rw[gl]at B;exact B],?_,by show dX _ (List.range L.us.length)∈_;rw[ok.still M R.ff po.g];exact mg,λj z=>by cases z;exact A];have g:jt L (mv L (List.range L.us.length,some (iy (dU ts L a) (bN ts here l))) p)=iy (dU ts L a) (bN ts here l):=by
    show(L.gs.getD (xf L _ p.1) []).getD ((L.gs.getD p.1 []).idxOf _) 0=_;rw[q,j2]
   rw[CT b,g];exact Fh mono st
 .have h:fL ts L here a l=(List.range L.us.length,none):=by unfold fL;rw[wA b]
  rw[h];have q:xf L (List.range L.us.length,none) p.1=p.1:=ok.idx_still M R.ff po.g;have en:mv L (List.range L.us.length,none) p=p:=Prod.ext q rfl;rw[en];refine#[po,?_,by show dX _ (List.range L.us.length)∈_;rw[ok.still M R.ff po.g];exact mg,λj z=>nomatch z];have ew:eQ ts L a p=a:=by unfold eQ;rw[wA b]
  rw[ew];exact Fh mono s
end
def kq(a:LN)(n:Nat)(b:List Lv)(prs:List (Nat×Nat))(l:Nat):Nat->List Nat
 |0=>List.range n
 |i+1=>match b[i]?,prs[i]? with
  |some L,some p=>eQ a L (kq a n b prs l i) (mv L (fL a L (fS a n b prs i) (kq a n b prs l i) l) p)
  |_,_=>kq a n b prs l i
def mh(a:LN)(n:Nat)(b:List Lv)(prs:List (Nat×Nat))(l:Nat):Nat->List (Nat×Nat)
 |0=>[]
 |i+1=>mh a n b prs l i++(match b[i]?,prs[i]? with
  |some L,some p=>[mv L (fL a L (fS a n b prs i) (kq a n b prs l i) l) p]
  |_,_=>[])
def tz(c:LN)(n:Nat)(a:List Lv)(b:bB)(l:Nat):bB:=rh a (mh c n a (me a b) l a.length)
section
variable{H:Hp}{m:Ad}{ts:LN}{n:Nat}{fam:LN}{Ls:List Lv}{prs:List (Nat×Nat)}{l i:Nat}{L:Lv}{p:Nat×Nat}
def FS(a:Ls[i]?=some L)(b:prs[i]?=some p):kq ts n Ls prs l (i+1)=eQ ts L (kq ts n Ls prs l i) (mv L (fL ts L (fS ts n Ls prs i) (kq ts n Ls prs l i) l) p):=by
 show(match Ls[i]?,prs[i]? with|some L,some p=>_|_,_=>_)=_;rw[a,b]
def Dl(a:Ls[i]?=some L)(b:prs[i]?=some p):mh ts n Ls prs l (i+1)=mh ts n Ls prs l i++[mv L (fL ts L (fS ts n Ls prs i) (kq ts n Ls prs l i) l) p]:=by
 show mh ts n Ls prs l i++_=_;rw[a,b]
theorem ux(a:prs.length=Ls.length):∀{i:Nat},i<=Ls.length->(mh ts n Ls prs l i).length=i
 |0,_=>rfl
 |i+1,h=>by
  rw[Dl (bE h) (bE (show i<prs.length by lia)),cI,ux a (eM h)];rfl
def IB(b:prs.length=Ls.length)(c:Ls[i]?=some L)(d:prs[i]?=some p):(mh ts n Ls prs l Ls.length)[i]?=some (mv L (fL ts L (fS ts n Ls prs i) (kq ts n Ls prs l i) l) p):=by
 have a:=(bU.mp c).1;obtain⟨r,z⟩:=xg (t:=mh ts n Ls prs l) (λi=>#[_,zZ]) (show i+1<=Ls.length from a);rw[z,Dl c d,dR,dO (by rw[ux b (eM a)];exact bR _),ux b (eM a),mO];rfl
structure Both(ts fam:LN)(Ls:List Lv)(l i:Nat)(here there:bB):Prop where
 hf:here∈fam
 hp:oX Ls i here
 tf:there∈fam
 tp:oX Ls i there
 s:sub (bN ts here l) there=true
theorem Bq(M:Mach H m ts n)(R:RowOf ts n fam Ls)(k:prs.length=Ls.length)(po:∀(i:Nat) (L:Lv) (p:Nat×Nat),Ls[i]?=some L->prs[i]?=some p->PairOk L p)(c:l<ts.length):∀i,i<=Ls.length->Both ts fam Ls l i (fS ts n Ls prs i) (kq ts n Ls prs l i)
 |0,_=>by
  refine#[zM R.ff,λj L d=>wC d (qm j),zM R.ff,λj L d=>wC d (qm j),?_];exact bY.mpr λr o=>fb.mpr ((bH.mp (R.ff.inU M (ID M R.ff (zM R.ff) c))).2 r o)
 |i+1,h=>by
  have b:=Bq M R k po c i (eM h);have a:=bE (show i<Ls.length from h);have e:=bE (show i<prs.length by lia);have f:=po i _ _ a e;obtain⟨g,q,_,_⟩:=El M R a f c b.hf b.hp b.tf b.s;have ok:=R.ok _ (cb a);rw[sh a e,FS a e];exact#[ok.wthn_fam M R.ff b.hf f,FJ M R a b.hf b.hp f,ok.wthn_fam M R.ff b.tf g,FJ M R a b.tf b.tp g,q]
def Kh(M:Mach H m ts n)(R:RowOf ts n fam Ls)(c:prs.length=Ls.length)(po:∀(i:Nat) (L:Lv) (p:Nat×Nat),Ls[i]?=some L->prs[i]?=some p->PairOk L p)(d:l<ts.length)(i:Nat)(L:Lv)(q:Nat×Nat)(a:Ls[i]?=some L)(e:(mh ts n Ls prs l Ls.length)[i]?=some q):PairOk L q:=by
 have g:=(bU.mp a).1;have f:=bE (show i<prs.length by lia);rw[IB c a f]at e;cases e;have b:=Bq M R c po d i (eM g);exact(El M R a (po i _ _ a f) d b.hf b.hp b.tf b.s).1
def zp(M:Mach H m ts n)(R:RowOf ts n fam Ls)(a:prs.length=Ls.length)(po:∀(i:Nat) (L:Lv) (p:Nat×Nat),Ls[i]?=some L->prs[i]?=some p->PairOk L p)(b:l<ts.length)(i:Nat)(L:Lv)(q:Nat×Nat)(d:Ls[i]?=some L)(e:(mh ts n Ls prs l Ls.length)[i]?=some q)(c: ¬1<L.gs.length):q.1=0:=by
 have:=(Kh M R a po b i L q d e).g;lia
def Jd(M:Mach H m ts n)(R:RowOf ts n fam Ls){a:bB}(b:RowIn Ls a)(c:l<ts.length):RowIn Ls (tz ts n Ls a l):=JE (ux (om (bR _)) (bR _)) (Kh M R (om (bR _)) (b.po M R) c)
theorem J2(b:prs.length=Ls.length):∀i,i<=Ls.length->fS ts n Ls (mh ts n Ls prs l Ls.length) i=kq ts n Ls prs l i
 |0,_=>rfl
 |i+1,h=>by
  have a:=bE (show i<Ls.length from h);have c:=bE (show i<prs.length by lia);rw[sh a (IB b a c),J2 b i (eM h),FS a c]
def FH(M:Mach H m ts n)(R:RowOf ts n fam Ls){a:bB}(g:RowIn Ls a)(d:l<ts.length):jm ts n Ls a<n/\jm ts n Ls (tz ts n Ls a l)=(ts.getD l []).getD (jm ts n Ls a) 0:=by
 have c:(me Ls a).length=Ls.length:=om (bR _);have po:=g.po M R;have b:=Bq M R c po d Ls.length (bR _);unfold jm tz;rw[JQ (ux c (bR _)) (zp M R c po d),J2 c _ (bR _)];obtain⟨r,h,i⟩:=DF M R b.hf b.hp;obtain⟨o,e,j⟩:=DF M R b.tf b.tp;have s:=b.s;rw[h,e]at s|-;refine#[i,?_];obtain⟨_,_,_,_,_,_,p,k⟩:=M.at d;have f:(ts.getD l []).getD r 0<5:=f7 (wD k ()) M.n5;have mem:(ts.getD l []).getD r 0∈bN ts [r] l:=iP.mpr #[f,b8.mpr #[r,ci.mpr zZ,zZ]];exact(ci.mp (bY.mp s _ mem)).symm
end
def zN(x:bB):Zs:=x.map λr=>((r:Nat):Int)
def OW{x:bB}{i:Int}:i∈zN x↔ ∃r∈x,((r:Nat):Int)=i:=b8
def u5{x:bB}{r:Nat}:((r:Nat):Int)∈zN x↔r∈x:=by
 rw[OW];exact#[λ⟨a,h,e⟩=>by rwa[<-Ap e],λh=>#[r,h,zZ]]
theorem IK{r:Nat}:∀{x:bB},(zN x).idxOf ((r:Nat):Int)=x.idxOf r
 | []=>rfl
 | a::x=>by
  show(((a:Nat):Int)::zN x).idxOf ((r:Nat):Int)=_;rw[List.idxOf_cons,List.idxOf_cons,IK];have e:(((a:Nat):Int)==((r:Nat):Int))=(a==r):=by
   rw[jq,oz,oz];exact#[λh=>by lia,λh=>by lia]
  rw[e]
def DeedAt(H:Hp)(r:Ad)(d:bB×Option Nat):Prop:=∃(a:Ad) (v:V),H r=some (.tup [.ref a,v])/\H a=some (.tup (d.1.map nv))/\v=(match d.2 with|none=> .non|some j=>nv j)
def DeedAt.same{H b:Hp}{r:Ad}{d:bB×Option Nat}(h:DeedAt H r d)(g:Same H b):DeedAt b r d:=let⟨a,v,c,e,f⟩:=h;#[a,v,g _ _ c,g _ _ e,f]
inductive jz(C:Ad)(K:S4)(f:List V)(H:Hp)(Q:VK)(d:XK):Prop|mk:∀(q h t m:Ad) (b:LN) (n:Nat) (c:LN) (L:Lv) (here a:bB) (l:Nat),f=[.ref q,.ref h,.ref t,nv l]->StepAt C H q m b L->Mach H m b n->FamOf b n c->LvOk b c L->H h=some (.tup (here.map nv))->H t=some (.tup (a.map nv))->here∈c->l<b.length->((a∈L.c-> ¬(here∈L.c/\bN b here l=a)->∃t∈dU b L a,sub (bN b here l) t=true))->(∀r e,Same H e->DeedAt e r (fL b L here a l)->Q (.ref r) e)->jz C K f H Q d
inductive fR(C:Ad)(c:List V)(H:Hp)(Q:VK)(b:XK):Prop|mk:∀(q e m:Ad) (g:LN) (L:Lv) (d:bB×Option Nat) (a:Nat),c=[.ref q,.ref e,nv a]->StepAt C H q m g L->DeedAt H e d->a<L.gs.length->(∀x∈L.gs.getD a [],x<d.1.length)->(L.gs.getD a []).length<=1000->dX (L.gs.getD a []) d.1∈L.gs->(∀f,Same H f->Q (nv (xf L d a)) f)->fR C c H Q b
inductive fN(C:Ad)(e:List V)(H:Hp)(Q:VK)(c:XK):Prop|mk:∀(q f m:Ad) (g:LN) (L:Lv) (d:bB×Option Nat) (a b:Nat),e=[.ref q,.ref f,nv a,nv b]->StepAt C H q m g L->DeedAt H f d->a<L.gs.length->((∀j,d.2=some j->j∈L.gs.getD a []))->Q (nv (Ji L d a b)) H->fN C e H Q c
inductive iH(C:Ad)(c:List V)(H:Hp)(Q:VK)(a:XK):Prop|mk:∀(q e f m:Ad) (g:LN) (L:Lv) (d:bB×Option Nat) (p:Nat×Nat),c=[.ref q,.ref e,.ref f]->StepAt C H q m g L->DeedAt H e d->H f=some (.tup [nv p.1,nv p.2])->p.1<L.gs.length->(∀x∈L.gs.getD p.1 [],x<d.1.length)->(L.gs.getD p.1 []).length<=1000->dX (L.gs.getD p.1 []) d.1∈L.gs->((∀j,d.2=some j->j∈L.gs.getD p.1 []))->(∀t b,Same H b->b t=some (.tup [nv (mv L d p).1,nv (mv L d p).2])->Q (.ref t) b)->iH C c H Q a
def QQ{a:LN}{g:bB}:∀i,i<a.idxOf g->a[i]? ≠some g:=λi b e=>by
 have y:=EX (p:=(· ==g)) (xs:=a) (i:=i) b;obtain⟨d,c⟩:=bU.mp e;rw[c,xL]at y;cases y
def N0{C:Ad}(F:Fun K "deed_of" "LevelParts.deed_of" EN f fd)(P3:OwnC K C [sA,sG,sH,sQ,sN])(jK:cE P w K mg base tW 3 [sA,sC,sW] (cT K))(jG:fg P w K mg base C xH 3 [sB,sM,sC] (gm C)):FnOk P w K mg base b9 5 f fd [sB,sM,wX,sK] (jz C K):=by
 refine F.ok kC (λal A aa s H vs Q E hr h=>?_)
 obtain⟨q,h,th,m,d,n,am,L,here,a,l,rfl,SA,M,J,ok,hh,ht,hf,hl,ext,k⟩:=h;have hu:=hr.units;have B:=ik hr;obtain⟨x,g,t,u,gr,y,h2,h3,⟨as,t1,t2,t3⟩,ab,u1,u2,u3⟩:=id SA;have nd:=ok.p.nd J;have e0:=ok.first M J;obtain⟨g0,N⟩:∃g0,gr[0]?=some g0:=#[_,bE (by rw[h3.len];exact(bU.mp e0).1)];have D:=h3.is 0 g0 _ N e0;have hU:=J.inU M hf;have x5:=EY M hU;have xn:=(bH.mp hU).2;refine#[_,(bQ (cj (i:=4) kC.nd zZ Z' (ck d9 (dP (pv 0) zZ) bO (λ_ _=>rfl))) (bQ (dq (sn (Db B (pv 2) (dP (pv 0) zZ))) (bS (cr (kh (cf (bI (pv 4) (bI vp ce zZ) zZ))))) dD) (bQ (cj (i:=5) kC.nd zZ Z' (cC jK hr.m zZ (cf (bI (dP (pv 0) zZ) (bI (pv 1) (bI (gT (bK (pv 3) bJ)) ce zZ) zZ) zZ)))) (bQ (dq (PW.pt (An (sn (zJ B (pv 1) (dP (pv 0) zZ))) (yF (dQ (EJ hu) (pv 5) (pv 2) (dy _))))) (bS (cr (kh (cf (bI (ck d9 (oY B (dP (pv 0) zZ) (pv 1) (λ_ _=>rfl)) (pv 3) (λ_ _=>rfl)) (bI vp ce zZ) zZ))))) dD) (bS (cr (kh (cf (bI (pv 4) (bI (eX (pv 0) P3.cl jG hr.m (cf (bI (pv 2) (bI (pv 5) ce zZ) zZ))) ce zZ) zZ))))))))),?_];refine#[_,zZ,q,C,x,_,_,zZ,y,P3.cl,P3.no,vr,g,_,_,_,zZ,zZ,S1 h2,(ge (j:=0) (v:= .ref g0) (by rw[bZ,N];rfl):fP _ ((0:Nat):Int)=_),?_];by_cases o:a∈L.c
 .obtain⟨li,ei⟩:=jp o;obtain⟨b,eb⟩:∃b,as[dB L.c a]?=some b:=#[_,bE ()];refine#[_,zZ,_,zZ,q,C,x,_,_,zZ,y,P3.cl,P3.no,nY,t,_,zZ,xx nd t1 ht ei eb,_,zZ,dv ?_];refine#[_,zZ,q,C,x,_,_,zZ,y,P3.cl,P3.no,zo,_,zZ,_,zZ,by show 1<=sizeLine;decide,λp1 ae=>?_];have kp:=bV ae (.lst [nv l]);refine#[m,h,p1,d,n,here,[l],zZ,M.same kp,S2 (kp _ _ hh),x5,xn,S1 bG,CJ hl,λen H2 O e2=>?_];have c:=kp.trans O;have G:H2 en=some (.tup ((bN d here l).map nv)):=e2;clear e2 O kp;by_cases T:here∈L.c
  .obtain⟨lh,eh⟩:=jp T;obtain⟨bh,af⟩:∃b,as[dB L.c here]?=some b:=#[_,bE ()];refine#[_,zZ,_,zZ,q,C,x,_,_,zZ,c _ _ y,P3.cl,P3.no,nY,t,_,zZ,xx nd (c _ _ t1) (c _ _ hh) eh af,_,zZ,eK ?_];refine#[_,zZ,_,zZ,en,th,0,_,_,zZ,zZ,iS (S2 G),iS (S2 (c _ _ ht)),by decide,λcc hc=>#[_,zZ,?_]];have ag:cc=decide (bN d here l=a):=by
    rw[jq,Aw,<-cO];exact hc
   subst ag;by_cases I:bN d here l=a
   .rw[cG I];refine eK ?_;obtain⟨b2,U⟩:∃b,ab[dB L.c here]?=some b:=#[_,bE ()];have ew:=gD (show dB L.c here<L.wds.length by rw[ok.p.len];exact lh);obtain⟨vs,v1,v2,v3⟩:=u3 _ _ _ _ eh ew U;obtain⟨v,ev⟩:∃v,vs[l]?=some v:=#[_,bE ()]
    rcases v3 l v ev with⟨no,_⟩|⟨pj,js,k',ah,rfl,ep,ek,ai,tb⟩
    .exact wC (by rw[I];exact o) no
    have aj:k'=dB L.c (bN d here l):=(BD nd ek).symm;subst aj;have ak:ah=L.wds.getD (dB L.c (bN d here l)) []:=by rw[cZ,ai];rfl
    subst ak;have ej:=ok.trn_eq M J (by rw[I];exact o) tb;subst ej;refine#[_,zZ,q,C,x,_,_,zZ,c _ _ y,P3.cl,P3.no,Af,_,zZ,u,_,zZ,xx nd (c _ _ u1) (c _ _ hh) eh U,_,zZ,b2,_,_,_,zZ,zZ,S1 (c _ _ v1),ge ev,by show 2<=sizeLine;decide,λr e=>?_];have p:=bV e (.tup [.ref pj,.non]);refine k r _ (c.trans p) #[pj,.non,bG,?_,?_]
    .rw[p _ _ (c _ _ ep)];unfold fL;rw[wB o,wB #[T,I]]
    .unfold fL;rw[wB o,wB #[T,I]]
   .rw[eW I];refine dv ?_;have no: ¬(here∈L.c/\bN d here l=a):=λz=>I z.2
    have ed:fL d L here a l=(List.range L.us.length,some (iy (dU d L a) (bN d here l))):=by unfold fL;rw[wB o,wA no]
    refine#[_,zZ,_,zZ,q,x,_,zZ,c _ _ y,(by kernel_rfl),_,zZ,_,zZ,q,th,en,m,d,L,a,bN d here l,zZ,SA.keeps c.keeps,c _ _ ht,G,o,nd,ok.p.len,(ok.p.inU M J).2,EY M (yU M hU hl),ext o no,λH3 Y=>#[by show 2<=sizeLine;decide,λr e=>?_]];have p:=bV e (.tup [.ref g0,nv (iy (dU d L a) (bN d here l))]);rw[ed]at k;exact k r _ ((c.trans Y).trans p) #[g0,_,bG,p _ _ ((c.trans Y) _ _ D),zZ]
  .refine#[_,zZ,_,zZ,q,C,x,_,_,zZ,c _ _ y,P3.cl,P3.no,nY,t,_,zZ,Bx (c _ _ t1) (c _ _ hh) T,_,zZ,dv (dv ?_)]
   .have no: ¬(here∈L.c/\bN d here l=a):=λz=>T z.1;have ed:fL d L here a l=(List.range L.us.length,some (iy (dU d L a) (bN d here l))):=by unfold fL;rw[wB o,wA no]
    refine#[_,zZ,_,zZ,q,x,_,zZ,c _ _ y,(by kernel_rfl),_,zZ,_,zZ,q,th,en,m,d,L,a,bN d here l,zZ,SA.keeps c.keeps,c _ _ ht,G,o,nd,ok.p.len,(ok.p.inU M J).2,EY M (yU M hU hl),ext o no,λH3 Y=>#[by show 2<=sizeLine;decide,λr e=>?_]];have p:=bV e (.tup [.ref g0,nv (iy (dU d L a) (bN d here l))]);rw[ed]at k;exact k r _ ((c.trans Y).trans p) #[g0,_,bG,p _ _ ((c.trans Y) _ _ D),zZ]
 .refine#[_,zZ,_,zZ,q,C,x,_,_,zZ,y,P3.cl,P3.no,nY,t,_,zZ,Bx t1 ht o,_,zZ,eK ?_];refine#[_,zZ,by show 2<=sizeLine;decide,λr e=>?_];have p:=bV e (.tup [.ref g0,.non]);refine k r _ p #[g0,.non,bG,?_,?_]
  .rw[p _ _ D];unfold fL;rw[wA o]
  .unfold fL;rw[wA o]
def O8{C:Ad}(F:Fun K "turned" "LevelParts.turned" GD f fd)(P3:OwnC K C [sA,sG,sH,sQ,sN])(I:cE P w K mg base xD 1 [tY,sZ] dY):FnOk P w K mg base b9 3 f fd [sB,tV,tR] (fR C):=by
 refine F.ok PD (λJ A n s H vs Q E y h=>?_)
 obtain⟨q,M,m,ts,L,d,a,rfl,⟨z,g,t,u,N,B,o,l,_⟩,⟨O,v,T,U,_⟩,D,lt,Y,mem,k⟩:=h;have hu:=y.units;obtain⟨b,c⟩:∃b,N[a]?=some b:=#[_,bE (by rw[l.len];exact D)];have p:=l.is a b _ c (gD D);refine#[_,(bS (cr (gJ iE yp zE (AB hu) (dP (pv 0) zZ) (bK (cC I y.m zZ (cf (bI (ck d9 (dP (pv 0) zZ) (pv 2) (λ_ _=>rfl)) (bI (ck dA (pv 1) bO (λ_ _=>rfl)) ce zZ) zZ))) bJ)))),?_];refine#[_,zZ,q,C,z,_,_,zZ,B,P3.cl,P3.no,vr,.inl #[zZ,_,S1 o],_,zZ,q,C,z,_,_,zZ,B,P3.cl,P3.no,vr,_,zZ,g,_,_,_,zZ,zZ,S1 o,ge (j:=a) (v:= .ref b) (by rw[bZ,c];rfl),_,zZ,M,_,_,_,zZ,zZ,S2 T,zZ,b,O,_,_,zZ,p,U,lt,Y,λr H2 x e2=>?_];obtain⟨G,_⟩:=DP mem;refine#[g,_,1,.tup (hZ (dX (L.gs.getD a []) d.1)),L.gs.map λu=>Dt.tup (hZ u),_,L.gs.idxOf (dX (L.gs.getD a []) d.1),zZ,zZ,S1 (x _ _ o),by rw[bF,bF,l.len],iS (S2 e2),CI (l.same x),by decide,fT.mpr (by rw[bE G];exact cK some (zb G)),λi hi e=>QQ i hi (fT.mp e),?_];exact k H2 x
def Mu{C:Ad}(F:Fun K "brought" "LevelParts.brought" DR f fd)(P3:OwnC K C [sA,sG,sH,sQ,sN]):FnOk P w K mg base b9 1 f fd [sB,tV,tR,"bringing"] (fN C):=by
 refine F.ok RG (λx A l s H M Q E y h=>?_)
 obtain⟨q,n,m,N,L,⟨O,z⟩,a,b,rfl,⟨B,g,t,u,D,G,I,p,_⟩,⟨T,v,o,U,rfl⟩,r,mem,k⟩:=h;have Y:=y.units;obtain⟨c,d⟩:∃c,D[a]?=some c:=#[_,bE (by rw[p.len];exact r)];have e:=p.is a c _ d (gD r);refine#[_,(bQ (dq (dQ Sy (ck dA (pv 1) bO (λ_ _=>rfl)) vp (dy _)) (bS (cr (pv 3))) dD) (bS (cr (Ks PySem.F.slot_tuple_index PySem.F.type_tuple_index Pn (ck d9 (dP (pv 0) zZ) (pv 2) (λ_ _=>rfl)) (bK (ck dA (pv 1) bO (λ_ _=>rfl)) bJ))))),?_];cases z with
 |none=>
  exact#[_,zZ,n,_,_,_,zZ,zZ,S2 o,zZ,zZ,_,zZ,eK #[_,zZ,k]]
 |some j=>
  refine#[_,zZ,n,_,_,_,zZ,zZ,S2 o,zZ,zZ,_,zZ,dv ?_];refine#[_,zZ,q,C,B,_,_,zZ,G,P3.cl,P3.no,vr,_,zZ,g,_,_,_,zZ,zZ,S1 I,ge (j:=a) (v:= .ref c) (by rw[bZ,d];rfl),?_];have J:(L.gs.getD a []).map nv=(zN (L.gs.getD a [])).map V.int:=by unfold zN;rw[List.map_map];rfl
  have i:=e;rw[J]at i;refine#[#[c,_,zZ,e],_,zZ,n,_,_,_,zZ,zZ,S2 o,zZ,c,zN (L.gs.getD a []),_,zZ,zZ,S2 i,u5.mpr (mem j zZ),?_];rw[IK];exact k
def N9{C:Ad}(F:Fun K "pair_behind" "LevelParts.pair_behind" DK f fd)(P3:OwnC K C [sA,sG,sH,sQ,sN])(B:fg P w K mg base C "turned" 3 [sB,tV,tR] (fR C))(D:fg P w K mg base C "brought" 1 [sB,tV,tR,"bringing"] (fN C)):FnOk P w K mg base b9 5 f fd [sB,tV,tO] (iH C):=by
 refine F.ok Se (λG A b s H M Q E l h=>?_)
 obtain⟨q,n,c,m,o,L,d,p,rfl,e,v,i,x,lt,I,mem,J,k⟩:=h;obtain⟨y,g,t,u,N,z,_⟩:=id e;refine#[_,(bS (cr (kh (cf (bI (eX (pv 0) P3.cl B l.m (cf (bI (pv 1) (bI (ck dA (pv 2) bO (λ_ _=>rfl)) ce zZ) zZ))) (bI (eX (pv 0) P3.cl D l.m (cf (bI (pv 1) (bI (ck dA (pv 2) bO (λ_ _=>rfl)) (bI (ck dA (pv 2) bO (λ_ _=>rfl)) ce zZ) zZ) zZ))) ce zZ) zZ))))),?_];refine#[_,zZ,q,y,_,zZ,z,(by kernel_rfl),_,zZ,_,zZ,c,_,_,_,zZ,zZ,S2 i,zZ,q,n,m,o,L,d,p.1,zZ,e,v,x,lt,I,mem,λO a=>?_];refine#[_,zZ,q,y,_,zZ,a _ _ z,(by kernel_rfl),_,zZ,_,zZ,c,_,_,_,zZ,zZ,S2 (a _ _ i),zZ,_,zZ,c,_,_,_,zZ,zZ,S2 (a _ _ i),zZ,q,n,m,o,L,d,p.1,p.2,zZ,e.keeps a.keeps,v.same a,x,J,by show 2<=sizeLine;decide,λr j=>?_];exact k r _ (a.trans (bV j _)) bG
inductive gC(f CR:Ad)(g:List V)(H:Hp)(Q:VK)(d:XK):Prop|mk:∀(p l m:Ad) (j:As) (b:LN) (n:Nat) (e:LN) (a:List Lv) (prs:List (Nat×Nat)) (lt k:Nat),g=[.ref p,.ref l,nv lt]->RowAt f CR H p m b n a->Mach H m b n->RowOf b n e a->H l=some (.lst (j.map .ref))->PairsAt H j (prs.take k)->prs.length=a.length->k<=a.length->((∀(i:Nat) (L:Lv) (p:Nat×Nat),a[i]?=some L->prs[i]?=some p->PairOk L p))->lt<b.length->(∀r h t o q c,Same H c->c r=some (.tup [.ref h,.ref t,.ref o])->c h=some (.tup ((fS b n a prs k).map nv))->c t=some (.tup ((kq b n a prs lt k).map nv))->c o=some (.lst (q.map .ref))->PairsAt c q (mh b n a prs lt k)->Q (.ref r) c)->gC f CR g H Q d
inductive io(g CR:Ad)(h:List V)(H:Hp)(Q:VK)(d:XK):Prop|mk:∀(p i m:Ad) (b:LN) (n:Nat) (e:LN) (c:List Lv) (a:bB) (lt:Nat),h=[.ref p,.ref i,nv lt]->RowAt g CR H p m b n c->Mach H m b n->RowOf b n e c->H i=some (.tup (a.map nv))->RowIn c a->lt<b.length->(∀t f,Same H f->f t=some (.tup ((tz b n c a lt).map nv))->Q (.ref t) f)->io g CR h H Q d
def Nx{C CR:Ad}(F:Fun K "walked" "Row.walked" DU f fd)(P3:OwnC K C [sA,sG,sH,sQ,sN])(S0:OwnC K CR [sC,tE])(jX:fg P w K mg base C "deed_of" 5 [sB,sM,wX,sK] (jz C K))(jO:fg P w K mg base C "pair_behind" 5 [sB,tV,tO] (iH C))(jC:fg P w K mg base C wH 1 [sB,sM,tO] (dZ C))(rZ:mg "zip"=none):FnOk P w K mg base b9 7 f fd [sB,tT,sK] (gC C CR):=by
 refine F.ok jM (λao A ai s H vs Q E hr h=>?_)
 obtain⟨p,l,m,as,c,n,aj,D,prs,lt,k,rfl,RA,M,R,el,PA,hl,kl,po,ll,q⟩:=h;have hu:=hr.units;obtain⟨dx,r,st,qs,h1,h2,h3,S⟩:=id RA;have lq:=S.len;have ap:=R.few;have la:as.length=k:=by rw[PA.len,fh];lia
 refine#[_,(bQ (cj (i:=3) jM.nd zZ Z' (dP (pv 0) zZ)) (bQ (cj (i:=4) jM.nd zZ Z' (dP (pv 0) zZ)) (bQ (cj (i:=5) jM.nd zZ Z' (gT bJ)) (bQ (fY fF zZ (EZ zZ rZ (cf (bI (dP (pv 0) zZ) (bI (pv 1) ce zZ) zZ))) (zV zZ (oj (eR (i:=6) jM.nd zZ Z') (oj (eR (i:=7) jM.nd zZ Z') y9))) (bQ (cj (i:=8) jM.nd zZ Z' (eX (pv 6) P3.cl jO hr.m (cf (bI (eX (pv 6) P3.cl jX hr.m (cf (bI (pv 3) (bI (pv 4) (bI (pv 2) ce zZ) zZ) zZ))) (bI (pv 7) ce zZ) zZ)))) (bQ (cj (i:=3) jM.nd zZ Z' (eX (pv 6) P3.cl jC hr.m (cf (bI (pv 3) (bI (pv 7) ce zZ) zZ)))) (bQ (cj (i:=4) jM.nd zZ Z' (eX (pv 6) P3.cl jC hr.m (cf (bI (pv 4) (bI (pv 8) ce zZ) zZ)))) (bS (i3 (gJ iE lM kS lL (pv 5) (bK (pv 8) bJ)))))))) (bS (cr (kh (cf (bI (pv 3) (bI (pv 4) (bI (pv 5) ce zZ) zZ) zZ))))))))),?_];refine#[_,zZ,p,CR,dx,_,_,zZ,h1,S0.cl,S0.no,BV,?_];refine#[_,zZ,p,CR,dx,_,_,zZ,h1,S0.cl,S0.no,BV,?_];refine#[by show 0<=sizeLine;decide,λT aa=>?_];have U:=bV aa (.lst [])
 let Pv:Nat->L2.St->Hp->Prop:=λi σ Y=>Same H Y/\∃(h t:Ad) (N:As) (o6 o7 o8:Option V),Y h=some (.tup ((fS c n D prs i).map nv))/\Y t=some (.tup ((kq c n D prs lt i).map nv))/\Y T=some (.lst (N.map .ref))/\PairsAt Y N (mh c n D prs lt i)/\σ=[some (.ref p),some (.ref l),some (nv lt),some (.ref h),some (.ref t),some (.ref T),o6,o7,o8]
 refine#[_,zZ,p,CR,dx,_,_,zZ,U _ _ h1,S0.cl,S0.no,zy,_,zZ,st,l,_,_,zZ,S1 (U _ _ h3),S1 (U _ _ el),De (xs:=qs.map .ref) (ys:=as.map .ref) Pv #[U,r,r,[],_,_,_,U _ _ h2,U _ _ h2,bG,#[zZ,λi a p e=>by simp at e],zZ] (λi σ Y p=>#[S1 (p.1 _ _ h3),S1 (p.1 _ _ el)]) (λi x y Tp σ H1 hx hy nT pv=>?_) (λσ H1 pv=>?_)]
 .obtain⟨g1,h,t,N,o6,o7,o8,eh,et,ef,d,rfl⟩:=pv;rw[bZ]at hx hy;obtain⟨b,eb,rfl⟩:=dm.mp hx;obtain⟨G,ab,rfl⟩:=dm.mp hy;have li:=(bU.mp eb).1;have lk:=(bU.mp ab).1;obtain⟨L,I⟩:∃L,D[i]?=some L:=#[_,bE ()];obtain⟨o,j⟩:∃o,prs[i]?=some o:=#[_,bE ()];have ok:=R.ok L (cb I);have J:=Bq M R hl po ll i ();have pk:=po i L o I j;obtain⟨n1,n2,n3,n4⟩:=El M R I pk ll J.hf J.hp J.tf J.s;have le:=d.len;rw[ux hl ()]at le;have kT:=bV nT (.tup [.ref b,.ref G]);have eT:bC H1 Tp (.tup [.ref b,.ref G]) Tp=some (.tup [.ref b,.ref G]):=bG;generalize bC H1 Tp (.tup [.ref b,.ref G])=H2 at kT eT|-;have g2:=g1.trans kT;have SA:=(S.is i b L eb I).keeps g2.keeps;obtain⟨v,g,tt,u,gr,s1,_⟩:=id SA;have ae:H G=some (.tup [nv o.1,nv o.2]):=PA.is i G o ab (by rw[AE ()];exact j);have pm:=ok.pm M R.ff (cb (gD pk.g));have gl:(L.gs.getD o.1 []).length=L.us.length:=by rw[pm.length_eq,mC]
  have few:=(ok.p.inU M R.ff).2;refine#[Tp,_,zZ,S2 eT,zZ,_,_,zZ,_,_,zZ,zZ,?_];refine#[_,zZ,b,v,_,zZ,s1,(by kernel_rfl),_,zZ,b,v,_,zZ,s1,(by kernel_rfl),_,zZ,_,zZ,_,zZ,b,h,t,m,c,n,aj,L,_,_,lt,zZ,SA,M.same g2,R.ff,ok,kT _ _ eh,kT _ _ et,J.hf,ll,λct no=>HM M R I ll J.hf J.hp J.s ct no,λda H3 z DA=>?_];have g3:=kT.trans z;have ak:=g1.trans g3;have af:=SA.keeps z.keeps;have dl:∀x∈L.gs.getD o.1 [],x<(fL c L (fS c n D prs i) (kq c n D prs lt i) lt).1.length:=λx hx=>by
   have xl:x<L.us.length:=fb.mp (pm.mem_iff.mp hx);have ed:(fL c L (fS c n D prs i) (kq c n D prs lt i) lt).1.length=L.us.length:=by
    unfold fL;split
    .split
     .show(iR _ _ _ _).length=_;unfold iR;rw[bF,xq]
     .exact mC
    .exact mC
   rw[ed];exact xl
  refine#[_,zZ,b,da,G,m,c,L,_,o,zZ,af,DA,ak _ _ ae,pk.g,dl,(),n3,n4,λen H4 B e4=>?_];have g4:=g3.trans B;have ag:=g1.trans g4;have ah:=af.keeps B.keeps;refine#[_,zZ,b,v,_,zZ,(z.trans B) _ _ s1,(by kernel_rfl),_,zZ,_,zZ,b,h,G,m,c,L,_,o,zZ,ah,g4 _ _ eh,ag _ _ ae,ok.wok M R.ff pk,λh' al=>?_];refine#[_,zZ,b,v,_,zZ,(z.trans B) _ _ s1,(by kernel_rfl),_,zZ,_,zZ,b,t,en,m,c,L,_,_,zZ,ah,g4 _ _ et,e4,ok.wok M R.ff n1,λt' am=>?_];have O:=g4 _ _ ef;refine#[_,zZ,.inl #[zZ,_,S1 O],_,zZ,T,_,_,zZ,zZ,O,by rw[bF,cH];lia,?_];have lo:At H4 (bC H4 T (.lst (N.map V.ref++[.ref en]))):=Stays.offL O;refine#[gk ag aa,h',t',N++[en],_,_,_,?_,?_,by rw[bG,dC];rfl,?_,zZ]
  .rw[sh I j];exact lo.a al
  .rw[FS I j];exact lo.a am
  .rw[Dl I j];exact((d.st (xu g4)).st lo).snoc (lo.a e4)
 .obtain⟨g1,h,t,N,o6,o7,o8,eh,et,ef,d,rfl⟩:=pv;have lm:min (qs.map V.ref).length (as.map V.ref).length=k:=by rw[bF,bF,lq,la];lia
  rw[lm]at eh et d;refine#[_,zZ,_,zZ,_,zZ,by show 3<=sizeLine;decide,λrr an=>?_];have kr:=bV an (.tup [.ref h,.ref t,.ref T]);exact q rr h t T N _ (g1.trans kr) bG (kr _ _ eh) (kr _ _ et) (kr _ _ ef) (d.st (xu kr))
def RX{c CR:Ad}(F:Fun K "moved" "Row.moved" GH f fd)(S0:OwnC K CR [sC,tE])(B:fg P w K mg base CR "paired" 3 [sB,sF] (fy c CR))(C:fg P w K mg base CR "walked" 7 [sB,tT,sK] (gC c CR))(D:fg P w K mg base CR "unpaired" 3 [sB,tT] (dH c CR)):FnOk P w K mg base b9 9 f fd [sB,sF,sK] (io c CR):=by
 refine F.ok Of (λG A g s H vs Q E i h=>?_)
 obtain⟨p,I,m,j,n,k,a,b,lt,rfl,d,M,R,o,y,J,q⟩:=h;obtain⟨u,r,st,qs,v,_⟩:=id d;have x:(me a b).length=a.length:=om (bR _);refine#[_,(bS (cr (eX (pv 0) S0.cl D i.m (bK (ck dA (eX (pv 0) S0.cl C i.m (cf (bI (eX (pv 0) S0.cl B i.m (bK (pv 1) bJ)) (bI (pv 2) ce zZ) zZ))) bO (λ_ _=>rfl)) bJ)))),?_];refine#[_,zZ,p,u,_,zZ,v,(by kernel_rfl),_,zZ,p,u,_,zZ,v,(by kernel_rfl),_,zZ,p,u,_,zZ,v,(by kernel_rfl),_,zZ,p,I,m,j,n,a,b,zZ,d,R.few,o,y.len,λl L H1 e nl N PA=>?_];refine#[_,zZ,p,l,m,L,j,n,k,a,me a b,lt,a.length,zZ,d.keeps e.keeps,M.same e,R,N,by rw[<-x,fZ];exact PA,x,bR _,y.po M R,J,λO h t T U H2 z Y eh et ef PE=>?_];refine#[O,_,_,_,zZ,zZ,S2 Y,zZ,p,T,m,U,j,n,a,_,zZ,d.keeps (e.trans z).keeps,R.few,ef,PE,ux x (bR _),λtt H3 g3 e3=>?_];exact q tt H3 ((e.trans z).trans g3) e3
def SqL.keeps{K:S4}{H b:Hp}{a:Ad}{xs:List V}(h:SqL K H a xs)(g:Keeps H b):SqL K b a xs:=by
 rcases h with(h|⟨o,h⟩)|h
 .exact .inl (.inl (g _ _ (nU h)))
 .exact .inl (.inr #[o,g _ _ (nU h)])
 .exact .inr h
def mQ(a:LN)(L:Lv)(here:bB)(room:Nat):Nat×Nat:=if here∈L.c then(0,iy (dU a L here) [room])else(0,0)
def hI(a:LN)(n:Nat)(b:List Lv)(room:Nat):Nat->List Nat
 |0=>List.range n
 |i+1=>match b[i]? with
  |some L=>eQ a L (hI a n b room i) (mQ a L (hI a n b room i) room)
  |none=>hI a n b room i
def Cu{a:LN}{n:Nat}{b:List Lv}{room i:Nat}{L:Lv}(e:b[i]?=some L):hI a n b room (i+1)=eQ a L (hI a n b room i) (mQ a L (hI a n b room i) room):=by
 show(match b[i]? with|some L=>_|none=>_)=_;rw[e]
def mJ(a:LN)(n:Nat)(b:List Lv)(room:Nat):Nat->List (Nat×Nat)
 |0=>[]
 |i+1=>mJ a n b room i++(match b[i]? with|some L=>[mQ a L (hI a n b room i) room]|none=>[])
def BI{a:LN}{n:Nat}{b:List Lv}{room i:Nat}{L:Lv}(e:b[i]?=some L):mJ a n b room (i+1)=mJ a n b room i++[mQ a L (hI a n b room i) room]:=by
 show mJ a n b room i++_=_;rw[e]
theorem t6{b:LN}{n:Nat}{a:List Lv}{room:Nat}:∀{i:Nat},i<=a.length->(mJ b n a room i).length=i
 |0,_=>rfl
 |i+1,h=>by
  rw[BI (bE h),cI,t6 (eM h)];rfl
def HB{b:LN}{n:Nat}{a:List Lv}{room i:Nat}{L:Lv}(e:a[i]?=some L):(mJ b n a room a.length)[i]?=some (mQ b L (hI b n a room i) room):=by
 have c:=(bU.mp e).1;obtain⟨r,z⟩:=xg (t:=mJ b n a room) (λi=>#[_,zZ]) (show i+1<=a.length from c);rw[z,BI e,dR,dO (by rw[t6 (eM c)];exact bR _),t6 (eM c),mO];rfl
def pM(b:LN)(n:Nat)(a:List Lv)(room:Nat):bB:=rh a (mJ b n a room a.length)
section
variable{H:Hp}{m:Ad}{ts:LN}{n:Nat}{b:LN}{a:List Lv}
def LvOk.rof(M:Mach H m ts n)(a:FamOf ts n b){L:Lv}(ok:LvOk ts b L){here:bB}{room:Nat}(d:room∈here)(i:here∈b):PairOk L (mQ ts L here room)/\room∈eQ ts L here (mQ ts L here room)/\(here∈L.c->∃t∈dU ts L here,sub [room] t=true):=by
 have g0:=ok.g0 M a;have j:=GZ M a ok.p;have k:=(bH.mp (a.inU M i)).2 room d;unfold mQ;by_cases c:here∈L.c
 .rw[wB c];have l:[room]≠here:=λe=>by
   have:=(ok.big_len c).1;rw[<-e]at this;exact wC this (mR 1)
  have g:=ok.has_tile M a c ((a.mem _).mpr (.inr #[room,k,zZ])) l (bY.mpr λr h=>by rw[ci.mp h];exact d);obtain⟨_,f,s⟩:=Fv g;rw[xq]at f;refine#[#[g0,f],?_,λ_=>g];rw[CT c,ok.tile0 M a f];exact bY.mp s room (ci.mpr zZ)
 .rw[wA c];refine#[#[g0,j],?_,λh=>wC h c];unfold eQ;rw[wA c];exact d
theorem BZ(M:Mach H m ts n)(R:RowOf ts n b a){room:Nat}(d:room<n):∀i,room∈hI ts n a room i/\hI ts n a room i∈b
 |0=>#[fb.mpr d,zM R.ff]
 | i+1=>by
  obtain⟨f,c⟩:=BZ M R d i;cases e:a[i]? with
  | none=>
   have z:hI ts n a room (i+1)=hI ts n a room i:=by
    show(match a[i]? with|some L=>_|none=>_)=_;rw[e]
   rw[z];exact#[f,c]
  |some L=>
   have ok:=R.ok L (cb e);obtain⟨g,h,_⟩:=ok.rof M R.ff f c;rw[Cu e];exact#[h,ok.wthn_fam M R.ff c g]
def Hm(M:Mach H m ts n)(R:RowOf ts n b a){room:Nat}(f:room<n)(i:Nat)(L:Lv)(p:Nat×Nat)(d:a[i]?=some L)(e:(mJ ts n a room a.length)[i]?=some p):PairOk L p/\p.1=0:=by
 rw[HB d]at e;cases e;obtain⟨g,h⟩:=BZ M R f i;refine#[((R.ok L (cb d)).rof M R.ff g h).1,?_];unfold mQ;by_cases c:hI ts n a room i∈L.c
 .rw[wB c]
 .rw[wA c]
def JF(M:Mach H m ts n)(R:RowOf ts n b a){room:Nat}(c:room<n):RowIn a (pM ts n a room):=JE (t6 (bR _)) λi L p d e=>(Hm M R c i L p d e).1
theorem K8{room:Nat}:∀i,i<=a.length->fS ts n a (mJ ts n a room a.length) i=hI ts n a room i
 |0,_=>rfl
 |i+1,h=>by
  have b:=bE (show i<a.length from h);rw[sh b (HB b),K8 i (eM h),Cu b]
def GR(M:Mach H m ts n)(R:RowOf ts n b a){room:Nat}(e:room<n):jm ts n a (pM ts n a room)=room:=by
 have po:=Hm M R e;have f:(mJ ts n a room a.length).length=a.length:=t6 (bR _);unfold jm pM;rw[JQ f λi L p c d _=>(po i L p c d).2];obtain⟨g,j⟩:=BZ M R e a.length;have h:=J9 M R f (λi L p c d=>(po i L p c d).1) a.length (bR _);rw[K8 _ (bR _)]at h|-;obtain⟨r,k,_⟩:=DF M R j h;rw[k]at g|-;exact(ci.mp g).symm
end
inductive fA(f CR:Ad)(g:List V)(H:Hp)(Q:VK)(b:XK):Prop|mk:∀(p m:Ad) (a:LN) (n:Nat) (c:LN) (d:List Lv) (room:Nat),g=[.ref p,nv room]->RowAt f CR H p m a n d->Mach H m a n->RowOf a n c d->room<n->(∀t e,Same H e->e t=some (.tup ((pM a n d room).map nv))->Q (.ref t) e)->fA f CR g H Q b
def OH{B CR:Ad}(F:Fun K "row_of" "Row.row_of" D9 f fd)(P3:OwnC K B [sA,sG,sH,sQ,sN])(S0:OwnC K CR [sC,tE])(jG:fg P w K mg base B xH 3 [sB,sM,sC] (gm B))(jC:fg P w K mg base B wH 1 [sB,sM,tO] (dZ B))(jS:fg P w K mg base CR "unpaired" 3 [sB,tT] (dH B CR)):FnOk P w K mg base b9 5 f fd [sB,tI] (fA B CR):=by
 refine F.ok kR (λai A aa s H vs Q E hr h=>?_)
 obtain⟨p,m,o,n,aj,C,room,rfl,RA,M,R,ab,q⟩:=h;have hu:=hr.units;have ae:=ik hr;obtain⟨dx,r,st,qs,h1,h2,h3,S⟩:=id RA;have lq:=S.len;have ak:=R.few;refine#[_,(bQ (cj (i:=2) kR.nd zZ Z' (dP (pv 0) zZ)) (bQ (cj (i:=3) kR.nd zZ Z' (gT bJ)) (bQ (fY fF zZ (fH (dP (pv 0) zZ)) (eR (i:=4) kR.nd zZ Z') (bQ (cj (i:=5) kR.nd zZ Z' (kh (cf (bI bO (bI (P4 (sn (zJ ae (pv 2) (dP (pv 4) zZ))) (eX (pv 4) P3.cl jG hr.m (cf (bI (pv 2) (bI (kh (bK (pv 1) bJ)) ce zZ) zZ))) bO) ce zZ) zZ)))) (bQ (cj (i:=2) kR.nd zZ Z' (eX (pv 4) P3.cl jC hr.m (cf (bI (pv 2) (bI (pv 5) ce zZ) zZ)))) (bS (i3 (gJ iE lM kS lL (pv 3) (bK (pv 5) bJ))))))) (bS (cr (eX (pv 0) S0.cl jS hr.m (bK (pv 3) bJ))))))),?_];refine#[_,zZ,p,CR,dx,_,_,zZ,h1,S0.cl,S0.no,BV,?_];refine#[by show 0<=sizeLine;decide,λG I=>?_];have k0:=bV I (.lst [])
 let Pv:Nat->L2.St->Hp->Prop:=λi σ H'=>Same H H'/\∃(h:Ad) (D:As) (o4 o5:Option V),H' h=some (.tup ((hI o n C room i).map nv))/\H' G=some (.lst (D.map .ref))/\PairsAt H' D (mJ o n C room i)/\σ=[some (.ref p),some (nv room),some (.ref h),some (.ref G),o4,o5]
 refine#[_,zZ,p,CR,dx,_,_,zZ,k0 _ _ h1,S0.cl,S0.no,zy,st,zZ,#[_,S1 (k0 _ _ h3)],oo (xs:=qs.map .ref) Pv #[k0,r,[],_,_,k0 _ _ h2,bG,#[zZ,λi a p e=>by simp at e],zZ] (λi σ H' _ p=>S1 (p.1 _ _ h3)) (λi v σ H1 hv pv=>?_) (λσ H1 pv=>?_)]
 .obtain⟨J,h,D,o4,o5,eh,ef,x,rfl⟩:=pv;rw[bZ]at hv;obtain⟨b,eb,rfl⟩:=dm.mp hv;have li:=(bU.mp eb).1;obtain⟨L,eL⟩:∃L,C[i]?=some L:=#[_,bE ()];have ok:=R.ok L (cb eL);obtain⟨i1,i2⟩:=BZ M R ab i;obtain⟨po,_,ext⟩:=ok.rof M R.ff i1 i2;have SA:=(S.is i b L eb eL).keeps J.keeps;obtain⟨z,g,t,u,gr,s1,s2,s3,⟨af,t1,t2,t3⟩,_⟩:=id SA;have la:=x.len;rw[t6 ()]at la;have nd:=ok.p.nd R.ff;obtain⟨d,j⟩:∃d,d=mQ o L (hI o n C room i) room:=#[_,zZ];rw[<-j]at po;have wk:=ok.wok M R.ff po;by_cases c:hI o n C room i∈L.c
  .have dg:∃a,DGet H1 t (.ref h) (some (.ref a)):=by
    obtain⟨l1,l2⟩:=jp c;obtain⟨a,ea⟩:∃a,af[dB L.c (hI o n C room i)]?=some a:=#[_,bE ()];exact#[a,xx nd t1 eh l2 ea]
   obtain⟨a,dg⟩:=dg;refine#[_,zZ,_,zZ,b,B,z,_,_,zZ,s1,P3.cl,P3.no,nY,t,_,zZ,dg,_,zZ,eK ?_];refine#[_,zZ,b,z,_,zZ,s1,(by kernel_rfl),_,zZ,_,zZ,by show 1<=sizeLine;decide,λsg ag=>?_];have k1:=bV ag (.tup [nv room]);refine#[b,h,sg,m,o,L,_,[room],zZ,SA.keeps k1.keeps,k1 _ _ eh,bG,c,nd,ok.p.len,(ok.p.inU M R.ff).2,by show 1<=5;decide,ext c,λH2 ah=>?_];have g2:=k1.trans ah;have N:d=(0,iy (dU o L (hI o n C room i)) [room]):=by rw[j];unfold mQ;rw[wB c]
   refine#[by show 2<=sizeLine;decide,λy O=>?_];have kp:=bV O (.tup [nv d.1,nv d.2]);have T:bC H2 y (.tup [nv d.1,nv d.2]) y=some (.tup [nv d.1,nv d.2]):=bG;have k:=g2.trans kp;rw[show(HO.tup [V.int 0,nv (iy (dU o L (hI o n C room i)) [room])])=HO.tup [nv d.1,nv d.2] by rw[N];rfl];generalize bC H2 y (.tup [nv d.1,nv d.2])=H3 at kp T k|-;have U:=SA.keeps k.keeps;refine#[_,zZ,b,z,_,zZ,k _ _ s1,(by kernel_rfl),_,zZ,_,zZ,b,h,y,m,o,L,_,d,zZ,U,k _ _ eh,T,wk,λa' Y=>?_];have l:=k _ _ ef;refine#[_,zZ,.inl #[zZ,_,S1 l],_,zZ,G,_,_,zZ,zZ,l,by rw[bF,cH];lia,?_];have lo:At H3 (bC H3 G (.lst (D.map V.ref++[.ref y]))):=Stays.offL l;refine#[gk (J.trans k) I,a',D++[y],_,_,?_,by rw[bG,dC];rfl,?_,zZ]
   .rw[Cu eL,<-j];exact lo.a Y
   .rw[BI eL,<-j];exact((x.st (xu k)).st lo).snoc (lo.a T)
  .refine#[_,zZ,_,zZ,b,B,z,_,_,zZ,s1,P3.cl,P3.no,nY,t,_,zZ,Bx t1 eh c,_,zZ,dv ?_];have g2:Same H1 H1:=Same.refl _;have N:d=(0,0):=by rw[j];unfold mQ;rw[wA c]
   refine#[by show 2<=sizeLine;decide,λy O=>?_];have kp:=bV O (.tup [nv d.1,nv d.2]);have T:bC H1 y (.tup [nv d.1,nv d.2]) y=some (.tup [nv d.1,nv d.2]):=bG;have k:=g2.trans kp;rw[show(HO.tup [V.int 0,V.int 0])=HO.tup [nv d.1,nv d.2] by rw[N];rfl];generalize bC H1 y (.tup [nv d.1,nv d.2])=H3 at kp T k|-;have U:=SA.keeps k.keeps;refine#[_,zZ,b,z,_,zZ,k _ _ s1,(by kernel_rfl),_,zZ,_,zZ,b,h,y,m,o,L,_,d,zZ,U,k _ _ eh,T,wk,λa' Y=>?_];have l:=k _ _ ef;refine#[_,zZ,.inl #[zZ,_,S1 l],_,zZ,G,_,_,zZ,zZ,l,by rw[bF,cH];lia,?_];have lo:At H3 (bC H3 G (.lst (D.map V.ref++[.ref y]))):=Stays.offL l;refine#[gk (J.trans k) I,a',D++[y],_,_,?_,by rw[bG,dC];rfl,?_,zZ]
   .rw[Cu eL,<-j];exact lo.a Y
   .rw[BI eL,<-j];exact((x.st (xu k)).st lo).snoc (lo.a T)
 .obtain⟨J,h,D,o4,o5,eh,ef,x,rfl⟩:=pv;rw[bF,lq]at x;refine#[_,zZ,p,dx,_,zZ,J _ _ h1,(by kernel_rfl),_,zZ,p,G,m,D,o,n,C,_,zZ,RA.keeps J.keeps,R.few,ef,x,t6 (bR _),λt H2 g2 e2=>?_];exact q t H2 (J.trans g2) e2
def cY{c:Int}{k:Nat}(h:0<k):∃r:Nat,V.int (c%(k:Int))=nv r/\r<k:=by
 have a:=Gy c (show((k:Nat):Int)≠0 by lia);have b:=Ge c (show(0:Int)<((k:Nat):Int) by lia);exact#[(c%(k:Int)).toNat,by show V.int _=V.int _;rw[Int.toNat_of_nonneg a],()]
def iu(b:LN)(n:Nat)(c:List Lv)(a word:bB):bB:=word.foldl (tz b n c) a
theorem BP{H:Hp}{m:Ad}{b:LN}{n:Nat}{d:LN}{c:List Lv}(M:Mach H m b n)(R:RowOf b n d c):∀{word a:bB},(∀l∈word,l<b.length)->RowIn c a->RowIn c (iu b n c a word)
 | [],_,_,h=>h
 |l::word,_,e,h=>BP M R (word:=word) (λx f=>e x (dS _ f)) (Jd M R h (e l (cR ..)))
def LA{b:LN}{n:Nat}{c:List Lv}{a word:bB}{l:Nat}:iu b n c a (word++[l])=tz b n c (iu b n c a word) l:=by
 unfold iu;rw[oJ];rfl
inductive iJ(g CR:Ad)(K:S4)(h:List V)(H:Hp)(Q:VK)(d:XK):Prop|mk:∀(p i j m:Ad) (b:LN) (n:Nat) (e:LN) (c:List Lv) (a word:bB),h=[.ref p,.ref i,.ref j]->RowAt g CR H p m b n c->Mach H m b n->RowOf b n e c->H i=some (.tup (a.map nv))->RowIn c a->H j=some (.lst (word.map nv))->(∀l∈word,l<b.length)->(∀t f,Same H f->f t=some (.tup ((iu b n c a word).map nv))->Q (.ref t) f)->iJ g CR K h H Q d
def O9{B CR:Ad}(F:Fun K "gone" "Row.gone" Gu f fd)(S0:OwnC K CR [sC,tE])(O:fg P w K mg base CR "moved" 9 [sB,sF,sK] (io B CR)):FnOk P w K mg base b9 11 f fd [sB,sF,sW] (iJ B CR K):=by
 refine F.ok uB (λT A g s H vs Q E U h=>?_)
 obtain⟨p,Y,C,m,j,n,k,o,b,word,rfl,D,M,R,u,ri,c,G,q⟩:=h;obtain⟨dx,r,st,qs,h1,_⟩:=id D;refine#[_,(bQ (fY fF zZ (fH (pv 2)) (eR (i:=3) uB.nd zZ Z') (bS (cj (i:=1) uB.nd zZ Z' (eX (pv 0) S0.cl O U.m (cf (bI (pv 1) (bI (pv 3) ce zZ) zZ)))))) (bS (cr (pv 1)))),?_]
 let Pv:Nat->L2.St->Hp->Prop:=λi d y=>Same H y/\∃(t:Ad) (z:Option V),y t=some (.tup ((iu j n o b (word.take i)).map nv))/\d=[some (.ref p),some (.ref t),some (.ref C),z]
 refine#[_,zZ,C,zZ,#[_,S1 c],oo (xs:=word.map nv) Pv #[Same.refl _,Y,_,u,zZ] (λi d y _ p=>S1 (p.1 _ _ c)) (λi v d I J pv=>?_) (λd I pv=>?_)]
 .obtain⟨a,t,z,e,rfl⟩:=pv;rw[bZ]at J;obtain⟨l,L,rfl⟩:=dm.mp J;have rt:=BP M R (λx hx=>G x (qk hx)) ri (word:=word.take i);refine#[_,zZ,p,dx,_,zZ,a _ _ h1,(by kernel_rfl),_,zZ,_,zZ,p,t,m,j,n,k,o,_,l,zZ,D.keeps a.keeps,M.same a,R,e,rt,G l (cb L),λN H2 g2 e2=>?_];refine#[a.trans g2,N,_,?_,zZ];rw[gQ,L];show H2 N=some (.tup ((iu j n o b (word.take i++[l])).map nv));rw[LA];exact e2
 .obtain⟨a,t,z,e,rfl⟩:=pv;rw[bF,fZ]at e;exact#[_,zZ,q t I a e]
def cA{H:Hp}{a:Ad}:Same (L2.drop H a) H:=λb o c=>by
 by_cases e:b=a
 .subst e;rw[ky]at c;cases c
 .rw[db e]at c;exact c
def mM{H d:Hp}{a:Ad}(g:Same H d):Same (L2.drop H a) (L2.drop d a):=λb o c=>by
 by_cases e:b=a
 .subst e;rw[ky]at c;cases c
 .rw[db e]at c|-;exact g _ _ c
def oT{H:Hp}{a:Ad}{o:HO}:L2.drop (bC H a o) a=L2.drop H a:=by
 funext b
 by_cases e:b=a
 .subst e;rw[ky,ky]
 .rw[db e,db e,bL e]
def iV(a b c d:Ad):List (Str×V):=[(sO,.ref a),(sA,.ref b),(sF,.ref c),(sM,.ref d)]
section
variable{a b c d:Ad}
def G8:(iV a b c d).lookup (sO:Str)=some (.ref a):=by kernel_rfl
def ON:(iV a b c d).lookup (sA:Str)=some (.ref b):=by kernel_rfl
def FV:(iV a b c d).lookup (sF:Str)=some (.ref c):=by kernel_rfl
def E9:(iV a b c d).lookup (sM:Str)=some (.ref d):=by kernel_rfl
end
def Stays.offD{H:Hp}{p C d:Ad}{fs:List (Str×V)}(h:H p=some (.ins C d fs)):Stays vy H (L2.drop H p):=λb u n a=>by
 rw[db (ju a h λe=>by rw[e]at n;cases n)];exact a
def Js{C a d b:Ad}{k:Str}{v c:V}{l f:List (Str×V)}(g:k≠(sO:Str)):HO.ins C d ((k,v)::l)≠ .ins a b ((sO,c)::f):=λe=>by
 injection e with _ _ e
 injection e with e _
 injection e with e _
 exact g e
def RowAt.offH{e CR:Ad}{H:Hp}{f m p C d:Ad}{j:LN}{n:Nat}{k:List Lv}{v:V}{l:List (Str×V)}(h:RowAt e CR H f m j n k)(a:H p=some (.ins C d ((sO,v)::l))):RowAt e CR (L2.drop H p) f m j n k:=by
 obtain⟨b,r,s,x,o,y,z,S⟩:=h;have lo:Stays vy H (L2.drop H p):=Stays.offD a;refine#[b,r,s,x,?_,lo.a y,lo.a z,S.len,λi q L A B=>?_]
 .rw[db (ju o a (Js (by decide+kernel)))];exact o
 .obtain⟨b,g,t,u,D,w,E,G,⟨I,J,M,N⟩,c,O,Q,T⟩:=S.is i q L A B;refine#[b,g,t,u,D,?_,lo.a E,lo.tups G,#[I,lo.a J,M,N.lts lo],c,lo.a O,Q,T.lts lo];rw[db (ju w a (Js (by decide+kernel)))];exact w
def Mach.lts{f:HO->Bool}{H a:Hp}{m:Ad}{b:LN}{n:Nat}(M:Mach H m b n)(g:Stays f H a)(c:∀d,f (.tup d)=false:=by intro;rfl):Mach a m b n:=
 #[let⟨e,h,j,k⟩:=M.refs;#[e,g _ _ (c _) h,j,λi r t l o=>g _ _ (c _) (k i r t l o)],M.some1,M.few,M.n1,M.n5,M.each]
def HallIn(g h CR:Ad)(H:Hp)(p:Ad)(i:Ss)(c:LN)(n:Nat)(j:List Lv)(a:bB):Prop:=
 ∃k d b e f,H p=some (.ins g k (iV d b e f))/\L2.drop H p d=some (.tup (i.map V.str))/\Mach (L2.drop H p) b c n/\RowAt h CR (L2.drop H p) e b c n j/\L2.drop H p f=some (.tup (a.map nv))
def HallIn.same{c e CR:Ad}{H f:Hp}{p:Ad}{i:Ss}{j:LN}{n:Nat}{k:List Lv}{b:bB}(h:HallIn c e CR H p i j n k b)(g:Same H f):HallIn c e CR f p i j n k b:=by
 obtain⟨l,m,o,q,r,s,t,u,v,w⟩:=h;have d:=mM (a:=p) g;exact#[l,m,o,q,r,g _ _ s,d _ _ t,u.same d,v.keeps d.keeps,d _ _ w]
def df(k:Nat):Str:=Str.ofString (toString (k:Int))
def B8{k:Nat}(h:k<4000):(df k).length<=4:=by
 unfold df;rw[PyProof.Rows.ofString_len];show(Nat.repr k).length<=4;rw[Nat.repr_eq_ofList_toDigits,String.length_ofList];exact(Nat.length_toDigits_le_iff (by decide) (by decide)).mpr ()
def Q7{a b:Nat}(h:df a=df b):a=b:=by
 unfold df at h;rw[Str.ofString_eq_toList,Str.ofString_eq_toList]at h;injection h with h
 have h:=cK Array.toList h;rw[vw,vw]at h;have h:(Nat.repr a).toList=(Nat.repr b).toList:=(BB λx y e=>Char.toNat_inj.mp e).mp h;exact Nat.repr_inj.mp (String.toList_inj.mp h)
def Mp(k:Nat):32∉(df k).cps.toList:=λz=>(intText_free_32 (k:Int)).mp z
def oS(a:bB):Str:=if a=[]then "none" else Txt.join #[#v[32]] (a.map df)
def pq:Str.ofString " "=(#[#v[32]]:Str):=by decide+kernel
def IM(a:Ss):Prop:=(∃y b,a=tQ::y::b)\/(∃y,a=[Str.ofString "at",y])\/a=[sF]
inductive gB(b:List V)(H:Hp)(Q:VK)(a:XK):Prop|mk:∀(l:Ad) (c:Ss),b=[.ref l]->H l=some (.lst (c.map V.str))->IM c->(∀d,Same H d->Q (.bl true) d)->gB b H Q a
inductive fW(b:List V)(H:Hp)(Q:VK)(a:XK):Prop|mk:∀z:Str,b=[.str z]->z.length<=1000->(∀l,H l=none->Q (.ref l) (bC H l (.lst ((Txt.split z #[#v[32]]).map V.str))))->fW b H Q a
inductive gN(c:List V)(H:Hp)(Q:VK)(b:XK):Prop|mk:∀(l:Ad) (a:bB),c=[.ref l]->H l=some (.lst ((a.map df).map V.str))->a.length<=100->(∀k∈a,k<4000)->Q (.str (oS a)) H->gN c H Q b
def P'(F:Fun K "is_told" "is_told" DH f fd)(c:mg "len"=none):FnOk P w K mg base b9 1 f fd [sI] gB:=by
 refine F.ok NM (λm A d s H x Q E n h=>?_)
 obtain⟨l,g,rfl,b,hw,q⟩:=h;have z:=n.units;refine#[_,(xN (hX (gX (dq (dQ gG (ck d9 (pv 0) bO (λ_ _=>rfl)) eV (dy _)) (bS (cr (lT Cn (c9 fv zZ c eU (bK (pv 0) bJ)) bO (dy _)))) dD)) (hX (gX (dq (dQ gG (ck d9 (pv 0) bO (λ_ _=>rfl)) eV (dy _)) (bS (cr (lT gG (c9 fv zZ c eU (bK (pv 0) bJ)) bO (dy _)))) dD)) (oG (BJ (mK (uw (lT JS (ck d9 (pv 0) bO (λ_ _=>rfl)) (kh (cf (bI eV (bI eV (bI eV ce zZ) zZ) zZ))) (by with_unfolding_all rfl)) (uf (lT gG (c9 fv zZ c eU (bK (pv 0) bJ)) bO (dy _)))))))))),?_];have a:∀{y:Str} {i:Ss},g=y::i->fP (g.map V.str) 0=some (.str y):=λe=>by subst e;exact ge (j:=0) rfl
 have o:decide (V.str tQ=V.str tQ)=true:=cG rfl;have p:decide (V.str (Str.ofString "at")=V.str tQ)=false:=by decide+kernel
 have r:decide (V.str sF=V.str tQ)=false:=by decide+kernel
 have u:decide (V.str sF=V.str (Str.ofString "at"))=false:=by decide+kernel
 have v:decide (V.str (Str.ofString "at")=V.str (Str.ofString "at"))=true:=cG rfl
 rcases hw with⟨y,i,e⟩|⟨y,e⟩|e
 .refine#[_,zZ,l,_,_,_,zZ,zZ,S1 b,a e,zZ,_,zZ,?_]
  try dsimp only
  rw[o];refine eK #[_,zZ,l,_,zZ,.inl (S1 b),_,_,zZ,zZ,?_]
  try dsimp only
  rw[cG (by rw[e,bF,iL,iL];lia)];exact q _ (Same.refl _)
 .refine#[_,zZ,l,_,_,_,zZ,zZ,S1 b,a e,zZ,_,zZ,?_]
  try dsimp only
  rw[p];refine dv #[_,zZ,l,_,_,_,zZ,zZ,S1 b,a e,zZ,_,zZ,?_]
  try dsimp only
  rw[v];refine eK #[_,zZ,l,_,zZ,.inl (S1 b),zZ,?_]
  try dsimp only
  rw[cG (by rw[e];rfl)];exact q _ (Same.refl _)
 .refine#[_,zZ,l,_,_,_,zZ,zZ,S1 b,a e,zZ,_,zZ,?_]
  try dsimp only
  rw[r];refine dv #[_,zZ,l,_,_,_,zZ,zZ,S1 b,a e,zZ,_,zZ,?_]
  try dsimp only
  rw[u];refine dv #[_,zZ,l,_,_,_,zZ,zZ,S1 b,a e,by show 3<=sizeLine;decide,λt ht=>?_];have k:=bV ht (.tup [V.str sF,V.str (Str.ofString "parts"),V.str (Str.ofString "about")]);refine#[t,_,zZ,.inr (S2 bG),zZ,zZ,_,zZ,?_]
  try dsimp only
  rw[show vb (V.str sF) [V.str sF,V.str (Str.ofString "parts"),V.str (Str.ofString "about")]=true by decide+kernel];refine eK #[_,zZ,l,_,zZ,.inl (S1 (k _ _ b)),zZ,?_]
  try dsimp only
  rw[cG (by rw[e];rfl)];exact q _ k
def M8(F:Fun K "words_of" "words_of" Et f fd)(b:mg "isinstance"=none)(c:mg "str"=none):FnOk P w K mg base b9 1 f fd [sF] fW:=by
 refine F.ok OF (λd A a s H i Q E e h=>?_)
 obtain⟨z,rfl,j,q⟩:=h;have k:=e.units;refine#[_,(bQ (dq (l6 (lC (c9 rB zZ b ry (cf (bI (pv 0) (bI (ug zZ c oW) ce zZ) zZ))))) (bS (cr (gT (bK eV bJ)))) dD) (bS (cr (gJ qb PySem.F.slot_str_split PySem.F.type_str_split K9 (pv 0) (bK eV bJ))))),?_];refine#[_,zZ,_,_,_,_,zZ,.str z,HF,_,zZ,dv ?_];refine#[_,zZ,zZ,z,Str.ofString " ",zZ,zZ,by decide+kernel,by rw[cH];lia,λp g=>?_];rw[pq];exact q p g
def Nl(F:Fun K "joined" "joined" GN f fd):FnOk P w K mg base b9 1 f fd [sI] gN:=by
 refine F.ok MY (λg A b s H o Q E i h=>?_)
 obtain⟨l,a,rfl,c,p,j,q⟩:=h;have r:=i.units;refine#[_,(xN (hX (gX (dq (l6 (F7 (pv 0) (λ_=>rfl))) (bS (cr eV)) dD)) (oG (BJ (yQ qb zn xM yB (mK eV) (yg (mK (pv 0)) ce zZ)))))),?_];refine#[_,zZ,!((a.map df).map V.str).isEmpty,.inl #[_,S1 c,zZ],?_];by_cases e:a=[]
 .subst e;exact eK q
 rw[show(!(((a.map df).map V.str).isEmpty))=true by cases a with|nil=>exact wC rfl e|cons _ _=>rfl];refine dv #[zZ,_,zZ,Str.ofString " ",l,a.map df,zZ,zZ,S1 c,by decide+kernel,?_,?_]
 .have:=qj (l:=a.map df) (k:=4) λy m=>by
   obtain⟨d,n,rfl⟩:=b8.mp m;exact B8 (j d n)
  rw[bF]at this|-;lia
 .unfold oS at q;rw[wA e]at q;rw[pq];exact q
def Hq{z:Str}{a:Ss}(h:z∈a):vb (.str z) (a.map V.str)=true:=by
 unfold vb;rw[zg,yx];exact#[z,h,by show(z==z)=true;exact xL z]
def Ko(a:Ss):(a.map V.str).all iY=true:=by
 rw[xh,oA];exact λ_ _=>rfl
def wy{d:Nat}(h:d<4000):((d:Nat):Int).natAbs.log2<1920:=by
 rw[Int.natAbs_natCast];by_cases z:d=0
 .subst z;decide
 .have:d.log2<12:=(Nat.log2_lt z).mpr ();lia
inductive e9(d e CR:Ad)(f:List V)(H:Hp)(Q:VK)(a:XK):Prop|mk:∀(p:Ad) (z:Str) (b:Ss) (g:LN) (n:Nat) (h:List Lv) (c:bB),f=[.ref p,.str z]->HallIn d e CR H p b g n h c->z∈b->Q (nv (b.idxOf z)) H->e9 d e CR f H Q a
inductive uc(e f CR:Ad)(k:List V)(H:Hp)(Q:VK)(g:XK):Prop|mk:∀(p l:Ad) (d:Ss) (b:LN) (n:Nat) (h:LN) (c:List Lv) (a word:bB),k=[.ref p,.ref l]->HallIn e f CR H p d b n c a->d.Nodup->d.length=b.length->RowOf b n h c->RowIn c a->(H l=some (.lst ((word.map λi=>d.getD i #[#v[]]).map V.str)))->word.length<=100->(∀i∈word,i<b.length)->(∀j,Same (L2.drop H p) (L2.drop j p)->HallIn e f CR j p d b n c (iu b n c a word)->Q (.str (df (jm b n c (iu b n c a word)))) j)->uc e f CR k H Q g
inductive iz(c d CR:Ad)(i:List V)(H:Hp)(Q:VK)(e:XK):Prop|mk:∀(p:Ad) (j:Ss) (a:LN) (n:Nat) (f:LN) (b:List Lv) (g:bB) (room:Nat),i=[.ref p,.str (df room)]->HallIn c d CR H p j a n b g->RowOf a n f b->room<n->(∀h,Same (L2.drop H p) (L2.drop h p)->HallIn c d CR h p j a n b (pM a n b room)->Q (.str "ok") h)->iz c d CR i H Q e
def RE{b e CR:Ad}(F:Fun K "letter_of" "Hall.letter_of" DO f fd)(S':OwnC K b [sO,sA,sF,sM])(_:OwnC K e [sA,sG,sH,sQ,sN])(_:OwnC K CR [sC,tE]):FnOk P w K mg base b9 1 f fd [sB,wT] (e9 b e CR):=by
 refine F.ok Oz (λl A c s H u Q E m h=>?_)
 obtain⟨p,z,g,v,n,x,o,rfl,r,i,q⟩:=h;obtain⟨j,d,y,B,C,k,t,D,G,I⟩:=id r;have J:=m.units;refine#[_,(bQ (dq (dQ K3 (pv 1) (dP (pv 0) zZ) (by with_unfolding_all rfl)) (bS mz) dD) (bS (cr (Ks PySem.F.slot_tuple_index PySem.F.type_tuple_index SI (dP (pv 0) zZ) (bK (pv 1) bJ))))),?_];have a:=cA _ _ t;refine#[_,zZ,_,zZ,p,b,j,_,_,zZ,k,S'.cl,S'.no,G8,d,_,zZ,.inr (S2 a),zZ,Ko g,_,zZ,?_]
 try dsimp only
 rw[Hq i];exact dv #[_,zZ,p,b,j,_,_,zZ,k,S'.cl,S'.no,G8,#[d,_,zZ,a],_,zZ,d,g,z,zZ,zZ,S2 a,i,q]
def vX{b B CR:Ad}(F:Fun K tQ "Hall.go" Bl f fd)(S':OwnC K b [sO,sA,sF,sM])(S0:OwnC K CR [sC,tE])(kW:fg P w K mg base b "letter_of" 1 [sB,wT] (e9 b B CR))(kX:fg P w K mg base CR "gone" 11 [sB,sF,sW] (iJ B CR K))(rT:fg P w K mg base CR "told" 5 [sB,sF] (jH B CR))(jU:mg "str"=none):FnOk P w K mg base b9 13 f fd [sB,sO] (uc b B CR):=by
 refine F.ok vK (λae A aa s H vs Q E C h=>?_)
 obtain⟨p,l,e,o,n,D,u,g,word,rfl,HI,nd,el,R,ri,hl,w1,T,q⟩:=h;obtain⟨c,m,k,d,he,h1,h2,x,U,h5⟩:=id HI;have hu:=C.units;have af:=ik C;refine#[_,(bQ (u6 (CompSc.to (N:=[sB,sO,sW]) (osc:=bT Bl) (vs:=[wT]) {}) zZ zZ vK.nd (j:=2) zZ zZ (fH (pv 1)) (λ_ _ _ _=>fG) (λ_ _ _ _=>(eX (pv 1) S'.cl kW C.m (bK (pv 0) bJ)))) (bQ (md (pv 0) (eX (dP (pv 0) zZ) S0.cl kX C.m (cf (bI (dP (pv 0) zZ) (bI (pv 2) ce zZ) zZ))) zZ) (bS (cr (f9 ue zZ jU oW (bK (eX (dP (pv 0) zZ) S0.cl rT C.m (bK (dP (pv 0) zZ) bJ)) bJ)))))),?_];have ix:∀i∈word,e.idxOf (e.getD i #[#v[]])=i:=λi G=>by
  have I:i<e.length:=by rw[el];exact T i G
  rw[cZ,bE I];exact nd.idxOf_getElem i I
 refine#[_,zZ,l,zZ,#[_,S1 hl],Fn (f:=λv=>match v with|.str z=>nv (e.idxOf z)|v=>v) (by rw[bF,bF];exact small ()) (S1 hl) (λv Q hv q=>?_) (λwo ab=>?_)]
 .obtain⟨z,hz,rfl⟩:=b8.mp hv;obtain⟨i,G,rfl⟩:=b8.mp hz;have I:i<e.length:=by rw[el];exact T i G
  have mi:e.getD i #[#v[]]∈e:=by rw[cZ,bE I];exact gh I
  exact#[_,zZ,p,c,_,zZ,h1,(by kernel_rfl),_,zZ,p,_,e,o,n,u,g,zZ,HI,mi,q]
 have ew:((word.map λi=>e.getD i #[#v[]]).map V.str).map (λv=>match v with|.str z=>nv (e.idxOf z)|v=>v)=word.map nv:=by
  rw[eJ,eJ];exact nH λi G=>cK nv (ix i G)
 rw[ew];have kw:=bV ab (.lst (word.map nv));have dw:=mM (a:=p) kw;have p1:=kw _ _ h1;obtain⟨J,r,st,qs,r1,r2⟩:=id U;have Y:Same (L2.drop H p) (bC H wo (.lst (word.map nv))):=cA.trans kw;refine#[_,zZ,p,b,c,_,_,zZ,p1,S'.cl,S'.no,FV,d,J,_,zZ,Y _ _ r1,(by kernel_rfl),_,zZ,p,b,c,_,_,zZ,p1,S'.cl,S'.no,E9,_,zZ,d,he,wo,k,o,n,D,u,g,word,zZ,U.keeps Y.keeps,x.same Y,R,Y _ _ h5,ri,bG,T,λt L g2 et=>?_];have p2:=g2 _ _ p1;refine#[_,zZ,p,b,c,_,zZ,p2,S'.cl,S'.no,by show 4<1000;decide,?_];have eF:cL sM (.ref t) (iV m k d he)=iV m k d t:=by kernel_rfl
 rw[eF];have y:Same (L2.drop H p) (L2.drop (bC L p (.ins b c (iV m k d t))) p):=by rw[oT];exact dw.trans (mM g2)
 have tp:t≠p:=nE et p2;have dt:L2.drop (bC L p (.ins b c (iV m k d t))) p t=some (.tup ((iu o n u g word).map nv)):=by rw[oT,db tp];exact et
 have M:HallIn b B CR (bC L p (.ins b c (iV m k d t))) p e o n u (iu o n u g word):=#[c,m,k,d,t,bG,y _ _ h2,x.same y,U.keeps y.keeps,dt];have p3:bC L p (.ins b c (iV m k d t)) p=some (.ins b c (iV m k d t)):=bG;generalize bC L p (.ins b c (iV m k d t))=H3 at y dt M p3|-;have g3:Same (L2.drop H3 p) H3:=cA;have k3:=y.trans g3;have O:=BP x R T ri;have tl:=(FH x R O x.some1).1;have n5:=x.n5;refine#[_,zZ,p,b,c,_,_,zZ,p3,S'.cl,S'.no,FV,d,J,_,zZ,k3 _ _ r1,(by kernel_rfl),_,zZ,p,b,c,_,_,zZ,p3,S'.cl,S'.no,E9,d,t,k,o,n,D,u,iu o n u g word,zZ,U.keeps k3.keeps,x.same k3,R,g3 _ _ dt,O,λH4 g4=>#[_,zZ,wy (),?_]];exact q H4 (y.trans (mM g4)) (M.same g4)
def Rl{a Y CR:Ad}(F:Fun K "stand" "Hall.stand" Cs f fd)(S':OwnC K a [sO,sA,sF,sM])(S0:OwnC K CR [sC,tE])(jJ:fg P w K mg base CR "row_of" 5 [sB,tI] (fA Y CR))(jU:mg "str"=none)(jB:mg "range"=none)(jA:mg "len"=none):FnOk P w K mg base b9 7 f fd [sB,wZ] (iz a Y CR):=by
 refine F.ok uK (λaa A o s H vs Q E u h=>?_)
 obtain⟨p,xs,ts,n,x,Ls,ab,room,rfl,HI,R,y,q⟩:=h;obtain⟨d,k,b,c,he,h1,h2,g,B,h5⟩:=id HI;have hu:=u.units;have ae:=ik u;refine#[_,(bQ (u6 (CompSc.to (N:=[sB,wZ,"figures"]) (osc:=bT Cs) (vs:=[tI]) {}) zZ zZ uK.nd (j:=2) zZ zZ (je zZ jB (bK (c9 fv zZ jA eU (bK (ck dA (dP (pv 0) zZ) bO (λ_ _=>rfl)) bJ)) bJ)) (λ_ _ _ _=>fG) (λ_ _ _ _=>(f9 ue zZ jU oW (bK (pv 0) bJ)))) (bQ (dq (dQ K3 (pv 1) (pv 2) (by with_unfolding_all rfl)) (bS mz) dD) (bQ (md (pv 0) (eX (dP (pv 0) zZ) S0.cl jJ u.m (bK (gJ iE yp zE (AB hu) (pv 2) (bK (pv 1) bJ)) bJ)) zZ) (bS (cr eV))))),?_];obtain⟨rs,r0,hm,af,C,D,G,_⟩:=g.at (l:=0) g.some1;have n5:=g.n5;have I:Same (L2.drop H p) H:=cA;refine#[_,zZ,p,a,d,_,_,zZ,h1,S'.cl,S'.no,ON,b,_,_,_,zZ,zZ,S2 (I _ _ hm),C,r0,_,zZ,.inr (S2 (I _ _ D)),?_]
 try dsimp only
 rw[bF,G];refine#[_,zZ,(),(),FI (f:=λi=>V.str (df i)) (small ()) (λi Q J q=>?_) (λfl L=>?_)]
 .rw[sd];exact#[_,zZ,_,zZ,wy (),q]
 have ef:(List.range n).map (λi=>V.str (df i))=((List.range n).map df).map V.str:=by
  rw[eJ];rfl
 rw[show((n:Nat):Int).toNat=n from rfl,ef];have M:=bV L (.lst (((List.range n).map df).map V.str));have p1:=M _ _ h1;have mr:df room∈(List.range n).map df:=b8.mpr #[room,fb.mpr y,zZ];refine#[_,zZ,_,zZ,fl,_,zZ,.inl (S1 bG),zZ,Ko _,_,zZ,?_]
 try dsimp only
 rw[Hq mr];obtain⟨O,r,st,qs,r1,r2⟩:=id B;have T:=I.trans M;have dz:∀{i:Nat},i<n->(((List.range n).map df).map Dt.str)[i]?=some (.str (df i)):=λ{i} J=>by rw[bZ,bZ,nB J];rfl
 refine dv #[_,zZ,p,a,d,_,_,zZ,p1,S'.cl,S'.no,FV,c,O,_,zZ,T _ _ r1,(by kernel_rfl),_,zZ,.inl #[zZ,_,S1 bG],_,zZ,fl,_,0,.str (df room),((List.range n).map df).map Dt.str,_,room,zZ,zZ,S1 bG,by simp,.str _ _,λi d' v e1 U=>?_,by decide,dz y,λi J e=>?_,c,b,ts,n,x,Ls,room,zZ,B.keeps T.keeps,g.same T,R,y,λt H2 g2 et=>?_]
 .rw[bZ]at e1 U;obtain⟨z,ez,rfl⟩:=dm.mp e1;rw[ez]at U;cases U;exact .str _ _
 .rw[dz ()]at e;injection e with e
  injection e with e
  have:=Q7 e;lia
 have p2:=g2 _ _ p1;refine#[_,zZ,p,a,d,_,zZ,p2,S'.cl,S'.no,by show 4<1000;decide,?_];have eF:cL sM (.ref t) (iV k b c he)=iV k b c t:=by kernel_rfl
 rw[eF];have m:Same (L2.drop H p) (L2.drop (bC H2 p (.ins a d (iV k b c t))) p):=by rw[oT];exact(mM M).trans (mM g2)
 have tp:t≠p:=nE et p2;exact q _ m #[d,k,b,c,t,bG,m _ _ h2,g.same m,B.keeps m.keeps,by rw[oT,db tp];exact et]
def KE(a:Ss)(word:bB):Str:=Txt.join #[#v[32]] (tQ::word.map λi=>a.getD i #[#v[]])
def AL(room:Nat):Str:=Txt.join #[#v[32]] [Str.ofString "at",df room]
def DY{ps:Ss}(a:ps≠[])(h:∀p∈ps,32∉p.cps.toList)(b:∀p∈ps,p.length<=8)(few:ps.length<=101):Txt.split (Txt.join #[#v[32]] ps) #[#v[32]]=ps/\(Txt.join #[#v[32]] ps).length<=1000:=by
 refine#[G9 a h,?_];rw[eq_of_beq (D2 _ _)];have z:=StrLaws.join_length_le #[#v[32]] ps;have y:=qj b;have e:(#[#v[32]]:Str).length=1:=rfl;rw[e]at z;lia
def KS{x:Str}(h:NameOk x):32∉x.cps.toList/\x.length<=8:=#[λz=>by
 have:=h.small 32 z;unfold vc at this;lia,by rw[ja];exact h.few]
def Dv(v:V)(a:List V):pO (v::a) (some 1) none=a:=by
 unfold pO;rw[show(1:Int)=((1:Nat):Int)from rfl,HT.sIx_none,HT.sIx_nat,sw (by simp)];show(List.drop 0 a).take _=_;rw[A0];exact vg (by simp)
theorem G5{H:Hp}{m:Ad}{d:LN}{n:Nat}{a:LN}{b:List Lv}(M:Mach H m d n)(R:RowOf d n a b):∀i,i<=b.length->∀p∈lK b i,p.2.2<=4000
 |0,_,p,h=>nomatch h
 | i+1,c,p,h=>by
  have e:=bE (show i<b.length from c);rw[Cy e]at h
  rcases cF.mp h with h|h
  .exact G5 M R i (eM c) p h
  .have ok:=R.ok _ (cb e);have g:=ok.few M R.ff;have u:(b[i]'c).us.length<=4000:=by
    refine cP (nR (U:=a) (wq M R.ff ok.p) λu f=>?_) (cP (R.ff.few M) (by decide));rw[ok.p.tl]at f;exact((n0 M R.ff).mp f).1
   unfold jw at h;split at h
   .rcases cX.mp h with rfl|h
    .exact g
    .rw[ci.mp h];exact u
   .rw[ci.mp h];exact u
def RowIn.few{H:Hp}{m:Ad}{d:LN}{n:Nat}{c:LN}{a:List Lv}{b:bB}(e:RowIn a b)(M:Mach H m d n)(R:RowOf d n c a):b.length<=100/\∀k∈b,k<4000:=by
 have h:=R.few;have l:(pH a).length<=2 * a.length:=IP a a.length;have o:=e.len;refine#[(),λk i=>?_];obtain⟨j,f⟩:=wc i;have p:=(bU.mp f).1;have g:=bE (show j<(pH a).length by lia);exact f7 (e.lt j _ k g f) (G5 M R _ (bR _) _ (cb g))
inductive mW(f g CR:Ad)(k:List V)(H:Hp)(Q:VK)(h:XK):Prop|mk:∀(p:Ad) (z:Str) (e:Ss) (b:LN) (n:Nat) (j:LN) (d:List Lv) (a:bB),k=[.ref p,.str z]->HallIn f g CR H p e b n d a->e.Nodup->e.length=b.length->(∀x∈e,NameOk x)->RowOf b n j d->RowIn d a->(((z=sF/\∀c,Same H c->Q (.str (oS a)) c)\/(∃word:bB,z=KE e word/\word≠[]/\word.length<=100/\(∀i∈word,i<b.length)/\∀c,Same (L2.drop H p) (L2.drop c p)->HallIn f g CR c p e b n d (iu b n d a word)->Q (.str (df (jm b n d (iu b n d a word)))) c)\/(∃room:Nat,z=AL room/\room<n/\∀c,Same (L2.drop H p) (L2.drop c p)->HallIn f g CR c p e b n d (pM b n d room)->Q (.str "ok") c)))->mW f g CR k H Q h
def Mi{o J CR:Ad}(F:Fun K "say" "Hall.say" Bf f fd)(S':OwnC K o [sO,sA,sF,sM])(rV:cE P w K mg base "words_of" 1 [sF] fW)(uH:cE P w K mg base "is_told" 1 [sI] gB)(uQ:cE P w K mg base "joined" 1 [sI] gN)(uI:fg P w K mg base o tQ 13 [sB,sO] (uc o J CR))(qY:fg P w K mg base o "stand" 7 [sB,wZ] (iz o J CR))(jU:mg "str"=none):FnOk P w K mg base b9 15 f fd [sB,sF] (mW o J CR):=by
 refine F.ok uW (λai A aa s H vs Q E C h=>?_)
 obtain⟨p,z,t,u,n,L,B,b,rfl,HI,nd,el,ab,R,ri,h⟩:=h;obtain⟨dx,na,ma,ro,he,h1,h2,h3,h4,h5⟩:=id HI;have hu:=C.units;have aj:=ik C;refine#[_,(bQ (cj (i:=2) uW.nd zZ Z' (cC rV C.m zZ (bK (pv 1) bJ))) (bQ (dq (l6 (lC (cC uH C.m zZ (bK (pv 2) bJ)))) (bS mz) dD) (bQ (dq (dQ gG (ck d9 (pv 2) bO (λ_ _=>rfl)) eV (dy _)) (bS (cr (eX (pv 0) S'.cl uI C.m (bK (GS Lf (pv 2) (Dc bO) Mq) bJ)))) dD) (bQ (dq (dQ gG (ck d9 (pv 2) bO (λ_ _=>rfl)) eV (dy _)) (bS (cr (eX (pv 0) S'.cl qY C.m (bK (ck d9 (pv 2) bO (λ_ _=>rfl)) bJ)))) dD) (bQ (dq (dQ gG (ck d9 (pv 2) bO (λ_ _=>rfl)) eV (dy _)) (bS (cr (cC uQ C.m zZ (bK (gK (CompSc.to (N:=[sB,sF,sI]) (osc:=bT Bf) (vs:=[tI]) {}) zZ zZ (pV (dP (pv 0) zZ)) (λ_ _ _ _=>fG) (λ_ _ _ _=>(f9 ue zZ jU oW (bK (pv 0) bJ)))) bJ)))) dD) (bQ (dq (dQ gG (ck d9 (pv 2) bO (λ_ _=>rfl)) eV (dy _)) (bS mz) dD) (bS mz))))))),?_];have ae:∃m,Txt.split z #[#v[32]]=m/\IM m/\z.length<=1000/\((m=[sF]/\∀d,Same H d->Q (.str (oS b)) d)\/(∃word:bB,m=tQ::(word.map λi=>t.getD i #[#v[]])/\word.length<=100/\(∀i∈word,i<u.length)/\∀d,Same (L2.drop H p) (L2.drop d p)->HallIn o J CR d p t u n B (iu u n B b word)->Q (.str (df (jm u n B (iu u n B b word)))) d)\/(∃room:Nat,m=[Str.ofString "at",df room]/\room<n/\∀d,Same (L2.drop H p) (L2.drop d p)->HallIn o J CR d p t u n B (pM u n B room)->Q (.str "ok") d)):=by
  have n5:=h3.n5
  rcases h with⟨rfl,q⟩|⟨word,rfl,ne,w1,Y,q⟩|⟨room,rfl,rn,q⟩
  .have e:Txt.join #[#v[32]] [sF]=sF:=by decide+kernel
   obtain⟨G,I⟩:=DY (ps:=[sF]) (λz=>nomatch z) (by decide+kernel) (by decide+kernel) (by decide);rw[e]at G I;exact#[_,G,.inr (.inr zZ),I,.inl #[zZ,q]]
  .have nx:∀y∈word.map (λi=>t.getD i #[#v[]]),NameOk y:=λy x=>by
    obtain⟨i,hi,rfl⟩:=b8.mp x;have li:i<t.length:=by rw[el];exact Y i hi
    rw[cZ,bE li];exact ab _ (gh li)
   have M:32∉tQ.cps.toList/\tQ.length<=8:=by decide+kernel
   obtain⟨G,I⟩:=DY (ps:=tQ::word.map λi=>t.getD i #[#v[]]) (λz=>nomatch z) (λy x=>(cX.mp x).elim (λe=>by rw[e];exact M.1) λh=>(KS (nx y h)).1) (λy x=>(cX.mp x).elim (λe=>by rw[e];exact M.2) λh=>(KS (nx y h)).2) (by rw[iL,bF];lia);refine#[_,G,.inl ?_,I,.inr (.inl #[word,zZ,w1,Y,q])];cases word with
   |nil=>exact wC zZ ne
   |cons a r=>exact#[_,_,zZ]
  .have O:32∉(Str.ofString "at").cps.toList/\(Str.ofString "at").length<=8:=by decide+kernel
   have d8:=B8 (show room<4000 by lia);obtain⟨G,I⟩:=DY (ps:=[Str.ofString "at",df room]) (λz=>nomatch z) (λy x=>(cX.mp x).elim (λe=>by rw[e];exact O.1) λh=>by rw[ci.mp h];exact Mp room) (λy x=>(cX.mp x).elim (λe=>by rw[e];exact O.2) λh=>by rw[ci.mp h];lia) (by show 2<=101;decide);exact#[_,G,.inr (.inl #[_,zZ]),I,.inr (.inr #[room,zZ,rn,q])]
 obtain⟨m,af,tw,zl,cs⟩:=ae;refine#[_,zZ,z,zZ,zl,λl hl=>?_];rw[af];have kl:=bV hl (.lst (m.map V.str));refine#[_,zZ,l,m,zZ,bG,tw,λH2 g2=>#[_,zZ,dv ?_]];have gl:=kl.trans g2;have c:H2 l=some (.lst (m.map V.str)):=g2 _ _ bG;have g:∀{y:Str} {ys:Ss},m=y::ys->fP (m.map V.str) 0=some (.str y):=λe=>by subst e;exact ge (j:=0) rfl
 have f1:decide (V.str tQ=V.str tQ)=true:=cG rfl;have f2:decide (V.str (Str.ofString "at")=V.str tQ)=false:=by decide+kernel
 have f3:decide (V.str sF=V.str tQ)=false:=by decide+kernel
 have f4:decide (V.str sF=V.str (Str.ofString "at"))=false:=by decide+kernel
 have f5:decide (V.str (Str.ofString "at")=V.str (Str.ofString "at"))=true:=cG rfl;have f6:decide (V.str sF=V.str sF)=true:=cG rfl
 rcases cs with⟨e,q⟩|⟨word,e,w1,Y,q⟩|⟨room,e,rn,q⟩
 .refine#[_,zZ,l,_,_,_,zZ,zZ,S1 c,g e,zZ,_,zZ,?_]
  try dsimp only
  rw[f3];refine dv #[_,zZ,l,_,_,_,zZ,zZ,S1 c,g e,zZ,_,zZ,?_]
  try dsimp only
  rw[f4];refine dv #[_,zZ,l,_,_,_,zZ,zZ,S1 c,g e,zZ,_,zZ,?_]
  try dsimp only
  rw[f6];have T:=gl _ _ (cA _ _ h5);obtain⟨U,r4⟩:=ri.few h3 R;refine eK #[_,zZ,p,o,dx,_,_,zZ,gl _ _ h1,S'.cl,S'.no,E9,he,zZ,#[_,S2 T],uh (f:=λv=>match v with|.int i=>V.str (df i.toNat)|v=>v) (by rw[bF];exact small ()) (S2 T) (λv Q hv q=>?_) (λjl ag=>?_)]
  .obtain⟨k,hk,rfl⟩:=b8.mp hv;exact#[_,zZ,_,zZ,wy (r4 k hk),q]
  have em:(b.map nv).map (λv=>match v with|.int i=>V.str (df i.toNat)|v=>v)=(b.map df).map V.str:=by
   rw[eJ,eJ];rfl
  rw[em];exact#[jl,b,zZ,bG,U,r4,q _ (gl.trans (bV ag _))]
 .refine#[_,zZ,l,_,_,_,zZ,zZ,S1 c,g e,zZ,_,zZ,?_]
  try dsimp only
  rw[f1];refine eK #[_,zZ,p,dx,_,zZ,gl _ _ h1,(by kernel_rfl),_,zZ,_,zZ,l,_,zZ,S1 c,λsl ah=>?_];rw[e,gv,Dv];have ks:=bV ah (.lst ((word.map λi=>t.getD i #[#v[]]).map V.str));exact#[p,sl,t,u,n,L,B,b,word,zZ,HI.same (gl.trans ks),nd,el,R,ri,bG,w1,Y,λd d' D=>q d ((mM (gl.trans ks)).trans d') D]
 .refine#[_,zZ,l,_,_,_,zZ,zZ,S1 c,g e,zZ,_,zZ,?_]
  try dsimp only
  rw[f2];refine dv #[_,zZ,l,_,_,_,zZ,zZ,S1 c,g e,zZ,_,zZ,?_]
  try dsimp only
  rw[f5];exact eK #[_,zZ,p,dx,_,zZ,gl _ _ h1,(by kernel_rfl),_,zZ,l,_,_,_,zZ,zZ,S1 c,ge (j:=1) (v:= .str (df room)) (by rw[e];rfl),p,t,u,n,L,B,b,room,zZ,HI.same gl,R,rn,λd d' D=>q d ((mM gl).trans d') D]
def ot(a:Ad):List (Str×V):=[(sO,.ref a)]
def oF(a b:Ad):List (Str×V):=[(sO,.ref a),(sA,.ref b)]
def pJ(a b c:Ad):List (Str×V):=[(sO,.ref a),(sA,.ref b),(sF,.ref c)]
section
variable{a b c d:Ad}
def Ee:cL sO (.ref a) []=ot a:=by kernel_rfl
def Eh:cL sA (.ref b) (ot a)=oF a b:=by kernel_rfl
def Dm:cL sF (.ref c) (oF a b)=pJ a b c:=by kernel_rfl
def EH:cL sM (.ref d) (pJ a b c)=iV a b c d:=by kernel_rfl
def MK:(oF a b).lookup (sA:Str)=some (.ref b):=by kernel_rfl
def LH:(pJ a b c).lookup (sF:Str)=some (.ref c):=by kernel_rfl
end
inductive e8(d i CR:Ad)(j:List V)(H:Hp)(Q:VK)(e:XK):Prop|mk:∀(b:Hp) (p k:Ad) (f:Ss) (a:LN) (n:Nat),j=[.ref p,.str (sf f a)]->Same b H->b p=none->H p=some (.ins d k [])->Fit f a n->Tabs b->(∀g h c,Keeps b c->Tabs c->RowOf a n g h->HallIn d i CR c p f a n h (pM a n h 0)->Q .non c)->e8 d i CR j H Q e
def MS{a L CR:Ad}(F:Fun K tL "Hall.__init__" ES f fd)(S':OwnC K a [sO,sA,sF,sM])(S0:OwnC K CR [sC,tE])(vO:cE P w K mg base "read" 9 [sS] ku)(uZ:xv P w K mg base "Row" CR 20 [sB,sA] (eB L CR))(jJ:fg P w K mg base CR "row_of" 5 [sB,tI] (fA L CR)):FnOk P w K mg base b9 22 f fd [sB,sS] (e8 a L CR):=by
 refine F.ok uO (λaf A M s H vs Q E u h=>?_)
 obtain⟨H0,p,c,xs,z,n,rfl,g0,B,hp,N,hT,q⟩:=h;have hu:=u.units;have ag:=ik u;refine#[_,(bQ (cj (i:=2) uO.nd zZ Z' (cC vO u.m zZ (bK (pv 1) bJ))) (bQ (md (pv 0) (ck dA (pv 2) bO (λ_ _=>rfl)) zZ) (bQ (md (pv 0) (ck dA (pv 2) bO (λ_ _=>rfl)) zZ) (bQ (md (pv 0) (yR uZ u.m zZ (bK (dP (pv 0) zZ) bJ)) zZ) (bS (md (pv 0) (eX (dP (pv 0) zZ) S0.cl jJ u.m (bK bO bJ)) zZ)))))),?_];refine#[_,zZ,xs,z,n,zZ,N,λC j O RD=>?_];obtain⟨d,e,T,e2,M1⟩:=RD.here;have D:=O _ _ hp;refine#[_,zZ,C,_,_,_,zZ,zZ,S2 T,zZ,_,zZ,p,a,c,_,zZ,D,S'.cl,S'.no,by show 0<1000;decide,?_];rw[Ee];have w1:C≠p:=nE T D;have eb:bC j p (.ins a c (ot d)) C=some (.tup [.ref d,.ref e]):=by rw[bL w1];exact T
 have p2:bC j p (.ins a c (ot d)) p=some (.ins a c (ot d)):=bG;refine#[_,zZ,C,_,_,_,zZ,zZ,S2 eb,zZ,_,zZ,p,a,c,_,zZ,p2,S'.cl,S'.no,by show 1<1000;decide,?_];rw[Eh];have g3:Same H0 (bC (bC j p (.ins a c (ot d))) p (.ins a c (oF d e))):=gk (gk (g0.trans O) B) B;have lo:=Stays.offD D;have d3:L2.drop (bC (bC j p (.ins a c (ot d))) p (.ins a c (oF d e))) p=L2.drop j p:=by rw[oT,oT]
 have T3:Tabs (bC (bC j p (.ins a c (ot d))) p (.ins a c (oF d e))):=(((hT.same g0).same O).offI D).offI p2;have U:bC (bC j p (.ins a c (ot d))) p (.ins a c (oF d e)) p=some (.ins a c (oF d e)):=bG;generalize bC (bC j p (.ins a c (ot d))) p (.ins a c (oF d e))=v at g3 d3 T3 U|-;have k3:Same (L2.drop j p) v:=by rw[<-d3];exact cA
 have Y:Mach v e z n:=(M1.lts lo).same k3;have e3:=k3 _ _ (lo.a e2);refine#[_,zZ,p,a,c,_,_,zZ,U,S'.cl,S'.no,MK,λg k nx aa ah=>?_];have gx:Same v (bC (bC v k (.own g)) g (.ins CR k [])):=λb o hb=>by
  rw[bL (cV hb nx),bL (cV hb aa)];exact hb
 refine#[v,g,k,e,z,n,zZ,gx,nx,bG,Y,T3,λx Ls l G T5 R RA=>#[zZ,?_]];have I:=G _ _ (nz U);refine#[_,zZ,p,a,c,_,zZ,I,S'.cl,S'.no,by show 2<1000;decide,?_];rw[Dm];have y:=Stays.offD I;have m:=RA.offH I;have Md:=(Y.keeps G).lts y;have ab:=y.a (G _ _ (nz e3));have d6:L2.drop (bC l p (.ins a c (pJ d e g))) p=L2.drop l p:=oT;have p6:bC l p (.ins a c (pJ d e g)) p=some (.ins a c (pJ d e g)):=bG;have K6:Keeps H0 (bC l p (.ins a c (pJ d e g))):=t8 (g3.keeps.trans G) B;have T6:=T5.offI (o:= .ins a c (pJ d e g)) I;generalize bC l p (.ins a c (pJ d e g))=H6 at d6 p6 K6 T6|-;have k6:Same (L2.drop l p) H6:=by rw[<-d6];exact cA
 obtain⟨ae,r,st,qs,r1,r2⟩:=id m;have n1:=Y.n1;refine#[_,zZ,p,a,c,_,_,zZ,p6,S'.cl,S'.no,LH,g,ae,_,zZ,k6 _ _ r1,(by kernel_rfl),g,e,z,n,x,Ls,0,zZ,m.keeps k6.keeps,Md.same k6,R,(),λt H7 J et=>?_];have p7:=J _ _ p6;refine#[_,zZ,p,a,c,_,zZ,p7,S'.cl,S'.no,by show 3<1000;decide,?_];rw[EH];have tp:t≠p:=nE et p7;have d8:Same (L2.drop l p) (L2.drop (bC H7 p (.ins a c (iV d e g t))) p):=by rw[oT,<-d6];exact mM J
 exact q x Ls _ (t8 (K6.trans J.keeps) B) ((T6.same J).offI p7) R #[c,d,e,g,t,bG,d8 _ _ ab,Md.same d8,m.keeps d8.keeps,by rw[oT,db tp];exact et]
inductive fO(d:List V)(H:Hp)(Q:VK)(b:XK):Prop|mk:∀(e m:Ad) (a g:Ss) (c:LN) (n:Nat),d=[.ref e,.ref m]->H e=some (.lst ((a++g).map V.str))->Mach H m c n->a.length=c.length->(∀x∈a,NameOk x)->(∀f,Same H f->Q (.str (sf a c)) f)->fO d H Q b
inductive im(d:List V)(H:Hp)(Q:VK)(a:XK):Prop|mk:∀(c:Int) (k:Nat),d=[.int c,nv k]->0<k->(∀e word b,Same H b->b e=some (.lst (word.map nv))->word≠[]->word.length<=4->(∀l∈word,l<k)->Q (.ref e) b)->im d H Q a
inductive fe(c:List V)(H:Hp)(Q:VK)(b:XK):Prop|mk:∀(d:Ad) (a:bB),c=[.ref d]->H d=some (.tup (a.map nv))->a.length<=100->(∀k∈a,k<4000)->(∀e,Same H e->Q (.str (oS a)) e)->fe c H Q b
def NE(F:Fun K wP wP AG f fd)(jB:mg "range"=none)(jA:mg "len"=none)(jU:mg "str"=none):FnOk P w K mg base b9 1 f fd [sT,sV] fO:=by
 refine F.ok qQ (λaa A D s H vs Q E hr h=>?_)
 obtain⟨na,m,c,zs,a,n,rfl,en,M,el,ok,q⟩:=h;refine#[_,(xN (hX (gX (cj (i:=2) qQ.nd zZ Z' (gT bJ))) (hX (gX (fY fF zZ (je zZ jB (bK (c9 fv zZ jA eU (bK (pv 1) bJ)) bJ)) (eR (i:=3) qQ.nd zZ Z') (QSs.pss (oG (Q3 (yQ iE lM kS lL (mK (pv 2)) (yg (yj xm (mK (cu xm (ck d9 (pv 0) (pv 3) (λ_ _=>rfl)) eV)) (yQ qb zn xM yB (mK eV) (yg (mK (gK (CompSc.to (N:=[sT,sV,"_law_lines",sX]) (osc:=bT AG) (vs:=["_law_room"]) {}) zZ zZ (pV (ck dA (pv 1) (pv 3) (λ_ _=>rfl))) (λ_ _ _ _=>fG) (λ_ _ _ _=>(cu xm eV (f9 ue zZ jU oW (bK (pv 0) bJ)))))) ce zZ))) ce zZ))))))) (oG (BJ (yQ qb zn xM yB (mK eV) (yg (mK (pv 2)) ce zZ))))))),?_];have G:Str.ofString "\n"=(#[#v[10]]:Str):=by decide+kernel
 have sp:Str.ofString " "=(#[#v[32]]:Str):=by decide+kernel
 have co:Str.ofString ":"=(#[#v[58]]:Str):=by decide+kernel
 have lg:∀d:Fin 10,((d.1:Nat):Int).natAbs.log2<1920:=by decide+kernel
 obtain⟨r,h1,h2,h3⟩:=M.refs;have few:=M.few;have n5:=M.n5;have t5:∀t∈a,t.length<=5:=λt ht=>by rw[(M.each t ht).1];exact n5
 refine#[by show 0<=sizeLine;decide,λe u=>?_];have I:=bV u (.lst []);have x:bC H e (.lst []) e=some (.lst []):=bG;generalize bC H e (.lst [])=H1 at I x|-
 let Pv:Nat->L2.St->Hp->Prop:=λi J H'=>Same H H'/\H' e=some (.lst (((iq c a).take i).map V.str))/\∃o,J=[some (.ref na),some (.ref m),some (.ref e),o]
 refine#[_,zZ,m,_,zZ,.inr (S2 (I _ _ h1)),((a.length:Nat):Int),(by rw[bF,h2]),(),(),oB Pv #[I,x,none,zZ] (λi J H2 hi p=>?_) (λJ H2 p=>?_)]
 .obtain⟨g,b,o,rfl⟩:=p;have L:i<a.length:=by simpa using hi
  have C:i<c.length:=by lia
  have ir:i<r.length:=by lia
  have z:=h3 i r[i] a[i] (bE ir) (bE L);obtain⟨e1,e2⟩:=M.each a[i] (gh L);have j:∀d∈a[i],d<10:=λd B=>by have:=e2 d B;lia
  have e0:(0+(i:Int))=((i:Nat):Int):=by lia
  have O:=ok c[i] (gh C);have lx:(c[i]).length<=8:=by rw[ja];exact O.few
  have lf:(gV a[i]).length=2 * (a[i]).length:=by rw[ja,oO,yd]
  have T:fP ((c++zs).map V.str) (0+(i:Int))=some (.str c[i]):=by rw[e0];exact ge (by rw[bZ,dN C,bE C];rfl)
  have U:fP (r.map V.ref) (0+(i:Int))=some (.ref r[i]):=by rw[e0];exact ge (by rw[bZ,bE ir];rfl)
  have Y:(Str.ofString ":").length=1:=by decide+kernel
  refine#[_,zZ,.inl #[zZ,_,S1 b],_,zZ,_,zZ,na,_,_,_,zZ,zZ,S1 (g _ _ en),T,_,_,zZ,zZ,small (by rw[Y];lia),zZ,_,zZ,_,zZ,m,_,_,_,zZ,zZ,S2 (g _ _ h1),U,r[i],zZ,#[_,S2 (g _ _ z)],uh (f:=Hl) (small (by rw[bF];lia)) (S2 (g _ _ z)) (λv Q hv q=>?_) (λp hp=>?_)]
  .obtain⟨d,B,rfl⟩:=b8.mp hv;have ed:Str.ofString " "++Str.ofString (toString (d:Int))=(#[#v[32,48+d]]:Str):=by rw[Jz (j d B),sp];rfl
   refine#[_,zZ,(d:Int),zZ,lg #[d,j d B],_,_,zZ,zZ,?_,?_]
   .rw[show((toString (d:Int):String):Str)=Str.ofString (toString (d:Int))from rfl,Jz (j d B)];exact small (by show(Str.ofString " ").length+1<=1000;decide+kernel)
   .rw[show((toString (d:Int):String):Str)=Str.ofString (toString (d:Int))from rfl,ed];exact q
  .have em:((a[i]).map nv).map Hl=((a[i]).map λd=>(#[#v[32,48+d]]:Str)).map V.str:=by
    rw[eJ,eJ];refine nH λd _=>?_;show V.str #[#v[32,48+(d:Int).toNat]]=_;rw[hY];rfl
   rw[em];have kp:=bV hp (.lst (((a[i]).map λd=>(#[#v[32,48+d]]:Str)).map V.str));refine#[_,p,_,zZ,zZ,S1 bG,by decide+kernel,?_,?_]
   .have:=qj (l:=(a[i]).map λd=>(#[#v[32,48+d]]:Str)) (k:=2) λy hy=>by
     obtain⟨d,_,rfl⟩:=b8.mp hy;exact bR 2
    rw[bF]at this|-;lia
   rw[NP,co];have l1:(c[i]++(#[#v[58]]:Str)).length<=9:=by rw[ja,j5,cI,<-ja];show _+1<=9;lia
   refine#[_,_,zZ,zZ,small (),e,_,_,zZ,zZ,kp _ _ b,?_,gk (g.trans kp) u,?_,_,zZ]
   .rw[bF,fh,cH];lia
   .rw[bG,Ox (bE C) (bE L),dC];rfl
 .obtain⟨g,b,o,rfl⟩:=p;have e1:((a.length:Nat):Int).toNat=a.length:=hY _;rw[e1,<-Bw el,fZ]at b;refine#[zZ,_,zZ,_,e,_,zZ,zZ,S1 b,by decide+kernel,?_,?_]
  .have:=qj (Ie ok t5);have:=Bw el;lia
  rw[G];exact q _ g
def Rr(F:Fun K "_law_word" "_law_word" DX f fd)(y:mg "range"=none):FnOk P w K mg base b9 1 f fd [sP,tM] im:=by
 refine F.ok qL (λB A m s H O Q E C h=>?_)
 obtain⟨c,k,rfl,D,q⟩:=h;have T:=C.units;refine#[_,(bQ (cj (i:=2) qL.nd zZ Z' (cu fE (cu pA (pv 0) bO) bO)) (bQ (cj (i:=3) qL.nd zZ Z' (gT bJ)) (bQ (fY fF zZ (je zZ y (bK (cu l7 bO (cu fE (cu lQ (pv 0) bO) bO)) bJ)) (eR (i:=4) qL.nd zZ Z') (bQ (i3 (gJ iE lM kS lL (pv 3) (bK (cu fE (cu lQ (pv 2) bO) (pv 1)) bJ))) (bS (cj (i:=2) qL.nd zZ Z' (cu lQ (pv 2) bO))))) (bS (cr (pv 3)))))),?_];refine#[_,zZ,_,_,zZ,zZ,.inr #[by decide,by decide],_,_,zZ,zZ,(by show(0:Int)<2147483629;decide),by show 0<=sizeLine;decide,λd b=>?_];have G:=bV b (.lst []);obtain⟨r,I,U⟩:∃r:Nat,c/4%4=(r:Int)/\r<4:=#[(c/4%4).toNat,(),()];refine#[_,zZ,_,_,zZ,zZ,#[by decide,by decide],_,_,zZ,zZ,(by show(0:Int)<4;decide),_,_,zZ,zZ,?_]
 let Pv:Nat->L2.St->Hp->Prop:=λi n u=>Same H u/\∃(word:bB) (z:Int) (o:Option V),u d=some (.lst (word.map nv))/\word.length=i/\(∀l∈word,l<k)/\n=[some (.int c),some (nv k),some (.int z),some (.ref d),o]
 refine#[((r+1:Nat):Int),by (try dsimp only);rw[I,show 1+(r:Int)=((r+1:Nat):Int) by lia],(),(),oB Pv #[G,[],_,none,bG,zZ,(λl h=>nomatch h),zZ] (λi n J v p=>?_) (λn J p=>?_)]
 .obtain⟨g,word,z,o,j,a,t,rfl⟩:=p;have v:i<r+1:=by simpa using v
  refine#[_,zZ,.inl #[zZ,_,S1 j],_,zZ,_,_,zZ,zZ,#[by decide,by decide],_,zZ,_,_,zZ,zZ,(by show(0:Int)<((k:Nat):Int);lia),?_];obtain⟨l,L,M⟩:=cY (c:=z/8) D
  try dsimp only
  rw[L];refine#[d,_,_,zZ,zZ,j,by rw[bF,cH];lia,_,zZ,_,_,zZ,zZ,#[by decide,by decide],gk g b,word++[l],_,_,by rw[bG,dC];rfl,by rw[cI,a];rfl,λx N=>?_,zZ]
  rcases cF.mp N with h|h
  .exact t x h
  .rw[ci.mp h];exact M
 .obtain⟨g,word,z,o,j,a,t,rfl⟩:=p;have a:word.length=r+1:=by simpa using a
  exact#[_,zZ,q d word _ g j (λe=>by rw[e]at a;cases a) () t]
def ME(F:Fun K wM wM BQ f fd)(t:mg "str"=none):FnOk P w K mg base b9 1 f fd [tS] fe:=by
 refine F.ok Lz (λu A g s H O Q E x h=>?_)
 obtain⟨n,a,rfl,o,T,p,q⟩:=h;have B:=x.units;refine#[_,(xN (hX (gX (dq (dQ (EJ B) (pv 0) (kh bJ) (dy _)) (bS (cr eV)) dD)) (oG (BJ (yQ qb zn xM yB (mK eV) (yg (mK (gK (CompSc.to (N:=[tS]) (osc:=bT BQ) (vs:=["_law_one"]) {}) zZ zZ (pV (pv 0)) (λ_ _ _ _=>fG) (λ_ _ _ _=>(f9 ue zZ t oW (bK (pv 0) bJ))))) ce zZ)))))),?_];refine#[_,zZ,by show 0<=sizeLine;decide,λC j=>?_];have c:=bV j (.tup []);refine#[n,C,0,_,_,zZ,zZ,iS (S2 (c _ _ o)),iS (is:=[]) (S2 bG),by decide,λD r=>#[_,zZ,?_]];cases D with
 | true=>
  have e:a=[]:=by
   have z:=r.mp rfl;injection z with z
   exact v5.mp (v5.mp z)
  rw[e]at q;exact eK (q _ c)
 | false=>
  have G:a≠[]:=λe=>by
   have:=r.mpr (by rw[e]);cases this
  have b:=c _ _ o;refine dv #[zZ,_,zZ,n,zZ,#[_,S2 b],uh (f:=λv=>match v with|.int i=>V.str (df i.toNat)|v=>v) (by rw[bF];exact small ()) (S2 b) (λv Q I q=>?_) (λjl m=>?_)]
  .obtain⟨k,J,rfl⟩:=b8.mp I;exact#[_,zZ,_,zZ,wy (p k J),q]
  have em:(a.map nv).map (λv=>match v with|.int i=>V.str (df i.toNat)|v=>v)=(a.map df).map V.str:=by
   rw[eJ,eJ];rfl
  rw[em];refine#[Str.ofString " ",jl,a.map df,zZ,zZ,S1 bG,by decide+kernel,?_,?_]
  .have:=qj (l:=a.map df) (k:=4) λy L=>by
    obtain⟨d,M,rfl⟩:=b8.mp L;exact B8 (p d M)
   rw[bF]at this|-;lia
  .have z:=q _ (c.trans (bV m (.lst ((a.map df).map V.str))));unfold oS at z;rw[wA G]at z;rw[pq];exact z
def MN{H c:Hp}{a:Ad}(k:Keeps H c):Keeps (L2.drop H a) (L2.drop c a):=λb o d=>by
 obtain⟨z,n⟩:=vx d;by_cases e:b=a
 .subst e;rw[ky]at z;cases z
 .rw[db e]at z|-;exact k _ _ (qo z n)
section
variable{i j CR:Ad}{H r:Hp}{p f d:Ad}{o:Ss}{m:LN}{n:Nat}{q:List Lv}{c:bB}{l:List (Str×V)}{v:V}
def HallIn.keeps(h:HallIn i j CR H p o m n q c)(g:Keeps H r):HallIn i j CR r p o m n q c:=by
 obtain⟨b,d,e,f,l,s,t,u,v,w⟩:=h;have k:=MN (a:=p) g;exact#[b,d,e,f,l,g _ _ (nz s),k _ _ (nz t),u.keeps k,v.keeps k,k _ _ (nz w)]
def HallIn.off(h:HallIn i j CR H p o m n q c)(s:H f=some (.ins i d ((sO,v)::l)))(r:f≠p):HallIn i j CR (L2.drop H f) p o m n q c:=by
 obtain⟨t,u,w,x,y,z,A,B,C,D⟩:=h;have e:L2.drop (L2.drop H f) p=L2.drop (L2.drop H p) f:=by
  funext b
  by_cases g:b=p
  .subst g;rw[ky,rb ky]
  .by_cases k:b=f
   .subst k;rw[ky,rb ky]
   .rw[db g,db k,db k,db g]
 have a:L2.drop H p f=some (.ins i d ((sO,v)::l)):=by rw[db r];exact s
 have lo:=Stays.offD a;refine#[t,u,w,x,y,by rw[db r.symm];exact z,?_];rw[e];exact#[lo.a A,B.lts lo,C.offH a,lo.a D]
end
def RT(room:Nat):Str.ofString "at "++df room=AL room:=by
 refine zj ?_;unfold AL;rw[GF,j5];show _=(Str.ofString "at").cps.toList++([32]++(df room).cps.toList);rw[<-dR]
 congr 1
theorem IG{H:Hp}{m:Ad}{a:LN}{n:Nat}{d:LN}{c:List Lv}(M:Mach H m a n)(R:RowOf a n d c):∀{word b:bB},(∀l∈word,l<a.length)->RowIn c b->jm a n c (iu a n c b word)=di a (jm a n c b) word
 | [],_,_,_=>rfl
 |l::word,b,e,f=>by
  have g:=e l (cR ..);have z:=IG M R (word:=word) (λx h=>e x (dS _ h)) (Jd M R f g);show jm a n c (iu a n c (tz a n c b l) word)=di a ((a.getD l []).getD (jm a n c b) 0) word;rw[z,(FH M R f g).2]
def Q2(a:Zs)(lo b:Option Int):∃c:Zs,pO (a.map V.int) lo b=c.map V.int/\c.length<=a.length:=by
 refine#[(a.drop (HT.sIx (a.map V.int).length 0 lo)).take (HT.sIx (a.map V.int).length (a.map V.int).length b-HT.sIx (a.map V.int).length 0 lo),?_,?_]
 .unfold pO;rw[List.map_take,List.map_drop]
 .rw[fh,qg];lia
inductive i8(K:S4)(c:List V)(H:Hp)(Q:VK)(b:XK):Prop|mk:∀(a:Ad) (d:Zs),c=[.ref a]->SqL K H a (d.map V.int)->d.length<=63->Tabs H->(∀e,Q (.bl true) e)->i8 K c H Q b
set_option maxHeartbeats 2000000 in
def P0{CH CL CR:Ad}(F:Fun K "law" "law" uq f fd)(S':OwnC K CH [sO,sA,sF,sM])(S0:OwnC K CR [sC,tE])(qG:cE P w K mg base wO 3 [sJ,wY] (fI K))(qZ:cE P w K mg base xA 1 [sP,wQ] iC)(jI:cE P w K mg base tZ 1 [sJ,sX] (fj K))(kO:cE P w K mg base wP 1 [sT,sV] fO)(rH:cE P w K mg base "_law_word" 1 [sP,tM] im)(jV:cE P w K mg base wM 1 [tS] fe)(vE:xv P w K mg base "Hall" CH 22 [sB,sS] (e8 CH CL CR))(kG:fg P w K mg base CH "say" 15 [sB,sF] (mW CH CL CR))(uZ:xv P w K mg base "Row" CR 20 [sB,sA] (eB CL CR))(jJ:fg P w K mg base CR "row_of" 5 [sB,tI] (fA CL CR))(kX:fg P w K mg base CR "gone" 11 [sB,sF,sW] (iJ CL CR K))(jA:mg "len"=none)(jU:mg "str"=none):FnOk P w K mg base b9 24 f fd [sJ] (i8 K):=by
 refine F.ok kK (λbn A aQ s H vs Q E r h=>?_)
 obtain⟨a,ns,rfl,hS,bo,hT,q⟩:=h;have hu:=r.units;have bp:=ik r;refine#[_,(xN (hX (gX (cj (i:=1) kK.nd zZ Z' (cC qG r.m zZ (cf (bI (pv 0) (bI bO ce zZ) zZ))))) (hX (gX (cj (i:=2) kK.nd zZ Z0 (cC qZ r.m zZ (cf (bI (cC jI r.m zZ (cf (bI (pv 0) (bI bO ce zZ) zZ))) (bI bO ce zZ) zZ))))) (hX (gX (cj (i:=3) kK.nd zZ Z' (yR vE r.m zZ (bK (cC kO r.m zZ (cf (bI (pv 2) (bI (pv 1) ce zZ) zZ))) bJ)))) (hX (gX (cj (i:=4) kK.nd zZ Z' (yR vE r.m zZ (bK (cC kO r.m zZ (cf (bI (pv 2) (bI (pv 1) ce zZ) zZ))) bJ)))) (hX (gX (cj (i:=5) kK.nd zZ Z' (yR uZ r.m zZ (bK (pv 1) bJ)))) (hX (gX (cj (i:=6) kK.nd zZ Z' (eX (pv 5) S0.cl jJ r.m (bK bO bJ)))) (hX (gX (cj (i:=7) kK.nd zZ Z' bO)) (hX (gX (fY fF zZ (fH (GS Lf (pv 0) (Dc bO) (Dc bO))) (eR (i:=8) kK.nd zZ Z') (QSs.pss (hX (gX (cj (i:=9) kK.nd zZ Z' (eX (pv 3) S'.cl kG r.m (bK eV bJ)))) (hX (NT (zG (dQ FU (cu fE (pv 8) bO) bO (dy _)) (hX (gX (cj (i:=10) kK.nd zZ Z' (cC rH r.m zZ (cf (bI (pv 8) (bI (c9 fv zZ jA eU (bK (pv 1) bJ)) ce zZ) zZ))))) (hX (gX (fY fF zZ (fH (pv 10)) (eR (i:=11) kK.nd zZ Z') (bS (cj (i:=7) kK.nd zZ Z' (ck dA (ck dA (pv 1) (pv 11) (λ_ _=>rfl)) (pv 7) (λ_ _=>rfl)))))) (hX (gX (cj (i:=6) kK.nd zZ Z' (eX (pv 5) S0.cl kX r.m (cf (bI (pv 6) (bI (pv 10) ce zZ) zZ))))) (oG (Rp (i:=9) kK.nd zZ Z' (mK (lT gG (eX (pv 3) S'.cl kG r.m (bK (gJ qb zn xM yB eV (bK (cu GB (gT (bK eV bJ)) (gK (CompSc.to (N:=[sJ,sV,sT,"_law_hall","_law_beside","_law_line",tS,"_law_room",sP,"_law_found","_law_word_here","_law_letter"]) (osc:=bT uq) (vs:=["_law_letter"]) {}) zZ zZ (fH (pv 10)) (λ_ _ _ _=>fG) (λ_ _ _ _=>(ck (IxR.k (K:=K) mj d9 zZ) (pv 3) (pv 0) (λ_ _=>rfl))))) bJ)) bJ)) (f9 ue zZ jU oW (bK (pv 7) bJ)) (dy _))) zZ (by first|exact .inl rfl|exact .inr rfl|assumption)))))) (oG (gX (dq (dQ gG (cu fE (pv 8) bO) bO (dy _)) (bQ (cj (i:=7) kK.nd zZ Z' (cu fE (cu lQ (pv 8) bO) (c9 fv zZ jA eU (bK (ck dA (pv 1) bO (λ_ _=>rfl)) bJ)))) (bQ (cj (i:=6) kK.nd zZ Z' (eX (pv 5) S0.cl jJ r.m (bK (pv 7) bJ))) (bS (cj (i:=9) kK.nd zZ Z' (lT gG (eX (pv 3) S'.cl kG r.m (bK (cu xm eV (f9 ue zZ jU oW (bK (pv 7) bJ))) bJ)) eV (dy _)))))) (bS (cj (i:=9) kK.nd zZ Z' (lT gG (pv 9) (cC jV r.m zZ (bK (pv 6) bJ)) (dy _))))))))) (oG (gX (dq (dQ QI (pv 9) sj (dy _)) (bS (cr sj)) dD)))))))) (hX (gX (dq (dQ CW (eX (pv 4) S'.cl kG r.m (bK eV bJ)) (cC jV r.m zZ (bK (eX (pv 5) S0.cl jJ r.m (bK bO bJ)) bJ)) (dy _)) (bS (cr sj)) dD)) (oG (gX (cr (lT gG (eX (pv 3) S'.cl kG r.m (bK eV bJ)) (cC jV r.m zZ (bK (pv 6) bJ)) (dy _))))))))))))))),?_];refine#[_,zZ,a,ns,1,zZ,by decide,hS,λm e n H1 g1 M=>?_];refine#[_,zZ,a,ns,0,zZ,by decide,g1.seq hS,λc0=>#[c0,zZ,λnl ak H2 g2 am _ l4 az aA=>?_]];have few:=M.few;have u:=g1.trans g2;obtain⟨j,zs,aR,el⟩:∃j zs,ak=j++zs/\j.length=e.length:=#[ak.take e.length,ak.drop e.length,(mY ..).symm,by rw[fh];lia];rw[aR]at am az aA;have nd:j.Nodup:=(yq.mp az).1;have B:∀x∈j,NameOk x:=λx hx=>aA x (cF.mpr (.inl hx));have aB:Fit j e n:=#[el,nd,B,M.some1,M.few,M.n1,M.n5,M.each];have M2:=M.same g2;refine#[_,zZ,_,zZ,nl,m,j,zs,e,n,zZ,am,M2,el,B,λH3 g3=>λx dx nx aS bq=>?_];have gx:Same H3 (bC (bC H3 dx (.own x)) x (.ins CH dx [])):=λb o hb=>by
  rw[bL (cV hb nx),bL (cV hb aS)];exact hb
 refine#[H3,x,dx,j,e,n,zZ,gx,nx,bG,aB,(hT.same u).same g3,λC Ls H4 k4 T4 R HI=>#[zZ,?_]];have M4:=(M2.same g3).keeps k4;have ah:=k4 _ _ (nz (g3 _ _ am));refine#[_,zZ,_,zZ,nl,m,j,zs,e,n,zZ,ah,M4,el,B,λH5 g5=>λx2 ab an aC bj=>?_];have aT:Same H5 (bC (bC H5 ab (.own x2)) x2 (.ins CH ab [])):=λb o hb=>by
  rw[bL (cV hb an),bL (cV hb aC)];exact hb
 have aU:=HI.same g5;refine#[H5,x2,ab,j,e,n,zZ,aT,an,bG,aB,T4.same g5,λbk br H6 k6 T6 R2 aV=>#[zZ,?_]];obtain⟨rfl,rfl⟩:=R.uniq R2;have aW:x≠x2:=let⟨_,_,_,_,_,z,_⟩:=aU;cV z an
 have M6:=(M4.same g5).keeps k6;refine#[_,zZ,λx3 D aD aE bl=>?_];have aX:Same H6 (bC (bC H6 D (.own x3)) x3 (.ins CR D [])):=λb o hb=>by
  rw[bL (cV hb aD),bL (cV hb aE)];exact hb
 refine#[H6,x3,D,m,e,n,zZ,aX,aD,bG,M6,T6,λbm bs H7 k7 T7 R3 RA=>#[zZ,?_]];obtain⟨rfl,rfl⟩:=R.uniq R3;have M7:=M6.keeps k7;have n1:=M.n1;have n5:=M.n5;obtain⟨T,rr,ao,ap,r1,r2⟩:=id RA;refine#[_,zZ,x3,T,_,zZ,r1,(by kernel_rfl),x3,m,e,n,C,Ls,0,zZ,RA,M7,R,(),λhe H8 g8 aY=>?_];have aq:=(g5.keeps.trans k6).trans (k7.trans g8.keeps);have aZ:SqL K H8 a (ns.map V.int):=SqL.keeps ((u.trans g3).seq hS) (k4.trans aq);refine#[_,zZ,_,zZ,_,zZ,a,_,zZ,aZ,λsl a0=>?_];obtain⟨cs,a7,bt⟩:=Q2 ns (some 10) (some 70);rw[a7];have k9:=bV a0 (.lst (cs.map V.int));have ar:bC H8 sl (.lst (cs.map V.int)) sl=some (.lst (cs.map V.int)):=bG;have as:=(HI.keeps aq).same k9;have aF:=(aV.keeps (k7.trans g8.keeps)).same k9;have aG:=RA.keeps (g8.trans k9).keeps;have M9:=M7.same (g8.trans k9);have ai:=k9 _ _ (aq _ _ (nz ah));have aj:=k9 _ _ aY;generalize bC H8 sl (.lst (cs.map V.int))=H9 at ar as aF aG M9 ai aj|-;obtain⟨bu,na,ma,ro,hh,p9,_⟩:=id as;have lo:=Stays.offD p9;have GA:=aG.offH p9;have GM:=M9.lts lo;have GJ:=aF.off p9 aW;have Gn:=lo.a ai;have Gs:=lo.a ar;have Gh:=lo.a aj;have au:=JF M R (show 0<n by lia);have a8:=GR M R (show 0<n by lia)
 let In:Hp->List Nat->Nat->Ad->Prop:=λO d room he=>Same (L2.drop H9 x) (L2.drop O x)/\HallIn CH CL CR O x j e n Ls d/\RowIn Ls d/\jm e n Ls d=room/\L2.drop O x he=some (.tup (d.map nv))
 have stay:∀{O aH:Hp} {d:bB} {room:Nat} {he:Ad},In O d room he->Same O aH->In aH d room he:=λh g=>#[h.1.trans (mM g),h.2.1.same g,h.2.2.1,h.2.2.2.1,mM g _ _ h.2.2.2.2]
 let P2:Nat->L2.St->Hp->Prop:=λi σ O=>∃(d:bB) (room:Nat) (he:Ad) (o8 o9 U G:Option V),In O d room he/\σ=[some (.ref a),some (.ref m),some (.ref nl),some (.ref x),some (.ref x2),some (.ref x3),some (.ref he),some (nv room),o8,o9,U,G]
 refine#[sl,zZ,#[_,S1 ar],oo (xs:=cs.map V.int) P2 #[_,0,he,none,none,none,none,#[Same.refl _,as,au,a8,Gh],zZ] (λi σ O _ p=>?_) (λi v σ aI hv pv=>?_) (λσ aI pv=>?_)]
 .obtain⟨d,room,L,_,_,_,_,I,_⟩:=p;exact S1 (cA _ _ (I.1 _ _ Gs))
 .obtain⟨d,room,L,o8,o9,U,G,I,rfl⟩:=pv;rw[bZ]at hv;obtain⟨c,ec,rfl⟩:=dm.mp hv;obtain⟨aJ,_,_,_,_,px,_⟩:=id I.2.1;refine#[_,zZ,x,aJ,_,zZ,px,(by kernel_rfl),x,sF,j,e,n,C,Ls,d,zZ,I.2.1,nd,el,B,R,I.2.2.1,.inl #[zZ,λaK af=>?_]];have I1:=stay I af
  let S:L2.St->Hp->Prop:=λσ O=>∃(d:bB) (room:Nat) (he:Ad) (o8 U G:Option V),In O d room he/\σ=[some (.ref a),some (.ref m),some (.ref nl),some (.ref x),some (.ref x2),some (.ref x3),some (.ref he),some (nv room),o8,some (.bl true),U,G]
  refine#[S,?_,λbv O s=>?_]
  .have gg:Same (L2.drop H9 x) aK:=I1.1.trans cA;have MM:=GM.same gg;have aL:room<n:=by
    have z:=(FH M R I.2.2.1 M.some1).1;rw[I.2.2.2.1]at z;exact z
   obtain⟨bw,a9,a1,a2,a3,a4,a5,a6⟩:=MM.at (l:=0) M.some1;refine#[_,zZ,_,_,zZ,zZ,(by show(0:Int)<4;decide),_,_,zZ,zZ,_,zZ,lF (λ_=>?_) (λ_=>?_)]
   .refine#[_,zZ,_,zZ,m,_,zZ,.inr (S2 a1),c,e.length,by rw[bF,a2];rfl,M.some1,λwo word av u ew ba w4 lw=>?_];have aM:=MM.same u;let Pv:Nat->L2.St->Hp->Prop:=λi σ O=>O=av/\∃G,σ=[some (.ref a),some (.ref m),some (.ref nl),some (.ref x),some (.ref x2),some (.ref x3),some (.ref L),some (nv (di e room (word.take i))),some (.int c),some (.str (oS d)),some (.ref wo),G]
    refine#[_,zZ,wo,zZ,#[_,S1 ew],oo (xs:=word.map nv) Pv #[zZ,_,zZ] (λi σ O _ p=>by rw[p.1];exact S1 ew) (λi v σ O hv p=>?_) (λσ O p=>?_)]
    .obtain⟨rfl,o3,rfl⟩:=p;rw[bZ]at hv;obtain⟨l,el,rfl⟩:=dm.mp hv;have ll:=lw l (cb el);have lt:=mS M (word.take i) room aL λz hz=>lw z (qk hz)
     obtain⟨rs,r1,c1,c2,c3,c4,c5,c6⟩:=aM.at ll;obtain⟨y,ey⟩:∃y,(e.getD l [])[di e room (word.take i)]?=some y:=#[_,bE (by rw[c5];exact lt)];refine#[_,zZ,_,zZ,m,_,_,_,zZ,zZ,S2 c1,c3,_,zZ,r1,_,_,_,zZ,zZ,S2 c4,ge (by rw[bZ,ey];rfl),zZ,some (nv l),?_];rw[gQ,el];show _=[_,_,_,_,_,_,_,some (nv (di e room (word.take i++[l]))),_,_,_,_]
     rw[Ki,cZ,ey];rfl
    obtain⟨rfl,aN,rfl⟩:=p;rw[bF,fZ];have I2:=stay I1 u;have aw:=gg.trans u;obtain⟨T,rr,ao,ap,r1,r2⟩:=id (GA.keeps aw.keeps);refine#[_,zZ,x3,T,_,zZ,r1,(by kernel_rfl),_,zZ,_,zZ,x3,L,wo,m,e,n,C,Ls,d,word,zZ,GA.keeps aw.keeps,aM,R,cA _ _ I2.2.2.2.2,I2.2.2.1,ew,lw,λt ag Y et=>?_];have I3:=stay I2 Y;refine#[_,zZ,x,?_];obtain⟨D,_,_,_,_,aa,_⟩:=id I3.2.1;refine#[D,_,zZ,aa,(by kernel_rfl),zZ,by show 1<=sizeLine;decide,λgl bb=>?_];have kg:=bV bb (.lst [V.str tQ]);have bc:=(aw.trans Y).trans kg;have aO:=kg _ _ (Y _ _ ew);have bd:=bc _ _ Gn;have al:∀l,l<e.length->fP ((j++zs).map V.str) ((l:Nat):Int)=some (.str (j.getD l #[#v[]])):=λl hl=>ge (by
     have ix:l<j.length:=by lia
     rw[bZ,dN ix,cZ,bE ix];rfl)
    refine#[_,zZ,wo,zZ,#[_,S1 aO],Fn (f:=λv=>match v with|.int i=>V.str (j.getD i.toNat #[#v[]])|v=>v) (by rw[bF];exact small ()) (S1 aO) (λv Q hv q=>?_) (λjl be=>?_)]
    .obtain⟨l,hl,rfl⟩:=b8.mp hv;exact#[_,zZ,_,zZ,nl,_,_,_,zZ,zZ,S1 bd,al l (lw l hl),q]
    have em:(word.map nv).map (λv=>match v with|.int i=>V.str (j.getD i.toNat #[#v[]])|v=>v)=(word.map λi=>j.getD i #[#v[]]).map V.str:=by
     rw[eJ,eJ];rfl
    rw[em];have kj:=bV be (.lst ((word.map λi=>j.getD i #[#v[]]).map V.str));refine#[gl,jl,_,_,zZ,zZ,S1 (kj _ _ bG),S1 bG,by rw[bF,bF];show 1+_<=_;rw[cH];lia,λcl bf=>?_];have kc:=bV bf (.lst ([V.str tQ]++(word.map λi=>j.getD i #[#v[]]).map V.str));refine#[_,cl,tQ::word.map λi=>j.getD i #[#v[]],zZ,zZ,S1 bG,by decide+kernel,?_,?_]
    .have:=qj (l:=tQ::word.map λi=>j.getD i #[#v[]]) (k:=8) λy hy=>by
      rcases cX.mp hy with rfl|hy
      .decide+kernel
      .obtain⟨l,hl,rfl⟩:=b8.mp hy;have ix:l<j.length:=by have:=lw l hl;lia
       rw[cZ,bE ix];show(j[l]).length<=8
       rw[ja];exact(B _ (gh ix)).few
     rw[iL,bF]at this|-;lia
    have I5:=stay I3 (kg.trans (kj.trans kc));rw[pq];refine#[x,KE j word,j,e,n,C,Ls,d,zZ,I5.2.1,nd,el,B,R,I5.2.2.1,.inr (.inl #[word,zZ,ba,(),lw,λbg ae ax=>?_])];have tt:=IG M R lw I5.2.2.1;rw[I5.2.2.2.1]at tt;have lt:=mS M word room aL lw;rw[tt];refine#[_,zZ,_,zZ,wy (),zZ,?_];have tx:t≠x:=nE et aa;have dt:L2.drop ag x t=some (.tup ((iu e n Ls d word).map nv)):=by rw[db tx];exact et
    have d5:=mM (a:=x) (kg.trans (kj.trans kc));refine#[_,di e room word,t,some (.int c),some (.ref wo),aN,#[I5.1.trans ae,ax,BP M R lw I5.2.2.1,tt,ae _ _ (d5 _ _ dt)],?_];show[_,_,_,_,_,_,_,_,_,some (V.bl (decide (V.str (df (di e room word))=V.str (df (di e room word))))),_,_]=_
    rw[cG zZ]
   .refine#[_,zZ,_,_,zZ,zZ,(by show(0:Int)<4;decide),zZ,_,zZ,lF (λ_=>?_) (λ_=>?_)]
    .refine#[_,zZ,_,_,zZ,zZ,#[by decide,by decide],_,zZ,m,_,_,_,zZ,zZ,S2 a1,a3,a9,_,zZ,.inr (S2 a4),_,_,zZ,zZ,(by rw[bF,a5];show(0:Int)<((n:Nat):Int);lia),?_];rw[bF,a5];obtain⟨r',er,rl⟩:=cY (c:=c/4) (show 0<n by lia);try dsimp only
     rw[er];obtain⟨T,rr,ao,ap,r1,r2⟩:=id (GA.keeps gg.keeps);refine#[_,zZ,x3,T,_,zZ,r1,(by kernel_rfl),_,zZ,x3,m,e,n,C,Ls,r',zZ,GA.keeps gg.keeps,MM,R,rl,λt ag Y et=>?_];have I3:=stay I1 Y;obtain⟨D,_,_,_,_,aa,_⟩:=id I3.2.1;have aP:(Str.ofString "at ").length+(Str.ofString (toString ((r':Nat):Int))).length<=sizeLine:=by
      have z:(df r').length<=4:=B8 ();have e3:(Str.ofString "at ").length=3:=by decide+kernel
      rw[e3];exact small (by show 3+(df r').length<=1000;lia)
     refine#[_,zZ,x,D,_,zZ,aa,(by kernel_rfl),_,zZ,_,zZ,wy (),_,_,zZ,zZ,aP,?_];rw[show((toString ((r':Nat):Int):String):Str)=df r' from rfl,RT];refine#[x,AL r',j,e,n,C,Ls,d,zZ,I3.2.1,nd,el,B,R,I3.2.2.1,.inr (.inr #[r',zZ,rl,λbg ae ax=>#[zZ,?_]])];have tx:t≠x:=nE et aa;have dt:L2.drop ag x t=some (.tup ((pM e n Ls r').map nv)):=by rw[db tx];exact et
     exact#[_,r',t,_,_,_,#[I3.1.trans ae,ax,JF M R rl,GR M R rl,ae _ _ dt],zZ]
    .obtain⟨f1,f2⟩:=I1.2.2.1.few M R;refine#[_,zZ,_,zZ,L,d,zZ,cA _ _ I1.2.2.2.2,f1,f2,λav u=>#[zZ,?_]];refine#[d,room,L,some (.int c),U,G,stay I1 u,?_];show[_,_,_,_,_,_,_,_,_,some (V.bl (decide (V.str (oS d)=V.str (oS d)))),_,_]=_
     rw[cG zZ]
  .obtain⟨d,room,L,o8,U,G,I2,rfl⟩:=s;exact#[_,zZ,true,true,zZ,zZ,_,zZ,dv #[d,room,L,_,_,_,_,I2,zZ]]
 .obtain⟨d,room,L,o8,o9,U,G,I,rfl⟩:=pv;have gg:Same (L2.drop H9 x) aI:=I.1.trans cA;have J:=GJ.same gg;obtain⟨ab,_,_,_,_,bh,_⟩:=id J;refine#[_,zZ,x2,ab,_,zZ,bh,(by kernel_rfl),x2,sF,j,e,n,C,Ls,_,zZ,J,nd,el,B,R,au,.inl #[zZ,λaK af=>?_]];have ay:=gg.trans af;obtain⟨T,rr,ao,ap,r1,r2⟩:=id (GA.keeps ay.keeps);obtain⟨f1,f2⟩:=au.few M R;refine#[_,zZ,x3,T,_,zZ,r1,(by kernel_rfl),x3,m,e,n,C,Ls,0,zZ,GA.keeps ay.keeps,GM.same ay,R,(),λt av u et=>#[t,_,zZ,et,f1,f2,λag Y=>#[zZ,_,zZ,?_]]];rw[cG zZ];have I3:=stay I ((af.trans u).trans Y);obtain⟨D,_,_,_,_,aa,_⟩:=id I3.2.1;obtain⟨f3,f4⟩:=I3.2.2.1.few M R;refine dv #[_,zZ,x,D,_,zZ,aa,(by kernel_rfl),x,sF,j,e,n,C,Ls,d,zZ,I3.2.1,nd,el,B,R,I3.2.2.1,.inl #[zZ,λbx bi=>?_]];have I4:=stay I3 bi;refine#[_,zZ,L,d,zZ,cA _ _ I4.2.2.2.2,f3,f4,λbz bA=>#[zZ,?_]];rw[cG zZ];exact q _
theorem F9{b:Type}{P:List b->Prop}(h:∀a,P [a]):∀c:List b,c.length=1->P c
 | [a],_=>h a
theorem pP{c:Type}{P:List c->Prop}(h:∀a b,P [a,b]):∀d:List c,d.length=2->P d
 | [a,b],_=>h a b
theorem y3{d:Type}{P:List d->Prop}(h:∀a b c,P [a,b,c]):∀e:List d,e.length=3->P e
 | [a,b,c],_=>h a b c
theorem B9{e:Type}{P:List e->Prop}(h:∀a b c d,P [a,b,c,d]):∀f:List e,f.length=4->P f
 | [a,b,c,d],_=>h a b c d
theorem Gw{f:Type}{P:List f->Prop}(h:∀a b c d e,P [a,b,c,d,e]):∀g:List f,g.length=5->P g
 | [a,b,c,d,e],_=>h a b c d e
abbrev Rw(K:S4)(x:Str)(st:Stmt)(f:Ad)(fd:Fd):Prop:=PySem.W.nsIn K mainGlobals x=some (some (.ref f))/\Fun K x x st f fd
abbrev Rx(K:S4)(x:Str)(st:Stmt):Prop:=∃f fd,Rw K x st f fd
def dE{K:S4}{mg:SV}{x:Str}{k:Nat}{b:Ss}{g:Sp}{st:Stmt}{h:Heap}(P:Pg)(w:World)(base:Heap)(X:K.In h)(G:h.Ns mainGlobals mg)(r:Rx K x st)(o:∀{f fd},Fun K x x st f fd->FnOk P w K mg base b9 k f fd b g)(i:∀(kV c pm:Vl) (j:Option Ad) (d l:Vl) (e:Vs),e.length=b.length->bindArgs (PySem.W.fnOf x x (jy st) (iD st) (bT st) .none kV c pm j d l) #[e,[]]=pure (b.zip e):=by first|exact λ_ _ _ _ _ _=>F9 λ_=>rfl|exact λ_ _ _ _ _ _=>pP λ_ _=>rfl|exact λ_ _ _ _ _ _=>y3 λ_ _ _=>rfl|exact λ_ _ _ _ _ _=>B9 λ_ _ _ _=>rfl|exact λ_ _ _ _ _ _=>Gw λ_ _ _ _ _=>rfl):cE P w K mg base x k b g:=let⟨f,fd,a,F⟩:=r;#[f,fd,o F,PySem.W.mg_of X G a,F.kp,F.binds i]
abbrev gL(K:S4)(C:Ad)(m q:Str)(st:Stmt):Prop:=∃f fd,Gp K C m q st f fd
def iU{K:S4}{C:Ad}{x y:Str}{k:Nat}{c:Ss}{h:Sp}{st:Stmt}(P:Pg)(w:World)(mg:SV)(base:Heap)(r:gL K C x y st)(o:∀{f fd},Fun K x y st f fd->FnOk P w K mg base b9 k f fd c h)(i:∀(kV d pm:Vl) (j:Option Ad) (e l:Vl) (g:Vs),g.length=c.length->bindArgs (PySem.W.fnOf x y (jy st) (iD st) (bT st) .none kV d pm j e l) #[g,[]]=pure (c.zip g):=by first|exact λ_ _ _ _ _ _=>F9 λ_=>rfl|exact λ_ _ _ _ _ _=>pP λ_ _=>rfl|exact λ_ _ _ _ _ _=>y3 λ_ _ _=>rfl|exact λ_ _ _ _ _ _=>B9 λ_ _ _ _=>rfl|exact λ_ _ _ _ _ _=>Gw λ_ _ _ _ _=>rfl):fg P w K mg base C x k c h:=let⟨f,fd,a,b,F⟩:=r;#[f,fd,o F,#[a,b,F.kp],F.binds i]
def Go{K:S4}{mg:SV}{C:Ad}{x z:Str}{k:Nat}{c:Ss}{i:Sp}{st:Stmt}{h:Heap}(P:Pg)(w:World)(base:Heap)(X:K.In h)(G:h.Ns mainGlobals mg)(n:PySem.W.nsIn K mainGlobals z=some (some (.ref C)))(m:PySem.W.makesIn K C=true)(j:PySem.W.keepIn K (.ref C)=true)(r:gL K C tL x st)(o:∀{f fd},Fun K tL x st f fd->FnOk P w K mg base b9 k f fd c i)(l:∀(kV d pm:Vl) (p:Option Ad) (e q:Vl) (g:Vs),g.length=c.length->bindArgs (PySem.W.fnOf tL x (jy st) (iD st) (bT st) .none kV d pm p e q) #[g,[]]=pure (c.zip g):=by first|exact λ_ _ _ _ _ _=>F9 λ_=>rfl|exact λ_ _ _ _ _ _=>pP λ_ _=>rfl|exact λ_ _ _ _ _ _=>y3 λ_ _ _=>rfl|exact λ_ _ _ _ _ _=>B9 λ_ _ _ _=>rfl|exact λ_ _ _ _ _ _=>Gw λ_ _ _ _ _=>rfl):xv P w K mg base z C k c i:=let⟨f,fd,a,b,F⟩:=r;#[f,fd,o F,#[m,a,b,j],PySem.W.mg_of X G n,F.binds l]
set_option maxHeartbeats 0 in
def e4z{l:W.OpenLaw}{w:World}{K:S4}{h:Heap}{mg:SV}{fa f8 x y ay z j k:Ad}{az:Fd}(X:K.In h)(G:h.Ns mainGlobals mg)(aA:mg "law"=some (.ref fa)){aB ai aj E ak H:Option Ad} {aC al am:Array (Option Vl)} {aD ao ap aq A ar as I J L M au N O Q T:Vl} {av:Obj} {aE:Nat}(r2:Rx K "is_whole" Fi)(r3:Rx K "is_room" FL)(r4:Rx K "is_turn" Bi)(r5:Rx K "check" Fq)(r6:Rx K "led" u0)(r7:Rx K wV Du)(a8:W.nsIn K mainGlobals tK=some (some (.ref f8))) (l8:K.lookup f8=some #[aD,aB,.func (W.fnOf tK tK (jy pD) (iD pD) (bT pD) (.ref z) ao ap aq ai A ar),aC]) (c8:W.codeIn K A tK=true) (k8:W.keepIn K (.ref f8)=true)(lD8:K.lookup z=some av) (qD8:av.data=.seq ([.none]:Vs).toArray aE)(r9:Rx K "place_of" GC)(aF:Rx K "in_order" Ex)(aG:Rx K wU B7)(aH:Rx K tW AK)(a13:W.nsIn K mainGlobals sR=some (some (.ref x))) (l13:K.lookup x=some #[as,aj,.func (W.fnOf sR sR (jy n7) (iD n7) (bT n7) .none I J L E (.ref j) M),al]) (c13:W.codeIn K (.ref j) sR=true) (k13:W.keepIn K (.ref x)=true)(hd13:W.codeHdIn K j 175=true)(aI:Rx K "still" EU)(aJ:Rx K xD A7)(aK:Rx K "pictures" Dn)(aL:Rx K "family" we)(aM:Rx K xE B6)(aN:Rx K sH z5)(aO:Rx K wL Ep)(aP:Rx K xF Ch)(aQ:Rx K wI DG)(aR:Rx K "is_led_to" CC)(aS:Rx K wF zw)(aT:Rx K "levels" Cz)(aU:Rx K "tile" D4)(aV:Rx K vY Cw)(aW:Rx K vZ CK)(aX:Rx K tX Eb)(a31:W.nsIn K mainGlobals sU=some (some (.ref y))) (l31:K.lookup y=some #[au,ak,.func (W.fnOf sU sU (jy ou) (iD ou) (bT ou) .none N O Q H (.ref k) T),am]) (c31:W.codeIn K (.ref k) sU=true) (k31:W.keepIn K (.ref y)=true)(hd31:W.codeHdIn K k 279=true)(aY:Rx K wW Ca)(aZ:Rx K "is_name" Do)(a0:Rx K xB GP)(a1:Rx K "read_row" Br)(a2:Rx K "read" qh)(a3:Rx K "is_told" DH)(a4:Rx K "words_of" Et)(a5:Rx K "joined" GN)(a6:Rx K tZ F4)(a7:Rx K xA CG)(a9:Rx K "_law_turn" yY)(ba:Rx K wO Ff)(bb:Rx K wP AG)(bc:Rx K "_law_word" DX)(bd:Rx K wM BQ)(aw:Rw K "law" uq ay az){b:Tok} (n_MOST_LETTERS:W.nsIn K mainGlobals "MOST_LETTERS"=some (some (.int 4 b))){d:Tok} (n_MOST_ROOMS:W.nsIn K mainGlobals "MOST_ROOMS"=some (some (.int 5 d))){f:Tok} (n_MOST_SIGNS:W.nsIn K mainGlobals "MOST_SIGNS"=some (some (.int 8 f))){a:Tok} (n_SMALL_LETTERS:W.nsIn K mainGlobals "SMALL_LETTERS"=some (some (.str tH a))){m:Tok} (n_FIGURES:W.nsIn K mainGlobals "FIGURES"=some (some (.str xC m))){o:Ad} (n_LevelParts:W.nsIn K mainGlobals "LevelParts"=some (some (.ref o))) (P3:OwnC K o [sA,sG,sH,sQ,sN]) (mk_LevelParts:W.makesIn K o=true) (kp_LevelParts:W.keepIn K (.ref o)=true){p:Ad} (n_Row:W.nsIn K mainGlobals "Row"=some (some (.ref p))) (S0:OwnC K p [sC,tE]) (mk_Row:W.makesIn K p=true) (kp_Row:W.keepIn K (.ref p)=true){B:Ad} (n_Hall:W.nsIn K mainGlobals "Hall"=some (some (.ref B))) (S':OwnC K B [sO,sA,sF,sM]) (mk_Hall:W.makesIn K B=true) (kp_Hall:W.keepIn K (.ref B)=true)(rC:gL K o tL "LevelParts.__init__" AN)(qO:gL K o xG "LevelParts.is_turning" DS)(rM:gL K o wH "LevelParts.within" Gj)(qP:gL K o xH "LevelParts.least_tile" AZ)(rJ:gL K o "deed_of" "LevelParts.deed_of" EN)(rN:gL K o "turned" "LevelParts.turned" GD)(rK:gL K o "brought" "LevelParts.brought" DR)(qJ:gL K o "pair_behind" "LevelParts.pair_behind" DK)(uR:gL K p tL "Row.__init__" BS)(vF:gL K p "paired" "Row.paired" EL)(vP:gL K p "told" "Row.told" FY)(uS:gL K p "unpaired" "Row.unpaired" Fb)(vG:gL K p "row_of" "Row.row_of" D9)(vH:gL K p "walked" "Row.walked" DU)(vL:gL K p "moved" "Row.moved" GH)(vQ:gL K p "gone" "Row.gone" Gu)(uJ:gL K B "letter_of" "Hall.letter_of" DO)(vT:gL K B tQ "Hall.go" Bl)(vI:gL K B "stand" "Hall.stand" Cs)(vR:gL K B "say" "Hall.say" Bf)(uL:gL K B tL "Hall.__init__" ES)(Y:W.nsIn K mainGlobals "len"=some none) (n:W.nsIn K mainGlobals "sorted"=some none) (r:W.nsIn K mainGlobals "tuple"=some none) (aa:W.nsIn K mainGlobals "set"=some none) (t:W.nsIn K mainGlobals "range"=some none) (C:W.nsIn K mainGlobals "list"=some none) (ab:W.nsIn K mainGlobals "all"=some none) (ae:W.nsIn K mainGlobals "any"=some none) (i:W.nsIn K mainGlobals "enumerate"=some none) (af:W.nsIn K mainGlobals "zip"=some none) (g:W.nsIn K mainGlobals "isinstance"=some none) (ag:W.nsIn K mainGlobals "int"=some none) (D:W.nsIn K mainGlobals "bool"=some none) (ah:W.nsIn K mainGlobals "str"=some none):
  ∃fd:Fd,(∀(s:Sh) (v:Vl),BindsTo s fd #[[v],[]] [(sJ,v)])/\∀base:Heap,K.In base->base.Ns mainGlobals mg->oQ mg base->FnOk l.prog w K mg base b9 24 fa fd [sJ] (i8 K):=by
 have e:=aA.symm.trans (oU X G aw.1);cases e;have F8:DefAt K tK pD f8 (W.fnOf tK tK (jy pD) (iD pD) (bT pD) (.ref z) ao ap aq ai A ar) (.ref z) A:=#[c8,#[_,_,_,_,_,zZ],_,_,_,l8];have be:DefAt K sR n7 x (W.fnOf sR sR (jy n7) (iD n7) (bT n7) .none I J L E (.ref j) M) .none (.ref j):=#[c13,#[_,_,_,_,_,zZ],_,_,_,l13];have bf:DefAt K sU ou y (W.fnOf sU sU (jy ou) (iD ou) (bT ou) .none N O Q H (.ref k) T) .none (.ref k):=#[c31,#[_,_,_,_,_,zZ],_,_,_,l31];have c:=lV X G Y;have kL:=lV X G n;have u:=lV X G r;have uX:=lV X G aa;have q:=lV X G t;have uC:=lV X G C;have rY:=lV X G ab;have uY:=lV X G ae;have rF:=lV X G i;have rZ:=lV X G af;have jE:=lV X G g;have rX:=lV X G ag;have vM:=lV X G D;have U:=lV X G ah;have qF:=oU X G n_MOST_LETTERS;have qT:=oU X G n_MOST_ROOMS;have qR:=oU X G n_MOST_SIGNS;have qA:=oU X G n_SMALL_LETTERS;have uD:=oU X G n_FIGURES;have rL:=aw.2;obtain⟨_,_,kV,dc,pm,an,cv,ct,_,rfl,_,_⟩:=id rL.ex;refine#[W.fnOf "law" "law" (jy uq) (iD uq) (bT uq) .none kV dc pm an cv ct,λs v=> .of_eq zZ,λbase KB _ ax=>?_];have uM:=W.codeHd_of_K KB hd13;have uT:=W.codeHd_of_K KB hd31;have jI:=dE l.prog w base X G a6 λF=>Q4 F c;have vW:=dE l.prog w base X G r6 λF=>OV F;have rQ:=dE l.prog w base X G r9 λF=>MD F c;have rS:=dE l.prog w base X G aF λF=>NN F rQ kL;have jK:=dE l.prog w base X G aH λF=>Qx F vW u kL uX;have kZ:=dE l.prog w base X G r7 λF=>NR F c;have qD:Cv l.prog w K mg base tK _ _ _ [.non]:=#[_,_,[.none],NI (P:=l.prog) (w:=w) (base:=base) F8 kZ q,oU X G a8,k8,(λs us KX hl=>by have bg:us.length=3:=(by simpa using hl);clear hl;revert us;exact y3 (λ_ _ _=>BindsTo.of_defaults zZ (KX _ _ lD8) qD8 zZ zZ)),.cons zZ .nil];have jQ:cE l.prog w K mg base sR _ _ _:=#[_,_,PH (P:=l.prog) (w:=w) (base:=base) be uM ax GG jK qD c,oU X G a13,k13,.all (pP (λ_ _=>rfl))];have qC:=dE l.prog w base X G aI λF=>RB F u q;have kN:=dE l.prog w base X G aJ λF=>Rj F u;have rR:=dE l.prog w base X G aK λF=>RU F qC jQ c uC;have qN:=dE l.prog w base X G aL λF=>Np F rR rS c q;have jY:=dE l.prog w base X G aG λF=>N4 F rY;have qU:=dE l.prog w base X G aM λF=>Ol F jY uY;have vD:=dE l.prog w base X G aN λF=>O' F qN jY qU;have qB:=dE l.prog w base X G aO λF=>Ly F qN jQ c;have qV:=dE l.prog w base X G aP λF=>Na F;have kU:=dE l.prog w base X G aQ λF=>Mx F qV;have rE:=dE l.prog w base X G aR λF=>Qv F uY;have kM:=dE l.prog w base X G aS λF=>Px F rE;have uP:=dE l.prog w base X G aT λF=>Qh F qB kU kM vD;have vN:=dE l.prog w base X G aU λF=>Mm F jK;have jL:=dE l.prog w base X G aV λF=>MW F vN c q;have jR:=dE l.prog w base X G aW λF=>OG F jK jL u;have kF:=dE l.prog w base X G aX λF=>LB F jR c q;have qI:cE l.prog w K mg base sU _ _ _:=#[_,_,Mj (P:=l.prog) (w:=w) (base:=base) bf uT ax Fl kF qC kN qD c kL,oU X G a31,k31,.all (pP (λ_ _=>rfl))];have qW:=Go l.prog w base X G n_LevelParts mk_LevelParts kp_LevelParts rC λF=>RL F P3 qI jL jR rF q c;have jF:=iU l.prog w mg base qO λF=>NV F P3 c;have jC:=iU l.prog w mg base rM λF=>LX F P3;have jG:=iU l.prog w mg base qP λF=>MV F P3 jY;have jX:=iU l.prog w mg base rJ λF=>N0 F P3 jK jG;have kA:=iU l.prog w mg base rN λF=>O8 F P3 kN;have jW:=iU l.prog w mg base rK λF=>Mu F P3;have jO:=iU l.prog w mg base qJ λF=>N9 F P3 kA jW;have uZ:=Go l.prog w base X G n_Row mk_Row kp_Row uR λF=>Pc F S0 qW uP qC c;have jZ:=iU l.prog w mg base vF λF=>Ob F P3 S0 jF;have rT:=iU l.prog w mg base vP λF=>Ru F P3 S0 jC jZ rZ;have jS:=iU l.prog w mg base uS λF=>QB F P3 S0 jF rZ u;have jJ:=iU l.prog w mg base vG λF=>OH F P3 S0 jG jC jS;have qX:=iU l.prog w mg base vH λF=>Nx F P3 S0 jX jO jC rZ;have rG:=iU l.prog w mg base vL λF=>RX F S0 jZ qX jS;have rO:=dE l.prog w base X G r2 λF=>PU F jE rX vM;have uF:=dE l.prog w base X G r3 λF=>Sm F rO;have uG:=dE l.prog w base X G r4 λF=>RZ F uF jE u c rY;have vC:=dE l.prog w base X G r5 λF=>Sa F uG jE u c qF qT;have kE:=dE l.prog w base X G aY λF=>P1 F rY;have uE:=dE l.prog w base X G aZ λF=>Qg F kE qR qA c;have qS:=dE l.prog w base X G a0 λF=>O6 F kE uD c;have rP:=dE l.prog w base X G a1 λF=>OI F uE qS u rX;have vO:=dE l.prog w base X G a2 λF=>Lu F rP vC jE U u uX c;have qZ:=dE l.prog w base X G a7 λF=>NC F q c rX;have rD:=dE l.prog w base X G a9 λF=>Oi F q u uC;have qG:=dE l.prog w base X G ba λF=>OU F jI rD q u;have kO:=dE l.prog w base X G bb λF=>NE F q c U;have kX:=iU l.prog w mg base vQ λF=>O9 F S0 rG;have uH:=dE l.prog w base X G a3 λF=>P' F c;have rV:=dE l.prog w base X G a4 λF=>M8 F jE U;have uQ:=dE l.prog w base X G a5 λF=>Nl F;have kW:=iU l.prog w mg base uJ λF=>RE F S' P3 S0;have uI:=iU l.prog w mg base vT λF=>vX F S' S0 kW kX rT U;have qY:=iU l.prog w mg base vI λF=>Rl F S' S0 jJ U q c;have kG:=iU l.prog w mg base vR λF=>Mi F S' rV uH uQ uI qY U;have vE:=Go l.prog w base X G n_Hall mk_Hall kp_Hall uL λF=>MS F S' S0 vO uZ jJ;have rH:=dE l.prog w base X G bc λF=>Rr F q;have jV:=dE l.prog w base X G bd λF=>ME F U;exact P0 (P:=l.prog) (w:=w) (base:=base) rL S' S0 qG qZ jI kO rH jV vE kG uZ jJ kX c U
def tabsW:List (Str×Ad):=[(sR,175),(sU,279)]
def walk{l:PySem.W.OpenLaw}{q:Pg}{b:Ss}{m:SV->Heap->Prop}{j:World->Heap->Prop}{d:DefRec}{K:Params->S4}(o:l.most=some 63)(g:d.params.defaults=[])(p:∀(w:World) (h:Heap),j w h->(K w.params).In h) (hT:∀w:World,∀t∈tabsW,(K w.params).lookup t.2=none/\(∃c,PySem.W.tabIn (K w.params) t.1=some (c,t.2))/\∃e,(recsOf q).find? (λr=>r.name==t.1)=some e)(F:∀(w:World) (mg:SV) (fa:Ad) (h:Heap),(K w.params).In h->h.Ns mainGlobals mg->mg d.name=some (.ref fa)->
   ∃fd:Fd,(∀(s:Sh) (u:Vl),BindsTo s fd #[[u],[]] [(sJ,u)])/\∀base:Heap,(K w.params).In base->base.Ns mainGlobals mg->oQ mg base->FnOk l.prog w (K w.params) mg base b9 24 fa fd [sJ] (i8 (K w.params))):
  PySem.W.WalkO q b m j l.row.toRowW d [] (λf v=>PySem.call f v):=
 L2.d5m (n:=63) (k:=24) (x:=sJ) (tabs:=tabsW) (sp:=λw=>i8 (K w.params)) o (by decide) g #[zZ,by decide,by decide] p hT F λw H a y A ht B=>#[a,y,zZ,B,A,(λq C=>by
  have z:q.2.2∈tabsW.map (·.2):=(show eY.map (·.2.2)=tabsW.map (·.2)from rfl)▸List.mem_map_of_mem C;obtain⟨t,i,e⟩:=b8.mp z;rw[<-e];exact .inl (ht t i)),λ_=>rfl]
end My
namespace PySem.W.Fast
def tw11080749399553748950:=0
theorem te11080749399553748950 : True := ⟨⟩
def tw1019749094350972800:=0
def tw15843726697850215572:=0
def tw2433612495952169508:=0
def tw18029277484090746658:=0
def tw17868261198289148951:=0
def tw6208725603270752209:=0
def tw5651939369879472394:=0
def tw3670644002081049920:=0
def tw14902653389914266504:=0
def tw6717151518267503727:=0
def tw12711133968519950631:=0
def tw4244952424357613718:=0
def tw10142717953002378123:=0
def tw2226472043529912201:=0
def tw18103010699244205874:=0
def tw16572549508985305613:=0
def tw5012132544227852618:=0
def tw13652156281307903593:=0
def tw1384727981989413801:=0
def tw13702695681432950583:=0
def tw15076980964189271711:=0
def tw14191081080929327369:=0
def tw7900249559162413753:=0
def tw14639718207864047697:=0
def tw1010840441688476592:=0
def tw1781141982434075319:=0
def tw6601058324713047875:=0
def tw11085402429060072718:=0
def tw7863704842651613798:=0
def tw16474621388510790037:=0
def tw17779575929516293816:=0
def tw3614809792585066595:=0
def tw7893148879482154978:=0
def tw9436838026949635517:=0
def tw14818424711735989851:=0
def tw11803645294806502170:=0
def tw4271849521151680664:=0
def tw5257556079498401283:=0
def tw9953207742843260472:=0
def tw4262414416892482013:=0
def tw6235976573124554145:=0
def tw3604375479962909787:=0
def tw16049456489483320636:=0
def tw368213028520495044:=0
def tw6728145465817877123:=0
def tw16008591668865768202:=0
def tw4158916389142165261:=0
def tw3375882021986011338:=0
def tw7382178994887552636:=0
def tw17208488903921153423:=0
def tw1709936597078588279:=0
def tw3659486707620770040:=0
def tw16281589244699857325:=0
def tw13570652574882381090:=0
def tw16591842533019027091:=0
def tw10994348521292445641:=0
def tw5543064855130479840:=0
def tw6832651183018814464:=0
def tw13137677400524217783:=0
def tw8821240115910071151:=0
def tw1113599096090399608:=0
def tw9086819683802616715:=0
def tw17634696044722870278:=0
def tw222473085387139386:=0
def tw4914145355690202673:=0
def tw646913418229300439:=0
def tw4767037644005254471:=0
def tw2131517819462423075:=0
def tw6994536265910168002:=0
def tw6491273013848736610:=0
def tw10195533463365576482:=0
def tw7291089240842255388:=0
def tw9686377831833635583:=0
def tw8085118582731794797:=0
def tw14374811143000237442:=0
def tw13746676352016004086:=0
def tw15610307638858986219:=0
def tw16615715551615914571:=0
def tw10408838591239901261:=0
def tw17992715147097801984:=0
def tw8356253102632835860:=0
def tw17450150024986059198:=0
def tw13478494092408026974:=0
def tw13319275692548841558:=0
def tw13269108671167079949:=0
def tw11385349478676622935:=0
def tw9512758500207742390:=0
def tw14230259868711616796:=0
def tw1395934702495192847:=0
def tw4980065746546849433:=0
def tw15445128582528227955:=0
def tw13889550549785091212:=0
def tw2018129883163015872:=0
def tw6421537970372291282:=0
def tw12020996124166655787:=0
def tw12058618294883396823:=0
def tw12911526120925530643:=0
def tw12633977825691947350:=0
def tw4508583926408058930:=0
def tw7475944634932290208:=0
def tw10084386146918445083:=0
def tw13330631601628510460:=0
def tw5734942692801927651:=0
def tw1851440103114692975:=0
def tw10869439639402113057:=0
def tw7814355514640647631:=0
def tw6552599959707506406:=0
def tw5847156345715149148:=0
def tw17884499032574267114:=0
def tw3402402171738591210:=0
def tw12336524344367030216:=0
def tw13866386978263885055:=0
def tw14838439330987351541:=0
def tw4363965580756871273:=0
def tw12471344842037444418:=0
def tw8803514429924760078:=0
def tw16088302071707380163:=0
def tw1357442542318275184:=0
def tw512547241202080036:=0
def tw1348738892374709095:=0
def tw5318697883457575787:=0
def tw9973930894054893378:=0
def tw12112214758090410080:=0
def tw9190293308377723545:=0
def tw15258678877606756344:=0
def tw4694024167743311029:=0
def tw6847073930363764466:=0
def tw10682830347838732388:=0
def tw528027323813249022:=0
def tw9765426041620445535:=0
def tw17435478329026627290:=0
def tw11341160488990557122:=0
def tw15361636194559205247:=0
def tw17741438564610040287:=0
def tw664440274470688096:=0
def tw4914273256370312798:=0
def tw6947467034655904401:=0
def tw3921516128491394410:=0
def tw14296679236452601141:=0
def tw9048031064326952000:=0
def tw17195689783644003251:=0
def tw7178643583198043339:=0
def tw1156620608170378002:=0
def tw17533326500531894892:=0
def tw16880474229016205036:=0
def tw17406945876017199447:=0
def tw370833672182307295:=0
def tw14980898265820933042:=0
def tw7282866325247862090:=0
def tw11616009498412902037:=0
def tw11923449646038767035:=0
def tw17206706095144792562:=0
def tw4181332594303570345:=0
def tw18323900133649399063:=0
def tw17422073721759443421:=0
def tw9689980253671314370:=0
def tw2824203447134942465:=0
def tw1479754268928446778:=0
def tw9410025930125441245:=0
def tw11053393812457267692:=0
def tw4790449687610890859:=0
def tw11280739096111608531:=0
def tw8461997737333638267:=0
def tw8814447000558820150:=0
def tw11820027576165211048:=0
def tw3514429069960711122:=0
def tw12693656603779276934:=0
def tw2239786645321159712:=0
def tw7788989806180467386:=0
def tw15666928561381631558:=0
def tw5248720680712283161:=0
def tw866085212170671794:=0
def tw12965101808126102901:=0
def tw13632998296736873827:=0
def tw5137614061456027095:=0
def tw7807163101248934024:=0
def tw17379026811028760085:=0
def tw1906777226889972079:=0
def tw1512769030130798942:=0
def tw15378605578585376469:=0
def tw13835946175675631889:=0
def tw8808319330951501751:=0
def tw18367591704542619687:=0
def tw4863907975992218914:=0
def tw13260457128951995302:=0
def tw2139986215583197063:=0
def tw6569777948213906669:=0
def tw1860649911828241471:=0
def tw8507492247639667157:=0
def tw4617812986773959020:=0
def tw2218310051378534682:=0
def tw18027888375190887601:=0
def tw16503200324077139842:=0
def tw13400087122703485986:=0
def tw14046712900602957582:=0
def tw16051907465537978088:=0
def tw13153777989233966315:=0
def tw15433954559290664065:=0
def tw15548793846126837690:=0
def tw2094107100796094694:=0
def tw12575171414324674847:=0
def tw2076088637934493204:=0
def tw13073195621254939115:=0
def tw12501587986369644653:=0
def tw16605618334637719554:=0
def tw2455033191292043439:=0
def tw7958135025549510427:=0
def tw16613882411282473513:=0
def tw1880814641984334381:=0
def tw4734969344296192995:=0
def tw12681499275387331748:=0
def tw2706364534134994805:=0
def tw16219522010666789661:=0
def tw3645910084485193053:=0
def tw4731601767712236074:=0
def tw2300461439573240174:=0
def tw2858813903621287474:=0
def tw5383906716615934151:=0
def tw9680576739729153822:=0
def tw1977834912689159777:=0
def tw8834354122433203883:=0
def tw8054893302948693965:=0
def tw15929749579767509933:=0
def tw11892155723528331545:=0
def tw9215942762322882732:=0
def tw13410006120527007798:=0
def tw13854559776705155334:=0
def tw8614139569620233705:=0
def tw4748736165709509445:=0
def tw9810849220073880131:=0
def tw15386230951074771842:=0
def tw147001227827424886:=0
def tw671957288047326144:=0
def tw14795835096251913668:=0
def tw15718026288516031267:=0
def tw14424931960553033566:=0
def tw9652754126483146875:=0
def tw12389051940326643112:=0
def tw9155507330050799384:=0
def tw4953016140565788699:=0
def tw16077785140477440276:=0
def tw9910541581008072735:=0
def tw11447043704685775081:=0
def tw17190310090494565692:=0
end PySem.W.Fast
open PySem PySem.W PyProof.Rows
set_option maxRecDepth 100000 in
set_option maxHeartbeats 0 in
theorem PySem.Challenge.cw_cascade_k82_led_through_a_hall_holds : PySem.Challenge.rw_cascade_k82_led_through_a_hall.Holds := by
 w_on; o_law; k_head; (case hw => w_witness2)
 k_fill
 refine' My.walk (l := PySem.Challenge.rw_cascade_k82_led_through_a_hall) rfl rfl (fun w h Y => PySem.W.km_in_of Y) ?hT ?F
 case hT =>
  intro w t ht
  simp only [My.tabsW, List.mem_cons, List.not_mem_nil, or_false] at ht
  rcases ht with rfl | rfl
  ·exact ⟨by kernel_rfl, ⟨179, by kernel_rfl⟩, _, rfl⟩
  ·exact ⟨by kernel_rfl, ⟨283, by kernel_rfl⟩, _, rfl⟩
 case F =>
  intro w mg fa h KX G hmg
  refine' My.e4z KX G hmg ?_ ?_ ?_ ?_ ?_ ?_ ?a8 ?l8 ?c8 ?k8 ?lD8 ?qD8 ?_ ?_ ?_ ?_ ?a13 ?l13 ?c13 ?k13 ?hd13 ?_ ?_ ?_ ?_ ?_ ?_ ?_ ?_ ?_ ?_ ?_ ?_ ?_ ?_ ?_ ?_ ?a31 ?l31 ?c31 ?k31 ?hd31 ?_ ?_ ?_ ?_ ?_ ?_ ?_ ?_ ?_ ?_ ?_ ?_ ?_ ?_ ?_ ?_ ?n_MOST_LETTERS ?n_MOST_ROOMS ?n_MOST_SIGNS ?n_SMALL_LETTERS ?n_FIGURES ?n_LevelParts ?P3 ?mk_LevelParts ?kp_LevelParts ?n_Row ?S0 ?mk_Row ?kp_Row ?n_Hall ?S' ?mk_Hall ?kp_Hall ?_ ?_ ?_ ?_ ?_ ?_ ?_ ?_ ?_ ?_ ?_ ?_ ?_ ?_ ?_ ?_ ?_ ?_ ?_ ?_ ?_  ?_ ?_ ?_ ?_ ?_ ?_ ?_ ?_ ?_ ?_ ?_ ?_ ?_ ?_
  (case a8 => k_is); (case l8 => k_is); (case c8 => k_is); (case k8 => k_is)
  (case lD8 => k_is); (case qD8 => rfl)
  (case a13 => k_is); (case l13 => k_is); (case c13 => k_is); (case k13 => k_is)
  (case hd13 => kernel_rfl)
  (case a31 => k_is); (case l31 => k_is); (case c31 => k_is); (case k31 => k_is)
  (case hd31 => kernel_rfl)
  (case n_MOST_LETTERS => k_is)
  (case n_MOST_ROOMS => k_is)
  (case n_MOST_SIGNS => k_is)
  (case n_SMALL_LETTERS => k_is)
  (case n_FIGURES => k_is)
  (case n_LevelParts => k_is); (case P3 => exact ⟨⟨by k_is, by k_is, by k_is, by k_is⟩, (.cons (by k_is) (.cons (by k_is) (.cons (by k_is) (.cons (by k_is) (.cons (by k_is) .nil)))))⟩); (case mk_LevelParts => k_is); (case kp_LevelParts => k_is)
  (case n_Row => k_is); (case S0 => exact ⟨⟨by k_is, by k_is, by k_is, by k_is⟩, (.cons (by k_is) (.cons (by k_is) .nil))⟩); (case mk_Row => k_is); (case kp_Row => k_is)
  (case n_Hall => k_is); (case S' => exact ⟨⟨by k_is, by k_is, by k_is, by k_is⟩, (.cons (by k_is) (.cons (by k_is) (.cons (by k_is) (.cons (by k_is) .nil))))⟩); (case mk_Hall => k_is); (case kp_Hall => k_is)
  any_goals (refine' ⟨_, _, ?a, ?i, L2.c9p ?l ?c ?k⟩; (case a => k_is); (case i => k_is); (case l => k_is); (case c => k_is); (case k => k_is))
  any_goals (refine' ⟨_, _, ?a, L2.c9p ?l ?c ?k⟩; (case a => k_is); (case l => k_is); (case c => k_is); (case k => k_is))
  any_goals (refine' ⟨?a, L2.c9p ?l ?c ?k⟩; (case a => k_is); (case l => k_is); (case c => k_is); (case k => k_is))
  any_goals k_is
