import PyProof.Rows.All
import Wide.All
import OpenK.AllK
import Wide.FinOn
import Lean
import PyProof.EqAt
import PyProof.EqKinds
import PyProof.TupleCall
import PyProof.NeKinds
import PySem.Challenge.RW_cascade_k93_whole_own_turns_turn_the_til
set_option maxHeartbeats 2000000
set_option Elab.async false
set_option compiler.extract_closed false
set_option linter.all false
set_option maxRecDepth 100000
local macro_rules|`(())=>`(by lia)
def b8:=@List.getElem?_eq_getElem
def cg:=@List.getElem?_eq_some_iff
def bZ:=@List.length_map
def bW:=@PySem.wpAny_bind
def cr:=@List.getElem?_map
def cP:=@List.getD_eq_getElem?_getD
def cH:=@List.mem_of_getElem?
def cE:=@List.mem_singleton
def b9:=@PySem.wpAny_pure
def cV:=@PySem.Heap.get?_push_of_some
def da:=@Option.map_eq_some_iff
def cq:=@List.mem_map
def cm:=@Nat.le_refl
def cM:=@List.mem_append
def dZ:=@List.getElem?_append_right
def de:=@Array.length_toList
def dh:=@List.mem_cons_self
def dA:=@List.length_append
def eA:=@List.getElem?_append_left
def dU:=@List.mem_iff_getElem?
def dR:=@List.mem_cons_of_mem
def dW:=@PySem.Heap.get?_push_size
def dv:=@List.mem_filter
def c9:=@decide_eq_true
def cQ:=@PySem.Heap.lt_size
def dS:=@List.size_toArray
def fX:=@Array.getElem?_eq_getElem
def dq:=@List.mem_cons
def cW:=@Nat.le_trans
def cS:=@PySem.sizeLine_eq
def ft:=@List.mem_append_right
def fh:=@Array.getElem?_toList
def cA:=@PyProof.Rows.wpS_bind
def dX:=@List.map_append
def f7:=@List.contains_iff_mem
def io:=@Array.getElem?_eq_some_iff
def cK:=@PyProof.Rows.wpS_pure
def e9:=@List.length_take
def eQ:=@decide_eq_false
def dP:=@Nat.ne_of_lt
def fG:=@of_decide_eq_true
def fY:=@List.append_assoc
def gm:=@Nat.lt_of_lt_of_le
def ie:=@List.getElem?_eq_none
def hJ:=@List.length_filter_le
def fN:=@List.take_length
def eU:=@List.mem_range
def ik:=@List.pairwise_append
def gN:=@Bool.false_ne_true
def fL:=@Option.some.inj
def iM:=@List.take_append_drop
def iQ:=@PySem.Heap.get?_update_other
def hK:=@List.map_congr_left
def eZ:=@List.map_cons
def ke:=@List.pairwise_iff_getElem
def gC:=@List.length_cons
def lM:=@Array.perm_iff_toList_perm
def g9:=@List.take_add_one
def nr:=@Nat.exists_eq_add_one_of_ne_zero
def eY:=@List.map_map
def iI:=@Int.toNat_natCast
def dw:=@congrArg
def gL:=@List.append_nil
def lX:=@PySem.F.plainAttrs_list
def gP:=@List.nodup_cons
def gY:=@PySem.PassesOwn.never
def gf:=@PySem.wpAny_holding
def iw:=@List.getElem_mem
def iG:=@PySem.wpAny_call_entry
def ko:=@List.getElem?_range
def iW:=@Nat.lt_succ_self
def jk:=@List.getElem?_inj
def gc:=@Nat.zero_le
def kg:=@List.foldl_append
def pH:=@Array.getD_eq_getD_getElem?
def l8:=@Array.toList_append
def rY:=@List.Nodup.length_le_of_subset
def oK:=@PySem.F.slot_list_append
def pc:=@PySem.F.type_list_append
def lR:=@List.ext_getElem?
def jt:=@Bool.eq_iff_iff
def oB:=@PySem.wpAny_callSpecial?_slot
def oF:=@List.pairwise_singleton
def oo:=@List.length_eq_zero_iff
def mC:=@PySem.wpAny_setField_rec
def jw:=@List.foldl_cons
def mH:=@beq_eq_false_iff_ne
def se:=@PySem.F.slot_dict_keyiterator_next
def lW:=@Bool.and_eq_true
def mw:=@PySem.wpAny_newObj_type
def mz:=@List.length_range
def mv:=@PySem.wpAny_setState_of
def tD:=@PySem.F.slot_dict_valueiterator_next
def pD:=@Nat.add_sub_cancel_left
def gJ:=@PySem.wpAny_mono
def qo:=@Classical.byContradiction
def oC:=@List.mem_append_left
def oW:=@PySem.Around.under_plainId
def iU:=@PyProof.Rows.wpS_forRange
def nO:=@List.getElem?_drop
def fe:=@PySem.boot_len
def jc:=@Nat.le_of_lt
def eC:=@Ne.symm
def o0:=@PySem.mem_of_lookup
def mh:=@Nat.not_lt_zero
def n6:=@Nat.add_sub_cancel'
def jb:=@PySem.F.called_set
def m7:=@List.mem_reverse
def kS:=@Nat.lt_irrefl
def nH:=@PySem.wpAny_dictEntries
def qc:=@List.mem_of_mem_take
def pz:=@List.getElem?_of_mem
def jg:=@Nat.sub_self
def mX:=@PySem.codeAny_builtin
def v7:=@PySem.F.slot_dict_itemiterator_next
def nA:=@Nat.le_add_right
def qe:=@List.toList_toArray
def ti:=@Classical.choose_spec
def oQ:=@List.nodup_append
def pA:=@PySem.wpAny_Call_Name_kw
def uc:=@List.getElem?_cons_succ
def pj:=@List.lookup_cons
def u6:=@List.take_of_length_le
def vb:=@PySem.F.plain_min_loop
def pV:=@PySem.wpAny_truthy_bool
def qj:=@List.take_sublist
def pJ:=@PySem.wpAny_pyIter_slot
def mI:=@PySem.plainId_quiet
def we:=@Nat.sub_lt_left_of_lt_add
def xl:=@List.getElem?_eq_none_iff
def mD:=@PySem.codeAny_mono
def uy:=@PySem.Heap.get?_update_self
def zv:=@PySem.wpAny_typeNameOfWhole_itemiter
def oX:=@PySem.wpAny_dictEpoch
def vd:=@List.Pairwise.sublist
def ou:=@Array.size_push
def uZ:=@PyProof.Rows.boot_set
def xA:=@List.getElem?_take_of_lt
def rX:=@Nat.lt_of_le_of_lt
def rn:=@List.filter_append
def qx:=@decide_eq_true_iff
def zJ:=@PySem.wpAny_typeNameOfWhole_keyiter
def An:=@PySem.wpAny_typeNameOfWhole_valiter
def uq:=@PySem.lookup_relabel_local
def nI:=@PySem.wpAny_attempt
def zT:=@PySem.F.slot_dict_keyiterator_iter
def xG:=@PyProof.Rows.F.plain_set_update_loop
def mS:=@Nat.ne_of_gt
def sw:=@List.pairwise_map
def xr:=@List.length_pos_of_mem
def vy:=@List.pairwise_lt_range
def qp:=@List.ext_getElem
def ry:=@List.getElem_map
def oG:=@PySem.Paired.length
def wh:=@List.length_singleton
def xp:=@List.Perm.append_left
def ny:=@PySem.W.mg_none_of
def pU:=@List.nodup_nil
def Ag:=@PySem.Calls.call_function_entry
def y6:=@List.drop_eq_getElem_cons
def pQ:=@PySem.wpAny_fieldsOf
def yA:=@List.extract_eq_take_drop
def rO:=@PySem.wpAny_passesOwn
def sm:=@List.length_set
def lZ:=@Nat.mod_lt
def t8:=@Array.toList_push
def si:=@PySem.wpAny_updateSeq
def yp:=@Array.size_setIfInBounds
def u8:=@List.filter_congr
def ot:=@Nat.zero_add
def vE:=@Nat.add_le_add_left
def vV:=@PySem.F.plain_extend_loop
def iZ:=@PyProof.Rows.wpS_mono
def ye:=@PySem.F.slot_list_index
def Ao:=@PySem.F.type_list_index
def tj:=@List.length_drop
def tu:=@List.all_eq_true
def t6:=@List.cons_append
def ud:=@Nat.mod_eq_of_lt
def mW:=@PyProof.Rows.boot_tuple
def zo:=@Array.getElem?_eq_none
def yR:=@List.Perm.append_right
def wK:=@List.mem_filterMap
def vz:=@List.pairwise_cons
def wc:=@Nat.lt_of_le_of_ne
def CQ:=@List.countP_eq_length_filter
def BF:=@PyProof.Rows.callWith_type1
def px:=@Nat.le_of_eq
def ve:=@List.range_succ
def oi:=@List.map_id
def tv:=@Nat.min_eq_left
def zi:=@List.perm_append_comm
def uz:=@PyProof.Rows.get?_update_seq
def Ff:=@Array.getElem?_setIfInBounds_self_of_lt
def Ay:=@List.getElem?_toArray
def pZ:=@Int.zero_add
def vZ:=@PySem.wpAny_pyIter_list
def nP:=@PyProof.Rows.wpS_modify
def qq:=@PySem.wpAny_newList
def DU:=@Array.toList_setIfInBounds
def BL:=@List.perm_append_singleton
def zf:=@Array.mem_toList_iff
def x4:=@List.mem_of_mem_drop
def yB:=@Array.toList_extract
def z7:=@Array.toList_reverse
def yx:=@Array.toArray_toList
def Dd:=@List.getElem?_zip_eq_some
def xH:=@beq_self_eq_true
def wH:=@PySem.wpAny_askSetting
def pE:=@Nat.le_succ
def AE:=@PySem.wpAny_raiseNew_none
def zr:=@Nat.add_lt_add_left
def zF:=@PySem.Heap.SameBut.update
def oY:=@PySem.wpAny_rule
def ux:=@List.any_cons
def zd:=@PySem.tupleKind_room_in1
def yP:=@Int.emod_lt_of_pos
def wN:=@PySem.size_of_entries
def zq:=@List.zip_cons_cons
def zU:=@List.getElem?_take
def u5:=@PyProof.Rows.listUpdate_at
def BE:=@PyProof.Rows.F.entry_set_update_loop
def Dw:=@PySem.F.plainAttrs_dict
def Gs:=@PySem.F.args_dict_valueiterator_next_1
def Br:=@PySem.wpAny_pyNext_list_item
def C3:=@PySem.wpAny_isOneOf_itemiter
def qh:=@beq_iff_eq
def yo:=@Nat.lt_succ_of_lt
def rj:=@PySem.wpAny_letGo
def rz:=@PySem.wpAny_field
def Hr:=@PySem.F.args_dict_itemiterator_next_1
def Aa:=@Nat.le_of_lt_succ
def zE:=@Array.size_append
def rW:=@PyProof.Rows.boot_sorted
def yr:=@PySem.wpAny_storeSet_of
def Eb:=@PySem.F.entry_dict_valueiterator_next
def Hx:=@Array.getElem?_setIfInBounds_ne
def vq:=@PySem.Heap.size_push
def vr:=@PySem.wpAny_seqItems
def Bk:=@PySem.wpAny_pyNext_list_end
def tr:=@Nat.lt_trans
def HF:=@PySem.F.entry_dict_itemiterator_next
def Bd:=@PySem.wpAny_notOrdered_dict
def Hh:=@PySem.F.args_dict_keyiterator_next_1
def Eu:=@PySem.F.args_dict_keyiterator_iter_1
def DD:=@Array.mem_of_getElem?
def Dv:=@List.filterMap_append
def D4:=@PySem.wpAny_isOneOf_valiter
def Il:=@PySem.F.slot_dict_valueiterator_iter
def xW:=@Nat.le_of_not_lt
def yf:=@PySem.wpAny_forIn_list
def yl:=@List.perm_middle
def AI:=@List.any_eq_true
def HE:=@PySem.F.entry_dict_keyiterator_next
def HH:=@PySem.F.entry_dict_keyiterator_iter
def zz:=@Array.toList_inj
def yH:=@Array.toList_map
def Aw:=@List.map_snd_zip
def zI:=@List.countP_cons
def zD:=@List.not_mem_nil
def BX:=@Nat.le_sub_of_add_le
def FQ:=@List.dropLast_concat_getLast
def wj:=@Nat.add_assoc
def td:=@PySem.wpAny_call
def AD:=@PySem.wpAny_execs_nil
def DR:=@PySem.W.plainGet_of
def yQ:=@List.of_mem_zip
def AG:=@Int.emod_nonneg
def uh:=@PySem.wpAny_of_eq
def mq:=@PyProof.Rows.wpS_get
def Ax:=@PyProof.Rows.entry_list_sort
def CH:=@List.filter_sublist
def G8:=@PySem.Calls.Name_function_global
def Dc:=@PySem.W.callWith_K
def xg:=@Nat.add_zero
def Cm:=@Array.Perm.mem_iff
def vm:=@Int.lt_trans
def D0:=@of_decide_eq_false
def AC:=@PyProof.Rows.slot_list_sort
def yK:=@PySem.wpAny_tryCatch
def A3:=@Option.isSome_map
def C4:=@List.zip_nil_left
def u9:=@PySem.intKind_is
def DN:=@Nat.lt_trichotomy
def zL:=@PySem.wpAny_standAt
def zH:=@Int.ofNat.inj
def Av:=@Bool.true_and
def Cb:=@List.getElem_inj
def Bb:=@List.length_nil
def BO:=@PySem.wpAny_specialOf
def CT:=@PySem.wpAny_loadPart'
def yU:=@PySem.wpAny_typeOf
def Bu:=@PySem.codeAny_of_tree
def Dy:=@PySem.wpAny_ite_split
def yM:=@List.any_map
def vi:=@ite_congr
def B8:=@Array.Perm.refl
def x8:=@PyProof.Rows.plain_sorted
def zW:=@PyProof.Rows.entry_sorted
def x6:=@Nat.pow_succ
def A5:=@Nat.min_le_left
def oA:=@PySem.W.mg_of
def qz:=@PyProof.Rows.wpS_lift
def yI:=@PyProof.Rows.seqEpoch_at
def zS:=@PyProof.Rows.kind_sorted
section
open PySem
abbrev i7:=List (List (List Nat))
abbrev LN:=List (List Nat)
abbrev bV:=List Nat
abbrev VP:=Value -> Shared -> Prop
abbrev AO:=List (Addr × Obj)
abbrev SV:=Str -> Option Value
abbrev As:=List Addr
abbrev Vs:=List Value
abbrev AV:=Array Value
abbrev Zs:=List Int
abbrev Ss:=List Str
abbrev Sh:=Shared
abbrev Vl:=Value
abbrev Pg:=Program
abbrev Fd:=FuncData
abbrev Ar:=Around
end
def wA:=@if_neg
def wB:=@if_pos
abbrev wC:=@absurd
abbrev wE:=@False.elim
open PySem in
abbrev Ad:=Addr
abbrev rZ:=@rfl
abbrev O2:=PySem.W.Frag
theorem Z'{α:Sort _}{a:α}{q:Prop}:a=a∨q:=.inl rfl
theorem Z0{α:Sort _}{a:α}{q:Prop}:q∨a=a:=.inr rfl
local macro_rules|`(#[$x,*])=>`(⟨$x,*⟩)
local macro_rules|`(#v[$x,*])=>`(List.toArray [$x,*])
namespace L2
open PySem PySem.Spec PyProof.Rows
abbrev cy:=Sum Int Str
def vl:cy->Vl->Bool
 |.inl k,v=>Value.isInt k v
 |.inr x,v=>Value.isStrOf x v
def BB(w:World):cy->Int
 |.inl k=>hashInt k
 |.inr x=>hashStr w x
theorem oR:∀{k:cy} {v:Vl},vl k v=true->(∃i t,k=Sum.inl i/\v=Value.int i t)\/(∃x t,k=Sum.inr x/\v=Value.str x t)
 |.inl i,v,h=>by
  obtain⟨t,e⟩:=Value.isInt_shape (k:=i) (v:=v) h;exact .inl #[i,t,rZ,e]
 |.inr x,v,h=>by
  obtain⟨t,e⟩:=Value.isStrOf_shape (x:=x) (v:=v) h;exact .inr #[x,t,rZ,e]
def J0(i:Int)(t:Tok):vl (.inl i) (.int i t)=true:=by simp[vl,Value.isInt]
def Mv(x:Str)(t:Tok):vl (.inr x) (.str x t)=true:=by simp[vl,Value.isStrOf]
def Jz(a b:Int):decide ((Sum.inl a:cy)=Sum.inl b)=(a==b):=by
 by_cases e:a=b
 .subst e;simp
 .have h: ¬(Sum.inl a:cy)=Sum.inl b:=λq=>e (Sum.inl.inj q);rw[eQ h];exact(mH.mpr e).symm
def IP(a b:Str):decide ((Sum.inr a:cy)=Sum.inr b)=decide (a=b):=by
 by_cases e:a=b
 .subst e;simp
 .have h: ¬(Sum.inr a:cy)=Sum.inr b:=λq=>e (Sum.inr.inj q);rw[eQ h,eQ e]
def Kn(a:Int)(b:Str):decide ((Sum.inl a:cy)=Sum.inr b)=false:=eQ (λq=>nomatch q)
def Ko(a:Str)(b:Int):decide ((Sum.inr a:cy)=Sum.inl b)=false:=eQ (λq=>nomatch q)
def dN(c:Pg)(w:World):PySem.KeyKind c w cy where
 is:=vl
 hash:=BB w
 inj:=λv a b l g=>by
  rcases oR l with⟨i,t,rfl,rfl⟩|⟨x,t,rfl,rfl⟩
  .rcases oR g with⟨j,u,rfl,e⟩|⟨y,u,rfl,e⟩
   .injection e with d _;rw[d]
   .exact nomatch e
  .rcases oR g with⟨j,u,rfl,e⟩|⟨y,u,rfl,e⟩
   .exact nomatch e
   .injection e with d _;rw[d]
 byValue:=λk v h=>by
  rcases oR h with⟨i,t,rfl,rfl⟩|⟨x,t,rfl,rfl⟩<;>rfl
 pyHash:=λf h=>by
  rcases oR f with⟨i,t,rfl,rfl⟩|⟨x,t,rfl,rfl⟩
  .exact wpAny_pyHash_int h
  .exact wpAny_pyHash_str h
 eqBool:=λm f h=>by
  rcases oR m with⟨i,t,rfl,rfl⟩|⟨x,t,rfl,rfl⟩
  .rcases oR f with⟨j,u,rfl,rfl⟩|⟨y,u,rfl,rfl⟩
   .rw[Jz]at h;exact wpAny_eqBool_int h
   .rw[Kn]at h;exact SeqAt.EqAt.int_str i t y u _ _ _ _ h
  .rcases oR f with⟨j,u,rfl,rfl⟩|⟨y,u,rfl,rfl⟩
   .rw[Ko]at h;exact SeqAt.EqAt.str_int x t j u _ _ _ _ h
   .rw[IP]at h;exact wpAny_eqBool_str h
 «strs»:=λk x t v h=>by
  rcases oR h with⟨i,u,rfl,e⟩|⟨y,u,rfl,e⟩
  .exact nomatch e
  .injection e with d _
   subst d;cases v<;>rfl
def NG(a:Pg)(w:World)(i:Int)(t:Tok):(dN a w).is (.inl i) (.int i t)=true:=J0 i t
def KL(a:Pg)(w:World)(x:Str)(t:Tok):(dN a w).is (.inr x) (.str x t)=true:=Mv x t
inductive V where
 |non|bl (b:Bool)|int (i:Int)|str (x:Str)|byt (b:Array UInt8)|flt (b:UInt64)|ref (a:Ad)|ty (n:String)
 deriving DecidableEq
def RelV:V->Vl->Prop
 |.non,u=>u=Value.none
 |.bl b,u=>u=Value.bool b
 |.int i,u=>∃t,u=Value.int i t
 |.str x,u=>∃t,u=Value.str x t
 |.byt b,u=>∃t,u=Value.bytes b t
 |.flt b,u=>∃t,u=Value.float b t
 |.ref a,u=>u=Value.ref a
 |.ty n,u=>u=Value.type n
abbrev Vals:List V->List Vl->Prop:=Paired RelV
def Vals.length{xs:List V}{a:Vs}(r:Vals xs a):xs.length=a.length:=oG r
theorem Vals.get:∀{a:List V} {b:Vs} {i:Nat} {x:V},Vals a b->a[i]?=some x->∃u,b[i]?=some u/\RelV x u
 |_,_,_,_,.nil,e=>by simp at e
 |_,_,0,_,.cons r _,e=>by simp at e;subst e;exact#[_,rZ,r]
 |_,_,i+1,x,.cons _ t,e=>by
  obtain⟨u,c,d⟩:=Vals.get (i:=i) (x:=x) t (by simpa using e);exact#[u,by simpa using c,d]
theorem Vals.set{x:V}{u:Vl}(r:RelV x u):∀{xs:List V} {a:Vs} (i:Nat),Vals xs a->Vals (xs.set i x) (a.set i u)
 |_,_,_,.nil=> .nil
 |_,_,0,.cons _ t=> .cons r t
 |_,_,i+1,.cons q t=> .cons q (Vals.set r i t)
theorem Vals.append:∀{a b:List V} {c d:Vs},Vals a c->Vals b d->Vals (a++b) (c++d)
 |_,_,_,_,.nil,s=>s
 |_,_,_,_,.cons r t,s=> .cons r (Vals.append t s)
theorem Vals.take:∀{a:List V} {b:Vs} (n:Nat),Vals a b->Vals (a.take n) (b.take n)
 |_,_,0,_=> .nil
 |_,_,_+1,.nil=> .nil
 |_,_,n+1,.cons r t=> .cons r (Vals.take n t)
theorem Vals.drop:∀{a:List V} {b:Vs} (n:Nat),Vals a b->Vals (a.drop n) (b.drop n)
 |_,_,0,r=>r
 |_,_,_+1,.nil=> .nil
 |_,_,n+1,.cons _ t=>Vals.drop n t
def RelO:Option V->Option Vl->Prop
 |some v,some u=>RelV v u
 |none,none=>True
 |_,_=>False
def KV{a:Type}:List (a×V)->List (a×Vl)->Prop:=Paired λ(p:a×V) (q:a×Vl)=>p.1=q.1/\RelV p.2 q.2
def kV:cy->V
 |.inl i=> .int i
 |.inr x=> .str x
inductive HO where
 |lst (xs:List V)
 |tup (xs:List V)
 |dK (kvs:List (cy×V))|dT (kvs:List (List cy×V))
 |set (S:Int->Bool) (n:Nat)
 |ins (C dx:Ad) (fs:List (Str×V))
 |own (x:Ad)
 |xd (fs:List (Str×V))
 |met (f x:Ad)
 |rng (lo hi:Int)
 |frz (o:Obj) (u:HO)
 |tbl (ps:AV)
 |ext (φ:Heap->Prop)
abbrev Hp:=Ad->Option HO
def bX(H:Hp)(a:Ad)(o:HO):Hp:=λb=>if b=a then some o else H b
def cb{H:Hp}{a:Ad}{o:HO}:bX H a o a=some o:=by unfold bX;rw[wB rZ]
def cf{H:Hp}{a b:Ad}{o:HO}(h:b≠a):bX H a o b=H b:=by unfold bX;rw[wA h]
def A9{H:Hp}{a:Ad}{o u:HO}:bX (bX H a o) a u=bX H a u:=by
 funext b;unfold bX;split<;>rfl
def jm{H:Hp}{a b:Ad}{o u:HO}(h:H a=some o)(c:H b=some u)(d:o≠u):a≠b:=by
 intro e;subst e;rw[h]at c;exact d (fL c)
def Ei:HO->Nat
 |.lst _=>0
 |.tup _=>1
 |.dK _=>2
 |.dT _=>3
 |.tbl _=>4
 |.ext _=>5
 |.rng _ _=>6
 |.frz _ _=>7
 |_=>8
def nE{H:Hp}{a b:Ad}{o u:HO}(h:H a=some o)(k:H b=some u)(d:(Ei o==Ei u)=false:=by rfl):a≠b:=jm h k λe=>by rw[e,xH]at d;cases d
def di{H:Hp}{a b:Ad}{o:HO}(h:H a=some o)(c:H b=none):a≠b:=by
 intro e;subst e;rw[h]at c;cases c
def TupD(h:Heap)(a:Ad)(b:AV):Prop:=∃o,h.get? a=some o/\o.cls=.type "tuple"/\∃n,o.data=.seq b n/\o.dict=none
def TupD.is{h:Heap}{a:Ad}{b:AV}(p:TupD h a b):IsTup h a b:=let⟨o,e,c,n,d,_⟩:=p;#[o,e,c,n,d]
def TupD.new(h:Heap)(a:AV):TupD (h.push {cls:= .type "tuple",data:= .seq a}) h.objs.size a:=#[_,dW _ rZ,rZ,_,rZ,rZ]
section
variable(P:Pg)(w:World)
def ObjOk(H:Hp)(h:Heap)(a:Ad):HO->Prop
 |.lst d=>d.length<=sizeLine/\∃(b:Vs) (n:Nat),Vals d b/\h.get? a=some {cls:= .type "list",data:= .seq b.toArray n}
 |.tup d=>d.length<=sizeLine/\∃b:Vs,Vals d b/\TupD h a b.toArray
 |.dK c=>c.length<=sizeLine/\(a==sysModules)=false/\∃j,KV c j/\h.DictOf (dN P w) a j
 |.dT c=>c.length<=sizeLine/\(a==sysModules)=false/\∃d:List (List cy×Ad×Vl),
   Paired (λ(p:List cy×V) (q:List cy×Ad×Vl)=>p.1=q.1/\H q.2.1=some (.tup (p.1.map kV))/\RelV p.2 q.2.2) c d/\
   ∃o k r,h.get? a=some o/\o.ExactDict/\o.data=.dict k r/\k.toList=d.map (entryOfKey (tupleKind (dN P w)))/\(d.map (·.1)).Nodup
 |.set S n=>h.SetOf (intKind P w) a S n
 |.ins C g fs=>H g=some (.own a)/\fs.length<=1000/\g≠a/\h.get? a=some (PySem.W.instObj C g)/\
   ∃e,h.Ns1 g e/\(∀f,RelO (fs.lookup f) (e f))/\PySem.Within e (fs.map (·.1))
 |.own _=>∃o,h.get? a=some o
 |.xd fs=>∃e,h.Ns1 a e/\∀f,RelO (fs.lookup f) (e f)
 |.rng lo s=>∃t u v,h.get? a=some {cls:= .type "range",data:= .fields #v[.int lo t,.int s u,.int 1 v]}
 |.frz o u=>h.get? a=some o/\ObjOk H h a u
 |.tbl y=>h.get? a=some {cls:= .none,data:= .fields y}
 |.met f x=>h.get? a=some (PySem.W.methodObj (.ref f) (.ref x))
 |.ext i=>i h/\(∃o,h.get? a=some o)/\∀l m:Heap,i l->(∀o,l.get? a=some o->m.get? a=some o)->i m
def HOk(H:Hp)(h:Heap):Prop:=∀a o,H a=some o->ObjOk P w H h a o
end
section
variable{P:Pg}{w:World}{H H':Hp}{h h':Heap}{a:Ad}{o:HO}
def ObjOk.lt(x:ObjOk P w H h a o):a<h.objs.size:=by
 cases o with
 |lst xs=>obtain⟨_,_,_,_,e⟩:=x;exact cQ e
 |tup xs=>obtain⟨_,_,_,p⟩:=x;exact p.is.lt
 |dK b=>obtain⟨_,_,_,_,o,_,_,e,_⟩:=x;exact cQ e
 |dT b=>obtain⟨_,_,_,_,o,_,_,e,_⟩:=x;exact cQ e
 |set S n=>obtain⟨o,_,_,_,e,_⟩:=x;exact cQ e
 |ins C c fs=>obtain⟨_,_,_,e,_⟩:=x;exact cQ e
 |own y=>obtain⟨_,e⟩:=x;exact cQ e
 |xd fs=>obtain⟨_,⟨_,_,_,e,_⟩,_⟩:=x;exact cQ e
 |rng lo d=>obtain⟨_,_,_,e⟩:=x;exact cQ e
 |frz g u=>obtain⟨e,_⟩:=x;exact cQ e
 |tbl i=>exact cQ (show h.get? a=some _ from x)
 |met f y=>exact cQ (show h.get? a=some _ from x)
 |ext j=>obtain⟨_,⟨_,e⟩,_⟩:=x;exact cQ e
theorem Paired.mapP{e g:Type}{F G:e->g->Prop}:∀{c:List e} {d:List g},Paired F c d->(∀a b,F a b->G a b)->Paired G c d
 |_,_,.nil,_=> .nil
 |_,_,.cons r t,f=> .cons (f _ _ r) (Paired.mapP t f)
def ObjOk.stay(x:ObjOk P w H h a o)(k:∀b u,(b=a\/H b=some (.own a))->h.get? b=some u->h'.get? b=some u)(E:∀b,H b=some (.own a)->H' b=some (.own a)) (ht:∀b m,H b=some (.tup m)->H' b=some (.tup m)):ObjOk P w H' h' a o:=by
 induction o with
 |lst m=>obtain⟨z,l,n,r,e⟩:=x;exact#[z,l,n,r,k _ _ (.inl rZ) e]
 |tup m=>obtain⟨z,l,r,g,e,c⟩:=x;exact#[z,l,r,g,k _ _ (.inl rZ) e,c]
 |dK s=>obtain⟨z,y,G,r,g,i,j,e,c⟩:=x;exact#[z,y,G,r,g,i,j,k _ _ (.inl rZ) e,c]
 |dT s=>
  obtain⟨z,y,m,r,g,i,j,e,c⟩:=x;exact#[z,y,m,Paired.mapP r λp q z=>#[z.1,ht _ _ z.2.1,z.2.2],g,i,j,k _ _ (.inl rZ) e,c]
 |set S n=>obtain⟨g,i,j,t,e,c⟩:=x;exact#[g,i,j,t,k _ _ (.inl rZ) e,c]
 |ins C L fs=>
  obtain⟨d,z,ne,e,A,⟨B,i,j,I,c⟩,r⟩:=x;exact#[E _ d,z,ne,k _ _ (.inl rZ) e,A,#[B,i,j,k _ _ (.inr d) I,c],r]
 |own y=>obtain⟨g,e⟩:=x;exact#[g,k _ _ (.inl rZ) e]
 |xd fs=>obtain⟨A,⟨B,i,j,e,c⟩,r⟩:=x;exact#[A,#[B,i,j,k _ _ (.inl rZ) e,c],r]
 |rng lo M=>obtain⟨t,u,v,e⟩:=x;exact#[t,u,v,k _ _ (.inl rZ) e]
 |frz g u J=>obtain⟨e,q⟩:=x;exact#[k _ _ (.inl rZ) e,J q]
 |tbl D=>
  have e:h.get? a=some {cls:= .none,data:= .fields D}:=x;show h'.get? a=some {cls:= .none,data:= .fields D};exact k a _ (.inl rZ) e
 |met f y=>
  have e:h.get? a=some (PySem.W.methodObj (.ref f) (.ref y)):=x;show h'.get? a=some (PySem.W.methodObj (.ref f) (.ref y));exact k a _ (.inl rZ) e
 |ext N=>obtain⟨p,⟨o,e⟩,st⟩:=x;exact#[st _ _ p λo q=>k _ _ (.inl rZ) q,#[o,k _ _ (.inl rZ) e],st]
def HOk.lt(x:HOk P w H h)(e:H a=some o):a<h.objs.size:=(x a o e).lt
def HOk.fresh(x:HOk P w H h)(e:h.objs.size<=a):H a=none:=by
 cases q:H a with
 |none=>rfl
 |some u=>exact wC (gm (x.lt q) e) (kS _)
def HOk.kept(x:HOk P w H h)(k:∀b u,h.get? b=some u->h'.get? b=some u):HOk P w H h':=λa o e=>
 (x a o e).stay (λb u _ q=>k b u q) (λ_ q=>q) λ_ _ q=>q
def HOk.laid(x:HOk P w H h)(k:∀b u,h.get? b=some u->h'.get? b=some u)(g:h.objs.size<=a)(new:ObjOk P w (bX H a o) h' a o):HOk P w (bX H a o) h':=λb u e=>by
 have d:=x.fresh g;by_cases f:b=a
 .subst f;rw[cb]at e;cases e;exact new
 .rw[cf f]at e;exact(x b u e).stay (λc v _ q=>k c v q) (λc q=>by rw[cf (di q d)];exact q) λc i q=>by rw[cf (di q d)];exact q
end
def Rd(H:Hp)(a:Ad)(u:HO):Prop:=H a=some u\/∃o,H a=some (.frz o u)
def Rd.ok{P:Pg}{w:World}{H:Hp}{h:Heap}{a:Ad}{u:HO}(r:Rd H a u)(x:HOk P w H h):ObjOk P w H h a u:=by
 rcases r with r|⟨o,r⟩
 .exact x a u r
 .obtain⟨_,q⟩:=x a _ r;exact q
def wJ:Option HO->Prop
 |some (.lst _)=>True
 |some (.dK _)=>True
 |some (.dT _)=>True
 |some (.set _ _)=>True
 |some (.ins _ _ _)=>True
 |some (.ext _)=>True
 |_=>False
section
variable{P:Pg}{w:World}{H:Hp}{h h':Heap}{x e:Ad}{a:HO}
def HOk.write(ok:HOk P w H h)(i:wJ (H x))(n:e=x\/H e=some (.own x))(k:∀b u,b≠e->h.get? b=some u->h'.get? b=some u)(m:∃u,h'.get? e=some u)(new:ObjOk P w (bX H x a) h' x a):HOk P w (bX H x a) h':=λb u q=>by
 have f:∀c y,H c=some (.own y)->c≠x:=λc y r z=>by subst z;rw[r]at i;exact i
 have g:∀c j,H c=some (.tup j)->c≠x:=λc j r z=>by subst z;rw[r]at i;exact i
 by_cases l:b=x
 .subst l;rw[cb]at q;cases q;exact new
 .rw[cf l]at q;by_cases d:b=e
  .have o:H b=some (.own x):=by
    rcases n with z|z
    .exact wC (d.trans z) l
    .rw[d];exact z
   rw[q]at o;cases o;obtain⟨v,p⟩:=m;exact#[v,by rw[d];exact p]
  .refine(ok b u q).stay (λc v hc r=>k c v ?_ r) (λc r=>by rw[cf (f c b r)];exact r) λc j r=>by rw[cf (g c j r)];exact r
   rcases hc with rfl|hc
   .exact d
   .rintro rfl
    rcases n with z|z
    .exact f c b hc z
    .rw[hc]at z;cases z;exact l rfl
end
structure Un(fs ex:As)(H H':Hp)(h h':Heap):Prop where
 keep:∀b o,h.get? b=some o->H b=none->b∉fs->b∉ex->h'.get? b=some o
 slot:∀b o,h.get? b=some o->H b=none->b∈fs->b∉ex->∃sl,h'.get? b=some {o with slots:=sl}
 free:∀b o,h.get? b=some o->H b=none->b∉ex->H' b=none
 there:∀b o,h.get? b=some o->b∉ex->∃o',h'.get? b=some o'
 tups:∀b xs,H b=some (.tup xs)->H' b=some (.tup xs)
 frzs:∀b o u,H b=some (.frz o u)->H' b=some (.frz o u)
 tbls:∀b ps,H b=some (.tbl ps)->∃more,H' b=some (.tbl (ps++more))
section
variable{fs g c i:As}{H f l:Hp}{h d j h':Heap}{a x e:Ad}{o:HO}
def Un.any(u:Un fs c H f h d){b:Ad}{ob:Obj}(q:h.get? b=some ob)(n:H b=none)(a:b∉c):∃sl,d.get? b=some {ob with slots:=sl}:=by
 by_cases e:b∈fs
 .exact u.slot b ob q n e a
 .exact#[ob.slots,u.keep b ob q n e a]
def Un.kept(k:∀b u,h.get? b=some u->h'.get? b=some u):Un fs c H H h h':=
 #[λb a q _ _ _=>k b a q,λb a q _ _ _=>#[a.slots,k b a q],λ_ _ _ n _=>n,λb a q _=>#[a,k b a q],λ_ _ q=>q,λ_ _ _ q=>q,λ_ d q=>#[#v[],by rw[q];simp]]
def Un.refl:Un fs c H H h h:=Un.kept λ_ _ q=>q
def Un.laid(k:∀b u,h.get? b=some u->h'.get? b=some u)(e:h.objs.size<=a)(d:H a=none):Un fs c H (bX H a o) h h' where
 keep:=λb u q _ _ _=>k b u q
 slot:=λb u q _ _ _=>#[u.slots,k b u q]
 free:=λb u q n _=>by rw[cf (dP (gm (cQ q) e))];exact n
 there:=λb u q _=>#[u,k b u q]
 tups:=λb f q=>by rw[cf (di q d)];exact q
 frzs:=λb u f q=>by rw[cf (di q d)];exact q
 tbls:=λb g q=>#[#v[],by rw[cf (di q d),q];simp]
def Un.write(d:wJ (H x))(l:e=x\/H e=some (.own x))(k:∀b u,b≠e->h.get? b=some u->h'.get? b=some u)(f:∃u,h'.get? e=some u):Un fs c H (bX H x o) h h':=by
 have i:∀b,H b=none->b≠x:=λb n z=>by subst z;rw[n]at d;exact d
 have j:∀b,H b=none->b≠e:=λb n z=>by
  subst z
  rcases l with r|r
  .exact i b n r
  .rw[n]at r;cases r
 have g:∀b u,H b=some u-> ¬wJ (some u)->b≠x:=λb u q m z=>by subst z;rw[q]at d;exact m d
 refine#[λb u q n _ _=>k b u (j b n) q,λb u q n _ _=>#[u.slots,k b u (j b n) q],λb u q n _=>by rw[cf (i b n)];exact n,λb u q _=>?_,
  λb p q=>by rw[cf (g b _ q λz=>z)];exact q,λb u p q=>by rw[cf (g b _ q λz=>z)];exact q,λb s q=>#[#v[],by rw[cf (g b _ q λz=>z),q];simp]]
 by_cases a:b=e
 .subst a;exact f
 .exact#[u,k b u a q]
end
def Aq(h:Heap)(H:Hp):As:=(List.range h.objs.size).filter λa=>(H a).isSome
def oZ(h:Heap)(H:Hp):Heap:=PySem.W.hideAll h (Aq h H)
def Ni(h:Heap)(H:Hp):(oZ h H).objs.size=h.objs.size:=PySem.W.hideAll_size _ _
def C8{h:Heap}{H:Hp}{b:Ad}{o:Obj}(e:h.get? b=some o)(n:H b=none):(oZ h H).get? b=some o:=
 PySem.W.hideAll_get _ e λa=>by
  have q:(H b).isSome=true:=(dv.mp a).2;rw[n]at q;simp at q
def Nc{h:Heap}{H:Hp}{b:Ad}{o:Obj}(e:(oZ h H).get? b=some o):h.get? b=some o/\H b=none:=by
 have a:h.get? b=some o:=PySem.W.of_hideAll (Aq h H) e;refine#[a,?_];cases q:H b with
 |none=>rfl
 |some x=>
  have c:b∈Aq h H:=dv.mpr #[eU.mpr (cQ a),by simp[q]];have z:(oZ h H).get? b=none:=PySem.W.hideAll_none (Aq h H) c;rw[z]at e;cases e
def LR(g h:Heap)(L:Ad):AO:=(List.range h.objs.size).filterMap λa=>if a=L\/(g.get? a).isSome=true then none else(h.get? a).map λo=>(a,o)
def rest(g h:Heap)(L d:Ad):AO:=(LR g h L).filter λp=>decide (p.1≠d)
structure Mod(K:O2)(mg:SV)(base:Heap):Prop where
 kin:K.In base
 glob:base.Ns mainGlobals mg
 blt:∃mb,base.Ns builtinsNs mb/\∀x:Str,x≠"__name__"->mb x=bootBuiltins x
 nolimit:base.NoLimit
structure Cx where
 prog:Pg
 w:World
 K:O2
 mg:SV
 base:Heap
 A:Ar
 N:Ss
 s₀:Sh
 H₀:Hp
 env:Env
 outer:List Env
 stack:List Env
 ex:As
 fn:Str->Bool
 calm:Bool
 pn:AO
 xe:VP
def lH(l:List Env):As:=l.filterMap (·.frame)
abbrev Cx.fs(X:Cx):As:=lH X.outer
def BD(a:Scope)(x:Str):Prop:=a.names.lookup x=some .local\/a.names.lookup x=some .cell\/a.names.lookup x=some .free
def yF(a:Scope)(x:Str):Prop:=a.names.lookup x=some .local\/a.names.lookup x=some .cell
def A6(a:Env)(h:Heap)(m:SV)(x:Str)(u:Vl):Prop:=
 (a.kindOf x=some .local/\m x=some u)\/((a.kindOf x=some .cell\/a.kindOf x=some .free)/\∃c,a.cells.lookup x=some c/\h.IsCell c (some u))
structure Cx.Ok(X:Cx):Prop where
 mod:Mod X.K X.mg X.base
 kind:X.env.scope.kind=.function
 glob:X.env.globals=mainGlobals
 blt:X.env.builtins=builtinsNs
 above:X.s₀.heap.objs.size<=X.env.locals
 inj:∀x y c,X.env.cells.lookup x=some c->X.env.cells.lookup y=some c->x=y
 has:∀x,(X.env.kindOf x=some .cell\/X.env.kindOf x=some .free)->∃c,X.env.cells.lookup x=some c
 cab:∀x c,X.fn x=true->X.env.cells.lookup x=some c->X.s₀.heap.objs.size<=c
 hd:X.calm=true->X.A.handled=none
 frames:X.A.frames=some X.stack
 stk:X.stack=X.outer\/(X.stack=X.env::X.outer/\X.env.frame=some X.env.locals)
 exf:∀b∈X.ex,b≠X.env.locals/\∀x c,X.env.cells.lookup x=some c->c≠b
 bs:∀b o,X.base.get? b=some o->X.s₀.heap.get? b=some o/\X.H₀ b=none
 bsz:X.base.objs.size<=X.s₀.heap.objs.size
 noex:∀b o,X.base.get? b=some o->b∉X.ex
 exfs:∀b∈X.ex,b∉X.fs
 funs:X.s₀.heap.FunFrames X.base X.outer
 frf:∀b∈X.fs,X.H₀ b=none
structure Inv(X:Cx)(za:AO)(σ:List (Option V))(H:Hp)(s:Sh):Prop where
 ok:X.Ok
 os:s.os=X.s₀.os
 bare:AllBare s.gens
 base:Un X.fs X.ex X.H₀ H X.s₀.heap s.heap
 loc:∃m,s.heap.Ns X.env.locals m/\∀(i:Nat) (x:Str) (v:V),X.N[i]?=some x->σ[i]?=some (some v)->BD X.env.scope x->∃u,RelV v u/\A6 X.env s.heap m x u
 cell:∀x c,X.env.cells.lookup x=some c->∃v,s.heap.IsCell c v
 free:H X.env.locals=none
 freeC:∀x c,X.env.cells.lookup x=some c->H c=none
 pin:∀p∈X.pn++za,s.heap.get? p.1=some p.2/\H p.1=none/\p.1≠X.env.locals/\p.1∉X.fs/\∀v,p.2.data≠ .cell v
 hok:HOk X.prog X.w H s.heap
 len:σ.length=X.N.length
section
variable{X:Cx}{f:AO}{g:List (Option V)}{H H':Hp}{s:Sh}{h':Heap}
def Cx.Ok.nofr(ok:X.Ok){b:Ad}{o:Obj}(e:X.base.get? b=some o):b∉X.fs:=λa=>by
 have:=(ok.funs.mem a).1;rw[e]at this;cases this
def Inv.bs(I:Inv X f g H s):∀b o,X.base.get? b=some o->s.heap.get? b=some o/\H b=none:=λb o e=>
 #[I.base.keep b o (I.ok.bs b o e).1 (I.ok.bs b o e).2 (I.ok.nofr e) (I.ok.noex b o e),I.base.free b o (I.ok.bs b o e).1 (I.ok.bs b o e).2 (I.ok.noex b o e)]
def Inv.bk(I:Inv X f g H s):∀b o,X.base.get? b=some o->s.heap.get? b=some o:=λb o e=>(I.bs b o e).1
def Inv.mod(I:Inv X f g H s):Mod X.K X.mg X.base:=I.ok.mod
def Inv.kIn(I:Inv X f g H s):X.K.In s.heap:=I.ok.mod.kin.keeps I.bk
def Inv.lt(I:Inv X f g H s):X.env.locals<s.heap.objs.size:=let⟨_,a,_⟩:=I.loc;a.lt
def Inv.sz(I:Inv X f g H s):X.s₀.heap.objs.size<=s.heap.objs.size:=cW I.ok.above (jc I.lt)
def Inv.nofs(I:Inv X f g H s){a:Ad}(h:s.heap.objs.size<=a):a∉X.fs:=λb=>by
 obtain⟨_,o,c,_⟩:=I.ok.funs.mem b;exact wC (gm (cQ c) (cW I.sz h)) (kS _)
def Inv.cne(I:Inv X f g H s):∀x c,X.env.cells.lookup x=some c->c≠X.env.locals:=λx c e z=>by
 obtain⟨v,o,d,h⟩:=I.cell x c e;obtain⟨m,⟨i,j,k,a,b,_⟩,_⟩:=I.loc;rw[z,a]at d;cases d;rw[b]at h;cases h
def Inv.funs(I:Inv X f g H s):s.heap.FunFrames X.base X.outer:=by
 have all:∀(l:List Env),(∀b∈lH l,b∈X.fs)->X.s₀.heap.FunFrames X.base l->s.heap.FunFrames X.base l:=by
  intro l
  induction l with
  |nil=>intro _ _;trivial
  |cons i r j=>
   intro h k;obtain⟨m,⟨L,o,a,n,p,q⟩,t⟩:=k;have c:L∈X.fs:=h L (by unfold lH;rw[List.filterMap_cons,a];exact List.mem_cons_self);obtain⟨sl,e⟩:=I.base.slot L o p (I.ok.frf L c) c λz=>I.ok.exfs L z c
   exact#[m,#[L,_,a,n,e,q],j (λb d=>h b (by unfold lH;rw[List.filterMap_cons,a];exact List.mem_cons_of_mem _ d)) t]
 exact all X.outer (λ_ d=>d) I.ok.funs
def Inv.stack(I:Inv X f g H s):s.heap.FunFrames X.base X.stack:=by
 rcases I.ok.stk with e|⟨e,a⟩
 .rw[e];exact I.funs
 .rw[e];obtain⟨m,b,_⟩:=I.loc;refine .cons (by rw[I.ok.kind];decide) a b ?_ I.funs;exact Heap.get?_none_of_le (cW I.ok.bsz I.ok.above)
def Inv.stkSub(I:Inv X f g H s):∀b∈lH X.stack,b∈X.env.locals::X.fs:=λb a=>by
 rcases I.ok.stk with e|⟨e,c⟩
 .rw[e]at a;exact dR _ a
 .rw[e]at a;unfold lH at a;rw[List.filterMap_cons,c]at a;exact a
def Inv.stkFree(I:Inv X f g H s):∀b∈lH X.stack,H b=none:=λb hb=>by
 rcases dq.mp (I.stkSub b hb)with e|hb
 .rw[e];exact I.free
 .obtain⟨_,o,a,_⟩:=I.ok.funs.mem hb;exact I.base.free b o a (I.ok.frf b hb) λz=>I.ok.exfs b z hb
def Inv.step{g':Array GenState}{t':Nat}{d':Drawn}{ch:As}(I:Inv X f g H s)(h:∀b∈ch,(b∈X.ex\/X.s₀.heap.objs.size<=b)/\b≠X.env.locals/\(∀x c,X.env.cells.lookup x=some c->c≠b)/\∀p∈X.pn++f,p.1≠b)(keep:∀b o,b≠X.env.locals->b∉X.fs->b∉ch->s.heap.get? b=some o->H b=none->h'.get? b=some o)(A:∀b o,b≠X.env.locals->b∈X.fs->b∉ch->s.heap.get? b=some o->H b=none->∃sl,h'.get? b=some {o with slots:=sl}) (free:∀b o,b∉ch->s.heap.get? b=some o->H b=none->H' b=none)
  (C:∀b o,b∉ch->s.heap.get? b=some o->∃G,h'.get? b=some G)
  (tups:∀b B,H b=some (.tup B)->H' b=some (.tup B)) (J:∀b o u,H b=some (.frz o u)->H' b=some (.frz o u)) (L:∀b O,H b=some (.tbl O)->∃more,H' b=some (.tbl (O++more)))
  (ns:∀m,s.heap.Ns X.env.locals m->h'.Ns X.env.locals m) (Q:HOk X.prog X.w H' h') (hg:AllBare g'):
  Inv X f g H' {s with heap:=h',gens:=g',drawn:=d',toks:=t'}:=by
 have M:∀b o,X.s₀.heap.get? b=some o->b≠X.env.locals:=λb o e=>dP (gm (cQ e) I.ok.above);have w:∀b o,X.s₀.heap.get? b=some o->b∉X.ex->b∉ch:=λb o e a D=>by
  rcases (h b D).1 with z|z
  .exact a z
  .exact wC (gm (cQ e) z) (kS _)
 have j:∀x c,X.env.cells.lookup x=some c->∀v,s.heap.IsCell c v->h'.IsCell c v:=λx c e v ⟨o,E,T⟩=>by
  have t:c∉ch:=λz=>(h c z).2.2.1 x c e rfl;by_cases Y:c∈X.fs
  .obtain⟨sl,q⟩:=A c o (I.cne x c e) Y t E (I.freeC x c e);exact#[_,q,T]
  .exact#[o,keep c o (I.cne x c e) Y t E (I.freeC x c e),T]
 refine#[I.ok,I.os,hg,#[λb o e n D a=>?_,λb o e n D a=>?_,λb o e n a=>?_,λb o e a=>?_,λb B e=>tups b B (I.base.tups b B e),λb o B e=>J b o B (I.base.frzs b o B e),λb O e=>?_],?_,λx c e=>?_,?_,λx c e=>?_,λp hp=>?_,Q,I.len]
 .exact keep b o (M b o e) D (w b o e a) (I.base.keep b o e n D a) (I.base.free b o e n a)
 .obtain⟨sl,y⟩:=I.base.slot b o e n D a;obtain⟨U,N⟩:=A b _ (M b o e) D (w b o e a) y (I.base.free b o e n a);exact#[U,N]
 .obtain⟨G,y⟩:=I.base.there b o e a;exact free b G (w b o e a) y (I.base.free b o e n a)
 .obtain⟨G,y⟩:=I.base.there b o e a;exact C b G (w b o e a) y
 .obtain⟨m1,y⟩:=I.base.tbls b O e;obtain⟨m2,N⟩:=L b _ y;exact#[m1++m2,by rw[N,Array.append_assoc]]
 .obtain⟨m,hn,hl⟩:=I.loc;refine#[m,ns m hn,λi x v y N e3=>?_];obtain⟨u,r,l⟩:=hl i x v y N e3;refine#[u,r,?_]
  rcases l with l|⟨k,c,e,z⟩
  .exact .inl l
  .exact .inr #[k,c,e,j x c e _ z]
 .obtain⟨v,z⟩:=I.cell x c e;exact#[v,j x c e v z]
 .obtain⟨m,⟨o,_,_,E,_⟩,_⟩:=I.loc;exact free _ o (λz=>(h _ z).2.1 rZ) E I.free
 .obtain⟨v,o,E,T⟩:=I.cell x c e;exact free c o (λz=>(h c z).2.2.1 x c e rZ) E (I.freeC x c e)
 .obtain⟨e,n,ne,nf,d⟩:=I.pin p hp;have t:p.1∉ch:=λz=>(h p.1 z).2.2.2 p hp rfl;exact#[keep p.1 p.2 ne nf t e n,free p.1 p.2 t e n,ne,nf,d]
def Inv.un{t':Nat}(I:Inv X f g H s)(u:Un X.fs [] H H' s.heap h')(c:HOk X.prog X.w H' h'):Inv X f g H' {s with heap:=h',toks:=t'}:=by
 obtain⟨m,⟨o,q,t,j,r⟩,_⟩:=id I.loc;obtain⟨sl,k⟩:=u.any j I.free (by simp);exact I.step (g':=s.gens) (d':=s.drawn) (ch:=[]) (λ_ z=>nomatch z) (λb o _ d _ e n=>u.keep b o e n d (by simp)) (λb o _ d _ e n=>u.slot b o e n d (by simp)) (λb o _ e n=>u.free b o e n (by simp)) (λb o _ e=>u.there b o e (by simp)) u.tups u.frzs u.tbls (λv l=>by
  obtain⟨w,h,i,a,p⟩:=l;rw[j]at a;cases a;exact#[_,h,i,k,p]) c I.bare
def Inv.call{g':Array GenState}{t':Nat}{d':Drawn}{ch:As}(I:Inv X f g H s)(u:Un (lH X.stack) ch H H' s.heap h')(i:HOk X.prog X.w H' h')(t:AllBare g')(d:∀b∈ch,(b∈X.ex\/X.s₀.heap.objs.size<=b)/\b≠X.env.locals/\(∀x c,X.env.cells.lookup x=some c->c≠b)/\∀p∈X.pn++f,p.1≠b):
  Inv X f g H' {s with heap:=h',gens:=g',drawn:=d',toks:=t'}:=by
 obtain⟨m,⟨o,A,B,q,r⟩,_⟩:=id I.loc;obtain⟨sl,j⟩:=u.any q I.free λz=>(d _ z).2.1 rfl;exact I.step (ch:=ch) d (λb o j v a e n=>u.keep b o e n (λz=>(dq.mp (I.stkSub b z)).elim j v) a) (λb o _ _ a e n=>u.any e n a) (λb o a e n=>u.free b o e n a) (λb o a e=>u.there b o e a) u.tups u.frzs u.tbls (λC w=>by
  obtain⟨D,k,l,h,y⟩:=w;rw[q]at h;cases h;exact#[_,k,l,j,y]) i t
def Inv.turned{t':Nat}{it:Ad}(I:Inv X f g H s)(k:∀b o,b≠it->s.heap.get? b=some o->h'.get? b=some o)(i:H it=none)(h:it≠X.env.locals)(j:it∈X.ex\/X.s₀.heap.objs.size<=it) (l:∀x c,X.env.cells.lookup x=some c->c≠it) (t:∀p∈X.pn++f,p.1≠it):Inv X f g H {s with heap:=h',toks:=t'}:=by
 have d:∀b u,H b=some u->b≠it:=λb u e z=>by rw[z,i]at e;cases e
 refine I.step (g':=s.gens) (d':=s.drawn) (ch:=[it]) (λb w=>?_) (λb o _ _ a e _=>k b o (λz=>a (by simp[z])) e) (λb o _ _ a e _=>#[o.slots,k b o (λz=>a (by simp[z])) e]) (λ_ _ _ _ n=>n)
  (λb o a e=>#[o,k b o (λz=>a (by simp[z])) e]) (λ_ _ e=>e) (λ_ _ _ e=>e) (λb D e=>#[#v[],by rw[e];simp]) (λm y=>?_) (λb u e=>?_) I.bare
 .have e:b=it:=by simpa using w
  subst e;exact#[j,h,l,t]
 .obtain⟨o,A,B,C,r⟩:=y;exact#[o,A,B,k _ o (eC h) C,r]
 .refine(I.hok b u e).stay (λc v a q=>k c v ?_ q) (λ_ q=>q) λ_ _ q=>q
  rcases a with z|z
  .rw[z];exact d b u e
  .exact d c _ z
def Inv.tok(I:Inv X f g H s)(t:Nat):Inv X f g H {s with toks:=t}:=I.un (h':=s.heap) (t':=t) Un.refl I.hok
def Inv.kept{t':Nat}(I:Inv X f g H s)(k:∀b u,s.heap.get? b=some u->h'.get? b=some u):Inv X f g H {s with heap:=h',toks:=t'}:=I.un (Un.kept k) (I.hok.kept k)
def Inv.laid{a:Ad}{o:HO}{t':Nat}(I:Inv X f g H s)(k:∀b u,s.heap.get? b=some u->h'.get? b=some u)(c:s.heap.objs.size<=a)(new:ObjOk X.prog X.w (bX H a o) h' a o):
  Inv X f g (bX H a o) {s with heap:=h',toks:=t'}:=I.un (Un.laid k c (I.hok.fresh c)) (I.hok.laid k c new)
def Inv.write{x e:Ad}{o:HO}{t':Nat}(I:Inv X f g H s)(c:wJ (H x))(d:e=x\/H e=some (.own x))(k:∀b u,b≠e->s.heap.get? b=some u->h'.get? b=some u)(a:∃u,h'.get? e=some u)(new:ObjOk X.prog X.w (bX H x o) h' x o):Inv X f g (bX H x o) {s with heap:=h',toks:=t'}:=I.un (Un.write c d k a) (I.hok.write c d k a new)
def Inv.weak{a:List (Option V)}(I:Inv X f g H s)(c:a.length=g.length)(w:∀(i:Nat) v,a[i]?=some (some v)->g[i]?=some (some v)):Inv X f a H s:=
 #[I.ok,I.os,I.bare,I.base,let⟨m,d,b⟩:=I.loc;#[m,d,λi x v e h j=>b i x v e (w i v h) j],I.cell,I.free,I.freeC,I.pin,I.hok,c.trans I.len]
def Inv.pins_of{a:AO}(I:Inv X f g H s)(h:∀p∈a,s.heap.get? p.1=some p.2/\H p.1=none/\p.1≠X.env.locals/\p.1∉X.fs/\∀v,p.2.data≠ .cell v):Inv X a g H s:=
 #[I.ok,I.os,I.bare,I.base,I.loc,I.cell,I.free,I.freeC,λp b=>(cM.mp b).elim (λz=>I.pin p (oC _ z)) (h p),I.hok,I.len]
def EU{N:Ss}(c:N.Nodup){i j:Nat}{x:Str}(a:N[i]?=some x)(b:N[j]?=some x):i=j:=by
 obtain⟨f,d⟩:=cg.mp a;obtain⟨g,e⟩:=cg.mp b;exact(Cb c).mp (d.trans e.symm)
def ES{M:Model}{A:Ar}{E:VP}{i:Nat}{x:Str}{v:V}{u:Vl}{Q:Unit->Sh->Prop}(I:Inv X f g H s)(hN:X.N.Nodup)(O:X.N[i]?=some x)(B:yF X.env.scope x)(r:RelV v u)(h:∀s',Inv X f (g.set i (some v)) H s'->(∃a,Heap.SameBut a s.heap s'.heap/\(a=X.env.locals\/X.env.cells.lookup x=some a))->Q ⟨⟩ s') (hf:X.fn x=true\/X.env.scope.names.lookup x=some .local:=by first|exact .inl rfl|exact .inr rfl|assumption):wpAny M A (storeName X.env x u) Q E s:=by
 obtain⟨m,hn,hl⟩:=id I.loc;have T:(X.env.scope.kind== .class || (X.env.scope.kind== .module&&X.env.locals != X.env.globals))=false:=by rw[I.ok.kind];rfl
 have G:i<g.length:=by rw[I.len];exact(cg.mp O).1
 have cne:=I.cne;have t:∀{a:Ad} {h':Heap},(∃o,s.heap.get? a=some o/\H a=none)->Heap.SameBut a s.heap h'->HOk X.prog X.w H h':=λ{a h'} ha l b ob e=>by
  obtain⟨_,_,C⟩:=ha;refine(I.hok b ob e).stay (λc w' hc q=>(l.2 c ?_).trans q) (λ_ q=>q) λ_ _ q=>q;rintro rfl
  rcases hc with rfl|hc
  .rw[C]at e;cases e
  .rw[C]at hc;cases hc
 rcases B with hk|hk
 .refine wpAny_storeName_local hk hn (λh' ae l=>?_) T;obtain⟨oL,_,_,af,_⟩:=id hn;refine h _ #[I.ok,I.os,I.bare,#[λb o e n J B=>?_,λb o e n J B=>?_,I.base.free,λb o e B=>?_,I.base.tups,I.base.frzs,I.base.tbls],#[_,ae,λj y v' w D e3=>?_],λy c e=>?_,I.free,I.freeC,λp hp=>?_,t #[oL,af,I.free] l,by simpa using I.len] #[_,l,.inl rZ]
  .exact(l.2 b (dP (gm (cQ e) I.ok.above))).trans (I.base.keep b o e n J B)
  .obtain⟨sl,w⟩:=I.base.slot b o e n J B;exact#[sl,(l.2 b (dP (gm (cQ e) I.ok.above))).trans w]
  .obtain⟨o',w⟩:=I.base.there b o e B;exact#[o',(l.2 b (dP (gm (cQ e) I.ok.above))).trans w]
  .by_cases L:j=i
   .subst L;rw[O]at w;cases w;rw[List.getElem?_set_self G]at D;cases D;exact#[u,r,.inl #[hk,by simp]]
   .rw[List.getElem?_set_ne (eC L)]at D;obtain⟨u',r',q⟩:=hl j y v' w D e3;refine#[u',r',?_]
    rcases q with⟨k,e⟩|⟨k,c,e,z⟩
    .refine .inl #[k,?_];have:y≠x:=λe=>L (EU hN w (e▸O));simp[this,e]
    .exact .inr #[k,c,e,z.sameBut l (cne y c e)]
  .obtain⟨w',z⟩:=I.cell y c e;exact#[w',z.sameBut l (cne y c e)]
  .obtain⟨e,n,ne,nf,d⟩:=I.pin p hp;exact#[(l.2 p.1 ne).trans e,n,ne,nf,d]
 .have N:X.fn x=true:=by
   rcases hf with z|z
   .exact z
   .rw[z]at hk;cases hk
  obtain⟨c,hc⟩:=I.ok.has x (.inl hk);obtain⟨w',z⟩:=I.cell x c hc;refine wpAny_storeName_cell I.ok.kind hk hc z (λh' U l=>?_);obtain⟨oc,Y,aa⟩:=id z;refine h {s with heap:=h'} #[I.ok,I.os,I.bare,#[λb o e n J B=>?_,λb o e n J B=>?_,I.base.free,λb o e B=>?_,I.base.tups,I.base.frzs,I.base.tbls],#[m,hn.sameBut l (eC (cne x c hc)),λj y v' w D e3=>?_],λy c' e=>?_,I.free,I.freeC,λp hp=>?_,t #[oc,Y,I.freeC x c hc] l,by simpa using I.len] #[c,l,.inr hc]
  .exact(l.2 b (dP (gm (cQ e) (I.ok.cab x c N hc)))).trans (I.base.keep b o e n J B)
  .obtain⟨sl,w⟩:=I.base.slot b o e n J B;exact#[sl,(l.2 b (dP (gm (cQ e) (I.ok.cab x c N hc)))).trans w]
  .obtain⟨o',w⟩:=I.base.there b o e B;exact#[o',(l.2 b (dP (gm (cQ e) (I.ok.cab x c N hc)))).trans w]
  .by_cases L:j=i
   .subst L;rw[O]at w;cases w;rw[List.getElem?_set_self G]at D;cases D;exact#[u,r,.inr #[.inl hk,c,hc,U]]
   .rw[List.getElem?_set_ne (eC L)]at D;obtain⟨u',r',q⟩:=hl j y v' w D e3;refine#[u',r',?_]
    rcases q with q|⟨k,c',e,z'⟩
    .exact .inl q
    .refine .inr #[k,c',e,z'.sameBut l ?_];rintro rfl;exact L (EU hN w (I.ok.inj _ _ _ e hc▸O))
  .by_cases ab:c'=c
   .subst ab;exact#[_,U]
   .obtain⟨w2,z2⟩:=I.cell y c' e;exact#[w2,z2.sameBut l ab]
  .obtain⟨e,n,ne,nf,d⟩:=I.pin p hp;refine#[(l.2 p.1 ?_).trans e,n,ne,nf,d];intro q;rw[q,Y]at e;have q':oc=p.2:=fL e;exact d w' (by rw[<-q'];exact aa)
def GS{M:Model}{A:Ar}{E:VP}{i:Nat}{x:Str}{v:V}{u:Vl}{Q:Unit->Sh->Prop}(I:Inv X f g H s)(b:X.N.Nodup)(c:X.N[i]?=some x)(d:yF X.env.scope x)(r:RelV v u)(h:∀a,Inv X f (g.set i (some v)) H a->Q ⟨⟩ a) (e:X.fn x=true\/X.env.scope.names.lookup x=some .local:=by first|exact .inl rfl|exact .inr rfl|assumption):wpAny M A (storeName X.env x u) Q E s:=
 ES I b c d r (λa j _=>h a j) e
def Inv.call'{a:Sh}{ch:As}(I:Inv X f g H s)(i:a.os=s.os)(u:Un (lH X.stack) ch H H' s.heap a.heap)(d:HOk X.prog X.w H' a.heap)(j:AllBare a.gens)(h:∀b∈ch,(b∈X.ex\/X.s₀.heap.objs.size<=b)/\b≠X.env.locals/\(∀x c,X.env.cells.lookup x=some c->c≠b)/\∀p∈X.pn++f,p.1≠b):Inv X f g H' a:=by
 obtain⟨h',g',d',t',k⟩:=a;have e:k=s.os:=i;subst e;exact I.call (g':=g') (t':=t') (d':=d') u d j h
end
abbrev XK:=Vl->Option Ad->Hp->Prop
abbrev St:=List (Option V)
abbrev VK:=V->Hp->Prop
abbrev TE:=St->Hp->VK->Prop
abbrev TT:=St->Hp->(Bool->Hp->Prop)->Prop
abbrev TA:=St->Hp->(List V->Hp->Prop)->Prop
structure Ends where
 nx:St->Hp->Prop
 rt:VK
 bk:St->Hp->Prop:=λ_ _=>False
 ct:St->Hp->Prop:=λ_ _=>False
abbrev TS:=Ends->St->Hp->Prop
def EP(X:Cx)(b:AO)(c:St)(Q:VK)(u:Vl)(d:Sh):Prop:=∃v a,Inv X b c a d/\RelV v u/\Q v a
def TP(X:Cx)(c:AO)(d:St)(Q:Bool->Hp->Prop)(b:Bool)(e:Sh):Prop:=∃a,Inv X c d a e/\Q b a
def AP(X:Cx)(c:AO)(d:St)(Q:List V->Hp->Prop)(e:Vs)(f:Sh):Prop:=∃a b,Inv X c d b f/\Vals a e/\Q a b
def SP(X:Cx)(c:AO)(D:Ends)(f:Flow)(d:Sh):Prop:=
 match f with
 |.next=>∃a b,Inv X c a b d/\D.nx a b
 |.brk=>∃a b,Inv X c a b d/\D.bk a b
 |.cont=>∃a b,Inv X c a b d/\D.ct a b
 |.ret u=>∃v a b,Inv X c a b d/\RelV v u/\D.rt v b
def PE(X:Cx)(e:Expr)(t:TE):Prop:=
 ∀(b:AO) (s:Sh) (a:St) (H:Hp) (Q:VK),Inv X b a H s->t a H Q->wpAny (model X.prog X.w) X.A (eval e X.env) (EP X b a Q) X.xe s
def PT(X:Cx)(e:Expr)(t:TT):Prop:=
 ∀(b:AO) (s:Sh) (a:St) (H:Hp) (Q:Bool->Hp->Prop),Inv X b a H s->t a H Q->wpAny (model X.prog X.w) X.A (isTrue e X.env (eval e X.env)) (TP X b a Q) X.xe s
def PW(X:Cx)(e:Expr)(t:TT):Prop:=
 ∀(a:Sem Vl) (c:AO) (s:Sh) (b:St) (H:Hp) (Q:Bool->Hp->Prop),Inv X c b H s->t b H Q->wpAny (model X.prog X.w) X.A (isTrue e X.env a) (TP X c b Q) X.xe s
def PW.pt{X:Cx}{e:Expr}{t:TT}(h:PW X e t):PT X e t:=h _
def PA(X:Cx)(d:List Expr)(t:TA):Prop:=
 ∀(a:Pos) (c:AO) (s:Sh) (b:St) (H:Hp) (Q:List V->Hp->Prop),Inv X c b H s->t b H Q->wpAny (model X.prog X.w) X.A (spliced (backTo a (starEach d X.env))) (AP X c b Q) X.xe s
def PS(X:Cx)(st:Stmt)(t:TS):Prop:=
 ∀(a:AO) (s:Sh) (b:St) (H:Hp) (D:Ends),Inv X a b H s->t D b H->wpAny (model X.prog X.w) X.A (exec st X.env) (SP X a D) X.xe s
def PSs(X:Cx)(st:List Stmt)(t:TS):Prop:=
 ∀(a:AO) (s:Sh) (b:St) (H:Hp) (D:Ends),Inv X a b H s->t D b H->wpAny (model X.prog X.w) X.A (execs st X.env) (SP X a D) X.xe s
def cB{b:Type}{t:Sem b}{Q c:b->Sh->Prop}{M:Model}{A:Ar}{E:VP}{s:Sh}(h:wpAny M A t Q E s)(d:∀a s,Q a s->c a s):wpAny M A t c E s:=gJ h d λ_ _ x=>x
section
variable{X:Cx}
inductive c8(i:Nat)(a:St)(H:Hp)(Q:VK):Prop|mk:∀v,a[i]?=some (some v)->Q v H->c8 i a H Q
def tC(v:V):TE:=λ_ H Q=>Q v H
def JL{i:Nat}{x:Str}{f:Pos}(j:X.N[i]?=some x)(k:BD X.env.scope x)(b:(x==("__debug__":Str))=false:=by decide)(d:(x==("__classdict__":Str))=false:=by decide):PE X (.Name x f) (c8 i):=by
 intro n s o H Q I h;obtain⟨v,e,h⟩:=h;obtain⟨m,p,q⟩:=I.loc;obtain⟨u,r,l⟩:=q i x v j e k;have fin:EP X n o Q u s:=#[v,H,I,r,h]
 rcases l with⟨hk,t⟩|⟨hk,c,g,a⟩
 .exact wpAny_Name (wpAny_loadName_local I.ok.kind hk p t fin) b
 .rcases hk with hk|hk
  .exact wpAny_Name (wpAny_loadName_cell I.ok.kind hk g a fin) b
  .exact wpAny_Name (wpAny_loadName_free I.ok.kind hk g a fin d) b
def cU{i j f}:PE X (.Constant (.int i) j f) (tC (.int i)):=λ_ _ _ H _ I h=>wpAny_Constant_int #[.int i,H,I.tok _,#[_,rZ],h]
def qg{b j f}:PE X (.Constant (.bool b) j f) (tC (.bl b)):=λ_ _ _ H _ I h=>Constant_bool #[.bl b,H,I,rZ,h]
def qb{j f}:PE X (.Constant .none j f) (tC .non):=λ_ _ _ H _ I h=>Constant_none #[.non,H,I,rZ,h]
def By{x j f}:PE X (.Constant (.str x) j f) (tC (.str x)):=λ_ _ _ H _ I h=>Calls.Constant_str #[.str x,H,I.tok _,#[_,rZ],h]
def Gl(X:Cx)(x:Str):Prop:=X.env.kindOf x=some .globalImplicit
def wL{E:VP}{a:AO}{s:Sh}{b:St}{H:Hp}{x:Str}{u:Vl}{f:Pos}{Q:VP}(I:Inv X a b H s)(c:Gl X x)(d:X.mg x=some u)(h:Q u s)(e:(x==("__debug__":Str))=false:=by decide):wpAny (model X.prog X.w) X.A (eval (.Name x f) X.env) Q E s:=
 G8 I.ok.kind c (Calls.loadGlobal_global (by rw[I.ok.glob];exact I.mod.glob.keeps I.bk) d h) e
def uk{E:VP}{a:AO}{s:Sh}{b:St}{H:Hp}{x:Str}{u:Vl}{f:Pos}{Q:VP}(I:Inv X a b H s)(c:Gl X x)(d:X.mg x=none)(e:bootBuiltins x=some u)(h:Q u s)(g:x≠"__name__":=by decide) (i:(x==("__debug__":Str))=false:=by decide):wpAny (model X.prog X.w) X.A (eval (.Name x f) X.env) Q E s:=by
 obtain⟨l,j,k⟩:=I.mod.blt;exact G8 I.ok.kind c (Calls.loadGlobal_builtin (by rw[I.ok.glob];exact I.mod.glob.keeps I.bk) d (by rw[I.ok.blt];exact j.keeps I.bk) ((k x g).trans e) h) i
variable{a b:Expr}{n o:TE}{f:Pos}
def PC(X:Cx)(g:CmpOp)(a b:Expr)(t:TE):Prop:=
 ∀(f:AO) (s:Sh) (e:St) (H:Hp) (Q:VK),Inv X f e H s->t e H Q->
  wpAny (model X.prog X.w) X.A (eval a X.env) (λv c=>wpAny (model X.prog X.w) X.A (eval b X.env) (λu d=>wpAny (model X.prog X.w) X.A (compareOp g v u) (EP X f e Q) X.xe d) X.xe c) X.xe s
def Ha(b:Expr){a:CmpOp}(h:a≠ .In)(c:a≠ .NotIn):behindInMarks a b=false:=by
 have d:(a==CmpOp.In)=false:=by cases a<;>first|rfl|exact wC rZ h
 have e:(a==CmpOp.NotIn)=false:=by cases a<;>first|rfl|exact wC rZ c
 cases b<;>simp[behindInMarks,d,e]
def tB(t:TE):TT:=λa H Q=>t a H λx b=>∃c,x=.bl c/\Q c b
def JC{c:CmpOp}{t:TE}(h:PC X c a b t)(d:behindInMarks c b=false:=by first|exact Ha _ (by decide) (by decide)|rfl):PE X (.Compare a [c] [b] f) t:=λe s g H Q I hw=>wpAny_Compare1 (h e s g H Q I hw) d
def vL{e:CmpOp}{t:TE}(h:PC X e a b t)(g:behindInMarks e b=false:=by first|exact Ha _ (by decide) (by decide)|rfl):PT X (.Compare a [e] [b] f) (tB t):=by
 intro i s j H Q I hw;refine wpAny_isTrue_Compare1 (cB (h i s j H _ I hw) λv p g=>cB g λu r k=>cB k λc w ⟨x,l,m,n,o⟩=>?_) g;obtain⟨d,rfl,q⟩:=o;cases n;exact pV #[l,m,q]
def tx{e:Expr}{t:TE}(h:PE X e t)(b:∀a,isTrue e X.env a=(do let v <-a;standAt e.pos;holding [v] (truthy v)):=by intro _;rfl):PT X e (tB t):=by
 intro c s f H Q I hw;refine isTrue_plain (cB (h c s f H _ I hw) λv l ⟨x,g,i,j,k⟩=>?_) (b _);obtain⟨d,rfl,q⟩:=k;cases j;exact pV #[g,i,q]
variable{g k:TT}{rest:List Expr}
def BA(t u:TT):TT:=λa H Q=>t a H λc b=>if c=true then u a b Q else Q false b
def N8(t u:TT):TT:=λa H Q=>t a H λc b=>if c=true then Q true b else u a b Q
def DJ(t:TT):TT:=λa H Q=>t a H λc b=>Q (!c) b
def wV(b:PT X a g):PW X (.BoolOp .And [a] f) g:=by
 intro j d s i H Q I h;refine isTrue_and (cB (b d s i H Q I h) λc k e=>?_);cases c with
 |true=>exact isTrue_and_nil e
 |false=>exact e
def F4(b:PT X a g):PW X (.BoolOp .Or [a] f) g:=by
 intro j d s i H Q I h;refine isTrue_or (cB (b d s i H Q I h) λc k e=>?_);cases c with
 |false=>exact isTrue_or_nil e
 |true=>exact e
def vM(m:PT X a g)(n:PW X (.BoolOp .And (b::rest) f) k):PW X (.BoolOp .And (a::b::rest) f) (BA g k):=by
 intro o d s e H Q I h;refine isTrue_and (cB (m d s e H _ I h) λc p ⟨i,j,l⟩=>?_);cases c with
 |true=>exact n o d p e i Q j l
 |false=>exact#[i,j,l]
def EL(m:PT X a g)(n:PW X (.BoolOp .Or (b::rest) f) k):PW X (.BoolOp .Or (a::b::rest) f) (N8 g k):=by
 intro o d s e H Q I h;refine isTrue_or (cB (m d s e H _ I h) λc p ⟨i,j,l⟩=>?_);cases c with
 |true=>exact#[i,j,l]
 |false=>exact n o d p e i Q j l
def Ed(b:PT X a g):PT X (.UnaryOp .Not a f) (DJ g):=by
 intro d s e H Q I h;exact isTrue_not (b d s e H (λc i=>Q (!c) i) I h)
def xO(n o:TE):TE:=λa H Q=>n a H λx b=>∃c,x=.bl c/\if c=true then o a b Q else Q (.bl false) b
def GX{b}{t:TE}(h:PE X a t):PE X (.BoolOp b [a] f) t:=λc s d H Q I hw=>BoolOp_one (h c s d H Q I hw)
def Fi(k:PE X a n)(l:PE X (.BoolOp .And (b::rest) f) o):PE X (.BoolOp .And (a::b::rest) f) (xO n o):=by
 intro e s g H Q I h;refine BoolOp_and (cB (k e s g H _ I h) λv m ⟨x,i,j,p,d⟩=>?_);obtain⟨c,rfl,d⟩:=d;cases p;refine pV ?_;cases c with
 |true=>exact l e m g i Q j d
 |false=>exact#[.bl false,i,j,rZ,d]
end
def SqL(K:O2)(H:Hp)(a:Ad)(xs:List V):Prop:=
 Rd H a (.lst xs)\/
  ∃(o:Obj) (b:AV) (n:Nat),K.lookup a=some o/\o.cls=.type "list"/\o.dict=none/\o.data=.seq b n/\b.size<=sizeLine/\Vals xs b.toList
def SqT(K:O2)(H:Hp)(a:Ad)(xs:List V):Prop:=
 Rd H a (.tup xs)\/
  ∃(o:Obj) (b:AV) (n:Nat),K.lookup a=some o/\o.cls=.type "tuple"/\o.data=.seq b n/\b.size<=sizeLine/\Vals xs b.toList
def BP:Vl->Option V
 |.none=>some .non
 |.bool b=>some (.bl b)
 |.int i _=>some (.int i)
 |.str x _=>some (.str x)
 |.bytes b _=>some (.byt b)
 |.float b _=>some (.flt b)
 |.ref a=>some (.ref a)
 |.type n=>some (.ty n)
 |_=>none
def RelV.abs{x:V}{u:Vl}(r:RelV x u):BP u=some x:=by
 cases x with
 |non=>cases r;rfl
 |bl _=>cases r;rfl
 |int _=>obtain⟨t,rfl⟩:=r;rfl
 |str _=>obtain⟨t,rfl⟩:=r;rfl
 |byt _=>obtain⟨t,rfl⟩:=r;rfl
 |flt _=>obtain⟨t,rfl⟩:=r;rfl
 |ref _=>cases r;rfl
 |ty _=>cases r;rfl
def RelV.inj{x y:V}{u:Vl}(r:RelV x u)(q:RelV y u):x=y:=fL (r.abs.symm.trans q.abs)
theorem Vals.inj:∀{a b:List V} {c:Vs},Vals a c->Vals b c->a=b
 |_,_,_,.nil,.nil=>rfl
 |_,_,_,.cons r t,.cons d t'=>by rw[r.inj d,Vals.inj t t']
section
variable{X:Cx}{c:AO}{f:St}{H:Hp}{s:Sh}{a:Ad}{xs b:List V}
def O0{K:O2}(h:H a=some (.lst xs)):SqL K H a xs:= .inl (.inl h)
def O1{K:O2}(h:H a=some (.tup xs)):SqT K H a xs:= .inl (.inl h)
def Inv.list(I:Inv X c f H s)(h:SqL X.K H a xs):∃its:Vs,Vals xs its/\PlainL s.heap a its.toArray/\xs.length<=sizeLine:=by
 rcases h with h|⟨o,its,n,b,d,g,i,j,r⟩
 .obtain⟨z,its,n,r,e⟩:=h.ok I.hok;exact#[its,r,#[_,n,e,rZ,rZ,rZ],z]
 .refine#[its.toList,r,#[o,n,I.kIn a o b,d,g,by simpa using i],?_];have e:=r.length;simp only[Array.length_toList]at e;lia
def Inv.tuple(I:Inv X c f H s)(h:SqT X.K H a xs):∃its:Vs,Vals xs its/\IsTup s.heap a its.toArray/\xs.length<=sizeLine:=by
 rcases h with h|⟨o,its,n,b,d,g,i,r⟩
 .obtain⟨z,its,r,p⟩:=h.ok I.hok;exact#[its,r,p.is,z]
 .refine#[its.toList,r,#[o,I.kIn a o b,d,n,by simpa using g],?_];have e:=r.length;simp only[Array.length_toList]at e;lia
def Inv.list_inj(I:Inv X c f H s)(h:SqL X.K H a xs)(h':SqL X.K H a b):xs=b:=by
 obtain⟨i,r,⟨o,n,e,_,_,d⟩,_⟩:=I.list h;obtain⟨g,k,⟨m,p,j,_,_,d'⟩,_⟩:=I.list h';rw[e]at j;cases j;rw[d]at d';injection d' with l _
 have:i=g:=by simpa using congrArg Array.toList l
 subst this;exact r.inj k
def Inv.tuple_inj(I:Inv X c f H s)(h:SqT X.K H a xs)(h':SqT X.K H a b):xs=b:=by
 obtain⟨i,r,⟨o,e,_,n,d⟩,_⟩:=I.tuple h;obtain⟨g,k,⟨m,j,_,p,d'⟩,_⟩:=I.tuple h';rw[e]at j;cases j;rw[d]at d';injection d' with l _
 have:i=g:=by simpa using congrArg Array.toList l
 subst this;exact r.inj k
end
abbrev Cx.wish(X:Cx)(E:VP):Cx:={X with xe:=E}
abbrev Cx.nox(X:Cx):Cx:=X.wish λ_ _=>False
def Cx.Ok.wish{X:Cx}(ok:X.Ok)(E:VP):(X.wish E).Ok:=
 #[ok.mod,ok.kind,ok.glob,ok.blt,ok.above,ok.inj,ok.has,ok.cab,ok.hd,ok.frames,ok.stk,ok.exf,ok.bs,ok.bsz,ok.noex,ok.exfs,ok.funs,ok.frf]
def Cx.Ok.unwish{X:Cx}{E:VP}(ok:(X.wish E).Ok):X.Ok:=
 #[ok.mod,ok.kind,ok.glob,ok.blt,ok.above,ok.inj,ok.has,ok.cab,ok.hd,ok.frames,ok.stk,ok.exf,ok.bs,ok.bsz,ok.noex,ok.exfs,ok.funs,ok.frf]
section
variable{X:Cx}{a:AO}{b:St}{H:Hp}{s:Sh}{E:VP}
def Inv.wish(I:Inv X a b H s)(E:VP):Inv (X.wish E) a b H s:=#[I.ok.wish E,I.os,I.bare,I.base,I.loc,I.cell,I.free,I.freeC,I.pin,I.hok,I.len]
def Inv.unwish(I:Inv (X.wish E) a b H s):Inv X a b H s:=#[I.ok.unwish,I.os,I.bare,I.base,I.loc,I.cell,I.free,I.freeC,I.pin,I.hok,I.len]
def SP.unwish{D:Ends}{f:Flow}{d:Sh}(h:SP (X.wish E) a D f d):SP X a D f d:=by
 cases f with
 |next=>obtain⟨b,c,I,q⟩:=h;exact#[b,c,I.unwish,q]
 |brk=>obtain⟨b,c,I,q⟩:=h;exact#[b,c,I.unwish,q]
 |cont=>obtain⟨b,c,I,q⟩:=h;exact#[b,c,I.unwish,q]
 |ret u=>obtain⟨v,b,c,I,r,q⟩:=h;exact#[v,b,c,I.unwish,r,q]
def PSs.nox{st:List Stmt}{t:TS}(h:PSs X.nox st t):PSs X st t:=λa s b H D I hw=>
 gJ (h a s b H D (I.wish _) hw) (λ_ _ q=>q.unwish) λ_ _ z=>wE z
end
section
variable{X:Cx}{st:Stmt}{rest:List Stmt}{t u:TS}{e:Expr}{i:TE}{g:Pos}
def GU:TS:=λD a H=>D.nx a H
def mE(t u:TS):TS:=λD a H=>t {D with nx:=u D} a H
def gV:PSs X [] GU:=λ_ _ a H _ I h=>AD #[a,H,I,h]
def cD(c:PS X st t)(d:PSs X rest u):PSs X (st::rest) (mE t u):=by
 intro b s e H D I h;refine wpAny_execs_cons (cB (c b s e H {D with nx:=u D} I h) λf g q=>?_);cases f with
 |next=>
  obtain⟨a,i,j,q⟩:=q;exact d b g a i D j q
 |ret v=>exact q
 |brk=>exact q
 |cont=>exact q
def cG(a:PS X st t):PSs X [st] t:=by
 intro b s c H D I h;refine wpAny_execs_cons (cB (a b s c H D I h) λf d q=>?_);cases f with
 |next=>exact AD q
 |ret v=>exact q
 |brk=>exact q
 |cont=>exact q
def Inv.quiet{a:AO}{b:St}{H:Hp}{s:Sh}(I:Inv X a b H s):interactive X.env=false:=by simp[interactive,I.ok.kind]
def Am(i:TE):TS:=λD a H=>i a H λ_ b=>D.nx a b
def m6(b:PE X e i)(c:swapsWith e none g.line X.env=pure false:=by rfl):PS X (.Expr e g) (Am i):=by
 intro d s a H D I h;exact wpAny_Expr_any (cB (b d s a H _ I h) λv l ⟨x,f,j,m,k⟩=>#[a,f,j,k]) I.quiet c
def wg(i:TE):TS:=λD a H=>i a H D.rt
def dF(b:PE X e i):PS X (.Return (some e) g) (wg i):=by
 intro c s a H D I h;exact wpAny_Return_some (cB (b c s a H _ I h) λv l ⟨x,d,f,j,k⟩=>#[x,a,d,f,j,k])
def wT(c:TT)(t u:TS):TS:=λD a H=>c a H λb d=>if b=true then t D a d else u D a d
def gM{c:Expr}{a b:List Stmt}{i:TT}(n:PT X c i)(o:PSs X a t)(p:PSs X b u):PS X (.If c a b g) (wT i t u):=by
 intro e s f H D I h;refine wpAny_If (cB (n e s f H _ I h) λd j ⟨k,l,m⟩=>?_);cases d with
 |true=>exact o e j f k D l m
 |false=>exact p e j f k D l m
def Kl:TS:=λ_ _ _=>False
def Mr:PS X st Kl:=λ_ _ _ _ _ _ h=>h.elim
end
abbrev TG:=V->St->Hp->(St->Hp->Prop)->Prop
abbrev tA:=List V->St->Hp->(St->Hp->Prop)->Prop
def PG(X:Cx)(a:Expr)(t:TG):Prop:=
 ∀(c:AO) (s:Sh) (d:St) (H:Hp) (v:V) (u:Vl) (Q:St->Hp->Prop),Inv X c d H s->RelV v u->t v d H Q->
  wpAny (model X.prog X.w) X.A (assign a X.env u) (λ_ f=>∃b e,Inv X c b e f/\Q b e) X.xe s
def yZ(X:Cx)(g:List Expr)(t:tA):Prop:=
 ∀(b:AO) (s:Sh) (c:St) (H:Hp) (d:List V) (e:Vs) (Q:St->Hp->Prop),Inv X b c H s->Vals d e->t d c H Q->
  wpAny (model X.prog X.w) X.A (assignInOrder ((assignEach g X.env).map (·.2)) e) (λ_ h=>∃a f,Inv X b a f h/\Q a f) X.xe s
abbrev ro:=V->V->V->Hp->(Hp->Prop)->Prop
def vF(X:Cx)(t:ro):Prop:=
 ∀(a:AO) (s:Sh) (b:St) (H:Hp) (o i v:V) (c d u:Vl) (Q:Hp->Prop),Inv X a b H s->RelV o c->RelV i d->RelV v u->t o i v H Q->
  wpAny (model X.prog X.w) X.A (setItem c d u) (λ_ f=>∃e,Inv X a b e f/\Q e) X.xe s
section
variable{X:Cx}{c:Pos}
def hI(i:Nat):TG:=λv a H Q=>Q (a.set i (some v)) H
def fV{i:Nat}{x:Str}(a:X.N.Nodup)(b:X.N[i]?=some x)(d:yF X.env.scope x)(e:X.fn x=true\/X.env.scope.names.lookup x=some .local:=by first|exact .inl rfl|exact .inr rfl|assumption):PG X (.Name x c) (hI i):=by
 intro g s j H v u Q I r h;exact wpAny_assign_Name (GS I a b d r (λk f=>#[_,H,f,h]) e)
def vN:tA:=λa b H Q=>a=[]/\Q b H
inductive j9(t:TG)(u:tA)(b:List V)(c:St)(H:Hp)(Q:St->Hp->Prop):Prop|mk:∀v r,b=v::r->(t v c H λa d=>u r a d Q)->j9 t u b c H Q
def u0:yZ X [] vN:=by
 intro b s a H c d Q I r h;obtain⟨e,h⟩:=h;subst e;cases r;exact assignInOrder_nil #[a,H,I,h]
def mF{e:Expr}{a:List Expr}{t:TG}{u:tA}(d:PG X e t)(f:yZ X a u)(g:(assignEach (e::a) X.env).map (·.2)=assign e X.env::(assignEach a X.env).map (·.2):=by rfl):yZ X (e::a) (j9 t u):=by
 intro c s i H p q Q I r h;obtain⟨v,w,j,h⟩:=h;subst j;cases r with
 |cons r k=>
  rw[g];refine assignInOrder_cons (cB (d c s i H _ _ _ I r h) λ_ l ⟨b,m,n,o⟩=>?_);exact f c l b m _ _ Q n k o
inductive re(K:O2)(n:Nat)(t:tA)(v:V)(c:St)(H:Hp)(Q:St->Hp->Prop):Prop|mk:∀a b,v=.ref a->SqT K H a b->b.length=n->t b c H Q->re K n t v c H Q
def ui{d:List Expr}{k:Nat}{t:tA}{n:Nat}(l:X.calm=true)(h:yZ X d t)(m:(assignEach d X.env).length=n:=by rfl) (f:(assignEach d X.env).findIdx? (·.1)=none:=by rfl):PG X (.Tuple d k c) (re X.K n t):=by
 intro g s i H v u Q I r hw;obtain⟨a,p,q,w,x,hw⟩:=hw;subst q;cases r;obtain⟨y,j,ht,C⟩:=I.tuple w;refine assign_Tuple_tuple (I.ok.hd l) ht (by simp[m,<-x,j.length]) f λz A=>?_;have B:Inv X g i H {s with heap:=z}:=I.kept (t':=s.toks) λb o e=>A b o (dP (cQ e)) e;exact h g _ i H p _ Q B (by simpa using j) hw
def BI(to b:TE)(t:ro):TG:=λv a H Q=>to a H λo c=>b a c λi d=>t o i v d λe=>Q a e
def yO{o i:Expr}{to f:TE}{t:ro}(g:PE X o to)(j:PE X i f)(k:vF X t)(l:∀v,assign (.Subscript o i c) X.env v=(do
   let a <-holding [v] (eval o X.env)
   let b <-holding [v,a] (eval i X.env)
   standAt c
   holding [v,a,b] (setItem a b v)
   release [v,a,b] []):=by intro _;rfl):PG X (.Subscript o i c) (BI to f t):=by
 intro e s d H v u Q I r h;rw[l];refine bW (gf (cB (g e s d H _ I h) λa m ⟨x,n,p,q,w⟩=>?_));refine bW (gf (cB (j e m d n _ p w) λb z ⟨y,A,B,C,D⟩=>?_));refine bW (zL (bW (gf (cB (k e z d A x y v a b u _ B q C r D) λ_ L ⟨E,G,J⟩=>?_))));exact wpAny_release #[d,E,G,J]
def n4(b:TE)(g:TG):TS:=λD a H=>b a H λx c=>g x a c D.nx
def yJ{a e:Expr}{b:TE}{g:TG}(i:PE X e b)(j:PG X a g)(k:swapsWithSole [a] e c.line X.env=pure false:=by rfl)(hw:swappedStores [a] e X.env=pure none:=by rfl)
  (l:(assignEach [a] X.env).map (·.2)=[assign a X.env]:=by rfl):PS X (.Assign [a] e c) (n4 b g):=by
 intro d s f H D I h;refine wpAny_Assign_stores (cB (i d s f H _ I h) λv m ⟨x,n,o,p,r⟩=>?_) k hw;rw[l];exact cB (j d m f n x v _ o p r) λ_ t q=>q
def dC{i:Nat}{x:Str}{e:Expr}{b:TE}{a:Pos}(d:X.N.Nodup)(f:X.N[i]?=some x)(g:yF X.env.scope x)(j:PE X e b)(k:swapsWith e (some (.Name x a)) c.line X.env=pure false:=by rfl)(l:X.fn x=true\/X.env.scope.names.lookup x=some .local:=by first|exact .inl rfl|exact .inr rfl|assumption):
  PS X (.Assign [.Name x a] e c) (n4 b (hI i)):=by
 intro m s n H D I h;refine wpAny_Assign_Name (cB (j m s n H _ I h) λv u ⟨y,o,p,q,r⟩=>?_) k;exact GS p d f g q (λw t=>#[_,o,t,r]) l
end
section
variable{X:Cx}{a:Pos}
def EW(c:TT)(h:TS):TS:=λD a H=>∃W:Nat->St->Hp->Prop,(∃m,W m a H)/\∀m a H,W m a H->
 c a H λb e=>if b=true then ∃N:St->Hp->Prop,(∀d f,N d f->∃g,g<m/\W g d f)/\h {D with nx:=N,ct:=N,bk:=D.nx} a e else D.nx a e
def Cr{c:Expr}{g:List Stmt}{u:TT}{w:TS}(x:PassesOwn (model X.prog X.w) X.A X.env X.xe)(E:PT X c u)(G:PSs X g w):PS X (.While c g [] a) (EW u w):=by
 intro m s J H D I h;obtain⟨W,⟨L,M⟩,turn⟩:=h;refine wpAny_While (codeAny_whileLoop (λn O=>∃i y,Inv X m i y O/\W n i y) ?_ L #[J,H,I,M]);rintro n Q ⟨e,z,T,U⟩;refine rO x (cB (E m Q e z _ T (turn n e z U)) λb Y ⟨A,B,k⟩=>?_);cases b with
 | true=>
  obtain⟨N,C,k⟩:=k;rw[wB rZ];refine rO x (cB (G m Y e A _ B k) λf s3 l=>?_);cases f with
  |next=>
   obtain⟨d,j,o,p⟩:=l;obtain⟨q,r,t⟩:=C d j p;exact#[q,r,d,j,o,t]
  |cont=>
   obtain⟨d,j,o,p⟩:=l;obtain⟨q,r,t⟩:=C d j p;exact#[q,r,d,j,o,t]
  |brk=>exact l
  |ret v=>exact l
 |false=>
  rw[wA gN];exact AD #[e,A,B,k]
end
structure It where
 go:Nat->Hp->Prop
 yld:Nat->Hp->V->Hp->Prop
 stop:Nat->Hp->Prop
def FpOk(X:Cx)(a:AO)(H:Hp)(b:Ad):Prop:=
 H b=none/\b≠X.env.locals/\b∉X.fs/\(b∈X.ex\/X.s₀.heap.objs.size<=b)/\(∀x c,X.env.cells.lookup x=some c->c≠b)/\∀p∈X.pn++a,p.1≠b
def Inv.fpOk{X:Cx}{d:AO}{f:St}{H H':Hp}{s:Sh}{b:Ad}(I:Inv X d f H s)(a:s.heap.objs.size<=b)(g:H' b=none):FpOk X d H' b:=by
 refine#[g,mS (gm I.lt a),I.nofs a,.inr (cW I.sz a),λx c e z=>?_,λp h z=>?_]
 .obtain⟨v,q⟩:=I.cell x c e;exact wC (gm q.lt (by rw[z];exact a)) (kS _)
 .exact wC (gm (cQ (I.pin p h).1) (by rw[z];exact a)) (kS _)
structure b7z(P:Pg)(w:World)(K:O2)(tg:Expr)(J:It)(fp:As)(it:Ad)(tn:Nat->Heap->Prop):Prop where
 mem:it∈fp
 obj:∀i h,tn i h->∀b∈fp,∃o,h.get? b=some o/\∀v,o.data≠ .cell v
 keep:∀i h h',tn i h->(∀b∈fp,∀o,h.get? b=some o->h'.get? b=some o)->tn i h'
 item:∀(X:Cx),X.prog=P->X.w=w->X.K=K->X.calm=true->∀(i:Nat) (za:AO) (s:Sh) (σ:St) (H:Hp) (E:VP),Inv X za σ H s->(∀b∈fp,FpOk X za H b)->tn i s.heap->J.go i H->
  wpAny (model P w) X.A (pyNext (.ref it)) (λr s1=>∃u,r=some u/\
   wpAny (model P w) X.A (letOwnedTupleGo tg (.ref it) u) (λ_ s2=>∃x H',Inv X za σ H' s2/\RelV x u/\J.yld i H x H'/\tn (i+1) s2.heap/\∀b∈fp,H' b=none) E s1) E s
 done:∀(X:Cx),X.prog=P->X.w=w->X.K=K->X.calm=true->∀(i:Nat) (za:AO) (s:Sh) (σ:St) (H:Hp) (E:VP),Inv X za σ H s->(∀b∈fp,FpOk X za H b)->tn i s.heap->J.stop i H->
  wpAny (model P w) X.A (pyNext (.ref it)) (λr s1=>r=none/\Inv X za σ H s1) E s
 self:∀(A:Ar) (i:Nat) (s:Sh) (Q:VP) (E:VP),tn i s.heap->Q (.ref it) s->wpAny (model P w) A (pyIter (.ref it)) Q E s
abbrev TI:=St->Hp->(It->Hp->Prop)->Prop
def A1(X:Cx)(d:AO)(h:St)(i:Expr)(R:It->Hp->Prop)(a:Vl)(e:Sh):Prop:=
 ∃(it:Ad) (f:As) (g:Nat->Heap->Prop) (J:It) (c:Hp),a=.ref it/\Inv X d h c e/\b7z X.prog X.w X.K i J f it g/\g 0 e.heap/\(∀b∈f,FpOk X d c b)/\R J c
def PI(X:Cx)(d a:Expr)(e:TI):Prop:=
 ∀(c:AO) (s:Sh) (b:St) (H:Hp) (R:It->Hp->Prop),Inv X c b H s->e b H R->
  wpAny (model X.prog X.w) X.A (eval a X.env) (λv f=>wpAny (model X.prog X.w) X.A (pyIter v) (A1 X c b d R) X.xe f) X.xe s
def Ac{M:Model}{A:Ar}{E:VP}{s:Sh}{b:Expr}{it:Ad}{u:Vl}{o:Obj}{n:String}{c:AV}{Q:Unit->Sh->Prop}(d:s.heap.get? it=some o)(e:o.cls=.type n)(f:o.data=.fields c)(g:["enumerate","zip","dict_itemiterator","dict_reverseitemiterator","odict_iterator","itertools.zip_longest","itertools.pairwise"].contains n=false) (a:Q ⟨⟩ s):wpAny M A (letOwnedTupleGo b (.ref it) u) Q E s:=by
  unfold letOwnedTupleGo;cases b<;>first
    |exact b9 a
    |(cases u<;>first
        |exact b9 a
        | (refine bW (wpAny_load d ?_)
           rw[e,f];show wpAny M A (if(["enumerate","zip","dict_itemiterator","dict_reverseitemiterator","odict_iterator","itertools.zip_longest","itertools.pairwise"].contains n&&c[0]? ==some (rawInt _))=true then _ else _) Q E s
           rw[wA (by intro h;rw[g,Bool.false_and]at h;cases h)];exact b9 a))
def rm(K:O2)(a:Ad):It:=
 #[λi H=>∃b x,SqL K H a b/\b[i]?=some x,λi H x c=>c=H/\∀b,SqL K H a b->b[i]?=some x,λi H=>∃b,SqL K H a b/\b.length<=i]
def zb(K:O2)(a:Ad):It:=
 #[λi H=>∃b x,SqT K H a b/\b[i]?=some x,λi H x c=>c=H/\∀b,SqT K H a b->b[i]?=some x,λi H=>∃b,SqT K H a b/\b.length<=i]
def pR(lo:Int)(n:Nat):It:=#[λi _=>i<n,λi H x a=>a=H/\x=.int (lo+i),λi _=>n<=i]
def Nb{P:Pg}{w:World}{K:O2}{O:Expr}(a it:Ad):b7z P w K O (rm K a) [it] it (λi h=>h.IsListIter it a i) where
 mem:=by simp
 obj:=λi h st b f=>by
  have e:b=it:=by simpa using f
  subst e;obtain⟨o,e,c,d⟩:=st;exact#[o,e,λv z=>by rw[d]at z;cases z]
 keep:=λi h j st k=>st.at λo e=>k it (by simp) o e
 item:=by
  intro X n hw q L i M s N H E I l st r;subst n hw q;obtain⟨Q,x,m,t⟩:=r;obtain⟨y,A,p,T⟩:=I.list m;obtain⟨u,U,Y⟩:=A.get t;obtain⟨B,C,f2,D,G,J⟩:=l it (by simp);refine Br st p.isList (x:=u) (by simpa using U) λj g sb=>?_;have I1:Inv X M N H {s with heap:=j}:=I.turned (t':=s.toks) (λb o f e=>(sb.2 b f).trans e) B C D G J;obtain⟨o,e,c,d⟩:=id g;exact#[u,rZ,Ac (s:={s with heap:=j}) e c d (by decide) #[x,H,I1,Y,#[rfl,λys hy=>by rw[I.list_inj hy m];exact t],g,λb f=>(l b f).1]]
 done:=by
  intro X n hw q L i M s N H E I l st r;subst n hw q;obtain⟨Q,m,t⟩:=r;obtain⟨y,A,p,T⟩:=I.list m;obtain⟨B,C,f2,D,G,J⟩:=l it (by simp);have hl:=A.length;exact Bk (I.ok.hd L) st p.isList (by simp;lia) λj eb=>#[rZ,I.turned (t':=s.toks) (λb o f e=>eb b o f e) B C D G J]
 self:=λ_ _ _ _ _ st h=>wpAny_pyIter_listiter st h
def MZ{P:Pg}{w:World}{K:O2}{O:Expr}(a it:Ad):b7z P w K O (zb K a) [it] it (λi h=>h.IsTupleIter it a i) where
 mem:=by simp
 obj:=λi h st b f=>by
  have e:b=it:=by simpa using f
  subst e;obtain⟨o,e,c,d⟩:=st;exact#[o,e,λv z=>by rw[d]at z;cases z]
 keep:=λi h l st k=>st.at λo e=>k it (by simp) o e
 item:=by
  intro X q hw r L i M s N H E I m st t;subst q hw r;obtain⟨Q,x,n,y⟩:=t;obtain⟨g,A,p,T⟩:=I.tuple n;obtain⟨u,U,Y⟩:=A.get y;obtain⟨B,C,f2,D,G,J⟩:=m it (by simp);refine wpAny_pyNext_tuple_item st (show s.heap.IsTuple a g.toArray from p) (x:=u) (by simpa using U) λl j sb=>?_;have I1:Inv X M N H {s with heap:=l}:=I.turned (t':=s.toks) (λb o f e=>(sb.2 b f).trans e) B C D G J;obtain⟨o,e,c,d⟩:=id j;exact#[u,rZ,Ac (s:={s with heap:=l}) e c d (by decide) #[x,H,I1,Y,#[rfl,λys hy=>by rw[I.tuple_inj hy n];exact y],j,λb f=>(m b f).1]]
 done:=by
  intro X q hw r L i M s N H E I m st t;subst q hw r;obtain⟨Q,n,y⟩:=t;obtain⟨g,A,p,T⟩:=I.tuple n;obtain⟨B,C,f2,D,G,J⟩:=m it (by simp);have hl:=A.length;exact wpAny_pyNext_tuple_end (I.ok.hd L) st (show s.heap.IsTuple a g.toArray from p) (by simp;lia) λl eb=>#[rZ,I.turned (t':=s.toks) (λb o f e=>eb b o f e) B C D G J]
 self:=λ_ _ _ _ _ st h=>wpAny_pyIter_tupleiter st h
def NU{P:Pg}{w:World}{K:O2}{C:Expr}(it:Ad)(lo:Int)(n:Nat):b7z P w K C (pR lo n) [it] it (λi h=>IsRangeIter h it (lo+(i:Nat) * 1) ((n:Int)-(i:Nat)) 1) where
 mem:=by simp
 obj:=λi h st b a=>by
  have e:b=it:=by simpa using a
  subst e;exact#[_,st,λv z=>by
   have D:Data.fields _=Data.cell v:=z;cases D]
 keep:=λi h d st k=>k it (by simp) _ st
 item:=by
  intro X g hw j l i y s A H E I f st m;subst g hw j;obtain⟨p,q,G,r,u,x⟩:=f it (by simp);have W:=Walks.range (prog:=X.prog) (w:=X.w) (I.ok.hd l) it lo 1 n;refine W.item i s _ _ m st λv d B J c L=>?_;obtain⟨t,rfl⟩:=J;have M:Inv X y A H {s with heap:=d,toks:=B}:=I.turned (λb o a e=>L b o (by simpa using a) e) p q r u x;refine#[_,rZ,Ac (s:={s with heap:=d,toks:=B}) (n:="range_iterator") c rfl rfl (by decide) #[.int (lo+i),H,M,#[t,?_],#[rfl,rfl],c,λb a=>(f b a).1]];rw[Int.mul_one]
 done:=by
  intro X g hw j l i y s A H E I f st m;subst g hw j;obtain⟨p,q,G,r,u,x⟩:=f it (by simp);exact wpAny_pyNext_range_end (I.ok.hd l) st (by have:n<=i:=m;lia) λd N=>#[rZ,I.turned (t':=s.toks) (λb o a e=>N b o a e) p q r u x]
 self:=λ_ _ _ _ _ st h=>wpAny_pyIter_rangeiter st h
section
variable{X:Cx}{c:Expr}
def HA(K:O2)(tl:TE):TI:=λc H R=>tl c H λx b=>∃a,x=.ref a/\(∃d,SqL K b a d)/\R (rm K a) b
def Bj(K:O2)(tl:TE):TI:=λc H R=>tl c H λx b=>∃a,x=.ref a/\(∃d,SqT K b a d)/\R (zb K a) b
def fZ{l:Expr}{tl:TE}(g:PE X l tl):PI X c l (HA X.K tl):=by
 intro i s j H R I h;refine cB (g i s j H _ I h) λv d ⟨x,k,f,m,n⟩=>?_;obtain⟨a,e,⟨w,r⟩,q⟩:=n;subst e;cases m;obtain⟨t,y,p,z⟩:=f.list r;refine vZ p.isList ?_;refine#[d.heap.objs.size,[d.heap.objs.size],_,_,k,rZ,f.kept (t':=d.toks) λb o e=>cV _ e,Nb a _,#[_,dW _ rZ,rZ,rZ],λb u=>?_,q];have e:b=d.heap.objs.size:=by simpa using u
 subst e;exact f.fpOk (cm _) (f.hok.fresh (cm _))
def uu{l:Expr}{tl:TE}(i:PE X l tl):PI X c l (Bj X.K tl):=by
 intro j s k H R I h;refine cB (i j s k H _ I h) λv d ⟨x,m,f,n,r⟩=>?_;obtain⟨a,e,⟨w,t⟩,q⟩:=r;subst e;cases n;obtain⟨g,y,p,z⟩:=f.tuple t;refine wpAny_pyIter_tuple (show d.heap.IsTuple a g.toArray from p) ?_;refine#[d.heap.objs.size,[d.heap.objs.size],_,_,m,rZ,f.kept (t':=d.toks) λb o e=>cV _ e,MZ a _,#[_,dW _ rZ,rZ,rZ],λb u=>?_,q];have e:b=d.heap.objs.size:=by simpa using u
 subst e;exact f.fpOk (cm _) (f.hok.fresh (cm _))
def Jl{d:AO}{f:St}{H:Hp}{s:Sh}{R:It->Hp->Prop}{E:VP}{lo a:Int}{t u v:Tok}{g:Nat}(I:Inv X d f H s)(i: -(2 ^ 62)<=lo)(j:lo<2 ^ 62)(k: -(2 ^ 62)<=a)(l:a<2 ^ 62)(q:R (pR lo (a-lo).toNat) H):wpAny (model X.prog X.w) X.A (pyIter (.ref s.heap.objs.size)) (A1 X d f c R) E {s with heap:=s.heap.push {cls:= .type "range",data:= .fields #v[.int lo t,.int a u,.int 1 v]},toks:=g}:=by
 refine wpAny_pyIter_range (IsRange.new ..) (small_one i j k l) ?_;have h:Inv X d f H {s with heap:=s.heap.push {cls:= .type "range",data:= .fields #v[.int lo t,.int a u,.int 1 v]},toks:=g}:=I.kept λb o e=>cV _ e;refine#[(s.heap.push {cls:= .type "range",data:= .fields #v[.int lo t,.int a u,.int 1 v]}).objs.size,[(s.heap.push {cls:= .type "range",data:= .fields #v[.int lo t,.int a u,.int 1 v]}).objs.size],_,_,H,rZ,
  h.kept (t':=g) λb o e=>cV _ e,NU _ lo (a-lo).toNat,?_,λb m=>?_,q]
 .have n:lo+((0:Nat):Int) * 1=lo:=by simp
  have p:(((a-lo).toNat:Nat):Int)-((0:Nat):Int)=Builtin.Range.rangeSize lo a 1:=by rw[rangeSize_one];split<;>lia
  show IsRangeIter _ _ (lo+((0:Nat):Int) * 1) ((((a-lo).toNat:Nat):Int)-((0:Nat):Int)) 1;rw[n,p];exact dW _ rfl
 .have e:b=(s.heap.push {cls:= .type "range",data:= .fields #v[.int lo t,.int a u,.int 1 v]}).objs.size:=by simpa using m
  subst e;exact h.fpOk (cm _) (h.hok.fresh (cm _))
def HQ(a:TA):TI:=λb H R=>a b H λc d=>∃j:Int,c=[.int j]/\ -(2 ^ 62)<=j/\j<2 ^ 62/\R (pR 0 j.toNat) d
def nJ{a:Expr}{f:TA}{p b:Pos}(g:Gl X "range")(i:X.mg "range"=none)(k:PA X [a] f)(l:starEach [a] X.env=[(false,eval a X.env)]:=by rfl):PI X c (.Call (.Name "range" p) [a] [] b) (HQ f):=by
 intro m s n H R I h;refine Call_ (uk I g i boot_range (BF (cB (k b m s n H _ I h) λx y ⟨z,A,o,u,d⟩=>?_) l rZ));obtain⟨j,e,d,v,q⟩:=d;subst e;cases u with
 |cons r w=>
  cases w;obtain⟨t,rfl⟩:=r;exact call_range_1 (Jl o () () d v (by simpa using q))
def ri(f:TI)(g:TG)(h:TS):TS:=λD a H=>f a H λJ j=>∃W:Nat->Nat->St->Hp->Prop,(∃m,W 0 m a j)/\∀i m a H,W i m a H->
 (J.stop i H/\D.nx a H)\/(J.go i H/\∃N:St->Hp->Prop,(∀b c,N b c->∃e,e<m/\W (i+1) e b c)/\∀x c,J.yld i H x c->g x a c λd k=>h {D with nx:=N,ct:=N,bk:=D.nx} d k)
def wD(a:As)(h:Heap):AO:=a.filterMap λb=>(h.get? b).map λo=>(b,o)
def yk{a:As}{h:Heap}{b:Ad}{o:Obj}(c:b∈a)(e:h.get? b=some o):(b,o)∈wD a h:=wK.mpr #[b,c,by rw[e];rfl]
def MY{a:As}{h:Heap}{p:Ad×Obj}(c:p∈wD a h):p.1∈a/\h.get? p.1=some p.2:=by
 obtain⟨b,d,e⟩:=wK.mp c;cases q:h.get? b with
 |none=>rw[q]at e;cases e
 |some o=>
  rw[q]at e;have f:(b,o)=p:=fL e;subst f;exact#[d,q]
def Inv.pinned{a:AO}{f:St}{H:Hp}{s:Sh}{c:As}(I:Inv X a f H s)(i:∀b∈c,FpOk X a H b)(j:∀b∈c,∃o,s.heap.get? b=some o/\∀v,o.data≠ .cell v):Inv X (a++wD c s.heap) f H s:=
 I.pins_of λp k=>(cM.mp k).elim (λz=>I.pin p (ft _ z)) λz=>by
  obtain⟨g,e⟩:=MY z;obtain⟨l,m,n,_⟩:=i p.1 g;obtain⟨o,h,d⟩:=j p.1 g;rw[e]at h;cases h;exact#[e,l,m,n,d]
def Inv.unpinned{a c:AO}{b:St}{H:Hp}{s:Sh}(I:Inv X (a++c) b H s):Inv X a b H s:=I.pins_of λp d=>I.pin p (ft _ (oC _ d))
def iL{j:Expr}{z:List Stmt}{wi:TI}{g:TG}{tb:TS}{U:Pos}(E:PassesOwn (model X.prog X.w) X.A X.env X.xe)(hc:X.calm=true)(hi:PI X c j wi)(hg:PG X c g)(k:PSs X z tb)(hs:∀x,foldedSetIterable j X.env x=pure x:=by intro _;rfl):PS X (.For c j z [] U) (ri wi g tb):=by
 intro B s σ H D I h;refine wpAny_For (cB (hi B s σ H _ I h) λv s1 h1=>cB h1 λaf s2 h2=>?_) hs;obtain⟨it,G,tn,J,H2,e,I2,T,Y,f2,W,⟨m0,w0⟩,turn⟩:=h2;subst e;have l:∀{y:Hp},(∀b∈G,y b=none)->∀b∈G,FpOk X B y b:=λhn b k=>#[hn b k,(f2 b k).2];refine codeAny_forLoop_any (λn s'=>∃i p y,Inv X B p y s'/\tn i s'.heap/\(∀b∈G,y b=none)/\W i n p y) ?_ m0 #[0,σ,H2,I2,Y,λb k=>(f2 b k).1,w0];rintro n s3 ⟨i,q,Q,I3,L,M,w3⟩
 rcases turn i n q Q w3 with⟨stop,qn⟩|⟨go,N,hN,step⟩
 .refine rO E (cB (T.done X rZ rZ rZ hc i B s3 q Q X.xe I3 (l M) L stop) λr s4 ⟨hr,I4⟩=>?_);subst hr;exact AD #[q,Q,I4,qn]
 .refine rO E (cB (T.item X rZ rZ rZ hc i B s3 q Q X.xe I3 (l M) L go) λr s4 ⟨u,hr,h4⟩=>?_);subst hr;refine rO E (cB h4 λ_ s5 ⟨x,H5,I5,r5,y5,C,aa⟩=>?_);have ab:=I5.pinned (l aa) (T.obj _ _ C);refine rO E (cB (hg _ s5 q H5 x u _ ab r5 (step x H5 y5)) λ_ s6 ⟨ae,H6,I6,q6⟩=>?_);refine rO E (cB (k _ s6 ae H6 _ I6 q6) λf s7 A=>?_);have again:∀{a:St} {t:Hp},Inv X (B++wD G s5.heap) a t s7->N a t->∃m,m<n/\∃i p y,Inv X B p y s7/\tn i s7.heap/\(∀b∈G,y b=none)/\W i m p y:=λ{a t} w O=>by
   obtain⟨m',hm,w7⟩:=hN a t O;refine#[m',hm,i+1,a,t,w.unpinned,T.keep _ _ _ C λb k o e=>(w.pin (b,o) (ft _ (ft _ (yk k e)))).1,λb k=>?_,w7];obtain⟨o,e,d⟩:=T.obj _ _ C b k;exact(w.pin (b,o) (ft _ (ft _ (yk k e)))).2.1
  cases f with
  |next=>obtain⟨a,t,w,O⟩:=A;exact again w O
  |cont=>obtain⟨a,t,w,O⟩:=A;exact again w O
  |brk=>obtain⟨a,t,w,A⟩:=A;exact#[a,t,w.unpinned,A]
  |ret v=>obtain⟨x7,a,t,w,r7,A⟩:=A;exact#[x7,a,t,w.unpinned,r7,A]
end
def oN{K:O2}{a:Ad}{xs:List V}{g:TG}{k:TS}{D:Ends}{b:St}{H:Hp}(Pv:Nat->St->Hp->Prop)(n:Pv 0 b H)(o:∀i b H,i<=xs.length->Pv i b H->SqL K H a xs)(r:∀i x b H,xs[i]?=some x->Pv i b H->g x b H λc j=>k {D with nx:=Pv (i+1),ct:=Pv (i+1),bk:=D.nx} c j) (s:∀b H,Pv xs.length b H->D.nx b H):
  ∃W:Nat->Nat->St->Hp->Prop,(∃m,W 0 m b H)/\∀i m b H,W i m b H->
   ((rm K a).stop i H/\D.nx b H)\/((rm K a).go i H/\∃N:St->Hp->Prop,(∀d f,N d f->∃l,l<m/\W (i+1) l d f)/\∀x f,(rm K a).yld i H x f->g x b f λc j=>k {D with nx:=N,ct:=N,bk:=D.nx} c j):=by
 refine#[λi m b H=>m=xs.length-i/\i<=xs.length/\Pv i b H,#[xs.length,by simp,Nat.zero_le _,n],?_];rintro i m b H ⟨rfl,t,p⟩;have q:=o i b H t p;by_cases h:i<xs.length
 .refine .inr #[#[xs,xs[i],q,by simp[h]],Pv (i+1),λd f u=>#[xs.length-(i+1),Nat.sub_succ_lt_self _ _ h,rZ,h,u],λx f y=>?_];obtain⟨e,y⟩:=y;subst e;exact r i x b _ (y xs q) p
 .have e:i=xs.length:=by lia
  subst e;exact .inl #[#[xs,q,cm _],s b H p]
def vQ{lo:Int}{n:Nat}{g:TG}{j:TS}{D:Ends}{a:St}{H:Hp}(Pv:Nat->St->Hp->Prop)(l:Pv 0 a H)(o:∀i a H,i<n->Pv i a H->g (.int (lo+i)) a H λc h=>j {D with nx:=Pv (i+1),ct:=Pv (i+1),bk:=D.nx} c h) (q:∀a H,Pv n a H->D.nx a H):
  ∃W:Nat->Nat->St->Hp->Prop,(∃m,W 0 m a H)/\∀i m a H,W i m a H->
   ((pR lo n).stop i H/\D.nx a H)\/((pR lo n).go i H/\∃N:St->Hp->Prop,(∀d f,N d f->∃k,k<m/\W (i+1) k d f)/\∀x f,(pR lo n).yld i H x f->g x a f λc h=>j {D with nx:=N,ct:=N,bk:=D.nx} c h):=by
 refine#[λi m a H=>m=n-i/\i<=n/\Pv i a H,#[n,by simp,Nat.zero_le _,l],?_];rintro i m a H ⟨rfl,s,p⟩;by_cases b:i<n
 .refine .inr #[b,Pv (i+1),λd f r=>#[n-(i+1),Nat.sub_succ_lt_self _ _ b,rZ,b,r],λx f y=>?_];obtain⟨e,y⟩:=y;subst e y;exact o i a _ b p
 .have e:i=n:=by lia
  subst e;exact .inl #[cm _,q a H p]
abbrev R2:=V->V->Hp->VK->Prop
def OpR(X:Cx)(f:Vl->Vl->Sem Vl)(r:R2):Prop:=
 ∀(a:AO) (s:Sh) (b:St) (H:Hp) (x y:V) (v u:Vl) (Q:VK),Inv X a b H s->RelV x v->RelV y u->r x y H Q->
  wpAny (model X.prog X.w) X.A (f v u) (EP X a b Q) X.xe s
def CD(X:Cx)(f:Vl->Sem Vl)(r:V->Hp->VK->Prop):Prop:=
 ∀(a:AO) (s:Sh) (b:St) (H:Hp) (x:V) (v:Vl) (Q:VK),Inv X a b H s->RelV x v->r x H Q->
  wpAny (model X.prog X.w) X.A (f v) (EP X a b Q) X.xe s
def hG(X:Cx)(f:Vl)(r:List V->Hp->VK->Prop):Prop:=
 ∀(a:AO) (s:Sh) (b:St) (H:Hp) (xs:List V) (c:Vs) (Q:VK),Inv X a b H s->Vals xs c->r xs H Q->
  wpAny (model X.prog X.w) X.A (call f c) (EP X a b Q) X.xe s
def DV(X:Cx)(r:V->Hp->(Bool->Hp->Prop)->Prop):Prop:=
 ∀(a:AO) (s:Sh) (b:St) (H:Hp) (x:V) (v:Vl) (Q:Bool->Hp->Prop),Inv X a b H s->RelV x v->r x H Q->
  wpAny (model X.prog X.w) X.A (truthy v) (TP X a b Q) X.xe s
def vH(r:R2)(b c:TE):TE:=λa H Q=>b a H λx d=>c a d λy e=>r x y e Q
def KA(r:V->Hp->VK->Prop)(a:TE):TE:=λb H Q=>a b H λx c=>r x c Q
inductive rI(C:Int->Int->Prop)(g:Int->Int->V)(x y:V)(H:Hp)(Q:VK):Prop|mk:∀i j,x=.int i->y=.int j->C i j->Q (g i j) H->rI C g x y H Q
inductive rV(g:Int->Int->V)(x y:V)(H:Hp)(Q:VK):Prop|mk:∀i j,x=.int i->y=.int j->Q (g i j) H->rV g x y H Q
inductive rU(g:Int->V)(x:V)(H:Hp)(Q:VK):Prop|mk:∀i,x=.int i->Q (g i) H->rU g x H Q
section
variable{X:Cx}{a b c:Expr}{d k l:TE}{e:Pos}
def sk(n:PE X a d)(o:PE X b k){j:AO}{s:Sh}{c:St}{H:Hp}{R:V->V->Hp->Prop}(I:Inv X j c H s)(h:d c H λx m=>k c m λy e=>R x y e) {Q:VP} {f:Vl->Vl->Sem Vl}(p:∀v u l x y e,Inv X j c e l->RelV x v->RelV y u->R x y e->wpAny (model X.prog X.w) X.A (f v u) Q X.xe l):
  wpAny (model X.prog X.w) X.A (eval a X.env) (λv g=>wpAny (model X.prog X.w) X.A (eval b X.env) (λu i=>wpAny (model X.prog X.w) X.A (f v u) Q X.xe i) X.xe g) X.xe s:=by
 refine cB (n j s c H _ I h) λv q ⟨x,m,r,t,w⟩=>?_;refine cB (o j q c m _ r w) λu l ⟨y,e,z,A,B⟩=>?_;exact p v u l x y e z t A B
def eR{c:Operator}{r:R2}(f:OpR X (binaryOp c) r)(g:PE X a d)(i:PE X b k):PE X (.BinOp a c b e) (vH r d k):=by
 intro j s l H Q I h;exact wpAny_BinOp (sk g i I h λv u m x y n o p t q=>f j m l n x y v u Q o p t q)
def ww{b:UnaryOp}{r:V->Hp->VK->Prop}(g:CD X (unaryOp b) r)(i:PE X a d):PE X (.UnaryOp b a e) (KA r d):=by
 intro c s f H Q I h;exact UnaryOp_ (cB (i c s f H _ I h) λv j ⟨x,k,l,m,n⟩=>g c j f k x v Q l m n)
def CZ{f:Vl->Vl->Sem Vl}{C:Int->Int->Prop}{g:Int->Int->Int}(rule:∀(i j:Int) (t u:Tok) (s:Sh) (Q:VP) (E:VP),C i j->Q (.int (g i j) s.toks) {s with toks:=s.toks+1}->wpAny (model X.prog X.w) X.A (f (.int i t) (.int j u)) Q E s):
  OpR X f (rI C λi j=> .int (g i j)):=by
 intro e s k H x y v u Q I a b h;obtain⟨i,j,rfl,rfl,c,q⟩:=h;obtain⟨t,rfl⟩:=a;obtain⟨d,rfl⟩:=b;exact rule i j t d s _ _ c #[.int (g i j),H,I.tok _,#[_,rZ],q]
def Cc{f:Vl->Vl->Sem Vl}{g:Int->Int->Int}(rule:∀(i j:Int) (t u:Tok) (s:Sh) (Q:VP) (E:VP),Q (.int (g i j) s.toks) {s with toks:=s.toks+1}->wpAny (model X.prog X.w) X.A (f (.int i t) (.int j u)) Q E s):
  OpR X f (rV λi j=> .int (g i j)):=by
 intro d s e H x y v u Q I a b h;obtain⟨i,j,rfl,rfl,q⟩:=h;obtain⟨t,rfl⟩:=a;obtain⟨c,rfl⟩:=b;exact rule i j t c s _ _ #[.int (g i j),H,I.tok _,#[_,rZ],q]
def rc{f:Vl->Vl->Sem Vl}{g:Int->Int->Bool}(rule:∀(i j:Int) (t u:Tok) (s:Sh) (Q:VP) (E:VP),Q (.bool (g i j)) s->wpAny (model X.prog X.w) X.A (f (.int i t) (.int j u)) Q E s):
  OpR X f (rV λi j=> .bl (g i j)):=by
 intro d s e H x y v u Q I a b h;obtain⟨i,j,rfl,rfl,q⟩:=h;obtain⟨t,rfl⟩:=a;obtain⟨c,rfl⟩:=b;exact rule i j t c s _ _ #[.bl (g i j),H,I,rZ,q]
def Ba(i j:Int):Prop:=0<j/\j<1073741824
def CMul(i j:Int):Prop:=(-(2 ^ 64)<i/\i<2 ^ 64)\/(-(2 ^ 64)<j/\j<2 ^ 64)
def CMul.ok{i j:Int}(h:CMul i j):IntMulOk i j:=by
 rcases h with⟨a,b⟩|⟨a,b⟩
 .exact .of_left (intBits_le_64 a b)
 .exact .of_right (intBits_le_64 a b)
def rl:OpR X (binaryOp .Add) (rV λi j=> .int (i+j)):=Cc λ_ _ _ _ _ _ _ q=>add_int q
def Nl:OpR X (binaryOp .Mult) (rI CMul λi j=> .int (i * j)):=CZ λ_ _ _ _ _ _ _ a q=>mul_int q a.ok
def va:OpR X (binaryOp .FloorDiv) (rI Ba λi j=> .int (i/j)):=CZ λi j _ _ _ _ _ a q=>by
 have b:(0:Int)<j:=a.1;have c:j<1073741824:=a.2;exact floordiv_int () (by rw[Int.fdiv_eq_ediv_of_nonneg i ()];exact q) (.inl (PyProof.noPylong_small ()))
def je:OpR X (binaryOp .Mod) (rI (λ_ j=>0<j) λi j=> .int (i%j)):=CZ λi j _ _ _ _ _ a q=>by
 have b:(0:Int)<j:=a;exact mod_int' () (by rw[Int.fmod_eq_emod_of_nonneg i ()];exact q)
def J'{f:Vl->Sem Vl}{g:Int->Int}(rule:∀(i:Int) (t:Tok) (s:Sh) (Q:VP) (E:VP),Q (.int (g i) s.toks) {s with toks:=s.toks+1}->wpAny (model X.prog X.w) X.A (f (.int i t)) Q E s):
  CD X f (rU λi=> .int (g i)):=by
 intro b s c H x v Q I a h;obtain⟨i,rfl,q⟩:=h;obtain⟨t,rfl⟩:=a;exact rule i t s _ _ #[.int (g i),H,I.tok _,#[_,rZ],q]
def ON:CD X (unaryOp .USub) (rU λi=> .int (-i)):=J' λ_ _ _ _ _ q=>neg_int q
end
def BU:V->V->Bool
 |.non,.non=>true|.non,.int _=>true|.int _,.non=>true|.non,.bl _=>true|.bl _,.non=>true|.non,.str _=>true|.str _,.non=>true
 |.int _,.int _=>true|.bl _,.bl _=>true|.str _,.str _=>true|.byt _,.byt _=>true
 |.int _,.str _=>true|.str _,.int _=>true|.bl _,.str _=>true|.str _,.bl _=>true
 |_,_=>false
def Od:R2:=λx y H Q=>BU x y=true/\Q (.bl (decide (x=y))) H
def NF{i j:Int}:decide (V.int i=V.int j)=(i==j):=by
 rw[jt];simp
def N4{i j:Bool}:decide (V.bl i=V.bl j)=(i==j):=by
 rw[jt];simp
def Kz{i j:Str}:decide (V.str i=V.str j)=(i==j):=by
 rw[jt];simp
def IL{i j:Array UInt8}:decide (V.byt i=V.byt j)=(i.toList==j.toList):=by
 rw[jt];cases i;cases j;simp
section
variable{X:Cx}{a b c:Expr}{d g l:TE}{f:Pos}
def iP{a:AO}{b:St}{H:Hp}{s:Sh}{Q:VK}{k c:Bool}(I:Inv X a b H s)(q:Q (.bl k) H)(e:k=c):EP X a b Q (.bool c) s:=by
 subst e;exact#[.bl k,H,I,rZ,q]
def tF:OpR X (compareOp .Eq) Od:=by
 intro e s f H x y v u Q I d a h;obtain⟨c,q⟩:=h;cases x with
 |non=>
  cases d;cases y with
  |non=>cases a;exact PySem.EqNone.eq_none_none (iP I q (by simp))
  |bl j=>cases a;exact PySem.EqNone.eq_none_bool (iP I q (by simp))
  |int j=>obtain⟨b,rfl⟩:=a;exact PySem.EqNone.eq_none_int (iP I q (by simp))
  |str j=>obtain⟨b,rfl⟩:=a;exact PySem.EqNone.eq_none_str (iP I q (by simp))
  |_=>exact wC (show false=true from c) gN
 |bl i=>
  cases d;cases y with
  |non=>cases a;exact PySem.EqNone.eq_bool_none (iP I q (by simp))
  |bl j=>cases a;exact eq_bool (iP I q N4)
  |str j=>obtain⟨b,rfl⟩:=a;exact PySem.EqMixed.eq_bool_str (iP I q (by simp))
  |_=>exact wC (show false=true from c) gN
 |int i=>
  obtain⟨t,rfl⟩:=d;cases y with
  |non=>cases a;exact PySem.EqNone.eq_int_none (iP I q (by simp))
  |int j=>obtain⟨b,rfl⟩:=a;exact eq_int (iP I q NF)
  |str j=>obtain⟨b,rfl⟩:=a;exact PySem.EqMixed.eq_int_str (iP I q (by simp))
  |_=>exact wC (show false=true from c) gN
 |str i=>
  obtain⟨t,rfl⟩:=d;cases y with
  |non=>cases a;exact PySem.EqNone.eq_str_none (iP I q (by simp))
  |bl j=>cases a;exact PySem.EqMixed.eq_str_bool (iP I q (by simp))
  |int j=>obtain⟨b,rfl⟩:=a;exact PySem.EqMixed.eq_str_int (iP I q (by simp))
  |str j=>obtain⟨b,rfl⟩:=a;exact eq_str (iP I q Kz)
  |_=>exact wC (show false=true from c) gN
 |byt i=>
  obtain⟨t,rfl⟩:=d;cases y with
  |byt j=>obtain⟨b,rfl⟩:=a;exact PySem.W.eq_bytes (iP I q IL)
  |_=>exact wC (show false=true from c) gN
 |_=>cases y<;>exact wC (show false=true from c) gN
def Dr:OpR X (compareOp .Lt) (rV λi j=> .bl (decide (i<j))):=rc λ_ _ _ _ _ _ _ q=>lt_int q
def wM:OpR X (compareOp .LtE) (rV λi j=> .bl (decide (i<=j))):=rc λ_ _ _ _ _ _ _ q=>le_int q
def AA:OpR X (compareOp .Gt) (rV λi j=> .bl (decide (j<i))):=rc λ_ _ _ _ _ _ _ q=>gt_int q
def Eh:OpR X (compareOp .Is) (λx y H Q=>y=.non/\Q (.bl (decide (x=.non))) H):=by
 intro c s d H x y v u Q I a b h;obtain⟨rfl,q⟩:=h;cases b;refine is_none_gen (iP I q ?_);cases x<;>first
  |(cases a;rfl)
  |(obtain⟨t,rfl⟩:=a;rfl)
def Gb:OpR X (compareOp .IsNot) (λx y H Q=>y=.non/\Q (.bl (!decide (x=.non))) H):=by
 intro c s d H x y v u Q I a b h;obtain⟨rfl,q⟩:=h;cases b;refine isnot_none_gen (iP I q ?_);cases x<;>first
  |(cases a;rfl)
  |(obtain⟨t,rfl⟩:=a;rfl)
def fj(b:Expr){a:CmpOp}(h:a≠ .In:=by decide)(c:a≠ .NotIn:=by decide):behindInMarks a b=false:=by
 have d:(a==CmpOp.In)=false:=by cases a<;>first|rfl|exact wC rZ h
 have e:(a==CmpOp.NotIn)=false:=by cases a<;>first|rfl|exact wC rZ c
 cases b<;>simp[behindInMarks,d,e]
def ug{c:CmpOp}{r:R2}(e:OpR X (compareOp c) r)(i:PE X a d)(j:PE X b g)(k:behindInMarks c b=false):PE X (.Compare a [c] [b] f) (vH r d g):=by
 intro l s m H Q I h;exact wpAny_Compare1 (sk i j I h λv u n x y o p t w q=>e l n m o x y v u Q p t w q) k
def v9(t:TE):TT:=λa H Q=>t a H λx b=>∃k,x=.bl k/\Q k b
def fM{i:CmpOp}{r:R2}(m:OpR X (compareOp i) r)(n:PE X a d)(o:PE X b g)(p:behindInMarks i b=false):PT X (.Compare a [i] [b] f) (v9 (vH r d g)):=by
 intro j s l H Q I h;refine wpAny_isTrue_Compare1 (cB (n j s l H _ I h) λv q ⟨x,t,w,A,B⟩=>cB (o j q l t _ w B) λu C ⟨y,D,E,G,J⟩=>
  cB (m j C l D x y v u _ E A G J) λc T ⟨z,L,M,N,k,e,O⟩=>?_) p
 subst e;cases N;exact pV #[L,M,O]
def sf(K:O2)(x:V)(H:Hp)(k:Bool):Prop:=
 match x with
 |.non=>k=false
 |.bl b=>k=b
 |.int i=>k=(i != 0)
 |.str y=>y.length<=sizeLine/\k=((y.length:Int) != 0)
 |.byt y=>y.size<=sizeLine/\k=((y.size:Int) != 0)
 |.ref p=>(∃a,SqL K H p a/\k= !a.isEmpty)\/(∃a,SqT K H p a/\k= !a.isEmpty)\/∃c,H p=some (.dK c)/\k= !c.isEmpty
 |_=>False
def IZ{b:Type}{a:List (b×V)}{c:List (b×Vl)}(r:KV a c):(!c.isEmpty)= !a.isEmpty:=by
 cases r<;>rfl
def FO{b:List V}{a:Vs}(r:Vals b a):(!a.toArray.isEmpty)= !b.isEmpty:=by
 cases r<;>simp
def xa:(sizeLine:Nat)<2 ^ 63:=by rw[cS];decide
def OD:DV X (λx H Q=>∃k,sf X.K x H k/\Q k H):=by
 intro A s B H x v Q I g h;obtain⟨k,e,q⟩:=h;have C:=xa;have D:sizeLine=16777216:=cS;cases x with
 |non=>
  cases g;have a:k=false:=e;subst a;exact truthy_none #[H,I,q]
 |bl b=>
  cases g;have a:k=b:=e;subst a;exact pV #[H,I,q]
 |int i=>
  obtain⟨t,rfl⟩:=g;have a:k=(i != 0):=e;subst a;exact PySem.P.truthy_int #[H,I,q]
 |str y=>
  obtain⟨t,rfl⟩:=g;obtain⟨w,a⟩:y.length<=sizeLine/\k=((y.length:Int) != 0):=e;subst a;exact PySem.P.truthy_str () #[H,I.tok _,q]
 |byt y=>
  obtain⟨t,rfl⟩:=g;obtain⟨w,a⟩:y.size<=sizeLine/\k=((y.size:Int) != 0):=e;subst a;exact PySem.W.truthy_bytes () #[H,I.tok _,q]
 | ref p=>
  cases g;have a:(∃f,SqL X.K H p f/\k= !f.isEmpty)\/(∃f,SqT X.K H p f/\k= !f.isEmpty)\/∃c,H p=some (.dK c)/\k= !c.isEmpty:=e
  rcases a with⟨f,j,a⟩|⟨f,j,a⟩|⟨c,j,a⟩
  .subst a;obtain⟨n,r,o,u⟩:=I.list j;have d:=r.length;exact wpAny_truthy_list o.isList (by simp only[List.size_toArray];lia) #[H,I.tok _,by rw[FO r];exact q]
  .subst a;obtain⟨n,r,o,u⟩:=I.tuple j;have d:=r.length;exact truthy_tuple o (by simp only[List.size_toArray];lia) #[H,I.tok _,by rw[FO r];exact q]
  .subst a;obtain⟨u,z,l,r,m⟩:c.length<=sizeLine/\(p==sysModules)=false/\∃l,KV c l/\s.heap.DictOf (dN X.prog X.w) p l:=I.hok p _ j;have d:c.length=l.length:=oG r;exact wpAny_truthy_dict z m () #[H,I.tok _,by rw[IZ r];exact q]
 |_=>exact(show False from e).elim
def GL(g:PE X a d)(i:∀b,isTrue a X.env b=(do let v <-b;standAt a.pos;holding [v] (truthy v))):
  PT X a (λc H Q=>d c H λx e=>∃k,sf X.K x e k/\Q k e):=by
 intro f s c H Q I h;exact isTrue_plain (cB (g f s c H _ I h) λv j ⟨x,l,m,n,o⟩=>OD f j c l x v Q m n o) (i _)
def gD{x:V}{a:Vs}(r:Vals [x] a):∃u,a=[u]/\RelV x u:=by
 cases r with
 |cons b c=>cases c;exact#[_,rZ,b]
end
structure ObjM(h:Heap)(x dx C:Ad)(mA:SV):Prop where
 obj:h.get? x=some (PySem.W.instObj C dx)
 ns:h.Ns1 dx mA
 ne:dx≠x
def Og{h:Heap}{c:Ad}{d:SV}(n:h.Ns1 c d):∃f,h.get? c=some f/\∀name,PySem.W.lookIn name f=some (d name):=by
 obtain⟨o,g,r,i,j,k,_,l⟩:=n;refine#[o,i,λname=>?_];have e:=l name;unfold nsFind findBy at e;rw[<-Array.find?_toList]at e;unfold PySem.W.lookIn;rw[j];dsimp only;split
 .rename_i y q
  rw[q]at e;exact dw some e
 .rename_i q
  rw[q]at e;have a:g.toList.any (·.refKey)=false:=by
   rw[List.any_eq_false];intro y m;obtain⟨z,t,b⟩:=k y (zf.mp m);simp[DictEntry.refKey,b]
  have p: ¬g.toList.any (·.refKey)=true:=by rw[a];exact gN
  rw[wA p];exact dw some e
def ObjM.look{h:Heap}{x b C:Ad}{c:SV}(I:ObjM h x b C c):∃a,PySem.W.InstAt h x (PySem.W.instObj C b) C (some a)/\∀name,PySem.W.lookIn name a=some (c name):=
 let⟨a,d,e⟩:=Og I.ns
 #[a,#[I.obj,rZ,rZ,d],e]
section
variable{c:Pg}{w:World}{A:Ar}{E:VP}{s:Sh}{K:O2}{x i C f:Ad}{e:SV}{name:Str}{v:Vl}
def Jc{a:Bool}{Q:VP}(X:K.In s.heap)(I:ObjM s.heap x i C e)(d:PySem.W.plainGet K C name=true)(f:PySem.W.hasDictIn K C=true)(g:PySem.W.findIn K (.ref C) name=some none) (j:e name=some v) (b:PySem.W.handedIn v=true) (h:Q v {s with toks:=s.toks+1}):
  wpAny (model c w) A (getAttr (.ref x) name a) Q E s:=by
 obtain⟨l,J,k⟩:=I.look;exact PySem.W.get_value X J (DR d).1 (PySem.W.findObj_own f g rZ (by rw[k,j])) b h
def MS{b:Sem Bool}{Q:Vl×Vs->Sh->Prop}(X:K.In s.heap)(I:ObjM s.heap x i C e)(a:PySem.W.plainGet K C name=true)(d:PySem.W.findIn K (.ref C) name=some (some (.ref f))) (ht:PySem.W.isFn K (.ref f)=true) (g:e name=none) (h:Q (.ref f,[.ref x]) s):
  wpAny (model c w) A (getMethod (.ref x) name b) Q E s:=by
 obtain⟨j,J,k⟩:=I.look;exact PySem.W.method_fn X J (DR a).1 (DR a).2 d (qh.mp ht) (by show(PySem.W.lookIn name j).map (·.isSome)=some false;rw[k,g];rfl) h
def OL{n:Ss}{Q:Unit->Sh->Prop}(X:K.In s.heap)(I:ObjM s.heap x i C e)(o:PySem.W.findIn K (.ref C) "__setattr__"=some (some (.builtin "object.__setattr__"))) (p:PySem.W.plainOver K C=true) (ht:PySem.W.takerIn K C name=some none) (q:PySem.W.hasDictIn K C=true)(hw:PySem.Within e n) (t:n.length<=sizeLine)(h:∀g,ObjM g x i C (λy=>if y=name then some v else e y)->Heap.SameBut i s.heap g->Q ⟨⟩ {s with heap:=g,toks:=s.toks+2}):
  wpAny (model c w) A (setAttr (.ref x) name v) Q E s:=by
 obtain⟨G,J,H⟩:=I.look;refine PySem.W.set_plain X J o (PySem.W.osa_open (s:={s with toks:=s.toks+1}) (r:=none) X J p ht λb=>?_);obtain⟨L,u,j⟩:=PySem.W.any_some q;have z:s.heap.get? x=some #[.ref C,some i,.plain,#v[]]:=I.obj;refine bW (b9 (bW (bW (wpAny_loadPart z (bW (PySem.W.Looks.here (s:={s with toks:=s.toks+1}) (PySem.W.looks_clsIn X u) ?_))))));rw[j];refine b9 (a:=some i) (bW (b9 (bW ?_)));refine wpAny_nsSet1 (s:={s with toks:=s.toks+1}) I.ns λg d f=>?_;obtain⟨M,B,D,k,l,m⟩:=d.count (PySem.Within.cons name v hw);refine bW (wpAny_lookBehind k (by rw[l];exact pastItsLine_dict (cW m (by rw[gC];lia))) ?_);exact b9 (h _ #[(f.2 _ (eC I.ne)).trans I.obj,d,I.ne] f)
def IM{R:Result->Sh->Prop}{a:Vs}{b:List (Str×Vl)}(X:K.In s.heap)(e:PySem.W.makesIn K C=true)(i:PySem.W.findIn K (.ref C) "__init__"=some (some (.ref f))) (j:PySem.W.typeIn K (.ref f)=some (.type "function"))(h:codeAny (model c w) (A.under (.builtin "type.__call__" #[.ref C::a,b])) (.call (.ref f) #[.ref (s.heap.objs.size+1)::a,b]) (PySem.W.InitBack (s.heap.objs.size+1) R) {s with heap:=(s.heap.push PySem.W.emptyDict).push (PySem.W.instObj C s.heap.objs.size)}):
    codeAny (model c w) A (.call (.ref C) #[a,b]) R s:=by
  obtain⟨k,g,d,t,os⟩:=s;exact PySem.W.make_core (PySem.W.makes_of X e) (PySem.W.looks_findIn X i) (λself=>PySem.W.bind_fn X self j) (.inl rZ) h
end
def dB(f:Str)(v:V):List (Str×V)->List (Str×V)
 | []=>[(f,v)]
 |(g,x)::r=>if g=f then(g,v)::r else(g,x)::dB f v r
theorem EB(f g:Str)(v:V):∀fs:List (Str×V),(dB f v fs).lookup g=if g=f then some v else fs.lookup g
 | []=>by
  show List.lookup g [(f,v)]=_;by_cases h:g=f
  .have a:(g==f)=true:=qh.mpr h;simp only[List.lookup,a,wB h]
  .have a:(g==f)=false:=mH.mpr h;simp only[List.lookup,a,wA h]
 | (k,x)::r=>by
  have c:=EB f g v r;rw[show dB f v ((k,x)::r)=(if k=f then(k,v)::r else(k,x)::dB f v r)from rfl];by_cases b:k=f
  .rw[wB b];by_cases h:g=k
   .have a:(g==k)=true:=qh.mpr h;simp only[List.lookup,a,wB (h.trans b)]
   .have a:(g==k)=false:=mH.mpr h;simp only[List.lookup,a,wA (λe:g=f=>h (e.trans b.symm))]
  .rw[wA b];by_cases h:g=k
   .have a:(g==k)=true:=qh.mpr h;simp only[List.lookup,a,wA (λe:g=f=>b (h.symm.trans e))]
   .have a:(g==k)=false:=mH.mpr h;simp only[List.lookup,a];exact c
theorem De(f:Str)(v:V):∀fs:List (Str×V),f∈(dB f v fs).map (·.1)/\∀g,g∈fs.map (·.1)->g∈(dB f v fs).map (·.1)
 | []=>#[by simp[dB],λg h=>by simp at h]
 | (k,x)::r=>by
  obtain⟨b,c⟩:=De f v r;rw[show dB f v ((k,x)::r)=(if k=f then(k,v)::r else(k,x)::dB f v r)from rfl];by_cases a:k=f
  .rw[wB a];subst a;exact#[by simp,λg h=>by simpa using h]
  .rw[wA a];refine#[?_,λg h=>?_]
   .rw[eZ];exact dR _ b
   .rw[eZ]at h|-
    rcases dq.mp h with e|e
    .exact dq.mpr (.inl e)
    .exact dR _ (c g e)
theorem EY(f:Str)(v:V):∀fs:List (Str×V),(dB f v fs).length<=fs.length+1
 | []=>by simp[dB]
 |(k,x)::r=>by
  have b:=EY f v r;rw[show dB f v ((k,x)::r)=(if k=f then(k,v)::r else(k,x)::dB f v r)from rfl];by_cases a:k=f
  .rw[wB a,gC,gC];lia
  .rw[wA a,gC,gC];lia
def RelO.some_of{v:V}{o:Option Vl}(r:RelO (some v) o):∃u,o=some u/\RelV v u:=by
 cases o with
 |none=>exact(show False from r).elim
 |some u=>exact#[u,rZ,r]
def RelO.none_of{o:Option Vl}(r:RelO none o):o=none:=by
 cases o with
 |none=>rfl
 |some u=>exact(show False from r).elim
def KQ{v:V}{u:Vl}(r:RelV v u):PySem.W.handedIn u=true:=by
 cases v with
 |non=>cases(show u=Value.none from r);rfl
 |bl b=>cases(show u=Value.bool b from r);rfl
 |int i=>obtain⟨t,e⟩:=(show ∃t,u=Value.int i t from r);cases e;rfl
 |str x=>obtain⟨t,e⟩:=(show ∃t,u=Value.str x t from r);cases e;rfl
 |byt b=>obtain⟨t,e⟩:=(show ∃t,u=Value.bytes b t from r);cases e;rfl
 |flt b=>obtain⟨t,e⟩:=(show ∃t,u=Value.float b t from r);cases e;rfl
 |ref a=>cases(show u=Value.ref a from r);rfl
 |ty n=>cases(show u=Value.type n from r);rfl
section
variable{P:Pg}{w:World}{H g:Hp}{h i:Heap}{a C b:Ad}{fs c:List (Str×V)}
def BZ(g:HOk P w H h)(e:H a=some (.ins C b fs)):∃c,ObjM h a b C c/\(∀f,RelO (fs.lookup f) (c f))/\PySem.Within c (fs.map (·.1))/\fs.length<=1000/\H b=some (.own a):=by
 obtain⟨d,z,ne,i,c,n,r,q⟩:=(show ObjOk P w H h a (.ins C b fs)from g a _ e);exact#[c,#[i,n,ne],r,q,z,d]
end
structure Cls(K:O2)(C:Ad):Prop where
 pg:PySem.W.plainGet K C Str.empty=true
 hd:PySem.W.hasDictIn K C=true
 po:PySem.W.plainOver K C=true
 sa:PySem.W.findIn K (.ref C) "__setattr__"=some (some (.builtin "object.__setattr__"))
def Cls.get{K:O2}{C:Ad}(c:Cls K C)(f:Str):PySem.W.plainGet K C f=true:=c.pg
def NoAttr(K:O2)(C:Ad)(f:Str):Prop:=PySem.W.findIn K (.ref C) f=some none
def NoAttr.taker{K:O2}{C:Ad}{f:Str}(n:NoAttr K C f):PySem.W.takerIn K C f=some none:=by
 unfold PySem.W.takerIn;rw[show PySem.W.findIn K (.ref C) f=some none from n];rfl
structure Meth(K:O2)(C:Ad)(m:Str)(f:Ad):Prop where
 at_:PySem.W.findIn K (.ref C) m=some (some (.ref f))
 fn:PySem.W.isFn K (.ref f)=true
 kp:PySem.W.keepIn K (.ref f)=true
section
variable{X:Cx}{d:AO}{i:St}{H:Hp}{s:Sh}{a C j:Ad}{fs:List (Str×V)}{f:Str}{v:V}{A:Ar}{E:VP}
def Lz{b:Bool}{Q:VP}(I:Inv X d i H s)(e:H a=some (.ins C j fs))(c:Cls X.K C)(n:NoAttr X.K C f)(l:fs.lookup f=some v)(h:∀u g,Inv X d i H g->RelV v u->Q u g):wpAny (model X.prog X.w) A (getAttr (.ref a) f b) Q E s:=by
 obtain⟨m,O,r,_,_,_⟩:=BZ I.hok e;obtain⟨u,p,k⟩:=RelO.some_of (v:=v) (o:=m f) (by rw[<-l];exact r f);exact Jc I.kIn O (c.get f) c.hd n p (KQ k) (h u _ (I.tok _) k)
def N7{m:Str}{g:Ad}{b:Sem Bool}{Q:Vl×Vs->Sh->Prop}(I:Inv X d i H s)(e:H a=some (.ins C j fs))(c:Cls X.K C)(k:Meth X.K C m g)(l:fs.lookup m=none)(h:Q (.ref g,[.ref a]) s):wpAny (model X.prog X.w) A (getMethod (.ref a) m b) Q E s:=by
 obtain⟨f,O,r,_,_,_⟩:=BZ I.hok e;have n:f m=none:=RelO.none_of (by rw[<-l];exact r m);exact MS I.kIn O (c.get m) k.at_ k.fn n h
def MK{y:V}{u:Vl}{Q:Unit->Sh->Prop}(I:Inv X d i H s)(e:H a=some (.ins C j fs))(c:Cls X.K C)(n:NoAttr X.K C f)(N:fs.length<1000)(v:RelV y u)(h:∀l,Inv X d i (bX H a (.ins C j (dB f y fs))) l->Q ⟨⟩ l):wpAny (model X.prog X.w) A (setAttr (.ref a) f u) Q E s:=by
 obtain⟨m,O,r,p,_,t⟩:=BZ I.hok e;have w:(fs.map (·.1)).length<=sizeLine:=by rw[bZ,cS];lia
 refine OL I.kIn O c.sa c.po n.taker c.hd p w λB k D=>h _ ?_;have G:∃o,B.get? j=some o:=let⟨o,_,_,J,_⟩:=k.ns;#[o,J]
 refine I.write (x:=a) (e:=j) (by rw[e];exact True.intro) (.inr t) (λb q L z=>(D.2 b L).trans z) G ?_;refine#[by rw[cf O.ne];exact t,?_,O.ne,k.obj,_,k.ns,λg=>?_,λg M=>?_]
 .have:=EY f y fs;lia
 .show RelO ((dB f y fs).lookup g) (if g=f then some u else m g);rw[EB];by_cases q:g=f
  .rw[wB q,wB q];exact v
  .rw[wA q,wA q];exact r g
 .by_cases q:g=f
  .rw[q];exact(De f y fs).1
  .refine(De f y fs).2 g (p g λz=>M ?_);show(if g=f then some u else m g)=none;rw[wA q];exact z
def Inv.made(I:Inv X d i H s):Inv X d i (bX (bX H s.heap.objs.size (.own (s.heap.objs.size+1))) (s.heap.objs.size+1) (.ins C s.heap.objs.size [])) {s with heap:=(s.heap.push PySem.W.emptyDict).push (PySem.W.instObj C s.heap.objs.size)}:=by
  have c:(s.heap.push PySem.W.emptyDict).get? s.heap.objs.size=some PySem.W.emptyDict:=dW s.heap rfl;have f:((s.heap.push PySem.W.emptyDict).push (PySem.W.instObj C s.heap.objs.size)).get? (s.heap.objs.size+1)=some (PySem.W.instObj C s.heap.objs.size):=by
    have:=dW (s.heap.push PySem.W.emptyDict) (o:=PySem.W.instObj C s.heap.objs.size) rfl;rwa[vq]at this
  have g:(s.heap.push PySem.W.emptyDict).Ns s.heap.objs.size (λ_=>none):=#[PySem.W.emptyDict,#v[],_,c,rZ,(λe h=>wC h (by simp)),λ_=>rfl];have j:=I.laid (a:=s.heap.objs.size) (o:= .own (s.heap.objs.size+1)) (h':=s.heap.push PySem.W.emptyDict) (t':=s.toks) (λb u q=>cV _ q) (cm _) #[_,c];refine j.laid (a:=s.heap.objs.size+1) (o:= .ins C s.heap.objs.size []) (t':=s.toks) (λb u q=>cV _ q) (px (vq _ _)) ?_;have ne:s.heap.objs.size≠s.heap.objs.size+1:=dP (iW _);refine#[by rw[cf ne,cb],gc _,ne,f,λ_=>none,(Heap.Ns1.of_empty g).at λo q=>cV _ q,λ_=>True.intro,λy k=>wC rfl k]
def Mo{a:Pg}{w:World}{b:Env}{e:Expr}{f:Str}{d:Pos}{s:Sh}{Q:VP}(g:attributeBase e f b (eval e b)=eval e b)(h:wpAny (model a w) A (eval e b) (λo c=>wpAny (model a w) A (getAttr o f true) Q E c) E s):wpAny (model a w) A (eval (.Attribute e f d) b) Q E s:=
 Attribute_any_ h (by rw[arm_eval_Attribute,g])
end
def B7(K:O2)(c:TE)(f:Str):TE:=λd H Q=>c d H λx b=>∃a C e fs v,x=.ref a/\b a=some (.ins C e fs)/\Cls K C/\NoAttr K C f/\fs.lookup f=some v/\Q v b
def Cn(K:O2)(e g:TE)(f:Str):TS:=λD b H=>g b H λy h=>e b h λx c=>∃a C d fs,x=.ref a/\c a=some (.ins C d fs)/\Cls K C/\NoAttr K C f/\fs.length<1000/\
 D.nx b (bX c a (.ins C d (dB f y fs)))
section
variable{X:Cx}{o e b:Expr}{f:Str}{g d j:Pos}{i k:TE}
def vg(b:PE X e i)(d:attributeBase e f X.env (eval e X.env)=eval e X.env):PE X (.Attribute e f g) (B7 X.K i f):=by
 intro j s k H Q I h;refine Mo d (cB (b j s k H _ I h) λu z ⟨x,m,o,p,a,C,A,fs,v,r,t,c,n,l,q⟩=>?_);subst r;obtain rfl:u=Value.ref a:=p;exact Lz o t c n l λB D w y=>#[v,m,w,y,q]
def qu(m:PE X o i)(p:PE X b k)(r:swapsWith b (some (.Attribute o f d)) g.line X.env=pure false):PS X (.Assign [.Attribute o f d] b g) (Cn X.K i k f):=by
 intro j s e H D I h;refine plainObj_wpAny_Assign_Attribute (cB (p j s e H _ I h) λu t ⟨y,v,w,z,q⟩=>cB (m j t e v _ w q) λA N ⟨x,O,B,E,a,C,Q,fs,G,J,c,n,l,L⟩=>?_) r;subst G;obtain rfl:A=Value.ref a:=E;exact MK B J c n l z λT M=>#[e,_,M,L]
end
structure Room(k:Nat)(A:Ar):Prop where
 hd:A.handled=none
 dp:A.depth+3 * k+5<recursionLimit
 un:A.units+16 * k+200<cLine
def Room.mono{j k:Nat}{A:Ar}(r:Room k A)(h:j<=k):Room j A:=#[r.hd,by have:=r.dp;lia,by have:=r.un;lia]
def Room.m{A:Ar}{k j:Nat}(h:Room k A)(d:j≤k:=by decide):Room j A:=h.mono d
def Room.deeper{k:Nat}{A:Ar}(r:Room (k+1) A)(a:Env):Room k (A.deeper a):=
 #[r.hd,by have:=r.dp;show A.depth+1+3 * k+5<_;lia,by have:=r.un;show A.units+3+16 * k+200<_;lia]
def Room.in1{k:Nat}{A:Ar}(r:Room (k+1) A):Room k A.in1:=
 #[r.hd,by have:=r.dp;show A.depth+3 * k+5<_;lia,by have:=r.un;show A.units+1+16 * k+200<_;lia]
def Nu{A:Ar}{C:Ad}{a:Vs}{b:List (Str×Vl)}:(A.under (.builtin "type.__call__" #[.ref C::a,b])).depth=A.depth+1:=by
 first|rfl|simp[Around.under,Code.weight,Code.isCreation,Code.isGuard,Code.isCaller,Code.frames,Code.isFrame,guardIds]
def MX{A:Ar}{C:Ad}{a:Vs}{b:List (Str×Vl)}:(A.under (.builtin "type.__call__" #[.ref C::a,b])).units=A.units+1:=by
 first|rfl|simp[Around.under,Code.cUnits,Code.frames,Code.isFrame]
def Room.make{k:Nat}{A:Ar}(r:Room (k+1) A)(C:Ad)(a:Vs)(b:List (Str×Vl)):Room k (A.under (.builtin "type.__call__" #[.ref C::a,b])):=
 #[r.hd,by have:=r.dp;rw[Nu];lia,by have:=r.un;rw[MX];lia]
def Room.depth{k:Nat}{A:Ar}(r:Room k A):A.depth<recursionLimit:=by have:=r.dp;lia
def Room.units{k:Nat}{A:Ar}(r:Room k A):A.units+64<cLine:=by have:=r.un;lia
def i9:TA:=λ_ H Q=>Q [] H
def i5(b:TE)(c:TA):TA:=λa H Q=>b a H λx d=>c a d λe f=>Q (x::e) f
section
variable{X:Cx}{e:Expr}{c:List Expr}{d:TE}{t:TA}{a:Pos}
def cj:PA X [] i9:=λ_ _ _ _ H Q I h=>Calls.spliced_nil #[[],H,I,.nil,h]
def cu(g:PE X e d)(i:PA X c t)(j:starEach (e::c) X.env=(false,eval e X.env)::starEach c X.env:=by rfl):PA X (e::c) (i5 d t):=by
 intro a b s f H Q I h;rw[j];show wpAny _ _ (spliced ((false,eval e X.env)::backTo a (starEach c X.env))) _ _ s;refine Calls.spliced_cons (cB (g b s f H _ I h) λu k ⟨x,l,m,n,o⟩=>?_);exact cB (i a b k f l _ m o) λy z ⟨p,q,r,v,w⟩=>#[x::p,q,r,.cons n v,w]
def CO(t:TA):TE:=λc H Q=>t c H λa b=>a.length<=sizeLine/\∀p,b p=none->Q (.ref p) (bX b p (.tup a))
def vP(t:TA):TE:=λc H Q=>t c H λa b=>a.length<=sizeLine/\∀p,b p=none->Q (.ref p) (bX b p (.lst a))
def nY{i}(h:PA X c t):PE X (.Tuple c i a) (CO t):=by
 intro j s k H Q I l;refine wpAny_Tuple_spliced (cB (h a j s k H _ I l) λm d ⟨n,f,g,r,z,q⟩=>#[by rw[<-r.length];exact z,?_]);have o:f d.heap.objs.size=none:=g.hok.fresh (cm _);refine#[.ref d.heap.objs.size,bX f d.heap.objs.size (.tup n),g.laid (t':=d.toks) (λb u e=>cV _ e) (cm _) ?_,rZ,q _ o];exact#[z,m,r,#[_,dW _ rZ,rZ,_,rZ,rZ]]
def iA(h:PA X c t):PE X (.List c a) (vP t):=by
 intro i s j H Q I k;refine wpAny_List_spliced (cB (h a i s j H _ I k) λl d ⟨m,f,g,r,z,q⟩=>#[by rw[<-r.length];exact z,?_]);have n:f d.heap.objs.size=none:=g.hok.fresh (cm _);refine#[.ref d.heap.objs.size,bX f d.heap.objs.size (.lst m),g.laid (t':=d.toks) (λb u e=>cV _ e) (cm _) ?_,rZ,q _ n];exact#[z,l,0,r,dW _ rZ]
end
abbrev Sp:=List V->Hp->VK->XK->Prop
abbrev oO:=List Env->Hp->Sh->XK->Vl->Sh->Prop
structure Env0(P:Pg)(w:World)(K:O2)(mg:SV)(base:Heap)(A:Ar)(outer:List Env)(s:Sh)(H:Hp):Prop where
 frames:A.frames=some outer
 mod:Mod K mg base
 bs:∀b o,base.get? b=some o->s.heap.get? b=some o/\H b=none
 bsz:base.objs.size<=s.heap.objs.size
 funs:s.heap.FunFrames base outer
 frf:∀b∈lH outer,H b=none
 hok:HOk P w H s.heap
 bare:AllBare s.gens
def CE(a:List Env)(P:Pg)(w:World)(H:Hp)(s:Sh)(Q:VK)(u:Vl)(b:Sh):Prop:=
 ∃v c,b.os=s.os/\AllBare b.gens/\Un (lH a) [] H c s.heap b.heap/\HOk P w c b.heap/\RelV v u/\Q v c
def CR(c:oO)(a:List Env)(P:Pg)(w:World)(H:Hp)(s:Sh)(Q:VK)(E:XK)(r:Result)(b:Sh):Prop:=
 match r with
 |.ok (.ret u)=>CE a P w H s Q u b
 |.ok _=>False
 |.error e=>c a H s E e b
structure FnOk(P:Pg)(w:World)(K:O2)(mg:SV)(base:Heap)(CX:oO)(k:Nat)(f:Ad)(fd:Fd)(ps:Ss)(sp:Sp):Prop where
 len:∀vs H Q E,sp vs H Q E->vs.length=ps.length
 run:∀(A:Ar) (outer:List Env) (s:Sh) (H:Hp) (args:Args) (us:Vs) (vs:List V) (Q:VK) (E:XK),Room k A->Env0 P w K mg base A outer s H->BindsTo s fd args (ps.zip us)->Vals vs us->sp vs H Q E->
  codeAny (model P w) A (.call (.ref f) args) (CR CX outer P w H s Q E) s
def FnOk.imp{P:Pg}{w:World}{K:O2}{mg:SV}{a:Heap}{e:oO}{k:Nat}{f:Ad}{g:Fd}{i:Ss}{j d:Sp}(F:FnOk P w K mg a e k f g i j)(h:∀c H Q E,d c H Q E->j c H Q E):FnOk P w K mg a e k f g i d:=
 #[λc H Q E q=>F.len c H Q E (h _ _ _ _ q),λA b s H args l c Q E m n o p r=>F.run A b s H args l c Q E m n o p (h _ _ _ _ r)]
def Env0.make{P:Pg}{w:World}{K:O2}{mg:SV}{b:Heap}{A:Ar}{a:List Env}{s:Sh}{H:Hp}(e:Env0 P w K mg b A a s H)(C:Ad)(c:Vs)(d:List (Str×Vl)):
  Env0 P w K mg b (A.under (.builtin "type.__call__" #[.ref C::c,d])) a s H:=#[by first|exact e.frames|(simpa[Around.under,Code.envs,Code.isFrame,pushEnvs]using e.frames),e.mod,e.bs,e.bsz,e.funs,e.frf,e.hok,e.bare]
def Env0.in1{P:Pg}{w:World}{K:O2}{mg:SV}{b:Heap}{A:Ar}{a:List Env}{s:Sh}{H:Hp}(e:Env0 P w K mg b A a s H):
  Env0 P w K mg b A.in1 a s H:=#[e.frames,e.mod,e.bs,e.bsz,e.funs,e.frf,e.hok,e.bare]
section
variable{X:Cx}{c:AO}{e:St}{H:Hp}{s a:Sh}
def Inv.env0(I:Inv X c e H s):Env0 X.prog X.w X.K X.mg X.base X.A X.stack s H:=
 #[I.ok.frames,I.ok.mod,I.bs,cW I.ok.bsz I.sz,I.stack,I.stkFree,I.hok,I.bare]
def Inv.after{Q:VK}{u:Vl}(I:Inv X c e H s)(h:CE X.stack X.prog X.w H s Q u a):EP X c e Q u a:=by
 obtain⟨v,H',os,f,un,i,r,q⟩:=h;obtain⟨k,g,d,t,j⟩:=a;obtain rfl:j=s.os:=os;exact#[v,H',I.call (h':=k) (g':=g) (d':=d) (t':=t) (ch:=[]) un i f (λb z=>wC z (by simp)),r,q]
end
def xF(b:Sp)(a:List V)(E:XK)(t:TA):TE:=λc H Q=>t c H λd e=>b (d++a) e Q E
def F7(C:Ad)(m:Str)(e:Sp)(b:List V)(E:XK)(f:TE)(t:TA):TE:=λc H Q=>f c H λx d=>∃a g fs,x=.ref a/\d a=some (.ins C g fs)/\fs.lookup m=none/\
 t c d λh i=>e (x::(h++b)) i Q E
def Gh(C:Ad)(d:Sp)(b:List V)(E:XK)(t:TA):TE:=λe H Q=>t e H λf c=>∀x a,c x=none->c a=none->a≠x->
 d (.ref x::(f++b)) (bX (bX c a (.own x)) x (.ins C a [])) (λv g=>v=.non/\Q (.ref x) g) E
def Binds(K:O2)(d:Fd)(b:Ss)(c:Vs):Prop:=
 ∀(s:Sh) (a:Vs),K.In s.heap->(a++c).length=b.length->BindsTo s d #[a,[]] (b.zip (a++c))
def Binds.all{K:O2}{c:Fd}{b:Ss}(h:∀a:Vs,a.length=b.length->bindArgs c #[a,[]]=pure (b.zip a)):Binds K c b []:=λs a _ d=>by
 rw[gL]at d|-;exact .of_eq (h a d)
def uw(b:oO)(X:Cx)(E:XK):Prop:=∀(c:AO) (d:St) (H:Hp) (s:Sh) (e:Vl) (a:Sh),Inv X c d H s->b X.stack H s E e a->X.xe e a
section
variable{X:Cx}{CX:oO}{k:Nat}{f C:Ad}{fd:Fd}{ps:Ss}{sp:Sp}{dvs:List V}{ds:Vs}{E:XK}{x m:Str}{p pos apos:Pos}{e o:Expr}{es:List Expr}{ta:TE}{t:TA}
def Bs{b:AO}{c:St}{H:Hp}{s:Sh}{Q:VK}{us:Vs}{vs:List V}(F:FnOk X.prog X.w X.K X.mg X.base CX k f fd ps sp)(g:Room k X.A)(i:Binds X.K fd ps ds)(j:Vals dvs ds)(l:uw CX X E)(I:Inv X b c H s) (r:Vals vs us) (h:sp (vs++dvs) H Q E):wpAny (model X.prog X.w) X.A (call (.ref f) us) (EP X b c Q) X.xe s:=by
 have d:Vals (vs++dvs) (us++ds):=r.append j;have m:(us++ds).length=ps.length:=by rw[<-d.length];exact F.len _ _ _ _ h
 refine td (mD (F.run X.A X.stack s H #[us,[]] (us++ds) (vs++dvs) Q E g I.env0 (i s us I.kIn m) d h) λr n a=>?_);cases r with
 |error e=>exact l b c H s e n I a
 |ok o=>
  cases o with
  |ret u=>exact I.after a
  |next=>exact wE a
  |brk=>exact wE a
  |cont=>exact wE a
def Ie(F:FnOk X.prog X.w X.K X.mg X.base CX k f fd ps sp)(d:Room k X.A)(g:Gl X x)(i:X.mg x=some (.ref f))(j:PySem.W.keepIn X.K (.ref f)=true)(l:Binds X.K fd ps ds)(m:Vals dvs ds)(n:uw CX X E)(o:PA X (e::es) t) (a:(x==("__debug__":Str))=false:=by decide) (u:starEach (e::es) X.env=(false,eval e X.env)::starEach es X.env:=by rfl) (b:(backTo pos (starEach es X.env)).any (·.1)=false:=by rfl):
  PE X (.Call (.Name x p) (e::es) [] pos) (xF sp dvs E t):=by
 intro v s w H Q I h;refine pA (wL I g i ?_ a);refine Dc (h₀:=X.base) I.ok.mod.kin j (cB (o pos v s w H _ I h) λy z ⟨A,B,c,r,q⟩=>#[c.kIn,?_]) u b;exact Bs F d l m n c r q
def Jt{pl:Sem Bool}(g:PE X o ta)(c:Cls X.K C)(d:Meth X.K C m f)(F:FnOk X.prog X.w X.K X.mg X.base CX k f fd ps sp)(i:Room k X.A)(j:Binds X.K fd ps ds)(n:Vals dvs ds)(p:uw CX X E)(ht:eval (.Call (.Attribute o m apos) [] [] pos) X.env=(do
   let e <-eval o X.env
   standAt apos.atName
   let(f,first) <-holding [e] (getMethod e m pl)
   callWith pos f first (backTo pos (starEach [] X.env)) (backToKw pos (keywordEach [] X.env))):=by rfl):
  PE X (.Call (.Attribute o m apos) [] [] pos) (F7 C m sp dvs E ta i9):=by
 intro r s t H Q I h;refine PySem.W.methodCall_KW (pl:=pl) (cB (g r s t H _ I h) λu z ⟨x,A,b,v,a,B,fs,w,y,l,q⟩=>?_) ht;subst w;obtain rfl:u=Value.ref a:=v;refine N7 b y c d l ?_;exact PySem.W.callWith_K0 (first:=[.ref a]) b.kIn d.kp (Bs (us:=[.ref a]) (vs:=[.ref a]) F i j n p b (.cons rZ .nil) q)
structure Mk(K:O2)(C f:Ad):Prop where
 makes:PySem.W.makesIn K C=true
 init:PySem.W.findIn K (.ref C) "__init__"=some (some (.ref f))
 fn:PySem.W.isFn K (.ref f)=true
 kp:PySem.W.keepIn K (.ref C)=true
def Ji{g:AO}{i:St}{H:Hp}{s:Sh}{Q:VK}{b:Vs}{j:List V}(M:Mk X.K C f)(F:FnOk X.prog X.w X.K X.mg X.base CX k f fd ps sp)(n:Room (k+1) X.A)(o:Binds X.K fd ps ds)(p:Vals dvs ds)(q:uw CX X E) (I:Inv X g i H s) (r:Vals j b)(h:∀x c,H x=none->H c=none->c≠x->sp (.ref x::(j++dvs)) (bX (bX H c (.own x)) x (.ins C c [])) (λv t=>v=.non/\Q (.ref x) t) E):
  wpAny (model X.prog X.w) X.A (call (.ref C) b) (EP X g i Q) X.xe s:=by
 have l:=h (s.heap.objs.size+1) s.heap.objs.size (I.hok.fresh (pE _)) (I.hok.fresh (cm _)) (dP (iW _));have d:=Inv.made (C:=C) I;have m:Vals (V.ref (s.heap.objs.size+1)::(j++dvs)) (Value.ref (s.heap.objs.size+1)::(b++ds)):= .cons rZ (r.append p);have w:(Value.ref (s.heap.objs.size+1)::b++ds).length=ps.length:=by
  have e:=m.length;rw[F.len _ _ _ _ l]at e;exact e.symm
 refine td (IM (f:=f) I.kIn M.makes M.init (qh.mp M.fn) (mD (F.run _ X.stack _ _ #[Value.ref (s.heap.objs.size+1)::b,[]] (Value.ref (s.heap.objs.size+1)::(b++ds)) _ _ E (n.make C b [])
  (d.env0.make C b []) (o _ (Value.ref (s.heap.objs.size+1)::b) d.kIn w) m l) λr y a=>?_))
 cases r with
 |error e=>exact q g i _ _ e y d a
 | ok z=>
  cases z with
  |ret u=>
   obtain⟨v,A,B,D,G,J⟩:=d.after a;subst G;exact#[D,#[V.ref (s.heap.objs.size+1),A,B,rZ,J]]
  |next=>exact wE a
  |brk=>exact wE a
  |cont=>exact wE a
def L9(M:Mk X.K C f)(F:FnOk X.prog X.w X.K X.mg X.base CX k f fd ps sp)(d:Room (k+1) X.A)(g:Gl X x)(i:X.mg x=some (.ref C))(j:Binds X.K fd ps ds)(l:Vals dvs ds)(m:uw CX X E)(n:PA X (e::es) t) (a:(x==("__debug__":Str))=false:=by decide) (o:starEach (e::es) X.env=(false,eval e X.env)::starEach es X.env:=by rfl) (b:(backTo pos (starEach es X.env)).any (·.1)=false:=by rfl):
  PE X (.Call (.Name x p) (e::es) [] pos) (Gh C sp dvs E t):=by
 intro u s v H Q I h;refine pA (wL I g i ?_ a);refine Dc (h₀:=X.base) I.ok.mod.kin M.kp (cB (n pos u s v H _ I h) λw y ⟨z,A,c,r,q⟩=>#[c.kIn,?_]) o b;exact Ji M F d j l m c r q
end
structure FnScope(N P:Ss)(sc:Scope):Prop where
 kind:sc.kind=.function:=by rfl
 co:sc.isCoroutine=false:=by rfl
 gen:sc.isGenerator=false:=by rfl
 nd:N.Nodup:=by decide+kernel
 pre:N.take P.length=P:=by rfl
 par:∀x∈P,sc.names.lookup x=some .local\/sc.names.lookup x=some .cell:=by decide+kernel
 nofree:∀y∈sc.names,y.2≠ .free:=by decide+kernel
theorem Hi{kindOf:Str->Option NameKind}{x:Str}:∀{binds:List (Str×Vl)} {m:SV},(∀v,(x,v)∉binds)->bindL kindOf binds m x=m x
 | [],_,_=>rfl
 | (n,v)::r,m,h=>by
  unfold bindL;rw[Hi λw hw=>h w (dR _ hw)];split
  .have:x≠n:=by rintro rfl;exact h v dh
   simp[this]
  .rfl
theorem Im{kindOf:Str->Option NameKind}{x:Str}:∀{binds:List (Str×Vl)} {m:SV},(∀v,(x,v)∉binds)->bindC kindOf binds m x=m x
 | [],_,_=>rfl
 | (n,v)::r,m,h=>by
  unfold bindC;rw[Im λw hw=>h w (dR _ hw)];split
  .rfl
  .have:x≠n:=by rintro rfl;exact h v dh
   simp[this]
theorem GK{kindOf:Str->Option NameKind}{x:Str}{v:Vl}:∀{P:Ss} {a:Vs} {i:Nat} {m:SV},P.Nodup->P[i]?=some x->a[i]?=some v->kindOf x=some .local->
  bindL kindOf (P.zip a) m x=some v
 | [],_,_,_,_,h,_,_=>by simp at h
 |_::_,[],_,_,_,_,h,_=>by simp at h
 |p::P,w::a,0,m,nd,b,c,d=>by
  simp at b c;subst b;subst c;show bindL kindOf ((p,w)::P.zip a) m p=_;unfold bindL;rw[Hi λv e=>(gP.mp nd).1 (yQ e).1,wB d];simp
 |p::P,w::a,i+1,m,nd,b,c,d=>by
  show bindL kindOf ((p,w)::P.zip a) m x=_;unfold bindL;exact GK (i:=i) (gP.mp nd).2 (by simpa using b) (by simpa using c) d
theorem Gk{kindOf:Str->Option NameKind}{x:Str}{v:Vl}:∀{P:Ss} {a:Vs} {i:Nat} {m:SV},P.Nodup->P[i]?=some x->a[i]?=some v->kindOf x≠some .local->
  bindC kindOf (P.zip a) m x=some v
 | [],_,_,_,_,h,_,_=>by simp at h
 |_::_,[],_,_,_,_,h,_=>by simp at h
 |p::P,w::a,0,m,nd,b,c,d=>by
  simp at b c;subst b;subst c;show bindC kindOf ((p,w)::P.zip a) m p=_;unfold bindC;rw[Im λv e=>(gP.mp nd).1 (yQ e).1,wA d];simp
 |p::P,w::a,i+1,m,nd,b,c,d=>by
  show bindC kindOf ((p,w)::P.zip a) m x=_;unfold bindC;exact Gk (i:=i) (gP.mp nd).2 (by simpa using b) (by simpa using c) d
def start(N:Ss)(a:List V):St:=a.map some++List.replicate (N.length-a.length) none
def sr(g:oO)(P:Pg)(w:World)(K:O2)(mg:SV)(base:Heap)(N:Ss)(b:Str)(a:Scope)(f:Ad)(d:Vl)(A:Ar)(outer:List Env)(s:Sh)(H:Hp)(E:XK):Cx where
 prog:=P
 w:=w
 K:=K
 mg:=mg
 base:=base
 A:=A.deeper (envOfC b a s.heap.objs.size f d)
 N:=N
 s₀:=s
 H₀:=H
 env:=envOfC b a s.heap.objs.size f d
 outer:=outer
 stack:=envOfC b a s.heap.objs.size f d::outer
 ex:=[]
 calm:=true
 fn:=λ_=>true
 pn:=[]
 xe:=λe h=>wpAny (model P w) (A.deeper (envOfC b a s.heap.objs.size f d)) (leaving (envOfC b a s.heap.objs.size f d) e) (λ_ c=>g outer H s E e c) (λi c=>g outer H s E i c) h
def GW{a:Scope}{n:Nat}{x:Str}(h:a.names.lookup x=some .cell):∃c,(cellsFrom n a.names []).lookup x=some c:=by
 have q:=PySem.W.cellsFrom_some a.names n [] (.inl h);exact Option.isSome_iff_exists.mp q
def MH{O:oO}{P:Pg}{w:World}{K:O2}{mg:SV}{m:Heap}{N t:Ss}{j:Str}{d:Scope}{f:Ad}{I:Vl}{A:Ar}{g:List Env}{s Q:Sh}{H:Hp}{E:XK}{M:Vs}{B:List V}(S:FnScope N t d) (Y:A.handled=none) (o:Env0 P w K mg m A g s H) (hl:B.length=t.length) (r:Vals B M)(x:InCallC s s.heap.objs.size (bindL (envOfC j d s.heap.objs.size f I).kindOf (t.zip M) λ_=>none) (cellsFrom (s.heap.objs.size+1) d.names []) (bindC (envOfC j d s.heap.objs.size f I).kindOf (t.zip M) λ_=>none) Q):
  Inv (sr O P w K mg m N j d f I A g s H E) [] (start N B) H Q:=by
 have aa:t.length<=N.length:=by have:=dw List.length S.pre;rw[e9]at this;lia
 obtain⟨J,tk,rfl,T⟩:=x.done;have C:∀b:Ad,b∉(sr O P w K mg m N j d f I A g s H E).ex:=λb z=>wC (show b∈([]:As)from z) (by simp);refine#[#[o.mod,S.kind,rZ,rZ,cm _,λy z c J l=>?_,λy hy=>?_,λy c _ h=>?_,λ_=>Y,Around.frames_deeper o.frames,.inr #[rZ,rZ],λb z=>wC z (C b),o.bs,o.bsz,λb _ _=>C b,λb z=>wC z (C b),o.funs,o.frf],
  rfl,o.bare,Un.kept T,#[_,x.toInCall.ns,λi y v J l h3=>?_],λy c h=>#[_,x.cell y c h],o.hok.fresh (cm _),λy c h=>?_,λp D=>wC (show p∈([]:AO)from D) (by simp),o.hok.kept T,?_]
 .exact name_of_addr x.apart (o0 J) (o0 l)
 .have hy:d.names.lookup y=some .cell\/d.names.lookup y=some .free:=hy
  rcases hy with hy|hy
  .exact GW hy
  .exact wC rZ (S.nofree _ (o0 hy))
 .exact jc (x.above y c (o0 h))
 .have L:i<B.length:=by
   unfold start at l;by_cases L:i<B.length
   .exact L
   .rw[dZ (by simpa using L)]at l;rw[List.getElem?_replicate]at l;split at l<;>cases l
  have ha:B[i]?=some v:=by
   unfold start at l;rw[eA (by simpa using L),List.getElem?_map]at l;cases e:B[i]? with
   |none=>rw[e]at l;cases l
   |some a=>rw[e]at l;cases l;rfl
  obtain⟨u,U,rv⟩:=r.get ha;have D:t[i]?=some y:=by
   rw[<-S.pre,xA ()];exact J
  have G:t.Nodup:=by rw[<-S.pre];exact S.nd.sublist (qj _ _)
  refine#[u,rv,?_]
  rcases S.par y (cH D)with k|k
  .exact .inl #[k,GK G D U k]
  .obtain⟨c,e⟩:=GW (n:=s.heap.objs.size+1) k;refine .inr #[.inl k,c,e,?_];have q:=x.cell y c e;rw[Gk G D U (by show d.names.lookup y≠_;rw[k];decide)]at q;exact q
 .exact o.hok.fresh (jc (x.above y c (o0 h)))
 .unfold start;show _=N.length;rw[dA,bZ,List.length_replicate];lia
def Fp{M:oO}{P:Pg}{w:World}{K:O2}{mg:SV}{h:Heap}{k:Nat}{f:Ad}{name d:Str}{i:Arguments}{j:List Stmt}{a:Scope}{dV kV D pm g ct oc:Vl}{an od:Option Ad}{T:Array (Option Vl)} {N O:Ss} {U:Sp} (lk:K.lookup f=some #[oc,od,.func (PySem.W.fnOf name d i j a dV kV D pm an g ct),T]) (Y:PySem.W.codeIn K g d=true) (S:FnScope N O a)(len:∀l H Q E,U l H Q E->l.length=O.length)(z:∀(A:Ar) (c:List Env) (s:Sh) (H:Hp) (l:List V) (Q:VK) (E:XK),Room k (A.deeper (envOfC d a s.heap.objs.size f g))->U l H Q E->
   ∃t,PSs (sr M P w K mg h N d a f g A c s H E) j t/\t {nx:=λ_ p=>Q .non p,rt:=Q} (start N l) H):
  FnOk P w K mg h M (k+1) f (PySem.W.fnOf name d i j a dV kV D pm an g ct) O U:=by
 refine#[len,λA c s H args us l Q E hr G hb r L=>?_];have hl:=len _ _ _ _ L;have KX:K.In s.heap:=G.mod.kin.keeps λb o e=>(G.bs b o e).1;have aa:s.heap.NoLimit:=G.mod.nolimit.keeps λb o e=>(G.bs b o e).1;have B:∀y∈O.zip us,a.names.lookup y.1=some .local\/(a.names.lookup y.1=some .cell/\((cellsFrom (s.heap.objs.size+1) a.names []).lookup y.1).isSome=true):=λ⟨n,v⟩ hy=>by
  rcases S.par n (yQ hy).1 with q|q
  .exact .inl q
  .exact .inr #[q,PySem.W.cellsFrom_some _ _ _ (.inl q)]
 refine codeAny_call_function hr.depth (KX _ _ lk) rZ S.co S.gen rZ (PySem.W.codeRec_of KX Y) (hb _ _ _ _ ?_);refine wpAny_newFunctionEnv_cells S.kind B λab he s1 x=>?_;subst he;refine#[aa.keeps x.toInCall.keep,codeAny_func ?_];obtain⟨t,ht,hq⟩:=z A c s H l Q E (hr.deeper _) L;have I:Inv (sr M P w K mg h N d a f g A c s H E) [] (start N l) H s1:=MH S hr.hd G hl r x;refine gJ (ht [] s1 (start N l) H _ I hq) (λfl s' C=>?_) λe s' C=>C;have fin:∀{m:St} {p:Hp} {v:V} {u:Vl},Inv (sr M P w K mg h N d a f g A c s H E) [] m p s'->RelV v u->Q v p->CE c P w H s Q u s':=
  λ{m p v u} J rv q=>#[v,p,J.os,J.bare,J.base,J.hok,rv,q]
 cases fl with
 |ret u=>
  obtain⟨v,m,p,J,rv,q⟩:=C;exact fin J rv q
 |next=>
  obtain⟨m,p,J,q⟩:=C;exact fin (v:=V.non) (u:=Value.none) J rZ q
 |brk=>
  obtain⟨_,_,_,q⟩:=C;exact wE q
 |cont=>
  obtain⟨_,_,_,q⟩:=C;exact wE q
section
variable{X:Cx}{x:Str}{p a:Pos}{e:Expr}{b:List Expr}{t:TA}{id T:String}{r:List V->Hp->VK->Prop}
def Ib(r:List V->Hp->VK->Prop)(t:TA):TE:=λa H Q=>t a H λb c=>r b c Q
def dY(i:hG X (.builtin id) r)(j:Gl X x)(k:X.mg x=none)(l:bootBuiltins x=some (.builtin id))(m:PA X (e::b) t)(n:x≠"__name__":=by decide)(c:(x==("__debug__":Str))=false:=by decide)
  (o:starEach (e::b) X.env=(false,eval e X.env)::starEach b X.env:=by rfl) (d:(backTo a (starEach b X.env)).any (·.1)=false:=by rfl):PE X (.Call (.Name x p) (e::b) [] a) (Ib r t):=by
 intro f s g H Q I h;refine pA (uk I j k l ?_ n c);exact PyProof.Rows.callWith_builtin1 (cB (m a f s g H _ I h) λq u ⟨v,w,y,z,A⟩=>i f u g w v q Q y z A) o d
def gk(i:hG X (.type T) r)(j:Gl X x)(k:X.mg x=none)(l:bootBuiltins x=some (.type T))(m:PA X (e::b) t)(n:x≠"__name__":=by decide)(c:(x==("__debug__":Str))=false:=by decide)
  (o:starEach (e::b) X.env=(false,eval e X.env)::starEach b X.env:=by rfl) (d:(backTo a (starEach b X.env)).any (·.1)=false:=by rfl):PE X (.Call (.Name x p) (e::b) [] a) (Ib r t):=by
 intro f s g H Q I h;refine pA (uk I j k l ?_ n c);exact BF (cB (m a f s g H _ I h) λq u ⟨v,w,y,z,A⟩=>i f u g w v q Q y z A) o d
end
end L2
namespace HT
open PySem PyProof.Rows
def xx:Zs->List Int->Bool
 | [],[]=>false
 | [],_::_=>true
 |_::_,[]=>false
 |x::a,y::b=>if x=y then xx a b else decide (x<y)
def fA(A:Ar)(s:Sh)(a:Int)(t:Tok)(c:Int)(u:Tok):∃e,SeqAt.EqAt A s (.int a t) (.int c u) e/\(e=true↔a=c):=
 #[(a==c),SeqAt.EqAt.int_int a t c u,by simp]
section
variable{a:Pg}{w:World}{A:Ar}{E:VP}{s:Sh}
def sIx(n d:Nat):Option Int->Nat
 |none=>d
 |some v=>if v<0 then(v+(n:Int)).toNat else min v.toNat n
end
end HT
namespace L2
open PySem PySem.Spec PyProof.Rows
abbrev TO:=St->Hp->(Option Int->Hp->Prop)->Prop
def PO(X:Cx)(e:Option Expr)(t:TO):Prop:=
 ∀(b:AO) (s:Sh) (a:St) (H:Hp) (Q:Option Int->Hp->Prop),Inv X b a H s->t a H Q->
  wpAny (model X.prog X.w) X.A (evalPart e X.env) (λu d=>∃o c,Inv X b a c d/\IsPart u o/\Q o c) X.xe s
def w6(t:TE):TO:=λa H Q=>t a H λx b=>∃i,x=.int i/\Q (some i) b
section
variable{X:Cx}{e:Expr}{c:TE}{lo a:Option Expr}{tl d:TO}{f g:Pos}
def Es(h:PE X e c):PO X (some e) (w6 c):=by
 intro a s b H Q I hw;rw[evalPart_some];refine cB (h a s b H _ I hw) λu k ⟨x,d,f,g,j⟩=>?_;obtain⟨i,rfl,q⟩:=j;obtain⟨t,rfl⟩:=g;exact#[some i,d,f,.int i t,q]
def FC(X:Cx)(r:V->Option Int->Option Int->Hp->VK->Prop):Prop:=
 ∀(b:AO) (s:Sh) (c:St) (H:Hp) (x:V) (v d e:Vl) (lo a:Option Int) (sl:Ad) (Q:VK),Inv X b c H s->RelV x v->s.heap.IsSliceOf sl d e .none->IsPart d lo->IsPart e a->r x lo a H Q->
  ∃T id,typeLookup (.type T) "__getitem__"=pure (some (.builtin id))/\s.TypeIs v T/\wpAny (model X.prog X.w) X.A (getItem v (.ref sl)) (EP X b c Q) X.xe s
def N0(r:V->Option Int->Option Int->Hp->VK->Prop)(c:TE)(tl d:TO):TE:=λa H Q=>c a H λx b=>tl a b λl e=>d a e λu f=>r x l u f Q
def K7{r:V->Option Int->Option Int->Hp->VK->Prop}(n:FC X r)(o:PE X e c)(p:PO X lo tl)(t:PO X a d):PE X (.Subscript e (.Slice lo a none g) f) (N0 r c tl d):=by
 intro i s j H Q I h;refine Subscript_ (cB (o i s j H _ I h) λv w ⟨x,y,z,A,B⟩=>?_);refine wpAny_Slice (cB (p i w j y _ z B) λk C ⟨l,D,E,G,J⟩=>cB (t i C j D _ E J) λvu s3 ⟨u,m,L,M,N⟩=>?_);rw[evalPart_none];refine b9 ?_;have O:Inv X i j m {s3 with heap:=s3.heap.push {cls:= .type "slice",data:= .fields #v[k,vu,.none]}}:=L.kept (t':=s3.toks) λb Y q=>cV _ q;obtain⟨T,id,hT,ht,U⟩:=n i {s3 with heap:=s3.heap.push {cls:= .type "slice",data:= .fields #v[k,vu,.none]}} j m x v k vu l u s3.heap.objs.size Q O A (Heap.IsSliceOf.new ..) G M N;show wpAny (model X.prog X.w) X.A (subscriptTail e (.Slice lo a none g) v (.ref s3.heap.objs.size)) (EP X i j Q) X.xe {s3 with heap:=s3.heap.push {cls:= .type "slice",data:= .fields #v[k,vu,.none]}};exact tail_any (ops:=[.ref s3.heap.objs.size,v]) ht hT U (by with_unfolding_all rfl)
def pb(b:List V)(lo a:Option Int):List V:=(b.drop (HT.sIx b.length 0 lo)).take (HT.sIx b.length b.length a-HT.sIx b.length 0 lo)
def KC(b:List V)(lo a:Option Int):(pb b lo a).length<=b.length:=by
 unfold pb;rw[e9,tj];lia
end
def ov(n:Nat)(i:Int):Option Nat:=if 0<=i then(if i<n then some i.toNat else none)else if -(n:Int)<=i then some (i+n).toNat else none
def jx{a:Type}(b:List a)(i:Int):Option a:=(ov b.length i).bind λj=>b[j]?
def Fz{n:Nat}{i:Int}{j:Nat}(h:ov n i=some j):seqIndex? i n=some j/\j<n/\ -(n:Int)<=i/\i<n:=by
 unfold ov at h;by_cases b:0<=i
 .rw[wB b]at h;by_cases a:i<n
  .rw[wB a]at h;have e:i.toNat=j:=fL h;exact#[by rw[seqIndex_of b a,e],(),(),a]
  .rw[wA a]at h;cases h
 .rw[wA b]at h;by_cases a: -(n:Int)<=i
  .rw[wB a]at h;have e:(i+n).toNat=j:=fL h;exact#[by rw[seqIndex_neg () a,e],(),a,()]
  .rw[wA a]at h;cases h
def GI{b:Type}{a:List b}{i:Int}{v:b}(h:jx a i=some v):∃j,seqIndex? i a.length=some j/\a[j]?=some v/\j<a.length/\ -(a.length:Int)<=i/\i<a.length:=by
 unfold jx at h;cases e:ov a.length i with
 |none=>rw[e]at h;cases h
 |some j=>
  rw[e]at h;obtain⟨c,d,f,g⟩:=Fz e;exact#[j,c,h,d,f,g]
def j6{b:Type}{a:List b}{j:Nat}{v:b}(h:a[j]?=some v):jx a (j:Int)=some v:=by
 have c:j<a.length:=(cg.mp h).1;have e:ov a.length (j:Int)=some j:=by
  unfold ov;rw[wB (),wB ()];simp
 unfold jx;rw[e];exact h
def NY(b:Expr):Prop:=∀o i,subscripted b false o i=operate [o,i] (getItem o i)
def IxR(X:Cx)(r:R2):Prop:=
 ∀(b a:Expr) (c:AO) (s:Sh) (d:St) (H:Hp) (x y:V) (v u:Vl) (Q:VK),Inv X c d H s->RelV x v->RelV y u->r x y H Q->
  subscripted a false v u=operate [v,u] (getItem v u)->wpAny (model X.prog X.w) X.A (subscriptTail b a v u) (EP X c d Q) X.xe s
def vD(X:Cx)(id:String)(r:V->List V->Hp->VK->Prop):Prop:=
 ∀(a:AO) (s:Sh) (b:St) (H:Hp) (x:V) (c:List V) (v:Vl) (d:Vs) (Q:VK),Inv X a b H s->RelV x v->Vals c d->r x c H Q->
  wpAny (model X.prog X.w) X.A (call (.builtin id) (v::d)) (EP X a b Q) X.xe s
section
variable{X:Cx}{a b:Expr}{C D:TE}{B:Pos}
def dE{r:R2}(c:IxR X r)(d:PE X a C)(e:PE X b D)(f:NY b):PE X (.Subscript a b B) (vH r C D):=by
 intro g s i H Q I h;exact Subscript_ (sk d e I h λv u j x y k l m n q=>c a b g j i k x y v u Q l m n q (f _ _))
inductive jh(K:O2)(x y:V)(H:Hp)(Q:VK):Prop|mk:∀p a i v,x=.ref p->y=.int i->SqL K H p a->jx a i=some v->Q v H->jh K x y H Q
inductive gR(K:O2)(x y:V)(H:Hp)(Q:VK):Prop|mk:∀p a i v,x=.ref p->y=.int i->SqT K H p a->jx a i=some v->Q v H->gR K x y H Q
def h9:IxR X (jh X.K):=by
 intro b c k s l H x y v u Q I A B h m;obtain⟨p,N,i,z,rfl,rfl,C,D,q⟩:=h;cases A;obtain⟨t,rfl⟩:=B;obtain⟨d,r,e,O⟩:=I.list C;obtain⟨j,a,E,T,G,J⟩:=GI D;obtain⟨w,n,f⟩:=r.get E;have L:=r.length;have U:=xa;have fin:EP X k l Q w s:=#[z,H,I,f,q];by_cases o:0<=i
 .have g:i.toNat=j:=by
   rw[seqIndex_of o J]at a;exact fL a
  exact item_listR e.isList o () (by rw[g];simpa using n) fin m
 .have g:(i+(d.toArray.size:Int)).toNat=j:=by
   rw[seqIndex_neg () G]at a;rw[dS,<-L];exact fL a
  exact subscriptTail_builtinR (x:=w) e.isList.typeIs slot_list_getitem.lookup
   (wpAny_getItem_list_neg (Q:=λr M=>r=w/\EP X k l Q r M) e.isList () (by rw[dS]<;>lia) () (by rw[g];simpa using n) #[rZ,fin]) m
def fb:IxR X (gR X.K):=by
 intro a b d s e H x y v u Q I g k h l;obtain⟨p,G,i,z,rfl,rfl,m,n,q⟩:=h;cases g;obtain⟨t,rfl⟩:=k;obtain⟨o,r,f,J⟩:=I.tuple m;obtain⟨j,A,B,L,M,N⟩:=GI n;obtain⟨w,C,c⟩:=r.get B;have D:=r.length;have O:=xa;have fin:EP X d e Q w s:=#[z,H,I,c,q];exact subscriptTail_builtinR (x:=w) f.typeIs slot_tuple_getitem.lookup
  (getItem_tuple (j:=j) (Q:=λr E=>r=w/\EP X d e Q r E) f () () (by rw[dS,<-D];exact A) (by simpa using C) #[rZ,fin]) l
def Np(a:Vs)(n j:Nat)(u:Vl):Obj.mapSeq (·.setIfInBounds j u) {cls:= .type "list",data:= .seq a.toArray n}={cls:= .type "list",data:= .seq (a.set j u).toArray n}:=by
 simp[Obj.mapSeq]
def Inv.lst{b:AO}{c:St}{H:Hp}{s:Sh}{p:Ad}{a:List V}(I:Inv X b c H s)(h:H p=some (.lst a)):
  ∃(its:Vs) (n:Nat),Vals a its/\s.heap.get? p=some {cls:= .type "list",data:= .seq its.toArray n}/\a.length<=sizeLine:=by
 obtain⟨z,its,n,r,e⟩:=I.hok p _ h;exact#[its,n,r,e,z]
def Inv.lstUpd{i:AO}{j:St}{H:Hp}{s:Sh}{p:Ad}{l d:List V}{c a:Vs}{n g:Nat}{f:Obj->Obj}(I:Inv X i j H s)(h:H p=some (.lst l))(m:s.heap.get? p=some {cls:= .type "list",data:= .seq c.toArray n}) (k:f {cls:= .type "list",data:= .seq c.toArray n}={cls:= .type "list",data:= .seq a.toArray g}) (r:Vals d a) (o:d.length<=sizeLine) (t:Nat):
  Inv X i j (bX H p (.lst d)) {s with heap:=s.heap.update p f,toks:=t}:=by
 have e:(s.heap.update p f).get? p=some {cls:= .type "list",data:= .seq a.toArray g}:=by
  rw[uy f m (by rw[k]<;>rfl),k]
 refine I.write (x:=p) (e:=p) (by rw[h];trivial) (.inl rZ) (λb u v q=>(iQ _ _ (eC v)).trans q) #[_,e] ?_;exact#[o,a,g,r,e]
inductive pq(o i v:V)(H:Hp)(Q:Hp->Prop):Prop|mk:∀p a k j,o=.ref p->i=.int k->H p=some (.lst a)->ov a.length k=some j->Q (bX H p (.lst (a.set j v)))->pq o i v H Q
def zy:vF X pq:=by
 intro x s y H o i v G J u Q I z A B h;obtain⟨p,C,k,j,rfl,rfl,f,D,q⟩:=h;cases z;obtain⟨t,rfl⟩:=A;obtain⟨a,n,r,c,E⟩:=I.lst f;obtain⟨b,L,g,l⟩:=Fz D;have d:=r.length;have M:=xa;have m:Inv X x y (bX H p (.lst (C.set j v))) {s with heap:=s.heap.update p (Obj.mapSeq (·.setIfInBounds j u))}:=
  I.lstUpd f c (Np a n j u) (r.set B j) (by rw[sm];exact E) s.toks
 by_cases w:0<=k
 .have e:k.toNat=j:=by
   rw[seqIndex_of w l]at b;exact fL b
  exact PySem.W.ki_setAt c w () (by rw[dS,<-d];exact l) (by rw[e];exact#[_,m,q])
 .have e:(k+(a.toArray.size:Int)).toNat=j:=by
   rw[seqIndex_neg () g]at b;rw[dS,<-d];exact fL b
  exact PySem.W.ki_setBack c () (by rw[dS,<-d];exact g) () (by rw[e];exact#[_,m,q])
def MM(lo a:Option Int)(n:Nat):(sliceBounds lo a none n).1=((HT.sIx n 0 lo:Nat):Int)/\(sliceBounds lo a none n).2.1=((HT.sIx n n a:Nat):Int)/\(sliceBounds lo a none n).2.2=1:=by
 refine#[?_,?_,rZ]
 .cases lo with
  |none=>simp[sliceBounds,HT.sIx]
  |some i=>
   simp only[sliceBounds,HT.sIx,Option.getD_none,show(1:Int)>0 by decide,if_true];by_cases h:i<0
   .simp only[h,if_true]<;>lia
   .simp only[h,if_false]<;>lia
 .cases a with
  |none=>simp[sliceBounds,HT.sIx]
  |some i=>
   simp only[sliceBounds,HT.sIx,Option.getD_none,show(1:Int)>0 by decide,if_true];by_cases h:i<0
   .simp only[h,if_true]<;>lia
   .simp only[h,if_false]<;>lia
def Li(a:Vs)(lo b:Option Int):slicePick a.toArray lo b none=((a.drop (HT.sIx a.length 0 lo)).take (HT.sIx a.length a.length b-HT.sIx a.length 0 lo)).toArray:=by
 obtain⟨c,d,e⟩:=MM lo b a.toArray.size;unfold slicePick;rw[c,d,e];simp only[sliceRange_one,pick_run,List.size_toArray]<;>rfl
inductive vJ(K:O2)(x:V)(lo b:Option Int)(H:Hp)(Q:VK):Prop|mk:∀a c,x=.ref a->SqL K H a c->(∀p,H p=none->Q (.ref p) (bX H p (.lst (pb c lo b))))->vJ K x lo b H Q
def Mi:FC X (vJ X.K):=by
 intro n s p H x v t u lo e sl Q I f g i j h;obtain⟨a,c,rfl,k,q⟩:=h;cases f;obtain⟨l,r,ht,m⟩:=I.list k;have d:=r.length;refine#["list",_,slot_list_getitem.lookup,ht.isList.typeIs,?_];refine wpAny_getItem_list_slice ht.isList g i j .none (by simp) ?_ (by rw[List.size_toArray]<;>lia);rw[Li,<-d];refine#[.ref s.heap.objs.size,_,I.laid (t':=s.toks) (o:= .lst (pb c lo e)) (λb w q=>cV _ q) (cm _) ?_,rZ,q _ (I.hok.fresh (cm _))];exact#[cW (KC c lo e) m,_,0,(r.drop (HT.sIx c.length 0 lo)).take (HT.sIx c.length c.length e-HT.sIx c.length 0 lo),dW _ rZ]
def iT:V->Bool
 |.non=>true
 |.bl _=>true
 |.int _=>true
 |.str _=>true
 |_=>false
def m5:V->V->Bool
 |.non,.non=>true
 |.bl a,.bl b=>a==b
 |.bl a,.int b=>(if a then 1 else 0)==b
 |.int a,.bl b=>a==(if b then 1 else 0)
 |.int a,.int b=>a==b
 |.str a,.str b=>a==b
 |_,_=>false
def yX{A:Ar}{s:Sh}{y x:V}{u v:Vl}(e:RelV y u)(c:RelV x v)(g:iT y=true)(f:iT x=true):SeqAt.EqAt A s u v (m5 y x):=by
 cases y with
 |non=>
  cases e;cases x with
  |non=>cases c;exact SeqAt.EqAt.same _
  |bl b=>cases c;exact SeqAt.EqAt.none_bool b
  |int b=>obtain⟨t,rfl⟩:=c;exact SeqAt.EqAt.none_int b t
  |str b=>obtain⟨t,rfl⟩:=c;exact SeqAt.EqAt.none_str b t
  |_=>exact wC (show false=true from f) gN
 |bl a=>
  cases e;cases x with
  |non=>cases c;exact SeqAt.EqAt.bool_none a
  |bl b=>cases c;exact SeqAt.EqAt.bool_bool a b
  |int b=>obtain⟨t,rfl⟩:=c;exact SeqAt.EqAt.bool_int a b t
  |str b=>obtain⟨t,rfl⟩:=c;exact SeqAt.EqAt.bool_str a b t
  |_=>exact wC (show false=true from f) gN
 |int a=>
  obtain⟨d,rfl⟩:=e;cases x with
  |non=>cases c;exact SeqAt.EqAt.int_none a d
  |bl b=>cases c;exact SeqAt.EqAt.int_bool a d b
  |int b=>obtain⟨t,rfl⟩:=c;exact SeqAt.EqAt.int_int a d b t
  |str b=>obtain⟨t,rfl⟩:=c;exact SeqAt.EqAt.int_str a d b t
  |_=>exact wC (show false=true from f) gN
 |str a=>
  obtain⟨d,rfl⟩:=e;cases x with
  |non=>cases c;exact SeqAt.EqAt.str_none a d
  |bl b=>cases c;exact SeqAt.EqAt.str_bool a d b
  |int b=>obtain⟨t,rfl⟩:=c;exact SeqAt.EqAt.str_int a d b t
  |str b=>obtain⟨t,rfl⟩:=c;exact SeqAt.EqAt.str_str a d b t
  |_=>exact wC (show false=true from f) gN
 |_=>exact wC (show false=true from g) gN
def oP(x:V)(u:Vl):Bool:=match u with
 |.none=>m5 .non x
 |.bool b=>m5 (.bl b) x
 |.int i _=>m5 (.int i) x
 |.str z _=>m5 (.str z) x
 |_=>false
def HG{x y:V}{u:Vl}(r:RelV y u)(f:iT y=true):oP x u=m5 y x:=by
 cases y with
 |non=>cases r;rfl
 |bl b=>cases r;rfl
 |int i=>obtain⟨t,rfl⟩:=r;rfl
 |str z=>obtain⟨t,rfl⟩:=r;rfl
 |_=>exact wC (show false=true from f) gN
theorem BQ{x:V}:∀{a:List V} {b:Vs},Vals a b->a.all iT=true->b.any (oP x)=a.any λy=>m5 y x
 |_,_,.nil,_=>rfl
 |y::a,u::b,.cons r t,f=>by
  rw[List.all_cons,lW]at f;rw[ux,ux,HG r f.1,BQ t f.2]
theorem Be{A:Ar}{s:Sh}{x:V}{v:Vl}(c:RelV x v)(d:iT x=true):∀{a:List V} {b:Vs},Vals a b->a.all iT=true->∀u∈b,SeqAt.EqAt A s u v (oP x u)
 |_,_,.nil,_=>λu hu=>by cases hu
 |y::a,u::b,.cons r t,f=>λe hu=>by
  rw[List.all_cons,lW]at f
  rcases dq.mp hu with rfl|hu
  .rw[HG r f.1];exact yX r c f.1 d
  .exact Be c d t f.2 e hu
def zp(x:V)(a:List V):Bool:=a.any λy=>m5 y x
inductive CF(K:O2)(a:Bool)(x y:V)(H:Hp)(Q:VK):Prop|mk:∀p b,y=.ref p->((SqL K H p b\/SqT K H p b))->iT x=true->b.all iT=true->(Q (.bl (if a then !zp x b else zp x b)) H)->CF K a x y H Q
def Nq:OpR X (compareOp .In) (CF X.K false):=by
 intro g s i H x y v u Q I c e h;obtain⟨p,j,rfl,hq,d,fs,q⟩:=h;cases e
 rcases hq with hq|hq
 .obtain⟨a,r,b,f⟩:=I.list hq;refine SeqAt.in_listAt (oP x) b.isList (λw hw=>Be c d r fs w (by simpa using hw)) #[.bl _,H,I,rZ,?_];rw[show a.toArray.any (oP x)=a.any (oP x) by simp,BQ r fs];exact q
 .obtain⟨a,r,b,f⟩:=I.tuple hq;refine SeqAt.in_tupleAt (oP x) b (λw hw=>Be c d r fs w (by simpa using hw)) #[.bl _,H,I,rZ,?_];rw[show a.toArray.any (oP x)=a.any (oP x) by simp,BQ r fs];exact q
def fF:hG X (.builtin "len") (λf H Q=>∃p b,f=[.ref p]/\(SqL X.K H p b\/SqT X.K H p b)/\Q (.int b.length) H):=by
 intro j s k H f l Q I r h;obtain⟨p,b,rfl,hq,q⟩:=h;obtain⟨u,rfl,g⟩:=gD r;cases g;have m:=xa
 rcases hq with hq|hq
 .obtain⟨c,d,e,i⟩:=I.list hq;have a:=d.length;exact Calls.call_len_list e.isList (by simp only[List.size_toArray]<;>lia) #[.int b.length,H,I.tok _,#[s.toks+1,by rw[List.size_toArray,a]],q]
 .obtain⟨c,d,e,i⟩:=I.tuple hq;have a:=d.length;exact len_tuple e (by simp only[List.size_toArray]<;>lia) #[.int b.length,H,I.tok _,#[s.toks+1,by rw[List.size_toArray,a]],q]
def n9:hG X (.type "tuple") (λj H Q=>∃p c,j=[.ref p]/\((SqL X.K H p c/\∀l,H l=none->Q (.ref l) (bX H l (.tup c)))\/(SqT X.K H p c/\Q (.ref p) H))):=by
 intro k s m H j z Q I r h;obtain⟨p,c,rfl,h⟩:=h;obtain⟨u,rfl,w⟩:=gD r;cases w
 rcases h with⟨f,q⟩|⟨f,q⟩
 .obtain⟨a,g,i,n⟩:=I.list f;have t:=g.length;refine call_tuple_list i.isList (λd x=>?_) (by simp only[List.size_toArray]<;>lia);have v:Inv X k m H {s with heap:=d}:=I.kept (t':=s.toks) x;have y:Inv X k m (bX H d.objs.size (.tup c)) {s with heap:=d.push {cls:= .type "tuple",data:= .seq a.toArray}}:=
   v.laid (t':=s.toks) (λb o e=>cV _ e) (cm _) (show ObjOk X.prog X.w _ _ _ (.tup c)from#[n,a,g,TupD.new _ _])
  exact#[.ref d.objs.size,_,y,rZ,q _ (v.hok.fresh (cm _))]
 .obtain⟨a,g,i,n⟩:=I.tuple f;exact call_tuple_same i #[.ref p,H,I,rZ,q]
def Bx(K:O2)(T:String)(x:V)(H:Hp):Prop:=match x with
 |.str _=>T="str"
 |.int _=>T="int"
 |.ref p=>(T="list"/\∃b,SqL K H p b)\/(T="tuple"/\∃o,K.lookup p=some o/\o.cls=.type "tuple"/\o.dict=none)\/
   (T="dict"/\((∃a,H p=some (.dK a))\/∃a,H p=some (.dT a)))\/(T="set"/\∃S n,H p=some (.set S n))
 |_=>False
def Ez{l:AO}{m:St}{H:Hp}{s:Sh}{T:String}{x:V}{v:Vl}(I:Inv X l m H s)(r:RelV x v)(ty:Bx X.K T x H):
  s.TypeIs v T/\∀a,v=.ref a->∃j,s.heap.get? a=some j/\j.dict=none:=by
 cases x with
 |str z=>
  obtain⟨t,rfl⟩:=r;cases(show T="str" from ty);exact#[typeIs_str s z t,λ_ e=>nomatch e]
 |int i=>
  obtain⟨t,rfl⟩:=r;cases(show T="int" from ty);exact#[typeIs_int s i t,λ_ e=>nomatch e]
 | ref p=>
  cases r
  rcases ty with⟨rfl,y,q⟩|⟨rfl,o,b,u,f⟩|⟨rfl,b⟩|⟨rfl,S,n,b⟩
  .obtain⟨w,_,k,_⟩:=I.list q;refine#[k.isList.typeIs,λa e=>?_];cases e;obtain⟨o,n,e,c,f,_⟩:=k;exact#[o,e,f]
  .refine#[#[o,I.kIn p o b,u],λa e=>?_];cases e;exact#[o,I.kIn _ o b,f]
  .have z:∃o,s.heap.get? p=some o/\o.ExactDict:=by
    rcases b with⟨g,b⟩|⟨g,b⟩
    .obtain⟨_,_,_,_,o,_,_,e,d,_⟩:=I.hok p _ b;exact#[o,e,d]
    .obtain⟨_,_,_,_,o,_,_,e,d,_⟩:=I.hok p _ b;exact#[o,e,d]
   obtain⟨o,e,d⟩:=z;refine#[#[o,e,d.1],λa h=>?_];cases h;exact#[o,e,d.2.1]
  .obtain⟨o,_,_,_,e,d,_⟩:=I.hok p _ b;refine#[#[o,e,d.1],λa h=>?_];cases h;exact#[o,e,d.2.1]
 |_=>exact wE ty
def DM(K:O2)(T:String)(r:V->List V->Hp->VK->Prop)(to:TE):TE:=λb H Q=>to b H λx a=>Bx K T x a/\r x [] a Q
def yc(K:O2)(T:String)(r:V->List V->Hp->VK->Prop)(to:TE)(t:TA):TE:=λa H Q=>to a H λx b=>Bx K T x b/\t a b λc d=>r x c d Q
variable{o e:Expr}{m:List Expr}{to:TE}{t:TA}{name:Str}{g d:Pos}{T id:String}{r:V->List V->Hp->VK->Prop}
def A4(l:PlainAttrs T)(c:Slot T name id)(e:typeOf (.builtin id)=pure (.type "method_descriptor"))(m:vD X id r)(n:PE X o to)(a:attributeBase o name X.env (eval o X.env)=eval o X.env:=by rfl) (b:(g.endLine==d.line)=true:=by rfl):PE X (.Call (.Attribute o name g) [] [] d) (DM X.K T r to):=by
 intro f s i H Q I h;refine wpAny_Call_method0_late a b (cB (n f s i H _ I h) λv p ⟨x,q,j,k,ty,t⟩=>?_);obtain⟨u,w⟩:=Ez j k ty;exact#[T,id,l,c,e,u,w,Calls.callWith_builtin rZ (PySem.evalArgs_none (m f p i q x [] v [] Q j k .nil t))]
def lK(u:PlainAttrs T)(f:Slot T name id)(j:typeOf (.builtin id)=pure (.type "method_descriptor"))(w:vD X id r)(y:PE X o to)(z:PA X (e::m) t)(b:attributeBase o name X.env (eval o X.env)=eval o X.env:=by rfl)
  (i:((backTo d (starEach (e::m) X.env)).all (λx=> !x.1)&&(backToKw d (keywordEach [] X.env)).all (λx=>x.1.isSome)
   &&decide ((e::m).length+([]:List Keyword).length+(if([]:List Keyword).isEmpty then 0 else 1)<30))=true:=by rfl)
  (c:(g.endLine==d.line)=true:=by rfl) (A:starEach (e::m) X.env=(false,eval e X.env)::starEach m X.env:=by rfl) (a:(backTo d (starEach m X.env)).any (·.1)=false:=by rfl):
  PE X (.Call (.Attribute o name g) (e::m) [] d) (yc X.K T r to t):=by
 intro k s l H Q I h;refine wpAny_Call_method_late b i c rZ (cB (y k s l H _ I h) λv B ⟨x,C,n,p,ty,D⟩=>?_);obtain⟨E,G⟩:=Ez n p ty;refine#[T,id,u,f,j,E,G,?_];have q:=z d k B l C _ n D;rw[A]at q|-;refine Calls.callWith_builtin (by show(false || (backTo d (starEach m X.env)).any (·.1))=false;rw[a]<;>rfl) (Calls.evalArgs_plain ?_);exact cB q λJ L ⟨M,N,O,U,Y⟩=>w k L l N x M v J Q O p U Y
end
def Oh(X:Cx)(id:String)(r:V->List V->Hp->VK->Prop):Prop:=
 ∀(a:AO) (s:Sh) (b:St) (H:Hp) (x:V) (c:List V) (v:Vl) (d:Vs) (Q:VK),Inv X a b H s->RelV x v->Vals c d->r x c H Q->
  wpAny (model X.prog X.w) X.A (call (.builtin id) (v::d)) (EP X a b Q) X.xe s
theorem Vals.one:∀{x:V} {a:Vs},Vals [x] a->∃u,a=[u]/\RelV x u
 |_,_,.cons r .nil=>#[_,rZ,r]
section
variable{X:Cx}{c:AO}{d:St}{H:Hp}{s:Sh}{l b:Ad}{g a h:List V}
def Inv.lset{b its':Vs}{n:Nat}{f:AV->Array Vl}{t':Nat}(I:Inv X c d H s)(h:H l=some (.lst g))(e:s.heap.get? l=some {cls:= .type "list",data:= .seq b.toArray n}) (i:f b.toArray=its'.toArray) (j:Vals a its') (k:a.length<=sizeLine):
  Inv X c d (bX H l (.lst a)) {s with heap:=s.heap.update l (Obj.mapSeq f),toks:=t'}:=by
 have q:=PySem.IsL.update e f;rw[i]at q;refine I.write (x:=l) (e:=l) (by rw[h];exact trivial) (.inl rZ) (λp u m o=>(iQ s.heap (Obj.mapSeq f) (eC m)).trans o) #[_,q] ?_;exact#[k,its',_,j,q]
def Inv.lnew{b:Vs}{t':Nat}(I:Inv X c d H s)(e:Vals a b)(f:a.length<=sizeLine):
  Inv X c d (bX H s.heap.objs.size (.lst a)) {s with heap:=s.heap.push {cls:= .type "list",data:= .seq b.toArray},toks:=t'}:=
 I.laid (λ_ _ q=>cV _ q) (cm _) #[f,b,0,e,dW _ rZ]
def Inv.fresh(I:Inv X c d H s):H s.heap.objs.size=none:=I.hok.fresh (cm _)
def Inv.lstM(I:Inv X c d H s)(b:H l=some (.lst g)):g.length<=sizeLine/\∃(a:Vs) (n:Nat),Vals g a/\g.length=a.length/\s.heap.get? l=some {cls:= .type "list",data:= .seq a.toArray n}:=by
 obtain⟨z,a,n,r,e⟩:=I.hok l _ b;exact#[z,a,n,r,r.length,e]
end
section
variable{X:Cx}
inductive iE(x:V)(b:List V)(H:Hp)(Q:VK):Prop|mk:∀l a y,x=.ref l->b=[y]->H l=some (.lst a)->a.length<sizeLine->Q .non (bX H l (.lst (a++[y])))->iE x b H Q
def ph:Oh X "list.append" iE:=by
 intro g s i H x j v k Q I c d h;obtain⟨l,m,y,rfl,rfl,b,o,q⟩:=h;cases c;obtain⟨u,rfl,f⟩:=d.one;obtain⟨z,a,n,r,p,e⟩:=I.lstM b;refine call_meets F.slot_list_append #[_,e,rZ] F.entry_list_append (F.args_list_append_2 _ _) (PySem.list_append l a.toArray n u (by rw[dS];lia)) #[e,?_];refine#[.non,_,I.lset (its':=a++[u]) b e (by simp) (r.append (.cons f .nil)) ?_,rZ,q];rw[dA,wh];lia
end
end L2
namespace Att
open PySem PySem.W PySem.Calls PyProof.Rows
def NL{P:Params}{h:Heap}:∀(c:Zs) (d:Vs),WellAll P h d (c.map WData.int)->IntsAre d c:=by
 intro c
 induction c with
 |nil=>
  intro d w;rw[List.map_nil]at w;cases w;exact .nil
 | cons n c e=>
  intro d w;rw[eZ]at w;cases w with
  |cons a b=>
   cases a;exact .cons _ _ (e _ b)
def LM{l:OpenLaw}{n:Nat}(s:l.most=some n){P:Params}{h:Heap}{args:List WData}{c:Vs}(e:l.row.toRowW.claim.pre args=true) (k:WellAll P h c args):
  ∃a o b,c=[Value.ref a]/\args=[WData.list (b.map WData.int)]/\h.get? a=some {cls:= .type "list",data:= .seq o.toArray}/\IntsAre o b/\b.length<=n:=by
 have m:WShape.hasAll [] args [.list .int]=true:=(pre_splitW e).1;have p:l.pre.holds [] {args:=args}=true:=(pre_splitW e).2;obtain⟨d,r,rfl,t,u⟩:=hasAllW_cons m;obtain rfl:=hasAllW_nil u;obtain⟨A,rfl,v⟩:=hasW_list t;obtain⟨b,rfl⟩:=items_int v;have f:b.length<=n:=by
  unfold OpenLaw.pre at p;have i:(WTm.not (.lt (.lit (.int (n:Int))) (.len (.arg 0)))).holds [] {args:=[.list (b.map .int)]}=true:=by
   have i:=(holds_andW p).1;rw[s]at i;exact i
  have j:=condW_of i (w_not (w_lt w_lit (w_len_list (w_arg rZ))));rw[bZ]at j;refine xW λq=>?_;have w:(n:Int)<((b.length:Nat):Int):=by lia
  first
   |(rw[c9 w]at j;exact wC j (by decide))
   |(simp at j;lia)
 cases k with
 |cons x y=>
  cases y;cases x with
  |list z g=>exact#[_,_,b,rZ,rZ,z,NL b _ g,f]
def K3(l:OpenLaw)(args:List WData):l.row.toRowW.claim.post args (.bool true) args=true:=
 postW_of (r:=l.row.toRowW) (X:=(true==true))
  (show WShape.has [] (.bool true) .bool=true by first|rfl|decide|simp[WShape.has,WShape.arms,WShape.armsAll])
  (show(WTm.eq .res (.lit (.bool true))).value [] {args:=args,res:=some (.bool true),after:=args}=some (.bool (true==true))from w_eq_bool (w_res rZ) w_lit) rfl
def attach_call{l:OpenLaw}{n:Nat}{q:Pg}{c:Ss}{A:SV->Heap->Prop}{B:World->Heap->Prop}{d:DefRec}(H:l.most=some n) (u:d.params.defaults=[])(call:∀(w:World) (e b:Sh) (mg v:SV) (fa:Ad) (o:Obj) (x p g:Vl) (a:Ad) (i:Vs) (s:Zs),
   Ground q c [] A w e mg v b.heap->B w b.heap->
   b.heap.get? fa=some o->o.data=.func (docDef d.name d.params d.body d.scope x p g)->b.heap.CodeRec p d.name->mg d.name=some (.ref fa)->
   b.heap.get? a=some {cls:= .type "list",data:= .seq i.toArray}->IntsAre i s->s.length<=n->b.gens= #v[]->
   codeAny (model l.prog w) callerA (.call (.ref fa) #[[.ref a],[]]) (λr t=>r=.ok (.ret (.bool true))/\OldK b.heap t.heap/\t.os=b.os/\AllBare t.gens) b):
  WalkO q c A B l.row.toRowW d [] (λf i=>PySem.call f i):=by
 intro w e b mg v G Y fa o x p g I kV J L y C hmg M args D as j E N z O;obtain rfl:I=.none:=Dflts.none C u;obtain rfl:kV=.none:=Dflts.noKw C;obtain⟨a,i,s,rfl,rfl,k,h,m⟩:=LM H j z;refine enter_call (mD (call w e b mg v fa o x p g a i s G Y J (fd_plain L) y hmg k h m M) λr t Q=>?_);obtain⟨rfl,T,U,h4⟩:=Q;exact#[.inl #[.bool true,.bool true,[],rZ,λ_=>rfl,.bool true,K3 l _,λ_=>#[List.Pairwise.nil,λ_ hm=>(nomatch hm)]],T,U,h4]
end Att
namespace L2
open PySem PySem.Spec PyProof.Rows
theorem EX:∀{a:Vs} {b:Zs},IntsAre a b->Vals (b.map V.int) a
 |_,_,.nil=> .nil
 |_,_,.cons n t h=> .cons #[t,rZ] (EX h)
abbrev OQ{K:O2}{h:Heap}(_:K.In h):O2:=K
end L2
namespace L2
open PySem PySem.Spec PyProof.Rows
def iv(s:Stmt):Arguments:=match s with
 | .FunctionDef _ a _ _ _ _ _ _ _ _=>a
 |_=>{posonlyargs:=[],args:=[],vararg:=none,kwonlyargs:=[],kw_defaults:=[],kwarg:=none,defaults:=[]}
def gh(s:Stmt):List Stmt:=match s with
 | .FunctionDef _ _ b _ _ _ _ _ _ _=>b
 |_=>[]
def cz(s:Stmt):Scope:=match s with
 | .FunctionDef _ _ _ _ _ _ a _ _ _=>a
 |_=>{kind:= .function,names:=[],isGenerator:=false,isCoroutine:=false}
abbrev cL:oO:=λ_ _ _ _ _ _=>False
abbrev E0:XK:=λ_ _ _=>False
def wP{X:Cx}:uw cL X E0:=λ_ _ _ _ _ _ _ h=>h.elim
structure Fun(K:O2)(x qual:Str)(st:Stmt)(f:Ad)(fd:Fd):Prop where
 ex:∃(oc:Vl) (od:Option Ad) (kV doc pm:Vl) (an:Option Ad) (cdv ct:Vl) (osl:Array (Option Vl)),
  fd=PySem.W.fnOf x qual (iv st) (gh st) (cz st) .none kV doc pm an cdv ct/\K.lookup f=some #[oc,od,.func fd,osl]/\PySem.W.codeIn K cdv qual=true
 kp:PySem.W.keepIn K (.ref f)=true
section
variable{P:Pg}{w:World}{K:O2}{mg:SV}{a:Heap}
def Fun.ok{x c:Str}{st:Stmt}{f:Ad}{n:Fd}{N i:Ss}{k:Nat}{j:Sp}(F:Fun K x c st f n)(S:FnScope N i (cz st))(e:∀(d:Vl) (A:Ar) (b:List Env) (s:Sh) (H:Hp) (g:List V) (Q:VK) (E:XK),Room k (A.deeper (envOfC c (cz st) s.heap.objs.size f d))->j g H Q E->
   ∃t,PSs (sr cL P w K mg a N c (cz st) f d A b s H E).nox (gh st) t/\t {nx:=λ_ H'=>Q .non H',rt:=Q} (start N g) H)(len:∀g H Q E,j g H Q E->g.length=i.length:=by (intro _ _ _ _ h;first|(cases h;subst_vars;rfl)|((repeat obtain⟨_,h⟩:=h);subst_vars;rfl))):FnOk P w K mg a cL (k+1) f n i j:=by
 obtain⟨u,v,kV,o,y,z,d,B,p,rfl,lk,l⟩:=F.ex;refine Fp lk l S len λA b s H g Q E r m=>?_;obtain⟨t,h,q⟩:=e d A b s H g Q E r m;exact#[t,h.nox,q]
def Fun.binds{x a:Str}{st:Stmt}{f:Ad}{k:Fd}{d:Ss}(F:Fun K x a st f k)(h:∀(kV b e:Vl) (g:Option Ad) (c i:Vl) (j:Vs),j.length=d.length->bindArgs (PySem.W.fnOf x a (iv st) (gh st) (cz st) .none kV b e g c i) #[j,[]]=pure (d.zip j)):Binds K k d []:=by
 obtain⟨n,o,kV,b,e,g,c,i,l,rfl,lk,m⟩:=F.ex;exact .all (h kV b e g c i)
def c5m{x a:Str}{st:Stmt}{f:Ad}{j:Vl}{m g:Option Ad}{e:Array (Option Vl)}{kV d h b i:Vl}(l:K.lookup f=some #[j,m,.func (PySem.W.fnOf x a (iv st) (gh st) (cz st) .none kV d h g b i),e])(c:PySem.W.codeIn K b a=true) (k:PySem.W.keepIn K (.ref f)=true):Fun K x a st f (PySem.W.fnOf x a (iv st) (gh st) (cz st) .none kV d h g b i):=#[#[j,m,kV,d,h,g,b,i,e,rZ,l,c],k]
end
def ky{A:Ar}{k:Nat}(a:Room k A):A.units+1<cLine:=rX (vE (by decide:1<=64) _) a.units
def Kj{n:Nat}(h:n<=1000):n<sizeLine:=rX h (by decide)
section
variable{X:Cx}
def pv(i:Nat){x:Str}{a:Pos}(c:X.N[i]?=some x:=by rfl)(d:BD X.env.scope x:=by first|exact Or.inl rfl|exact Or.inr Z'|exact Or.inr Z0)(e:(x==("__debug__":Str))=false:=by decide)
  (b:(x==("__classdict__":Str))=false:=by decide):PE X (.Name x a) (c8 i):=JL c d e b
end
def fv{A B:Prop}(h:B):if false=true then A else B:=by
 rw[wA gN];exact h
def gA{A B:Prop}(h:A):if true=true then A else B:=by
 rw[wB rZ];exact h
def lJ{c A B:Prop}[Decidable c](a:c->A)(b: ¬c->B):if c then A else B:=by
 by_cases h:c
 .rw[wB h];exact a h
 .rw[wA h];exact b h
def Same(H a:Hp):Prop:=∀b o,H b=some o->a b=some o
def Same.refl(H:Hp):Same H H:=λ_ _ h=>h
def Same.trans{H d e:Hp}(a:Same H d)(b:Same d e):Same H e:=λc o h=>b c o (a c o h)
def Same.free{H a:Hp}(e:Same H a){l:Ad}(h:a l=Option.none):H l=Option.none:=by
 cases q:H l with
 |none=>rfl
 |some o=>
  rw[e l o q]at h;cases h
def Same.seq{K:O2}{H b:Hp}{a:Ad}{c:List V}(e:Same H b)(h:SqL K H a c):SqL K b a c:=by
 rcases h with(h|⟨o,h⟩)|h
 .exact .inl (.inl (e _ _ h))
 .exact .inl (.inr #[o,e _ _ h])
 .exact .inr h
section
variable{a:Type}[DecidableEq a]
def gW(b:List (a×V))(k:a):Option V:=(b.find? λc=>decide (c.1=k)).map (·.2)
def iS(b:List (a×V))(k:a)(v:V):List (a×V):=
 if(b.any λc=>decide (c.1=k))=true then b.map (λc=>if c.1=k then(c.1,v)else c)else b++[(k,v)]
def xv{p:a×V}{r:List (a×V)}{k:a}(e:p.1=k):gW (p::r) k=some p.2:=by simp[gW,List.find?_cons,e]
def rb{p:a×V}{r:List (a×V)}{k:a}(e: ¬p.1=k):gW (p::r) k=gW r k:=by simp[gW,List.find?_cons,e]
theorem AM(k:a):∀b:List (a×V),(b.any λc=>decide (c.1=k))=(gW b k).isSome
 | []=>rfl
 |p::r=>by
  rw[ux];by_cases e:p.1=k
  .simp only[xv e,decide_eq_true e,Bool.true_or,Option.isSome_some]
  .rw[rb e,eQ e,Bool.false_or];exact AM k r
def Gf(b:List (a×V))(k:a)(v:V):(iS b k v).length<=b.length+1:=by
 unfold iS;split
 .rw[bZ];lia
 .rw[dA,gC,Bb];lia
def xQ{b:List (a×V)}{k:a}(v:V)(h:gW b k=none):iS b k v=b++[(k,v)]:=by
 unfold iS;rw[AM,h];exact wA (by decide)
def RelO.isSome_eq{o:Option V}{u:Option Vl}(r:RelO o u):o.isSome=u.isSome:=by
 cases o with
 |none=>cases u with
  |none=>rfl
  |some _=>exact(show False from r).elim
 |some _=>cases u with
  |none=>exact(show False from r).elim
  |some _=>rfl
def KV.val{c:List (a×V)}{g:List (a×Vl)}(r:KV c g)(k:a):RelO (gW c k) (valueAt g k):=by
 unfold KV at r
 induction r with
 |nil=>exact True.intro
 | @cons p q m d h t j=>
  obtain⟨i,l⟩:=h;by_cases e:p.1=k
  .have f:q.1=k:=i.symm.trans e;have b:valueAt (q::d) k=some q.2:=by simp[valueAt,List.find?_cons,f]
   rw[xv e,b];exact l
  .have f: ¬q.1=k:=λz=>e (i.trans z);have b:valueAt (q::d) k=valueAt d k:=by simp[valueAt,List.find?_cons,f]
   rw[rb e,b];exact j
def KV.any{b:List (a×V)}{d:List (a×Vl)}(r:KV b d)(k:a):(b.any λc=>decide (c.1=k))=d.any λc=>decide (c.1=k):=by
 unfold KV at r
 induction r with
 |nil=>rfl
 |cons h t e=>rw[ux,ux,e,h.1]
def KV.repl{c:List (a×V)}{f:List (a×Vl)}(r:KV c f)(k:a){y:V}{u:Vl}(g:RelV y u):
  KV (c.map λb=>if b.1=k then(b.1,y)else b) (f.map λb=>if b.1=k then(b.1,u)else b):=by
 unfold KV at r|-
 induction r with
 |nil=>exact .nil
 | @cons p q l m h t i=>
  rw[eZ,eZ];refine .cons ?_ i;obtain⟨d,j⟩:=h;by_cases e:p.1=k
  .rw[wB e,wB (d.symm.trans e)];exact#[d,g]
  .rw[wA e,wA (λz=>e (d.trans z))];exact#[d,j]
def KV.put{b:List (a×V)}{c:List (a×Vl)}(r:KV b c)(k:a){y:V}{u:Vl}(d:RelV y u):KV (iS b k y) (stored c k u):=by
 unfold iS stored;rw[r.any k];by_cases e:(c.any λf=>decide (f.1=k))=true
 .rw[wB e,wB e];exact r.repl k d
 .rw[wA e,wA e];exact Paired.snoc r #[rZ,d]
def KV.length{b:List (a×V)}{vs:List (a×Vl)}(r:KV b vs):b.length=vs.length:=oG r
end
def xk{P:Pg}{w:World}{k:cy}{u:Vl}(r:RelV (kV k) u):(dN P w).is k u=true:=by
 cases k with
 |inl i=>obtain⟨t,e⟩:=(show ∃t,u=Value.int i t from r);subst e;exact NG P w i t
 |inr x=>obtain⟨t,e⟩:=(show ∃t,u=Value.str x t from r);subst e;exact KL P w x t
theorem FV{P:Pg}{w:World}:∀{a:List cy} {b:Vs},Vals (a.map kV) b->ItemsAre (dN P w) a b
 | [],_,r=>by rw[List.map_nil]at r;cases r;exact .nil
 |k::a,_,r=>by
  rw[eZ]at r;cases r with
  |cons h t=>exact .cons (xk h) (FV t)
abbrev KT(H:Hp):List (List cy×V)->List (List cy×Ad×Vl)->Prop:=Paired λp q=>p.1=q.1/\H q.2.1=some (.tup (p.1.map kV))/\RelV p.2 q.2.2
def KT.val{H:Hp}{a:List (List cy×V)}{f:List (List cy×Ad×Vl)}(r:KT H a f)(k:List cy):RelO (gW a k) ((atKey f k).map (·.2)):=by
 induction r with
 |nil=>exact True.intro
 | @cons p q l c h t i=>
  obtain⟨g,_,j⟩:=h;by_cases e:p.1=k
  .have d:q.1=k:=g.symm.trans e;have b:atKey (q::c) k=some q.2:=by simp[atKey,List.find?_cons,d]
   rw[xv e,b];exact j
  .have d: ¬q.1=k:=λz=>e (g.trans z);have b:atKey (q::c) k=atKey c k:=by simp[atKey,List.find?_cons,d]
   rw[rb e,b];exact i
def KT.repl{H:Hp}{a:List (List cy×V)}{d:List (List cy×Ad×Vl)}(r:KT H a d)(k:List cy){y:V}{u:Vl}(g:RelV y u):
  KT H (a.map λc=>if c.1=k then(c.1,y)else c) (d.map (putAt k u)):=by
 induction r with
 |nil=>exact .nil
 | @cons p q l m h t i=>
  rw[eZ,eZ];refine .cons ?_ i;obtain⟨b,f,j⟩:=h;unfold putAt;by_cases e:p.1=k
  .rw[wB e,wB (b.symm.trans e)];exact#[b,f,g]
  .rw[wA e,wA (λz=>e (b.trans z))];exact#[b,f,j]
def KT.put{H:Hp}{a:List (List cy×V)}{c:List (List cy×Ad×Vl)}(r:KT H a c)(k:List cy){b:Ad}{y:V}{u:Vl}(f:H b=some (.tup (k.map kV)))(d:RelV y u):
  KT H (iS a k y) (storedH c k b u):=by
 have e:(a.any λg=>decide (g.1=k))=(atKey c k).isSome:=by
  rw[AM,(r.val k).isSome_eq,A3]
 unfold iS storedH;rw[e];by_cases q:(atKey c k).isSome=true
 .rw[wB q,wB q];exact r.repl k d
 .rw[wA q,wA q];exact Paired.snoc r #[rZ,f,d]
def KT.keeps{H c:Hp}{a:List (List cy×V)}{d:List (List cy×Ad×Vl)}(r:KT H a d)(ht:∀b ys,H b=some (.tup ys)->c b=some (.tup ys)):KT c a d:=
 Paired.mapP r λ_ _ z=>#[z.1,ht _ _ z.2.1,z.2.2]
section
variable{P:Pg}{w:World}{H:Hp}{h:Heap}{a:Ad}
def EO{u:HO}(ok:HOk P w H h)(e:Rd H a u):ObjOk P w H h a u:=e.ok ok
def xN{b:List (cy×V)}(ok:HOk P w H h)(e:Rd H a (.dK b)):b.length<=sizeLine/\(a==sysModules)=false/\∃c,KV b c/\h.DictOf (dN P w) a c:=
 show ObjOk P w H h a (.dK b)from EO ok e
def wx{b:List (cy×V)}(ok:HOk P w H h)(e:H a=some (.dK b)):b.length<=sizeLine/\(a==sysModules)=false/\∃c,KV b c/\h.DictOf (dN P w) a c:=xN ok (.inl e)
def sn{b:List cy}(ok:HOk P w H h)(e:H a=some (.tup (b.map kV))):(tupleKind (dN P w)).is h b a:=by
 obtain⟨_,c,r,o,d,f,n,g,_⟩:=(show ObjOk P w H h a (.tup (b.map kV))from ok a _ e);exact#[o,c.toArray,n,d,f,g,by simpa using FV r]
def xU{b:List (List cy×V)}(ok:HOk P w H h)(e:Rd H a (.dT b)):b.length<=sizeLine/\(a==sysModules)=false/\
  ∃c,KT H b c/\h.DictOfH (tupleKind (dN P w)) a c:=by
 obtain⟨z,y,c,r,o,f,g,i,j,k,n,s⟩:=(show ObjOk P w H h a (.dT b)from EO ok e);refine#[z,y,c,r,o,f,g,i,j,k,n,λx hx=>?_,s];have all:∀{l:List (List cy×V)} {m:List (List cy×Ad×Vl)},KT H l m->∀x∈m,(tupleKind (dN P w)).is h x.1 x.2.1:=by
  intro l m q
  induction q with
  |nil=>intro x hx;exact nomatch hx
  | @cons p q v A d t u=>
   intro x hx
   rcases dq.mp hx with e|hx
   .subst e;exact sn ok (by rw[<-d.1];exact d.2.1)
   .exact u x hx
 exact all r x hx
def Dh{b:List (List cy×V)}(ok:HOk P w H h)(e:H a=some (.dT b)):b.length<=sizeLine/\(a==sysModules)=false/\
  ∃c,KT H b c/\h.DictOfH (tupleKind (dN P w)) a c:=xU ok (.inl e)
end
def DGet(H:Hp)(a:Ad)(y:V)(r:Option V):Prop:=
 (∃c k,Rd H a (.dK c)/\y=kV k/\r=gW c k)\/∃c k b,Rd H a (.dT c)/\y=.ref b/\H b=some (.tup (k.map kV))/\r=gW c k
def DPut(H:Hp)(a:Ad)(y v:V)(d:Hp):Prop:=
 (∃c k,H a=some (.dK c)/\y=kV k/\c.length<sizeLine/\d=bX H a (.dK (iS c k v)))\/
 ∃c k b,H a=some (.dT c)/\y=.ref b/\H b=some (.tup (k.map kV))/\c.length<sizeLine/\d=bX H a (.dT (iS c k v))
def DGet.t{H:Hp}{a b:Ad}{c:List (List cy×V)}{k:List cy}(e:H a=some (.dT c))(d:H b=some (.tup (k.map kV))):DGet H a (.ref b) (gW c k):= .inr #[c,k,b,.inl e,rZ,d,rZ]
def DPut.t{H:Hp}{a b:Ad}{c:List (List cy×V)}{k:List cy}{v:V}(e:H a=some (.dT c))(d:H b=some (.tup (k.map kV)))(f:c.length<sizeLine):
  DPut H a (.ref b) v (bX H a (.dT (iS c k v))):= .inr #[c,k,b,e,rZ,d,f,rZ]
section
variable{X:Cx}{d:AO}{f:St}{H:Hp}{s:Sh}{a:Ad}{y v:V}{u r:Vl}{o:Option V}{A:Ar}{E:VP}
def Inv.big(I:Inv X d f H s):sysModules<s.heap.objs.size:=by
 have h:mainGlobals<s.heap.objs.size:=(I.mod.glob.keeps I.bk).lt;exact tr (by decide) h
def NH{Q:VP}(x:A.units+1<cLine)(I:Inv X d f H s)(g:DGet H a y (some v))(t:RelV y u)(h:∀j w,Inv X d f H w->RelV v j->Q j w):
  wpAny (model X.prog X.w) A (getItem (.ref a) u) Q E s:=by
 rcases g with⟨m,k,e,n,l⟩|⟨m,k,b,e,n,B,l⟩
 .subst n;obtain⟨z,C,D,c,q⟩:=xN I.hok e;obtain⟨j,hw,i⟩:=RelO.some_of (v:=v) (o:=valueAt D k) (by rw[l];exact c.val k);exact wpAny_getItem_of (xk t) q.mapOf hw (h j _ (I.tok _) i)
 .subst n;cases(show u=Value.ref b from t);obtain⟨z,C,G,c,q⟩:=xU I.hok e;obtain⟨j,hw,i⟩:=RelO.some_of (v:=v) (o:=(atKey G k).map (·.2)) (by rw[l];exact c.val k);obtain⟨p,J,r⟩:=da.mp hw;refine wpAny_getItem_heap (zd x) (sn I.hok B) q J ?_;rw[r];exact h j _ (I.tok _) i
def DE{Q:VP}(t:A.units+1<cLine)(I:Inv X d f H s)(g:DGet H a y o)(p:RelV y u)(h:∀r,Inv X d f H r->Q (.bool o.isSome) r):
  wpAny (model X.prog X.w) A (compareOp .In u (.ref a)) Q E s:=by
 rcases g with⟨i,k,e,j,l⟩|⟨i,k,b,e,j,v,l⟩
 .subst j;obtain⟨z,m,w,c,n⟩:=xN I.hok e;refine wpAny_in_of (xk p) m n.mapOf ?_;rw[<-(c.val k).isSome_eq,<-l];exact h _ (I.tok _)
 .subst j;cases(show u=Value.ref b from p);obtain⟨z,m,x,c,n⟩:=xU I.hok e;refine wpAny_in_heap (zd t) (sn I.hok v) m n ?_;have q:=(c.val k).isSome_eq;rw[A3]at q;rw[<-q,<-l];exact h _ (I.tok _)
def Lu{Q:VP}(t:A.units+1<cLine)(I:Inv X d f H s)(g:DGet H a y o)(p:RelV y u)(h:∀r,Inv X d f H r->Q (.bool (!o.isSome)) r):
  wpAny (model X.prog X.w) A (compareOp .NotIn u (.ref a)) Q E s:=by
 rcases g with⟨i,k,e,j,l⟩|⟨i,k,b,e,j,v,l⟩
 .subst j;obtain⟨z,m,w,c,n⟩:=xN I.hok e;refine wpAny_notIn_of (xk p) m n.mapOf ?_;rw[<-(c.val k).isSome_eq,<-l];exact h _ (I.tok _)
 .subst j;cases(show u=Value.ref b from p);obtain⟨z,m,x,c,n⟩:=xU I.hok e;refine wpAny_notIn_heap (zd t) (sn I.hok v) m n ?_;have q:=(c.val k).isSome_eq;rw[A3]at q;rw[<-q,<-l];exact h _ (I.tok _)
def AN{c:Heap}{h:Nat}{g:HO}(I:Inv X d f H s)(i:wJ (H a))(j:Heap.SameBut a s.heap c)(k:∃q,c.get? a=some q)(new:ObjOk X.prog X.w (bX H a g) c a g):
  Inv X d f (bX H a g) {s with heap:=c,toks:=h}:=
 I.write (x:=a) (e:=a) i (.inl rZ) (λb q l z=>(j.2 b l).trans z) k new
def MF{P:Pg}{w:World}{f:Hp}{e:Heap}{b:List (cy×V)}{c:List (cy×Vl)}(z:b.length<=sizeLine)(g:(a==sysModules)=false)(d:KV b c)(h:e.DictOf (dN P w) a c):
  ObjOk P w f e a (.dK b):=#[z,g,c,d,h]
def M6{D:Hp}{Q:Unit->Sh->Prop}(T:A.units+1<cLine)(I:Inv X d f H s)(g:DPut H a y v D)(G:RelV y u)(J:RelV v r)(h:∀L,Inv X d f D L->Q ⟨⟩ L):
  wpAny (model X.prog X.w) A (setItem (.ref a) u r) Q E s:=by
 rcases g with⟨i,k,e,o,l,p⟩|⟨i,k,b,e,o,M,l,p⟩
 .subst o p;obtain⟨z,t,U,j,w⟩:=wx I.hok e;have x:U.length<=sizeLine:=by rw[<-j.length];exact z
  have B:(iS i k v).length<=sizeLine:=by have:=Gf i k v;lia
  refine wpAny_setItem_pairs (hsz:=x) (xk G) w λN m C=>h _ ?_;have Y:∃q,N.get? a=some q:=let⟨q,_,_,n,_⟩:=m;#[q,n]
  exact AN I (by rw[e];exact True.intro) C Y (MF B t (j.put k J) m)
 .subst o p;cases(show u=Value.ref b from G);obtain⟨z,t,xs,j,w⟩:=Dh I.hok e;have x:xs.length<=sizeLine:=by rw[<-oG j];exact z
  have B:(iS i k v).length<=sizeLine:=by have:=Gf i k v;lia
  refine wpAny_setItem_heap (hsz:=x) (zd T) (sn I.hok M) w λN m C=>h _ ?_;obtain⟨q,es,ep,n,h2,h3,h4,_,h5⟩:=m;refine AN I (by rw[e];exact True.intro) C #[q,n] #[B,t,_,(j.put k M J).keeps λc ys O=>?_,q,es,ep,n,h2,h3,h4,h5];rw[cf (nE O e)];exact O
end
def xj(i:Expr):Prop:=∀a b,subscripted i false a b=operate [a,b] (getItem a b)
def MC{a:Pg}{w:World}{A:Ar}{E:VP}{s:Sh}{j:Env}{c b:Expr}{m:Pos}{T id:String}{Q:VP}(n:typeLookup (.type T) "__getitem__"=pure (some (.builtin id))) (p:xj b)(h:wpAny (model a w) A (eval c j) (λo f=>wpAny (model a w) A (eval b j) (λi d=>d.TypeIs o T/\wpAny (model a w) A (getItem o i) Q E d) E f) E s):
  wpAny (model a w) A (eval (.Subscript c b m) j) Q E s:=by
 refine Subscript_ (gJ h (λo f k=>gJ k (λi d e=>?_) λ_ _ x=>x) λ_ _ x=>x);obtain⟨hT,e⟩:=e;unfold subscriptTail;refine bW ?_;rw[getitemInPython_of_ne hT.not_modules];refine bW (BO hT n ?_);have fin:wpAny (model a w) A (subscripted b false o i) (λr g=>wpAny (model a w) A (letTemporaryGo c o r >>= λ_=>pure r) Q E g) E d:=by
  rw[p o i];exact wpAny_operating (gJ e (λr g l=>bW (wpAny_letTemporaryGo (b9 l))) λ_ _ x=>x)
 first
  |exact b9 (bW fin)
  |exact bW (b9 (bW fin))
  |exact bW fin
def Kq{X:Cx}{f:AO}{h:St}{H:Hp}{s:Sh}{a:Ad}{y:V}{o:Option V}(I:Inv X f h H s)(g:DGet H a y o):s.TypeIs (.ref a) "dict":=by
 rcases g with⟨c,k,e,_,_⟩|⟨c,k,b,e,_,_,_⟩
 .obtain⟨_,_,i,_,d⟩:=xN I.hok e;exact d.typeIs
 .obtain⟨_,_,j,_,d⟩:=xU I.hok e;exact d.typeIs
def Em(d ty:TE):TE:=λb H Q=>d b H λx e=>ty b e λy c=>∃a v,x=.ref a/\DGet c a y (some v)/\Q v c
def Ds(ty d:TE):TE:=λb H Q=>ty b H λy e=>d b e λx c=>∃a o,x=.ref a/\DGet c a y o/\Q (.bl o.isSome) c
def EA(ty d:TE):TE:=λb H Q=>ty b H λy e=>d b e λx c=>∃a o,x=.ref a/\DGet c a y o/\Q (.bl (!o.isSome)) c
def FN(d ty e:TE):TS:=λD b H=>e b H λv f=>d b f λx g=>ty b g λy h=>∃a c,x=.ref a/\DPut h a y v c/\D.nx b c
section
variable{X:Cx}{o i e b:Expr}{f d j:Pos}{c ty k:TE}
def nN(k:X.A.units+1<cLine)(l:PE X o c)(m:PE X i ty)(n:xj i):PE X (.Subscript o i f) (Em c ty):=by
 intro d s e H Q I h;refine MC PySem.F.slot_dict_getitem.lookup n (cB (l d s e H _ I h) λu p ⟨x,q,r,t,w⟩=>cB (m d p e q _ r w) λE G ⟨y,z,j,A,a,v,B,g,C⟩=>?_);subst B;obtain rfl:u=Value.ref a:=t;exact#[Kq j g,NH k j g A λJ L D b=>#[v,z,D,b,C]]
def CG(e:X.A.units+1<cLine)(f:PE X i ty)(j:PE X o c):PC X .In i o (Ds ty c):=by
 intro b s d H Q I h;refine cB (f b s d H _ I h) λB k ⟨y,l,m,n,p⟩=>cB (j b k d l _ m p) λu C ⟨x,q,r,t,a,v,w,g,z⟩=>?_;subst w;obtain rfl:u=Value.ref a:=t;exact DE e r g n λD A=>#[.bl v.isSome,q,A,rZ,z]
def AS(e:X.A.units+1<cLine)(f:PE X i ty)(j:PE X o c):PC X .NotIn i o (EA ty c):=by
 intro b s d H Q I h;refine cB (f b s d H _ I h) λB k ⟨y,l,m,n,p⟩=>cB (j b k d l _ m p) λu C ⟨x,q,r,t,a,v,w,g,z⟩=>?_;subst w;obtain rfl:u=Value.ref a:=t;exact Lu e r g n λD A=>#[.bl (!v.isSome),q,A,rZ,z]
def q0(l:X.A.units+1<cLine)(m:PE X o c)(n:PE X i ty)(p:PE X b k)(q:swapsWith b (some (.Subscript o i d)) f.line X.env=pure false):
  PS X (.Assign [.Subscript o i d] b f) (FN c ty k):=by
 intro j s e H D I h;refine wpAny_Assign_Subscript (cB (p j s e H _ I h) λr t ⟨v,w,z,A,B⟩=>cB (m j t e w _ z B) λu C ⟨x,E,G,J,L⟩=>cB (n j C e E _ G L) λY s3 ⟨y,H3,M,N,a,O,Q,g,T⟩=>?_) q;subst Q;obtain rfl:u=Value.ref a:=J;exact M6 l M g N A λs4 U=>#[e,O,U,T]
end
def E4{P:Pg}{w:World}{H:Hp}(h:Heap)(a:sysModules<h.objs.size):ObjOk P w H (h.push {cls:= .type "dict",data:= .dict #v[]}) h.objs.size (.dT []):=
 #[gc _,mH.mpr (eC (dP a)),[],.nil,_,#v[],0,dW _ rZ,#[rZ,rZ,rZ],rZ,rZ,pU]
def KR:TE:=λ_ H Q=>∀p,H p=none->Q (.ref p) (bX H p (.dT []))
section
variable{X:Cx}{b:Pos}
def wr:PE X (.Dict [] [] b) KR:=λc s d H Q I h=>
 wpAny_Dict_empty #[.ref s.heap.objs.size,_,I.laid (a:=s.heap.objs.size) (o:= .dT []) (t':=s.toks) (λ_ _ q=>cV _ q) (cm _) (E4 s.heap I.big),rZ,h _ (I.hok.fresh (cm _))]
end
def Ef:List (TE×TE)->St->Hp->(List (V×V)->Hp->Prop)->Prop
 | [],_,H,Q=>Q [] H
 |(b,c)::r,a,H,Q=>b a H λx d=>c a d λy e=>Ef r a e λf g=>Q ((x,y)::f) g
abbrev VV:List (V×V)->List (Vl×Vl)->Prop:=Paired λp q=>RelV p.1 q.1/\RelV p.2 q.2
def Dn(X:Cx)(c:Pos)(b:List (Option Expr))(a:List Expr)(d:List (TE×TE)):Prop:=
 ∀(f:AO) (s:Sh) (e:St) (H:Hp) (Q:List (V×V)->Hp->Prop),Inv X f e H s->Ef d e H Q->
  wpAny (model X.prog X.w) X.A (evalPairs (pairTrees b a X.env c)) (λi j=>∃g h,Inv X f e h j/\VV g i/\Q g h) X.xe s
def OH{X:Cx}{a:Pos}:Dn X a [] [] []:=λb s c H Q I h=>pairTrees_nil_walk #[[],H,I,.nil,h]
def J6{X:Cx}{pos:Pos}{k v:Expr}{e:List (Option Expr)}{f:List Expr}{g i:TE}{a:List (TE×TE)}(j:PE X k g)(l:PE X v i)(m:Dn X pos e f a):
  Dn X pos (some k::e) (v::f) ((g,i)::a):=λb s c H Q I h=>
 pairTrees_cons_walk (cB (j b s c H _ I h) λu n ⟨x,o,p,q,r⟩=>cB (l b n c o _ p r) λJ t ⟨y,w,z,A,B⟩=>
  cB (m b t c w _ z B) λL M ⟨C,D,E,d,G⟩=>#[(x,y)::C,D,E,.cons #[q,A] d,G])
structure M1(X:Cx)(o:Expr)(m:Str)(apos:Pos)(e:Expr)(cpos:Pos):Prop where
 base:attributeBase o m X.env (eval o X.env)=eval o X.env
 few:((backTo cpos (starEach [e] X.env)).all (λx=> !x.1)&&(backToKw cpos (keywordEach [] X.env)).all (λx=>x.1.isSome)
  &&decide (([e]:List Expr).length+([]:List Keyword).length+(if([]:List Keyword).isEmpty then 0 else 1)<30))=true
 line:(apos.endLine==cpos.line)=true
 trees:backTo cpos (starEach [e] X.env)=[(false,eval e X.env)]
theorem He{b a:Type}{f:b->a->Sem (ForInStep a)}{g:a->b->a}:∀{l:List b} (c:a),(∀x∈l,∀c,f x c=pure (.yield (g c x)))->forIn l c f=pure (l.foldl g c)
 | [],_,_=>rfl
 |x::l,c,h=>by
  rw[List.forIn_cons,h x (dh ..),pure_bind];exact He (g c x) λy d=>h y (dR _ d)
def nL(b:Env)(a:List (Str×Ad))(y:Str×NameKind):List (Str×Ad):=
 if y.2== .free then(match b.cells.lookup y.1 with|some c=>(y.1,c)::a|none=>a)else a
def qi(a:Env)(b:Scope):List (Str×Ad):=b.names.foldl (nL a) []
def Oe{a:Env}{b:Scope}(h:∀y∈b.names,y.2=.free->∃c,a.cells.lookup y.1=some c):closureFor b a=pure (qi a b):=by
 simp only[closureFor];rw[He (g:=nL a) [] λx i c=>?_]
 .rfl
 .obtain⟨n,k⟩:=x;by_cases f:k=.free
  .subst f;obtain⟨d,j⟩:=h _ i rfl;have e:a.cells.lookup n=some d:=j;simp only[nL,cellOf,e,beq_self_eq_true,if_true,pure_bind]
  .have l:(k==NameKind.free)=false:=by simpa using f
   simp only[nL,l,Bool.false_eq_true,if_false]
theorem At{a:Env}:∀(names:List (Str×NameKind)) (b:List (Str×Ad)),(∀y c,b.lookup y=some c->a.cells.lookup y=some c)->
  ∀y c,(names.foldl (nL a) b).lookup y=some c->a.cells.lookup y=some c
 | [],_,h=>h
 | (n,k)::r,b,h=>by
  refine At r _ λy c e=>?_;unfold nL at e;split at e
  .split at e
   .rename_i d i
    rw[pj]at e;cases f:y==n with
    |true=>
     rw[f]at e;have g:y=n:=eq_of_beq f;cases e;rw[g];exact i
    |false=>rw[f]at e;exact h y c e
   .exact h y c e
  .exact h y c e
theorem GC{e:Env}:∀(a:List (Str×NameKind)) (b:List (Str×Ad)) (y:Str),(∃c,b.lookup y=some c)->∃c,(a.foldl (nL e) b).lookup y=some c
 | [],_,_,h=>h
 | (n,k)::r,b,y,h=>by
  refine GC r _ y ?_;unfold nL;split
  .split
   .rename_i d f
    rw[pj];cases g:y==n with
    |true=>exact#[_,rZ]
    |false=>exact h
   .exact h
  .exact h
theorem GA{d:Env}:∀(a:List (Str×NameKind)) (b:List (Str×Ad)) (y:Str),a.lookup y=some .free->(∃c,d.cells.lookup y=some c)->∃c,(a.foldl (nL d) b).lookup y=some c
 | [],_,_,h,_=>by simp at h
 | (n,k)::r,b,y,h,e=>by
  rw[pj]at h;cases f:y==n with
  |true=>
   rw[f]at h;cases h;have g:y=n:=eq_of_beq f;subst g;obtain⟨c,e⟩:=e;refine GC r _ y ?_;refine#[c,?_];unfold nL;rw[wB (by rfl)];show List.lookup y (match d.cells.lookup y with|some c=>(y,c)::b|none=>b)=_
   rw[e];simp
  |false=>
   rw[f]at h;exact GA r _ y h e
theorem zZ{a:Env}:∀{names:List (Str×NameKind)} {y:Str} {k:NameKind},
  (names.map λ(n,k)=>if(k==NameKind.free&&a.scope.kind== .function&&a.kindOf n==some .cell)then(n,NameKind.cell)else(n,k)).lookup y=some k->
   names.lookup y=some k\/(names.lookup y=some .free/\k=.cell)
 | [],_,_,h=>by simp at h
 | (n,c)::r,y,k,h=>by
  have g:=@zZ a r y k;rw[eZ]at h;by_cases f:(c==NameKind.free&&a.scope.kind== .function&&a.kindOf n==some .cell)=true
  .have b:List.lookup y ((n,NameKind.cell)::(r.map λ(n,k)=>if(k==NameKind.free&&a.scope.kind== .function&&a.kindOf n==some .cell)then(n,NameKind.cell)else(n,k)))=some k:=by
    have e:(if(c==NameKind.free&&a.scope.kind== .function&&a.kindOf n==some .cell)=true then(n,NameKind.cell)else(n,c))=(n,NameKind.cell):=wB f;rw[<-e];exact h
   rw[pj]at b|-;cases d:y==n with
   | true=>
    rw[d]at b;cases b;have i:c=.free:=by
     rw[lW,lW]at f;exact eq_of_beq f.1.1
    exact .inr #[by rw[i],rZ]
   |false=>rw[d]at b;exact g b
  .have b:List.lookup y ((n,c)::(r.map λ(n,k)=>if(k==NameKind.free&&a.scope.kind== .function&&a.kindOf n==some .cell)then(n,NameKind.cell)else(n,k)))=some k:=by
    have e:(if(c==NameKind.free&&a.scope.kind== .function&&a.kindOf n==some .cell)=true then(n,NameKind.cell)else(n,c))=(n,c):=wA f;rw[<-e];exact h
   rw[pj]at b|-;cases d:y==n with
   |true=>rw[d]at b;exact .inl b
   |false=>rw[d]at b;exact g b
def AK(y:Str):Str:=#[#v[46]++y.cps]
def nM(a:Ss)(y:Str):Str:=if a.contains y=true then AK y else y
structure CompScope(X:Cx)(vs:Ss)(sc:Scope):Prop where
 kind:sc.kind=.function
 cell:∀y∈sc.names,y.2≠ .cell
 locs:∀y∈sc.names,y.2=.local->sc.names.lookup y.1=some .local
 own:∀y∈X.N.map (nM vs),sc.names.lookup y≠some .local
 hid:∀y∈vs,sc.names.lookup (AK y)=none
 nd:(vs++X.N.map (nM vs)).Nodup
 free:∀y∈sc.names,y.2=.free->X.env.kindOf y.1=some .cell\/X.env.kindOf y.1=some .free
def gi(X:Cx)(a:Ss)(b:Scope)(C:Ad)(s:Sh)(H:Hp)(c:As):Cx where
 prog:=X.prog
 w:=X.w
 K:=X.K
 mg:=X.mg
 base:=X.base
 A:=X.A
 N:=a++X.N.map (nM a)
 s₀:=s
 H₀:=H
 env:=compEnvC b (qi X.env b) C X.env
 outer:=X.stack
 stack:=X.stack
 ex:=c
 fn:=λ_=>false
 calm:=X.calm
 pn:=X.pn
 xe:=λ_ _=>False
def j3(a:Ss)(b:St):St:=List.replicate a.length none++b
section
variable{X:Cx}{g:AO}{f:St}{H:Hp}{s:Sh}{vs:Ss}{a:Scope}
def KH{C:Ad}{L:As}{E:Heap}{tk:Nat}{m0:SV}(S:CompScope X vs a)(I:Inv X g f H s)(M:∀b∈L,FpOk X g H b)(ho:∀b∈L,∃o,s.heap.get? b=some o)(k:∀b o,s.heap.get? b=some o->E.get? b=some o) (N:E.Ns C m0) (G:s.heap.objs.size<=C):Inv (gi X vs a C s H L) g (j3 vs f) H {s with heap:=E,toks:=tk}:=by
 have h:∀y c,(qi X.env a).lookup y=some c->X.env.cells.lookup y=some c:=At a.names [] λy c e=>by simp at e
 have fr:∀y,a.names.lookup y=some .free->X.env.kindOf y=some .cell\/X.env.kindOf y=some .free:=λy e=>S.free (y,.free) (o0 e) rfl;have O:∀y,(X.env.kindOf y=some .cell\/X.env.kindOf y=some .free)->∃c,X.env.cells.lookup y=some c:=λy e=>I.ok.has y e;have j:∀{y:Str} {J:NameKind},(relabel a X.env).names.lookup y=some J->J=.cell\/J=.free->a.names.lookup y=some .free:=λ{y J} e hk=>by
  rcases zZ (names:=a.names) e with z|⟨z,_⟩
  .rcases hk with q|q
   .subst q;exact wC rZ (S.cell _ (o0 z))
   .subst q;exact z
  .exact z
 have x:∀y,a.names.lookup y=some .free->∃c,(qi X.env a).lookup y=some c:=λy e=>GA a.names [] y e (O y (fr y e));have aa:∀y c,X.env.cells.lookup y=some c->c<s.heap.objs.size:=λy c e=>let⟨_,z⟩:=I.cell y c e;z.lt
 have kc:∀{c v},s.heap.IsCell c v->E.IsCell c v:=λ{c v} ⟨o,e,d⟩=>#[o,k _ _ e,d];refine#[#[I.ok.mod,S.kind,I.ok.glob,I.ok.blt,G,λy z c Q T=>I.ok.inj y z c (h y c Q) (h z c T),λy hy=>?_,λy c z _=>(nomatch z),I.ok.hd,I.ok.frames,.inl rZ,λb A=>#[?_,λy c e=>?_],I.bs,cW I.ok.bsz I.sz,λb o e A=>?_,λb A hs=>?_,I.stack,I.stkFree],
  rfl,I.bare,Un.kept k,#[m0,N,λi y v e1 B e3=>?_],λy c e=>?_,I.hok.fresh G,λy c e=>I.freeC y c (h y c e),λp hp=>?_,I.hok.kept k,?_]
 .have U:(relabel a X.env).names.lookup y=some .cell\/(relabel a X.env).names.lookup y=some .free:=hy
  rcases U with z|z
  .exact x y (j z (.inl rZ))
  .exact x y (j z (.inr rZ))
 .obtain⟨o,e⟩:=ho b A;exact dP (gm (cQ e) G)
 .exact(M b A).2.2.2.2.1 y c (h y c e)
 .obtain⟨_,_,_,z,_⟩:=M b A
  rcases z with z|z
  .exact I.ok.noex b o e z
  .exact wC (gm (cQ (I.ok.bs b o e).1) z) (kS _)
 .obtain⟨_,Q,T,_⟩:=M b A
  rcases dq.mp (I.stkSub b hs)with z|z
  .exact Q z
  .exact T z
 .have l:(vs++X.N.map (nM vs))[i]?=some y:=e1;have t:(List.replicate vs.length none++f)[i]?=some (some v):=B;have hi:vs.length<=i:=by
   by_cases z:i<vs.length
   .rw[eA (by simpa using z),List.getElem?_replicate]at t;split at t<;>cases t
   .lia
  rw[dZ hi]at l;rw[dZ (by simpa using hi),List.length_replicate]at t;have yN:y∈X.N.map (nM vs):=cH l;have D:(relabel a X.env).names.lookup y=some .local\/(relabel a X.env).names.lookup y=some .cell\/(relabel a X.env).names.lookup y=some .free:=e3;have w:a.names.lookup y=some .free:=by
   rcases D with z|z|z
   .rcases zZ (names:=a.names) z with q|⟨_,q⟩
    .exact wC q (S.own y yN)
    .cases q
   .exact j z (.inl rZ)
   .exact j z (.inr rZ)
  have l:X.N[i-vs.length]?=some y:=by
   rw[cr]at l;cases e:X.N[i-vs.length]? with
   |none=>rw[e]at l;cases l
   | some y0=>
    rw[e]at l;have B:nM vs y0=y:=fL l;unfold nM at B
    split at B
    .rename_i Y
     rw[<-B,S.hid y0 (by simpa using Y)]at w;cases w
    .rw[B]
  have ok:=fr y w;obtain⟨m,_,hl⟩:=I.loc;obtain⟨u,r,lk⟩:=hl (i-vs.length) y v l t (.inr ok);refine#[u,r,?_]
  rcases lk with⟨q,_⟩|⟨_,c,ec,Y⟩
  .rcases ok with z|z<;>rw[z]at q<;>cases q
  .obtain⟨c',e'⟩:=x y w;have:c'=c:=fL ((h y c' e').symm.trans ec);subst this;refine .inr #[?_,c',e',kc Y]
   rcases D with z|z|z
   .rcases zZ (names:=a.names) z with q|⟨_,q⟩
    .exact wC q (S.own y yN)
    .cases q
   .exact .inl z
   .exact .inr z
 .obtain⟨v,z⟩:=I.cell y c (h y c e);exact#[v,kc z]
 .obtain⟨e,n,ne,nf,d⟩:=I.pin p hp;refine#[k _ _ e,n,dP (gm (cQ e) G),λz=>?_,d]
  rcases dq.mp (I.stkSub p.1 z)with q|q
  .exact ne q
  .exact nf q
 .show(List.replicate vs.length none++f).length=(vs++X.N.map (nM vs)).length;rw[dA,dA,List.length_replicate,bZ,I.len]
def Inv.adopt{D:Ad}{h:List V}{a:Vs}{n:Nat}(I:Inv X g f H s)(i:h.length<=sizeLine)(j:Vals h a)(k:H D=none)(e:s.heap.get? D=some {cls:= .type "list",data:= .seq a.toArray n})
  (l:X.s₀.heap.objs.size<=D) (r:D≠X.env.locals) (t:∀x c,X.env.cells.lookup x=some c->c≠D) (v:∀p∈X.pn++g,p.1≠D):Inv X g f (bX H D (.lst h)) s:=by
 have nd:∀b u,H b=some u->b≠D:=λb u q z=>by rw[z,k]at q;cases q
 have q:=I.step (h':=s.heap) (H':=bX H D (.lst h)) (g':=s.gens) (t':=s.toks) (d':=s.drawn) (ch:=[D]) (λb d=>by
   have z:b=D:=by simpa using d
   subst z;exact#[.inr l,r,t,v])
  (λb o _ _ _ e _=>e) (λb o _ _ _ e _=>#[o.slots,e]) (λb o d _ n=>by rw[cf (λz=>d (by simp[z]))];exact n) (λb o _ e=>#[o,e])
  (λb w q=>by rw[cf (nd b _ q)];exact q) (λb o u q=>by rw[cf (nd b _ q)];exact q) (λb A q=>#[#v[],by rw[cf (nd b _ q),q];simp]) (λm y=>y) (λb u q=>?_) I.bare
 .exact q
 .by_cases d:b=D
  .subst d;rw[cb]at q;cases q;exact#[i,a,n,j,e]
  .rw[cf d]at q;exact(I.hok b u q).stay (λ_ _ _ z=>z) (λc z=>by rw[cf (nd c _ z)];exact z) λc w z=>by rw[cf (nd c _ z)];exact z
end
def rN(X:Cx)(a:List Expr)(t:TT):Prop:=
 ∀(d:AO) (s:Sh) (b:St) (H:Hp) (Q:Bool->Hp->Prop),Inv X d b H s->t b H Q->
  wpAny (model X.prog X.w) X.A (forIn a true λc r=>if r=true then do let ok <-isTrue c X.env (eval c X.env);pure (ForInStep.yield ok)else pure (ForInStep.yield r)) (TP X d b Q) X.xe s
def xI:TT:=λ_ H Q=>Q true H
def i8{c:St}{H:Hp}{F G:Hp->Prop}(h:F H):xI c H (λb a=>if b=true then F a else G a):=by
 show(if true=true then F H else G H);exact gA h
def gQ{X:Cx}:rN X [] xI:=λ_ _ _ H _ I h=>b9 #[H,I,h]
def pB{X:Cx}{c:Expr}{t:TT}(h:PT X c t):rN X [c] t:=λa s b H Q I q=>wpAny_tests_one (h a s b H Q I q)
theorem Nx{a:Pg}{w:World}{A:Ar}{R:Result->Sh->Prop}{s:Sh}{e l d:Expr}{f:List Expr}{p:Scope}{i:Pos}{it g:Vl}{b:Env}(j:Nat->Sh->Prop)(turn:∀n s,j n s->wpAny (model a w) A (pyNext it) (λr k=>match r with
   |none=>R (.ok .next) k
   | some v=>wpAny (model a w) A (letOwnedTupleGo l it v) (λ_ k=>wpAny (model a w) A (assign l b v) (λ_ t=>
     wpAny (model a w) A (forIn f true λc r=>if r=true then do let ok <-isTrue c b (eval c b);pure (ForInStep.yield ok)else pure (ForInStep.yield r)) (λok o=>
      if ok=true then wpAny (model a w) A (eval e b) (λy u=>wpAny (model a w) A (call (.builtin "list.append") [g,y]) (λ_ B=>∃m,m<n/\j m B) (λ_ _=>False) u) (λ_ _=>False) o
      else ∃m,m<n/\j m o) (λ_ _=>False) t) (λ_ _=>False) k) (λ_ _=>False) k) (λ_ _=>False) s)(n:Nat) (h:j n s):codeAny (model a w) A (.compLoop (.ListComp e [#[l,d,f,0]] p i) 0 it g b) R s:=by
 refine codeAny_loop rZ j (λn s G=>?_) n h;show wpAny _ A ((compTurn (.ListComp e [#[l,d,f,0]] p i) 0 it g b).onRaise (λx=>do noteFrame x b;theTreesLotGoes x)) _ _ s;refine wpAny_noted (gJ (E:=λ_ _=>False) ?_ (λ_ _ q=>q) λ_ _ z=>z.elim);rw[compTurn_list];refine bW (zL (bW (cB (turn n s G) λr k C=>?_)));cases r with
 |none=>exact b9 C
 |some v=>
  refine bW (cB C λ_ t H=>bW (cB H λ_ o I=>bW (cB I λok u D=>?_)));cases ok with
  |false=>exact b9 #[rZ,D]
  |true=>exact bW (bW (cB D λy B J=>bW (cB J λ_ M L=>b9 (b9 #[rZ,L]))))
def s9(b a:St):Prop:=∀(i:Nat) v,b[i]?=some (some v)->a[i]?=some (some v)
theorem hE{a:St}{x:Option V}:s9 (none::a) (x::a):=λi v e=>by
 cases i with
 |zero=>cases e
 |succ i=>exact e
theorem Dj{a:St}{x y:Option V}:s9 (none::none::a) (x::y::a):=λi v e=>by
 match i,e with
 |0,e=>cases e
 |1,e=>cases e
 |_+2,e=>exact e
section
variable{X:Cx}{w:AO}{A:St}{H:Hp}{s:Sh}{l:Ss}{k:Scope}{M q f:Expr}{t:List Expr}{B:Pos}{g:TG}{G:TT}{L:TE}
def pd(l:Ss)(g:TG)(G:TT)(L:TE)(A:St)(J:It)(H:Hp)(Fin:List V->Hp->Prop):Prop:=
 ∃W:Nat->Nat->List V->Hp->Prop,(∃m,W 0 m [] H)/\∀i m c H,W i m c H->
  (J.stop i H/\c.length<=sizeLine/\Fin c H)\/(J.go i H/\c.length<sizeLine/\∃N:List V->Hp->Prop,(∀e d,N e d->∃f,f<m/\W (i+1) f e d)/\
   ∀v d,J.yld i H v d->g v (j3 l A) d λa j=>s9 (j3 l A) a/\G a j λb h=>if b=true then L a h λy k=>N (c++[y]) k else N c h)
def El{J:It}{h:As}{it:Ad}{tn:Nat->Heap->Prop}{E:VP}{RR:Vl->Ad->Result->Sh->Prop}{Fin:List V->Hp->Prop}(S:CompScope X l k) (hc:X.calm=true) (hg:∀C s H h,PG (gi X l k C s H h) M g) (ht:∀C s H h,rN (gi X l k C s H h) t G) (he:∀C s H h,PE (gi X l k C s H h) q L)(I:Inv X w A H s) (T:b7z X.prog X.w X.K M J h it tn) (st:tn 0 s.heap) (hf:∀b∈h,FpOk X w H b) (hW:pd l g G L A J H Fin)(av:∀D C Q a U m',Inv X w A (bX a D (.lst U)) Q->a D=none->FpOk X w (bX a D (.lst U)) C->Q.heap.Ns C m'->Fin U a->RR (.ref D) C (.ok .next) Q):
  wpAny (model X.prog X.w) X.A (newList []) (λar s3=>wpAny (model X.prog X.w) X.A (newFunctionEnv k X.env.globals (qi X.env k) [] X.env.qual none .none (some X.env)) (λcenv s4=>
   codeAny (model X.prog X.w) X.A (.compStart (.ListComp q [#[M,f,t,0]] k B) 0 (.ref it) ar {cenv with scope:=relabel k X.env}) (RR ar cenv.locals) s4) E s3) E s:=by
 obtain⟨W,⟨m0,w0⟩,turn⟩:=hW;refine mw (wpAny_newFunctionEnv S.cell (by intro y hy;simp at hy) (λh1 ab Y=>?_) S.kind);dsimp only at ab Y|-;generalize am:s.heap.push {cls:= .type "list",dict:=none,data:= .seq ([]:Vs).toArray}=H2 at ab Y|-;have hC:H2.objs.size=s.heap.objs.size+1:=by rw[<-am,vq]
 generalize aI:H2.objs.size=C at ab Y hC|-;generalize ae:s.heap.objs.size=D at hC|-;have af:D≠C:=by lia
 have below:∀b o,s.heap.get? b=some o->b≠D/\b≠C:=λb o e=>by
  have z:b<s.heap.objs.size:=cQ e;rw[ae]at z;exact#[dP z,dP (by rw[hC];exact yo z)]
 have old:∀b o,s.heap.get? b=some o->h1.get? b=some o:=λb o e=>Y.extBut b o (below b o e).2 (cV _ (am▸cV _ e));have aw:h1.get? D=some {cls:= .type "list",data:= .seq ([]:Vs).toArray}:=
  Y.extBut _ _ af (cV _ (by rw[<-am,<-ae];exact dW _ rZ))
 have ai:∀b∈h,∃o,s.heap.get? b=some o:=λb m=>let⟨o,e,_⟩:=T.obj 0 _ st b m;#[o,e]
 have an:∀b∈h,b≠D/\b≠C:=λb m=>let⟨o,e⟩:=ai b m;below b o e
 have fD:∀a,a D=none->FpOk X w a D:=λa n=>I.fpOk () n;have fC:∀a,a C=none->FpOk X w a C:=λa n=>I.fpOk () n;have ax:∀p∈X.pn++w,p.1≠D:=λp hp=>(below _ _ (I.pin p hp).1).1;have ao:∀y c,(qi X.env k).lookup y=some c->c≠D:=λy c e=>by
  have e':=At k.names [] (λy c e=>by simp at e) y c e;obtain⟨v,z⟩:=I.cell y c e';have z':c<s.heap.objs.size:=z.lt;rw[ae]at z';exact dP z'
 have ay:∀b,b∈lH X.stack->∃o,s.heap.get? b=some o:=λb m=>let⟨_,o,ho,_⟩:=I.stack.mem m;#[o,ho]
 have az:D∉lH X.stack:=λz=>let⟨o,e⟩:=ay D z;(below _ _ e).1 rfl
 have ap:∀{pl:AO} {a:Hp},(∀p∈pl,p.1=D)->(∀b∈h,a b=none)->∀b∈h,FpOk (gi X l k C s H h) (w++pl) a b:=λ{pl a} aA hn b m=>by
  obtain⟨_,q1,q2,q3,q4,q5⟩:=hf b m;refine#[hn b m,(an b m).2,λz=>?_,.inl m,λy c e=>q4 y c (At k.names [] (λy c e=>by simp at e) y c e),λp hp=>?_]
  .rcases dq.mp (I.stkSub b z)with y|y
   .exact q1 y
   .exact q2 y
  .rcases cM.mp hp with z|z
   .exact q5 p (oC _ z)
   .rcases cM.mp z with y|y
    .exact q5 p (ft _ y)
    .rw[aA p y];exact eC (an b m).1
 have aj:∀s3:Sh,s3={s with heap:=h1,toks:=s.toks+([]:List (Str×Vl)).length}->
   codeAny (model X.prog X.w) X.A (.compLoop (.ListComp q [#[M,f,t,0]] k B) 0 (.ref it) (.ref D) (compEnvC k (qi X.env k) C X.env)) (RR (.ref D) C) s3:=by
  rintro s3 rfl;have I0:Inv (gi X l k C s H h) w (j3 l A) H {s with heap:=h1,toks:=s.toks+([]:List (Str×Vl)).length}:=KH S I hf ai old ab ();refine Nx (λn Q=>∃i U j no a,Inv (gi X l k C s H h) w (j3 l A) a Q/\tn i Q.heap/\(∀b∈h,a b=none)/\a D=none/\
   Q.heap.get? D=some {cls:= .type "list",data:= .seq j.toArray no}/\Vals U j/\W i n U a) ?_ m0
   #[0,[],[],0,H,I0,T.keep 0 _ _ st λb m o e=>old b o e,λb m=>(hf b m).1,I.hok.fresh (),aw,.nil,w0]
  rintro n Q ⟨i,U,j,no,a,I1,as,au,ag,aB,ah,w1⟩;have ak:Inv (gi X l k C s H h) (w++[(D,{cls:= .type "list",data:= .seq j.toArray no})]) (j3 l A) a Q:=I1.pins_of λp hp=>by
   rcases cM.mp hp with z|z
   .exact I1.pin p (ft _ z)
   .have e:p=(D,{cls:= .type "list",data:= .seq j.toArray no}):=by simpa using z
    subst e;exact#[aB,ag,af,az,λv z=>by have z':Data.seq _ _=Data.cell v:=z;cases z']
  have O:∀p∈[((D,{cls:= .type "list",data:= .seq j.toArray no}):Ad×Obj)],p.1=D:=λp hp=>by
   have e:p=(D,{cls:= .type "list",data:= .seq j.toArray no}):=by simpa using hp
   rw[e]
  rcases turn i n U a w1 with⟨stop,hz,fin⟩|⟨go,hz,N,hN,step⟩
  .refine cB (T.done (gi X l k C s H h) rZ rZ rZ hc i _ Q _ a (λ_ _=>False) ak (ap O au) as stop) λr s4 ⟨hr,I4⟩=>?_;subst hr;have d4:s4.heap.get? D=some {cls:= .type "list",data:= .seq j.toArray no}:=(I4.pin (D,_) (ft _ (ft _ (dh ..)))).1;have Io:Inv X w A a s4:=I.call' (H':=a) (ch:=h) I4.os I4.base I4.hok I4.bare λb m=>by
    obtain⟨_,q1,_,q3,q4,q5⟩:=hf b m;exact#[q3,q1,q4,q5]
   obtain⟨_,a1,_,a3,a4,a5⟩:=fD a ag;have Ia:=Io.adopt hz ah ag d4 (cW I.sz ()) a1 a4 a5;obtain⟨m4,aC,_⟩:=I4.loc;refine av D C s4 a U m4 Ia ag (fC _ ?_) aC fin;rw[cf (eC af)];exact I4.free
  .refine cB (T.item (gi X l k C s H h) rZ rZ rZ hc i _ Q _ a (λ_ _=>False) ak (ap O au) as go) λr s4 ⟨u,hr,h4⟩=>?_;subst hr;refine cB h4 λ_ s5 ⟨x,H5,I5,r5,y5,aq,aD⟩=>?_;have aE:=I5.pinned (ap O aD) (T.obj _ _ aq);refine cB (hg C s H h _ s5 _ H5 x u _ aE r5 (step x H5 y5)) λ_ s6 ⟨aa,H6,I6,k6,q6⟩=>?_;refine cB (ht C s H h _ s6 aa H6 _ I6 q6) λok s7 ⟨H7,I7,q7⟩=>?_;have al:(j3 l A).length=aa.length:=by rw[I1.len,I6.len]
   have pinned:∀{H8:Hp} {s8:Sh},Inv (gi X l k C s H h) (w++[(D,{cls:= .type "list",data:= .seq j.toArray no})]++wD h s5.heap) aa H8 s8->
     tn (i+1) s8.heap/\(∀b∈h,H8 b=none)/\H8 D=none/\s8.heap.get? D=some {cls:= .type "list",data:= .seq j.toArray no}:=λ{H8 s8} I8=>by
    refine#[T.keep _ _ _ aq λb m o e=>(I8.pin (b,o) (ft _ (ft _ (yk m e)))).1,λb m=>?_,?_,?_]
    .obtain⟨o,e,d⟩:=T.obj _ _ aq b m;exact(I8.pin (b,o) (ft _ (ft _ (yk m e)))).2.1
    .exact(I8.pin (D,_) (ft _ (oC _ (ft _ (dh ..))))).2.1
    .exact(I8.pin (D,_) (ft _ (oC _ (ft _ (dh ..))))).1
   cases ok with
   |false=>
    rw[wA (by decide)]at q7|-;obtain⟨m',hm,w7⟩:=hN _ _ q7;obtain⟨a1,a2,a3,a4⟩:=pinned I7;exact#[m',hm,i+1,U,j,no,H7,(I7.unpinned.unpinned).weak al k6,a1,a2,a3,a4,ah,w7]
   | true=>
    rw[wB rZ]at q7|-;refine cB (he C s H h _ s7 aa H7 _ I7 q7) λyv s8 ⟨y,H8,I8,r8,n8⟩=>?_;obtain⟨m',hm,w8⟩:=hN _ _ n8;obtain⟨a1,a2,a3,a4⟩:=pinned I8;have aF:j.toArray.size<=sizeLine:=by
     have:=ah.length;rw[dS];lia
    refine wpAny_list_append_plain #[no,a4] (λh' pl sb=>?_) aF;obtain⟨aG,aH⟩:=pl;have I9:Inv (gi X l k C s H h) w aa H8 {s8 with heap:=h'}:=(I8.unpinned.unpinned).turned (t':=s8.toks) (it:=D) (λb o m e=>(sb.2 b m).trans e) a3 af (.inr (px ae)) ao ax;refine#[m',hm,i+1,U++[y],j++[yv],aG,H8,I9.weak al k6,T.keep _ _ _ a1 λb m o e=>(sb.2 b (an b m).1).trans e,a2,a3,?_,ah.append (.cons r8 .nil),w8];rw[aH]
    simp
 exact codeAny_compStart_list (aj _ rZ) (T.self _ 0 _ _ _ (T.keep 0 _ _ st λb m o e=>old b o e) (aj _ rZ))
def yT(l:Ss)(b:TI)(g:TG)(G:TT)(L:TE):TE:=λA H Q=>b A H λJ c=>pd l g G L A J c λd a=>∀p,a p=none->Q (.ref p) (bX a p (.lst d))
def CompScope.clos{w:AO}{A:St}{H:Hp}{s:Sh}(S:CompScope X l k)(I:Inv X w A H s):closureFor k X.env=pure (qi X.env k):=
 Oe λy a b=>I.ok.has y.1 (S.free y a b)
def Dx{i:TI}(S:CompScope X l k)(j:X.calm=true)(m:PI X M f i)(n:∀C s H a,PG (gi X l k C s H a) M g)(ht:∀C s H a,rN (gi X l k C s H a) t G)(p:∀C s H a,PE (gi X l k C s H a) q L) (r:∀x,foldedSetIterable f X.env x=pure x:=by intro _;rfl):PE X (.ListComp q [#[M,f,t,0]] k B) (yT l i g G L):=by
 intro w s A H Q I h;rw[eval_ListComp];refine wpAny_comprehension_free (use:=none) rZ r (S.clos I) S.kind S.locs ?_;refine cB (m w s A H _ I h) λv s1 u=>cB u λy s2 z=>?_;obtain⟨it,a,tn,J,H2,e,E,T,c,N,O⟩:=z;subst e;refine El (RR:=λd C=>compPost (model X.prog X.w) X.A X.xe none (EP X w A Q) d C) S j n ht p E T c N O λD C U H' ys Y I' hD fC ns fin=>?_;obtain⟨c0,c1,c2,c3,c4,c5⟩:=fC;refine#[Y,ns,λh' sb=>#[.ref D,_,?_,rZ,fin D hD]];exact I'.turned (t':=U.toks) (it:=C) (λb o hb e=>(sb.2 b hb).trans e) c0 c1 c3 c4 c5
def Hs{x:Str}{p:Pos}(S:CompScope X [x] k)(a:k.names.lookup x=some .local):∀C s H b,PG (gi X [x] k C s H b) (.Name x p) (hI 0):=λC s H b=>
 fV S.nd rZ (.inl (uq a)) (.inr (uq a))
def gX{b:TI}{x:Str}{p:Pos}(S:CompScope X [x] k)(c:X.calm=true)(d:k.names.lookup x=some .local)(e:PI X (.Name x p) f b)(ht:∀C s H a,rN (gi X [x] k C s H a) t G)(g:∀C s H a,PE (gi X [x] k C s H a) q L) (h:∀x,foldedSetIterable f X.env x=pure x:=by intro _;rfl):PE X (.ListComp q [#[.Name x p,f,t,0]] k B) (yT [x] b (hI 0) G L):=
 Dx S c e (Hs S d) ht g h
def FT{O:TI}{j:Nat}{y:Str}{d c:Pos}(S:CompScope X l k)(hc:X.calm=true)(hN:X.N.Nodup)(hj:X.N[j]?=some y)(U:X.env.scope.names.lookup y=some .local)(hi:PI X M f O)(hg:∀C s H i,PG (gi X l k C s H i) M g)(ht:∀C s H i,rN (gi X l k C s H i) t G)(he:∀C s H i,PE (gi X l k C s H i) q L) (p:swapsWith (.ListComp q [#[M,f,t,0]] k B) (some (.Name y d)) c.line X.env=pure true:=by rfl) (hs:∀x,foldedSetIterable f X.env x=pure x:=by intro _;rfl):
  PS X (.Assign [.Name y d] (.ListComp q [#[M,f,t,0]] k B) c) (n4 (yT l O g G L) (hI j)):=by
 intro w s A H D I h;rw[exec_Assign_Name_used _ _ _ _ p];refine bW (zL (bW ?_));show wpAny _ X.A (do let _ <-comprehension (.ListComp q [#[M,f,t,0]] k B) k X.env _ (newList []) false (eval f X.env) (some (assign (.Name y d) X.env))) _ _ s;refine bW (gJ (wpAny_comprehension_free (use:=some (assign (.Name y d) X.env)) (Q:=λ_ m=>SP X w D .next m) rZ hs (S.clos I) S.kind S.locs ?_) (λ_ m hq=>b9 (b9 hq)) λ_ _ e=>e);refine cB (hi w s A H _ I h) λv s1 h1=>cB h1 λaa s2 h2=>?_;obtain⟨it,i,tn,J,H2,e,I2,T,r,f2,hW⟩:=h2;subst e;refine El (RR:=λu C=>compPost (model X.prog X.w) X.A X.xe (some (assign (.Name y d) X.env)) (λ_ m=>SP X w D .next m) u C) S hc hg ht he I2 T r f2 hW λn C m H' ys m' I' hD fC ns fin=>?_;obtain⟨c0,Y,c2,c3,c4,c5⟩:=fC;show wpAny _ X.A (assign (.Name y d) X.env (.ref n)) _ _ _;refine wpAny_assign_Name (ES (v:= .ref n) I' hN hj (.inl U) (show RelV (.ref n) (.ref n)from rfl) (λs3 I3 ⟨a,sb,ha⟩=>?_) (.inr U));have E:a≠C:=by
  rcases ha with z|z
  .rw[z];exact eC Y
  .exact c4 y a z
 refine#[m',ns.sameBut sb (eC E),λh' N=>#[_,_,I3.turned (t':=s3.toks) (it:=C) (λb o hb e=>(N.2 b hb).trans e) c0 Y c3 c4 c5,fin n hD]]
def xL{d:TI}{j:Nat}{x y:Str}{p e a:Pos}(S:CompScope X [x] k)(g:X.calm=true)(h:k.names.lookup x=some .local)(i:X.N.Nodup)(l:X.N[j]?=some y)(m:X.env.scope.names.lookup y=some .local)(n:PI X (.Name x p) f d)(ht:∀C s H b,rN (gi X [x] k C s H b) t G) (o:∀C s H b,PE (gi X [x] k C s H b) q L)(c:swapsWith (.ListComp q [#[.Name x p,f,t,0]] k B) (some (.Name y e)) a.line X.env=pure true:=by rfl) (r:∀x,foldedSetIterable f X.env x=pure x:=by intro _;rfl):
  PS X (.Assign [.Name y e] (.ListComp q [#[.Name x p,f,t,0]] k B) a) (n4 (yT [x] d (hI 0) G L) (hI j)):=FT S g i l m n (Hs S h) ht o c r
end
section
variable{K:O2}{a:Ad}{xs:List V}{h:Ss}{g:TG}{j:TT}{d:TE}{c:St}{H:Hp}{Fin:List V->Hp->Prop}
def Ou(Pv:Nat->List V->Hp->Prop)(B:xs.length<=sizeLine)(o:Pv 0 [] H)(r:∀i f H,i<=xs.length->Pv i f H->SqT K H a xs/\f.length<=i)(s:∀i v f H,xs[i]?=some v->Pv i f H->g v (j3 h c) H λk t=>s9 (j3 h c) k/\j k t λb n=>if b=true then d k n λy u=>Pv (i+1) (f++[y]) u else Pv (i+1) f n)(w:∀f H,Pv xs.length f H->Fin f H):pd h g j d c (zb K a) H Fin:=by
 refine#[λi m f H=>m=xs.length-i/\i<=xs.length/\Pv i f H,#[xs.length,by simp,Nat.zero_le _,o],?_];rintro i m f H ⟨rfl,x,p⟩;obtain⟨q,C⟩:=r i f H x p;by_cases l:i<xs.length
 .refine .inr #[#[xs,xs[i],q,by simp[l]],(),Pv (i+1),λD z A=>#[xs.length-(i+1),Nat.sub_succ_lt_self _ _ l,rZ,l,A],λv z y=>?_];obtain⟨e,y⟩:=y;subst e;exact s i v f _ (y xs q) p
 .have e:i=xs.length:=by lia
  subst e;exact .inl #[#[xs,q,cm _],(),w f H p]
def iX(Pv:Nat->List V->Hp->Prop)(B:xs.length<=sizeLine)(o:Pv 0 [] H)(r:∀i f H,i<=xs.length->Pv i f H->SqL K H a xs/\f.length<=i)(s:∀i v f H,xs[i]?=some v->Pv i f H->g v (j3 h c) H λk t=>s9 (j3 h c) k/\j k t λb n=>if b=true then d k n λy u=>Pv (i+1) (f++[y]) u else Pv (i+1) f n)(w:∀f H,Pv xs.length f H->Fin f H):pd h g j d c (rm K a) H Fin:=by
 refine#[λi m f H=>m=xs.length-i/\i<=xs.length/\Pv i f H,#[xs.length,by simp,Nat.zero_le _,o],?_];rintro i m f H ⟨rfl,x,p⟩;obtain⟨q,C⟩:=r i f H x p;by_cases l:i<xs.length
 .refine .inr #[#[xs,xs[i],q,by simp[l]],(),Pv (i+1),λD z A=>#[xs.length-(i+1),Nat.sub_succ_lt_self _ _ l,rZ,l,A],λv z y=>?_];obtain⟨e,y⟩:=y;subst e;exact s i v f _ (y xs q) p
 .have e:i=xs.length:=by lia
  subst e;exact .inl #[#[xs,q,cm _],(),w f H p]
def xT{lo:Int}{n:Nat}(Pv:Nat->List V->Hp->Prop)(A:n<=sizeLine)(o:Pv 0 [] H)(q:∀i a H,i<=n->Pv i a H->a.length<=i)(r:∀i a H,i<n->Pv i a H->g (.int (lo+i)) (j3 h c) H λk s=>s9 (j3 h c) k/\j k s λb l=>if b=true then d k l λy t=>Pv (i+1) (a++[y]) t else Pv (i+1) a l)(u:∀a H,Pv n a H->Fin a H):pd h g j d c (pR lo n) H Fin:=by
 refine#[λi m a H=>m=n-i/\i<=n/\Pv i a H,#[n,by simp,Nat.zero_le _,o],?_];rintro i m a H ⟨rfl,w,p⟩;have B:=q i a H w p;by_cases f:i<n
 .refine .inr #[f,(),Pv (i+1),λC x z=>#[n-(i+1),Nat.sub_succ_lt_self _ _ f,rZ,f,z],λv x y=>?_];obtain⟨e,y⟩:=y;subst e y;exact r i a _ f p
 .have e:i=n:=by lia
  subst e;exact .inl #[cm _,(),u a H p]
def vj{x:Str}{xs:List V}{f:V->V}(k:xs.length<=sizeLine)(l:SqT K H a xs)(m:∀v (Q:VK),v∈xs->Q (f v) H->d (some v::c) H Q)(n:Fin (xs.map f) H):
  pd [x] (hI 0) xI d c (zb K a) H Fin:=by
 refine Ou (λi g h=>h=H/\g=(xs.take i).map f) k #[rZ,rZ] (λi g h o ⟨e,b⟩=>?_) (λi v g h j ⟨e,b⟩=>#[hE,?_]) (λg h ⟨e,b⟩=>?_)
 .subst e b;exact#[l,by simp;lia]
 .subst e b;refine i8 (m v _ (cH j) #[rZ,?_]);rw[g9,j,dX];rfl
 .subst e b;rw[fN];exact n
def KN{x:Str}{xs:List V}{f:V->V}(k:xs.length<=sizeLine)(l:SqL K H a xs)(m:∀v (Q:VK),v∈xs->Q (f v) H->d (some v::c) H Q)(n:Fin (xs.map f) H):
  pd [x] (hI 0) xI d c (rm K a) H Fin:=by
 refine iX (λi g h=>h=H/\g=(xs.take i).map f) k #[rZ,rZ] (λi g h o ⟨e,b⟩=>?_) (λi v g h j ⟨e,b⟩=>#[hE,?_]) (λg h ⟨e,b⟩=>?_)
 .subst e b;exact#[l,by simp;lia]
 .subst e b;refine i8 (m v _ (cH j) #[rZ,?_]);rw[g9,j,dX];rfl
 .subst e b;rw[fN];exact n
def K9{x:Str}{lo:Int}{n:Nat}{f:Nat->V}(h:n<=sizeLine)(j:∀i (Q:VK),i<n->Q (f i) H->d (some (.int (lo+(i:Nat)))::c) H Q)(k:Fin ((List.range n).map f) H):
  pd [x] (hI 0) xI d c (pR lo n) H Fin:=by
 refine xT (λi b g=>g=H/\b=(List.range i).map f) h #[rZ,rZ] (λi b g m ⟨e,a⟩=>?_) (λi b g l ⟨e,a⟩=>#[hE,?_]) (λb g ⟨e,a⟩=>?_)
 .subst e a;simp
 .subst e a;refine i8 (j i _ l #[rZ,?_]);rw[ve,dX];rfl
 .subst e a;exact k
end
inductive Dt where
 |non|int (i:Int)|str (x:Str)|lst (ds:List Dt)|tup (ds:List Dt)
inductive Rep (K:O2) (H:Hp):Nat->Dt->V->Prop where
 |non (n:Nat):Rep K H n .non .non
 |int (n:Nat) (i:Int):Rep K H n (.int i) (.int i)
 |str (n:Nat) (x:Str):Rep K H n (.str x) (.str x)
 |lst {n:Nat} {ds:List Dt} {a:Ad} {xs:List V} (h:SqL K H a xs) (hl:xs.length=ds.length) (hi:∀(i:Nat) d v,ds[i]?=some d->xs[i]?=some v->Rep K H n d v):Rep K H (n+1) (.lst ds) (.ref a)
 |tup {n:Nat} {ds:List Dt} {a:Ad} {xs:List V} (h:SqT K H a xs) (hl:xs.length=ds.length) (hi:∀(i:Nat) d v,ds[i]?=some d->xs[i]?=some v->Rep K H n d v):Rep K H (n+1) (.tup ds) (.ref a)
def vf{e:Type}{c d:List e}(f:c.length=d.length)(h:∀(i:Nat) a b,c[i]?=some a->d[i]?=some b->a=b):c=d:=by
 refine qp f λi g j=>?_;exact h i _ _ (by simp[g]) (by simp[j])
section
variable{X:Cx}{c:AO}{k:St}{H:Hp}{s:Sh}
def F9{a:Ad}{b d:List V}(I:Inv X c k H s)(h:SqL X.K H a b)(e:SqT X.K H a d):False:=by
 obtain⟨_,_,p,_⟩:=I.list h;obtain⟨_,_,q,_⟩:=I.tuple e;exact SeqAt.ne_of_list_tuple p.isList (show s.heap.IsTuple a _ from q) rfl
def DQ(I:Inv X c k H s):∀(n:Nat) {d f:Dt} {v:V},Rep X.K H n d v->Rep X.K H n f v->d=f:=by
 intro n
 induction n with
 |zero=>
  intro d f v r g;cases r<;>cases g<;>rfl
 | succ n y=>
  intro d f v r g;cases r with
  |non=>cases g;rfl
  |int=>cases g;rfl
  |str=>cases g;rfl
  | @lst _ z a j h p t=>
   cases g with
   | @lst _ u _ w l m o=>
    have e:=I.list_inj h l;subst e;refine dw Dt.lst (vf (p.symm.trans m) λi d f q x=>?_);have b:i<j.length:=by rw[p];exact(cg.mp q).1
    exact y (t i d j[i] q (b8 b)) (o i f j[i] x (b8 b))
   |tup l _ _=>exact(F9 I h l).elim
  | @tup _ z a j h p t=>
   cases g with
   |lst l _ _=>exact(F9 I l h).elim
   | @tup _ u _ w l m o=>
    have e:=I.tuple_inj h l;subst e;refine dw Dt.tup (vf (p.symm.trans m) λi d f q x=>?_);have b:i<j.length:=by rw[p];exact(cg.mp q).1
    exact y (t i d j[i] q (b8 b)) (o i f j[i] x (b8 b))
def EM{f c:List Dt}(n:f.length=c.length){e:Nat->Bool}{N:Nat}(o:N=f.length)(k:∀(j:Nat) d l,f[j]?=some d->c[j]?=some l->(e j=true↔d=l)):((List.range N).all e=true↔f=c):=by
 subst o;rw[tu];constructor
 .intro h;refine vf n λi a b m p=>?_;exact(k i a b m p).mp (h i (eU.mpr (cg.mp m).1))
 .intro h i q;have g:=eU.mp q;subst h;exact(k i f[i] f[i] (by simp[g]) (by simp[g])).mpr rfl
def LG{P:Nat->Bool->Prop}(h:∀j,∃b,P j b):∃e:Nat->Bool,∀j,P j (e j):=#[λj=>Classical.choose (h j),λj=>ti (h j)]
def Gr{A:Ar}{its its':Vs}{ds ds':List Dt}(o:its.length=ds.length)(p:its'.length=ds'.length)(h:∀(j:Nat) u f d a,its[j]?=some u->its'[j]?=some f->ds[j]?=some d->ds'[j]?=some a->∃b,SeqAt.EqAt A s u f b/\(b=true↔d=a)):
  ∃e:Nat->Bool,(∀j (i:j<its.toArray.size) (k:j<its'.toArray.size),SeqAt.EqAt A s its.toArray[j] its'.toArray[j] (e j))/\∀(j:Nat) d a,ds[j]?=some d->ds'[j]?=some a->(e j=true↔d=a):=by
 obtain⟨e,l⟩:=LG (P:=λj b=>(∀u f,its[j]?=some u->its'[j]?=some f->SeqAt.EqAt A s u f b)/\∀d a,ds[j]?=some d->ds'[j]?=some a->(b=true↔d=a)) λj=>by
  by_cases g:j<its.length/\j<its'.length
  .obtain⟨b,m,n⟩:=h j its[j] its'[j] (ds[j]'()) (ds'[j]'()) (by simp[g.1]) (by simp[g.2]) (List.getElem?_eq_getElem _) (List.getElem?_eq_getElem _);refine#[b,λu f q c=>?_,λd a q c=>?_]
   .rw[b8 g.1]at q;rw[b8 g.2]at c;cases q;cases c;exact m
   .rw[b8 ()]at q;rw[b8 ()]at c;cases q;cases c;exact n
  .refine#[true,λu f q c=>wC #[(cg.mp q).1,(cg.mp c).1] g,λd a q c=>?_];have r:=(cg.mp q).1;have t:=(cg.mp c).1;exact wC #[(),()] g
 refine#[e,λj i k=>?_,λj=>(l j).2];simp only[List.size_toArray]at i k;exact(l j).1 _ _ (by simp[i]) (by simp[k])
def AX(I:Inv X c k H s){n:Nat}{A:Ar}(m:A.units<cLine){d o:Dt}{a t:Ad}(r:Rep X.K H (n+1) d (.ref a))(r':Rep X.K H (n+1) o (.ref t))(ih:∀{d o:Dt} {v v':V} {u O:Vl},Rep X.K H n d v->Rep X.K H n o v'->RelV v u->RelV v' O->∃b,SeqAt.EqAt A.in1 s u O b/\(b=true↔d=o)):
  ∃b,SeqAt.RcAt A s (.ref a) (.ref t) b/\SeqAt.RcNeAt A s (.ref a) (.ref t) (!b)/\(b=true↔d=o):=by
 cases r with
 | @lst _ ds _ y h hl Q=>
  obtain⟨its,B,p,_⟩:=I.list h;have l1:=B.length;cases r' with
  | @lst _ ds' _ f w x l=>
   obtain⟨its',g,i,_⟩:=I.list w;have l2:=g.length;by_cases C:ds.length=ds'.length
   .obtain⟨e,D,T⟩:=Gr (A:=A.in1) (s:=s) (its:=its) (its':=its') (ds:=ds) (ds':=ds') () () λj u O d o U Y E G=>by
     have g1:=(cg.mp E).1;have g2:=(cg.mp G).1;have J:y[j]?=some (y[j]'()):=b8 _;have L:f[j]?=some (f[j]'()):=b8 _;obtain⟨w1,M,y1⟩:=B.get J;obtain⟨w2,N,y2⟩:=g.get L;rw[U]at M;rw[Y]at N;cases M;cases N;exact ih (Q j d _ E J) (l j o _ G L) y1 y2
    have q:its.toArray.size=its'.toArray.size:=by simp only[List.size_toArray];lia
    refine#[_,SeqAt.RcAt.lists p.isList i.isList q m D,SeqAt.RcNeAt.lists p.isList i.isList q m D,?_];rw[EM C (by simp only[List.size_toArray];lia) T];exact#[λz=>by rw[z],λz=>by cases z;rfl]
   .have q:(its.toArray.size != its'.toArray.size)=true:=by
     rw[bne_iff_ne];simp only[List.size_toArray];lia
    refine#[false,SeqAt.RcAt.lists_lengths p.isList i.isList q m,SeqAt.RcNeAt.lists_lengths p.isList i.isList q m,#[λz=>(by cases z),λz=>?_]];cases z;exact wC rZ C
  | @tup _ ds' _ f w x l=>
   obtain⟨its',g,i,_⟩:=I.tuple w;exact#[false,SeqAt.RcAt.list_tuple p.isList (show s.heap.IsTuple t _ from i) m,SeqAt.RcNeAt.list_tuple p.isList (show s.heap.IsTuple t _ from i) m,#[λz=>(by cases z),λz=>(by cases z)]]
 | @tup _ ds _ y h hl Q=>
  obtain⟨its,B,p,_⟩:=I.tuple h;have l1:=B.length;cases r' with
  | @lst _ ds' _ f w x l=>
   obtain⟨its',g,i,_⟩:=I.list w;exact#[false,SeqAt.RcAt.tuple_list (show s.heap.IsTuple a _ from p) i.isList m,SeqAt.RcNeAt.tuple_list (show s.heap.IsTuple a _ from p) i.isList m,#[λz=>(by cases z),λz=>(by cases z)]]
  | @tup _ ds' _ f w x l=>
   obtain⟨its',g,i,_⟩:=I.tuple w;have l2:=g.length;obtain⟨e,D,T⟩:=Gr (A:=A.in1) (s:=s) (its:=its) (its':=its') (ds:=ds) (ds':=ds') () () λj u O d o U Y E G=>by
     have g1:=(cg.mp E).1;have g2:=(cg.mp G).1;have J:y[j]?=some (y[j]'()):=b8 _;have L:f[j]?=some (f[j]'()):=b8 _;obtain⟨w1,M,y1⟩:=B.get J;obtain⟨w2,N,y2⟩:=g.get L;rw[U]at M;rw[Y]at N;cases M;cases N;exact ih (Q j d _ E J) (l j o _ G L) y1 y2
   refine#[_,SeqAt.RcAt.tuples (show s.heap.IsTuple a _ from p) (show s.heap.IsTuple t _ from i) m D,SeqAt.RcNeAt.tuples (show s.heap.IsTuple a _ from p) (show s.heap.IsTuple t _ from i) m D,?_];by_cases C:ds.length=ds'.length
   .have q:(its.toArray.size==its'.toArray.size)=true:=by
     rw[qh];simp only[List.size_toArray];lia
    rw[q,Bool.and_true,EM C (by simp only[List.size_toArray];lia) T];exact#[λz=>by rw[z],λz=>by cases z;rfl]
   .have q:(its.toArray.size==its'.toArray.size)=false:=by
     rw[mH];simp only[List.size_toArray];lia
    rw[q,Bool.and_false];refine#[λz=>(by cases z),λz=>?_];cases z;exact wC rZ C
def FW{n m:Nat}{d b:Dt}{v a:V}(r:Rep X.K H n d v)(c:Rep X.K H m b a)(f:iT v=true)(e:iT a=true):(m5 v a=true↔d=b):=by
 cases r<;>first|(cases f;done)|skip
 all_goals (cases c<;>first|(cases e;done)|skip)
 all_goals first|exact#[λ_=>rfl,λ_=>rfl]|exact#[λz=>Bool.noConfusion z,λz=>by cases z]|exact#[λz=>dw Dt.int (eq_of_beq z),λz=>by injection z with z;exact qh.mpr z]|exact#[λz=>dw Dt.str (eq_of_beq z),λz=>by injection z with z;exact qh.mpr z]
def wm(I:Inv X c k H s):∀(n:Nat) {A:Ar},A.units+n<cLine->∀{d y:Dt} {v o:V} {u B:Vl},Rep X.K H n d v->Rep X.K H n y o->RelV v u->RelV o B->∃b,SeqAt.EqAt A s u B b/\(b=true↔d=y):=by
 intro n
 induction n with
 |zero=>
  intro A M d y v o u B r g q j;have f:iT v=true:=by cases r<;>rfl
  have e:iT o=true:=by cases g<;>rfl
  exact#[_,yX q j f e,FW r g f e]
 | succ n N=>
  intro A M d y v o u B r g q j;by_cases f:iT v=true
  .by_cases e:iT o=true
   .exact#[_,yX q j f e,FW r g f e]
   .refine#[false,?_,#[λz=>(by cases z),λz=>?_]]
    .cases g with
     |non=>exact wC rZ e
     |int=>exact wC rZ e
     |str=>exact wC rZ e
     | @lst _ C a D h E G=>
      cases j;obtain⟨l,_,p,_⟩:=I.list h;cases r with
      |non=>cases q;exact SeqAt.EqAt.none_list p.isList ()
      |int _ i=>obtain⟨t,rfl⟩:=q;exact SeqAt.EqAt.int_list i t p.isList ()
      |str _ x=>obtain⟨t,rfl⟩:=q;exact SeqAt.EqAt.str_list x t p.isList ()
      |lst _ _ _=>cases f
      |tup _ _ _=>cases f
     | @tup _ C a D h E G=>
      cases j;obtain⟨l,_,p,_⟩:=I.tuple h;have w:s.heap.IsTuple a l.toArray:=p;cases r with
      |non=>cases q;exact SeqAt.EqAt.none_tuple w ()
      |int _ i=>obtain⟨t,rfl⟩:=q;exact SeqAt.EqAt.int_tuple i t w ()
      |str _ x=>obtain⟨t,rfl⟩:=q;exact SeqAt.EqAt.str_tuple x t w ()
      |lst _ _ _=>cases f
      |tup _ _ _=>cases f
    .subst z;cases r<;>first|(cases f;done)|skip
     all_goals (cases g;exact wC rZ e)
  .by_cases e:iT o=true
   .refine#[false,?_,#[λz=>(by cases z),λz=>?_]]
    .cases r with
     |non=>exact wC rZ f
     |int=>exact wC rZ f
     |str=>exact wC rZ f
     | @lst _ C a D h E G=>
      cases q;obtain⟨l,_,p,_⟩:=I.list h;cases g with
      |non=>cases j;exact SeqAt.EqAt.list_none p.isList ()
      |int _ i=>obtain⟨t,rfl⟩:=j;exact SeqAt.EqAt.list_int i t p.isList ()
      |str _ x=>obtain⟨t,rfl⟩:=j;exact SeqAt.EqAt.list_str x t p.isList ()
      |lst _ _ _=>cases e
      |tup _ _ _=>cases e
     | @tup _ C a D h E G=>
      cases q;obtain⟨l,_,p,_⟩:=I.tuple h;have w:s.heap.IsTuple a l.toArray:=p;cases g with
      |non=>cases j;exact SeqAt.EqAt.tuple_none w ()
      |int _ i=>obtain⟨t,rfl⟩:=j;exact SeqAt.EqAt.tuple_int i t w ()
      |str _ x=>obtain⟨t,rfl⟩:=j;exact SeqAt.EqAt.tuple_str x t w ()
      |lst _ _ _=>cases e
      |tup _ _ _=>cases e
    .subst z;cases g<;>first|(cases e;done)|skip
     all_goals (cases r;exact wC rZ f)
   .have J:∀{m:Nat} {d:Dt} {v:V},Rep X.K H m d v-> ¬iT v=true->∃a,v=.ref a:=λ{m d v} r f=>by
     cases r<;>first|exact#[_,rZ]|exact wC rZ f
    obtain⟨a,rfl⟩:=J r f;obtain⟨O,rfl⟩:=J g e;cases q;cases j;by_cases L:a=O
    .subst L;exact#[true,SeqAt.EqAt.same _,#[λ_=>DQ I (n+1) r g,λ_=>rfl]]
    .obtain⟨b,Q,_,T⟩:=AX I (A:=A) () r g λr g q j=>N (A:=A.in1) (by show A.units+1+n<cLine;lia) r g q j;exact#[b,.of_refs L Q,T]
inductive jv(K:O2)(c:Bool)(x y:V)(H:Hp)(Q:VK):Prop|mk:∀a e n d f,x=.ref a->y=.ref e->Rep K H (n+1) d (.ref a)->Rep K H (n+1) f (.ref e)->n<=30->(∀b,(b=true↔d=f)->Q (.bl (if c then !b else b)) H)->jv K c x y H Q
def z8(m:X.A.units+64<cLine):OpR X (compareOp .Eq) (jv X.K false):=by
 intro c s k H x y v u Q I f g h;obtain⟨a,o,n,d,p,rfl,rfl,r,e,t,q⟩:=h;cases f;cases g;obtain⟨b,i,_,j⟩:=AX I (A:=X.A) () r e λr e q l=>wm I n (A:=X.A.in1) (by show X.A.units+1+n<cLine;lia) r e q l;exact i _ _ _ _ #[.bl b,H,I,rZ,q b j]
def ra(m:X.A.units+64<cLine):OpR X (compareOp .NotEq) (jv X.K true):=by
 intro c s k H x y v u Q I f g h;obtain⟨a,o,n,d,p,rfl,rfl,r,e,t,q⟩:=h;cases f;cases g;obtain⟨b,_,i,j⟩:=AX I (A:=X.A) () r e λr e q l=>wm I n (A:=X.A.in1) (by show X.A.units+1+n<cLine;lia) r e q l;exact i _ _ _ _ #[.bl (!b),H,I,rZ,q b j]
end
def G4{K:O2}{H:Hp}{n:Nat}{is:Zs}(i:Nat)(d:Dt)(v:V)(a:(is.map Dt.int)[i]?=some d)(b:(is.map V.int)[i]?=some v):Rep K H n d v:=by
 rw[cr]at a b;cases e:is[i]? with
 |none=>rw[e]at a;cases a
 |some k=>
  rw[e]at a b;cases a;cases b;exact .int n k
def Ce{K:O2}{H:Hp}{n:Nat}{is:Zs}{a:Ad}(h:SqL K H a (is.map V.int)):Rep K H (n+1) (.lst (is.map Dt.int)) (.ref a):= .lst h (by simp) G4
def Cu{K:O2}{H:Hp}{n:Nat}{is:Zs}{a:Ad}(h:SqT K H a (is.map V.int)):Rep K H (n+1) (.tup (is.map Dt.int)) (.ref a):= .tup h (by simp) G4
theorem vh{e i:Type}{f:e->i}(g:∀a b,f a=f b->a=b):∀{c d:List e},c.map f=d.map f->c=d
 | [],[],_=>rfl
 | [],_::_,h=>by simp at h
 |_::_,[],h=>by simp at h
 |a::c,b::d,h=>by
  simp only[List.map_cons,List.cons.injEq]at h;rw[g a b h.1,vh g h.2]
def mL{c d:Zs}:Dt.tup (c.map Dt.int)=Dt.tup (d.map Dt.int)↔c=d:=
 #[λh=>by injection h with h;exact vh (λa b e=>by injection e) h,λh=>by rw[h]]
def i4(n:Nat):List V:=(List.range n).map λ(i:Nat)=>V.int (i:Int)
section
variable{X:Cx}
inductive m9(a:List V)(H:Hp)(Q:VK):Prop|mk:∀j:Int,a=[.int j]->(∀p,H p=none->Q (.ref p) (bX H p (.rng 0 j)))->m9 a H Q
def C9:hG X (.type "range") m9:=by
 intro a s c H d f Q I r h;obtain⟨j,rfl,q⟩:=h;obtain⟨u,rfl,t,rfl⟩:=gD r;refine call_range_1 #[.ref s.heap.objs.size,_,I.laid (t':=s.toks+1+1) (λb o e=>cV _ e) (cm _) (show ObjOk X.prog X.w _ _ _ (.rng 0 j)from#[_,_,_,dW _ rZ]),rZ,q _ (I.hok.fresh (cm _))]
def ET{n:Nat}{f:AV}(h:ItemsOf (λi v=>∃t,v=Value.int ((0:Int)+(i:Nat) * 1) t) f n):Vals (i4 n) f.toList:=by
 obtain⟨l,m⟩:=h;have go:∀(d:List V) (c:Vs),d.length=c.length->(∀(j:Nat) x u,d[j]?=some x->c[j]?=some u->RelV x u)->Vals d c:=by
  intro d
  induction d with
  |nil=>intro c g _;cases c with
   |nil=>exact .nil
   |cons=>simp at g
  |cons x d o=>
   intro c g h;cases c with
   |nil=>simp at g
   |cons u c=>exact .cons (h 0 x u rZ rZ) (o c (by simpa using g) λj a b e k=>h (j+1) a b (by simpa using e) (by simpa using k))
 refine go _ _ (by simp[i4,l]) λj x u e k=>?_;obtain⟨t,rfl⟩:=m j u (by simpa using k);unfold i4 at e;rw[cr]at e;have p:j<n:=by
  have:=(cg.mp k).1;simpa[l]using this
 rw[ko p]at e;cases e;refine#[t,?_]
 congr 1
 lia
def Hw{j:Int}(a:0<=j)(b:j<=1000000):Builtin.Range.small 0 j 1=true:=small_one (by decide) (by decide) () ()
def Hf{j:Int}(a:0<=j):Builtin.Range.rangeSize 0 j 1=(j.toNat:Nat):=by
 rw[rangeSize_one];split<;>lia
inductive iY(a:List V)(H:Hp)(Q:VK):Prop|mk:∀p j,a=[.ref p]->H p=some (.rng 0 j)->0<=j->j<=1000000->(∀l,H l=none->Q (.ref l) (bX H l (.lst (i4 j.toNat))))->iY a H Q
def MB(g:X.calm=true):hG X (.type "list") iY:=by
 intro w s x H y z Q I r h;obtain⟨p,j,rfl,i,c,k,q⟩:=h;obtain⟨u,rfl,l⟩:=gD r;cases l;obtain⟨A,B,C,e⟩:=I.hok p _ i;refine call_list_range (I.ok.hd g) e (Hw c k) (Hf c) () λd m a f n o b=>?_;have t:=ET b;have v:d.get? s.heap.objs.size=some {cls:= .type "list",data:= .seq a.toList.toArray f}:=by simpa using o
 exact#[.ref s.heap.objs.size,_,I.laid (t':=m) n (cm _) (show ObjOk X.prog X.w _ d _ (.lst (i4 j.toNat))from#[by rw[cS];simp[i4];lia,a.toList,f,t,v]),rZ,q _ (I.hok.fresh (Nat.le_refl _))]
end
section
open AutoSeq1 (wpAny_loadPart')
abbrev zn(j:Int)(a:AV):Prop:=ItemsOf (λi v=>∃t,v=Value.int ((0:Int)+(i:Nat) * 1) t) a j.toNat
def Iq{k:Pg}{w:World}{A:Ar}{E:VP}{s:Sh}{Q:Vs->Sh->Prop}{r:Ad}{j:Int}{t u v:Tok}(C:A.handled=none)(y:IsRange s.heap r 0 j 1 t u v)(B:0<=j)(D:j<=1000000)(G:∀d i c,(∀b o,s.heap.get? b=some o->d.get? b=some o)->zn j c->Q c.toList {s with heap:=d,toks:=i}):wpAny (model k w) A (collect (.ref r)) Q E s:=by
 have H:(s.heap.push {cls:= .type "list",data:= .seq ([]:Vs).toArray}).get? s.heap.objs.size=some {cls:= .type "list",data:= .seq #v[] 0}:=by exact dW _ rfl
 unfold collect;refine wpAny_bind (wpAny_runValue (codeAny_builtin F.entry_proto_collect ?_));rw[Around.under_plainId F.plain_proto_collect _];show wpAny _ A.in1 (newList [] >>= λl=>again (.builtin "list.__iadd__" #[[l,.ref r],[]])) _ _ s;refine bW (mw (b9 #[mI F.plain_list_iadd _,mX F.entry_list_iadd ?_]));rw[oW F.plain_list_iadd _];show wpAny _ A.in1 (Builtin.List.listExtendWith (.ref s.heap.objs.size) (.ref r) (.ref s.heap.objs.size)) _ _ _;have m:∀n,(∃d i c p,n={s with heap:=d,toks:=i}/\(∀b o,s.heap.get? b=some o->d.get? b=some o)/\d.get? s.heap.objs.size=some {cls:= .type "list",dict:=none,data:= .seq c p,slots:= #v[]}/\zn j c)->
   wpAny (model k w) A (match Value.ref s.heap.objs.size with
    | Value.ref a=>do
     let o <-load a
     match o.data with
      |Data.seq I _=>pure I.toList
      |_=>unsupported "internal:collect"
    |_=>unsupported "internal:collect") Q E n:=by
  rintro n ⟨d,i,c,p,rfl,z,q,x⟩;show wpAny _ A (load s.heap.objs.size >>= _) _ _ _;exact bW (wpAny_load q (b9 (G d i c z x)))
 refine gJ (wpAny_extend_range (A:=A) (R:=λr n=>r=.ok (.ret (.ref s.heap.objs.size))/\∃d i c p,n={s with heap:=d,toks:=i}/\(∀b o,s.heap.get? b=some o->d.get? b=some o)/\d.get? s.heap.objs.size=some {cls:= .type "list",dict:=none,data:= .seq c p,slots:= #v[]}/\zn j c)
  (s:={s with heap:=s.heap.push {cls:= .type "list",data:= .seq ([]:Vs).toArray}}) C (cV _ y) (Hw B D) (Hf B) () _ (.ref s.heap.objs.size) 0 H λd i c p z q x=>
   #[rZ,d,i,c,p,rZ,λb o e=>z b o (dP (cQ e)) (cV _ e),q,x]) (λfin n h=>?_) (λe n h=>wC h.1 (by simp))
 cases fin with
 |done f=>obtain⟨e,g⟩:=h;cases e;exact m _ g
 |again p=>exact#[h.1,mD h.2 λr J y=>by obtain⟨rfl,g⟩:=y;exact m _ g]
def Oj(r:Ad)(j:Int)(t u v:Tok)(q:0<=j)(x:j<=1000000):Meets (Builtin.«tuple.__new__» #[[.type "tuple",.ref r],[]]) (λA R s=>A.handled=none/\IsRange s.heap r 0 j 1 t u v/\∀(c:Heap) i a,(∀b o,s.heap.get? b=some o->c.get? b=some o)->zn j a->
   R (.ok (.ret (.ref c.objs.size))) {s with heap:=c.push {cls:= .type "tuple",data:= .seq a},toks:=i}):=
 .of_wp λn w A R s h=>by
  obtain⟨y,g,d,i,os⟩:=s;obtain⟨z,k,h⟩:=h;have p:=sub_tuple_self;have l:=init_tuple_lookup;have B:=madeHere_tuple
  have hT:Shared.TypeIs #[y,g,d,i,os] (.ref r) "range":=#[_,k,rZ]
  wp_walk using CT k,yU hT,Iq (A:=A.in1) z k q x
  intro c m a C f;show wpAny _ _ (Builtin.Tuple.tupleExact a.toList.toArray >>= λv=>ret v) _ _ _;have D:a.toList.toArray.size<=sizeLine:=by
   have:=f.1;rw[cS];simp only[List.size_toArray,Array.length_toList];lia
  unfold Builtin.Tuple.tupleExact;refine wpAny_bind (wpAny_newObj_type (wpAny_pure #[_,rZ,?_]) D);have e:a.toList.toArray=a:=by simp
  rw[e];exact h c m a C f
end
section
variable{X:Cx}
inductive lG(a:List V)(H:Hp)(Q:VK):Prop|mk:∀p j,a=[.ref p]->H p=some (.rng 0 j)->0<=j->j<=1000000->(∀l,H l=none->Q (.ref l) (bX H l (.tup (i4 j.toNat))))->lG a H Q
def Ec(m:X.calm=true):hG X (.type "tuple") lG:=by
 intro i s k H E G Q I r h;obtain⟨p,j,rfl,n,t,v,q⟩:=h;obtain⟨u,rfl,w⟩:=gD r;cases w;obtain⟨x,y,z,e⟩:=I.hok p _ n;refine callType_new F.called_tuple (by decide) (F.typeCall_tuple_1 _) (F.newCall_tuple_1 _) (λd=>F.args_object_init_2 d _) F.entry_tuple_new (Oj p j x y z t v) #[I.ok.hd m,e,λc f a A g=>#[#[_,dW _ rZ,rZ],?_]];have B:=ET g;have l:Inv X i k H {s with heap:=c,toks:=f}:=I.kept A;have C:(i4 j.toNat).length<=sizeLine:=by rw[cS];simp[i4];lia
 have D:Inv X i k (bX H c.objs.size (.tup (i4 j.toNat))) {s with heap:=c.push {cls:= .type "tuple",data:= .seq a},toks:=f}:=
  l.laid (t':=f) (λb o e=>cV _ e) (cm _) (show ObjOk X.prog X.w _ _ _ (.tup (i4 j.toNat))from#[C,a.toList,B,by simpa using TupD.new c a])
 exact#[.ref c.objs.size,_,D,rZ,q _ (l.hok.fresh (cm _))]
end
structure CompSc(N:Ss)(osc:Scope)(vs:Ss)(sc:Scope):Prop where
 kind:sc.kind=.function:=by rfl
 cell:∀y∈sc.names,y.2≠ .cell:=by decide+kernel
 locs:∀y∈sc.names,y.2=.local->sc.names.lookup y.1=some .local:=by decide+kernel
 own:∀y∈N.map (nM vs),sc.names.lookup y≠some .local:=by decide+kernel
 hid:∀y∈vs,sc.names.lookup (AK y)=none:=by decide+kernel
 nd:(vs++N.map (nM vs)).Nodup:=by decide+kernel
 free:∀y∈sc.names,y.2=.free->osc.names.lookup y.1=some .cell\/osc.names.lookup y.1=some .free:=by decide+kernel
def CompSc.to{X:Cx}{N:Ss}{osc:Scope}{vs:Ss}{a:Scope}(h:CompSc N osc vs a)(b:X.N=N:=by rfl)(c:X.env.scope=osc:=by rfl):CompScope X vs a:=by
 subst b c;exact#[h.kind,h.cell,h.locs,h.own,h.hid,h.nd,h.free]
def cT(P:Pg)(w:World)(K:O2)(mg:SV)(base:Heap)(x:Str)(k:Nat)(a:Ss)(c:Sp):Prop:=
 ∃f b,FnOk P w K mg base cL k f b a c/\mg x=some (.ref f)/\PySem.W.keepIn K (.ref f)=true/\Binds K b a []
def cX{X:Cx}{x:Str}{k:Nat}{h:Ss}{g:Sp}{e:Expr}{a:List Expr}{t:TA}{p d:Pos}(c:cT X.prog X.w X.K X.mg X.base x k h g)(i:Room k X.A)(j:Gl X x)(l:PA X (e::a) t)(n:(x==("__debug__":Str))=false:=by decide) (o:starEach (e::a) X.env=(false,eval e X.env)::starEach a X.env:=by rfl) (q:(backTo d (starEach a X.env)).any (·.1)=false:=by rfl):
  PE X (.Call (.Name x p) (e::a) [] d) (xF g [] E0 t):=by
 obtain⟨f,s,F,m,r,b⟩:=c;exact Ie F i j m r b .nil wP l n o q
def IxR.k{X:Cx}{K:O2}(r:O2->R2)(h:IxR X (r X.K))(a:X.K=K):IxR X (r K):=a▸h
def OpR.k{X:Cx}{K:O2}{f:Vl->Vl->Sem Vl}(r:O2->R2)(h:OpR X f (r X.K))(a:X.K=K):OpR X f (r K):=a▸h
def cn{H:Hp}{p:Ad}(h:H p=none)(o:HO):Same H (bX H p o):=λb u q=>by rw[cf (di q h)];exact q
def small{n:Nat}(h:n<=1000):n<=sizeLine:=jc (Kj h)
abbrev nv(n:Nat):V:= .int (n:Int)
def rh(a:bV):a.map nv=(a.map λ(n:Nat)=>(n:Int)).map V.int:=by rw[eY];rfl
def Nr{c d:bV}:(c.map λ(n:Nat)=>(n:Int))=(d.map λ(n:Nat)=>(n:Int))↔c=d:=
 #[λh=>vh (λa b e=>zH e) h,λh=>by rw[h]]
def FS{K:O2}{H:Hp}{n:Nat}{is:bV}{a:Ad}(h:SqL K H a (is.map nv)):Rep K H (n+1) (.lst ((is.map λ(n:Nat)=>(n:Int)).map Dt.int)) (.ref a):=Ce (by rw[<-rh];exact h)
def fQ{K:O2}{H:Hp}{n:Nat}{is:bV}{a:Ad}(h:SqT K H a (is.map nv)):Rep K H (n+1) (.tup ((is.map λ(n:Nat)=>(n:Int)).map Dt.int)) (.ref a):=Cu (by rw[<-rh];exact h)
def cJ{a b:bV}:Dt.tup ((a.map λ(n:Nat)=>(n:Int)).map Dt.int)=Dt.tup ((b.map λ(n:Nat)=>(n:Int)).map Dt.int)↔a=b:=mL.trans Nr
def rR{a:bV}{k:Nat}(h:k<a.length):jx (a.map nv) (k:Int)=some (nv (a.getD k 0)):=j6 (by rw[cr,b8 h,cP,b8 h];rfl)
def xt(H:Hp)(b:List V)(Q:VK):Prop:=∀r a,Same H a->a r=some (.tup b)->Q (.ref r) a
def A8(t:TS):TS:=λD c H=>∃S:St->Hp->Prop,t {D with nx:=S} c H/\∀a b,S a b->D.nx a b
def yq{X:Cx}{st:Stmt}{t:TS}(h:PS X st t):PS X st (A8 t):=by
 intro c s d H D I q;obtain⟨S,e,g⟩:=q;refine cB (h c s d H _ I e) λf j z=>?_;cases f with
 |next=>obtain⟨a,b,i,z⟩:=z;exact#[a,b,i,g a b z]
 |brk=>exact z
 |cont=>exact z
 |ret u=>exact z
def iq{H a:Hp}{l:Ad}{o:HO}(g:Same H a)(c:H l=none):Same H (bX a l o):=λb u e=>by rw[cf (di e c)];exact g b u e
def N9{a:Zs}{k:Nat}(h:k<a.length):jx (a.map V.int) (k:Int)=some (.int (a.getD k 0)):=j6 (by rw[cr,b8 h,cP,b8 h];rfl)
def zx{n k:Nat}(h:k<n):ov n (k:Int)=some k:=by
 unfold ov;rw[wB (),wB (),iI]
def xM(c:Int){n:Nat}(h:1<=n):V.int (c%(n:Int))=nv (c%(n:Int)).toNat/\(c%(n:Int)).toNat<n:=by
 have a:=AG c (by lia:(n:Int)≠0);have b:=yP c (by lia:(0:Int)<(n:Int));refine#[?_,()];show V.int _=V.int (((c%(n:Int)).toNat:Nat):Int);rw[Int.toNat_of_nonneg a]
def yi(a:bV)(j v:Nat):(a.map nv).set j (nv v)=(a.set j v).map nv:=(List.map_set).symm
def yw{a:bV}{j v n:Nat}(h:∀y∈a,y<n)(b:v<n):∀y∈a.set j v,y<n:=by
 intro y c
 rcases List.mem_or_eq_of_mem_set c with z|z
 .exact h y z
 .rw[z];exact b
def dt{a:bV}{j n:Nat}(h:∀y∈a,y<n)(b:j<a.length):a.getD j 0<n:=by
 rw[cP,b8 b];exact h _ (iw b)
def MJ{P:Pg}{w:World}{a:Ad}{c:Type}[DecidableEq c]{kd:HeapKind P w c}(d:(a==sysModules)=false):
  MeetsIn P w (Builtin.«dict.__len__» #[[.ref a],[]]) λ_ R s=>∃b,s.heap.DictOfH kd a b/\R (.ok (.ret (.int b.length s.toks))) {s with toks:=s.toks+1}:=
 .of_wp λA R s ⟨b,e,q⟩=>by
  obtain⟨k,f,l,g,m,h,i,_⟩:=e;have j:f.size=b.length:=wN i;show wpAny _ _ (dictSize a >>= _) _ _ s;unfold dictSize;refine bW (bW (nH g h (b9 (bW (wpAny_pendingCount_other d (wpAny_ret_mkInt ?_))))));rw[xg,j];exact q
def JZ{P:Pg}{w:World}{A:Ar}{E:VP}{s:Sh}{a:Ad}{c:Type}[DecidableEq c]{e:HeapKind P w c}{b:List (c×Ad×Vl)}{Q:VP}(f:(a==sysModules)=false)(d:s.heap.DictOfH e a b) (few:(b.length:Int)<2 ^ 63) (q:Q (.int b.length (s.toks+1)) {s with toks:=s.toks+1+1}):wpAny (model P w) A (Builtin.«len» #[[.ref a],[]]) (λfin g=>∃r,fin=.done (.ret r)/\Q r g) E s:=by
 have h: ¬((b.length:Nat):Int)<0:=by lia
 have i: ¬((b.length:Nat):Int)>=2 ^ 63:=by lia
 unfold Builtin.«len»;refine bW (m:=oneArg "len" _) (b9 (bW (m:=callSpecial? (.ref a) (Str.ofString "__len__")) ?_));refine oB (name:=Str.ofString "__len__") d.typeIs F.slot_dict_len (call_meetsIn F.slot_dict_len d.typeIs F.entry_dict_len (F.args_dict_len_1 _) (MJ (kd:=e) f) #[b,d,?_]);show wpAny _ _ _ _ _ {s with toks:=s.toks+1};refine bW (gf (b9 (bW (rj ?_))));show wpAny _ _ (if((b.length:Nat):Int)<0 then _ else(if((b.length:Nat):Int)>=2 ^ 63 then _ else _)) _ _ _;rw[wA h,wA i];exact bW (wpAny_mkInt (b9 #[_,rZ,q]))
section
variable{X:Cx}
def MQ:hG X (.builtin "len") (λd H Q=>∃a b,d=[V.ref a]/\H a=some (.dT b)/\Q (.int b.length) H):=by
 intro l s m H d n Q I r h;obtain⟨a,b,rfl,f,q⟩:=h;obtain⟨u,rfl,g⟩:=gD r;cases g;obtain⟨z,i,j,c,k⟩:=Dh I.hok f;have e:b.length=j.length:=oG c;refine Ag kind_len plain_len entry_len (args_len1 _) (JZ i k (by rw[<-e];rw[cS]at z;lia) ?_);exact#[.int b.length,H,I.tok _,#[_,by rw[e]],q]
end
def nk(xs:bV):List cy:=xs.map λ(n:Nat)=>(Sum.inl (n:Int):cy)
def gO(a:bV):(nk a).map kV=a.map nv:=by
 unfold nk;rw[eY];rfl
def sh{c d:bV}(h:nk c=nk d):c=d:=by
 unfold nk at h;exact vh (λa b e=>by injection e with e;exact zH e) h
section
variable{X:Cx}
inductive mN(K:O2)(x y:V)(H:Hp)(Q:VK):Prop|mk:∀l b a c,x=.ref l->y=.ref b->SqL K H l a->SqL K H b c->a.length+c.length<=sizeLine->(∀p,H p=none->Q (.ref p) (bX H p (.lst (a++c))))->mN K x y H Q
def Dp:OpR X (binaryOp .Add) (mN X.K):=by
 intro E s G H x y v u Q I p t h;obtain⟨l,b,J,L,rfl,rfl,w,z,M,q⟩:=h;cases p;cases t;obtain⟨c,r,⟨⟨N,O,T,A⟩,n,e,i,j,k⟩,_⟩:=I.list w;obtain⟨a,m,⟨⟨U,Y,k2,B⟩,C,o,d,f,g⟩,_⟩:=I.list z;simp only at i j k d f g;subst i j k d f g;have l1:=r.length;have l2:=m.length;have D:c.toArray++a.toArray=(c++a).toArray:=by simp
 refine concat_meets #[_,e,rZ] #[_,o,rZ] noFill_list_add seq_list_add F.slot_list_add F.entry_list_add (F.args_list_add_2 _ _) (list_addW l b c.toArray a.toArray n C none none A B (by simp only[List.size_toArray];lia)) #[e,o,?_];rw[D];exact#[.ref _,_,I.lnew (t':=s.toks) (r.append m) (by rw[dA];lia),rZ,q _ I.fresh]
end
section
variable{X:Cx}
inductive wI(K:O2)(a:List V)(H:Hp)(Q:VK):Prop|mk:∀(p:Ad) (bs:List Bool),a=[.ref p]->SqL K H p (bs.map V.bl)->Q (.bl (bs.all id)) H->wI K a H Q
def Oa(n:X.calm=true):hG X (.builtin "all") (wI X.K):=by
 intro G s J H L M Q I r h;obtain⟨p,bs,rfl,t,q⟩:=h;obtain⟨u,rfl,w⟩:=gD r;cases w;obtain⟨a,g,j,_⟩:=I.list t;have k:=j.isList;have f:p<s.heap.objs.size:=j.lt;have c:a.length=bs.length:=by rw[<-g.length,bZ]
 refine call_all_walk (vZ k #[_,_,_,_,_,_,λi=>bs.getD i false,rZ,Walks.list (A:=X.A.in1) (I.ok.hd n) _ p (dP f) a.toArray,#[#[_,dW _ rZ,rZ,rZ],k.push _],?_,λN O y=>?_])
 .intro i v T U Y B C;have d:a[i]?=some v:=by simpa using B
  have l:i<bs.length:=by rw[<-c];exact(cg.mp d).1
  obtain⟨u2,m,D⟩:=g.get (i:=i) (x:= .bl (bs.getD i false)) (by rw[cr,b8 l,cP,b8 l];rfl);rw[d]at m;cases m;cases(show v=Value.bool _ from D);exact pV C
 .have e:(List.range a.toArray.size).all (λi=>bs.getD i false)=bs.all id:=by
   rw[dS,c];have:bs=(List.range bs.length).map λi=>bs.getD i false:=by
    refine qp (by simp) λi E h2=>?_;simp[List.getD_eq_getElem?_getD,E]
   conv=>rhs;rw[this,List.all_map]
   rfl
  rw[e];exact#[.bl (bs.all id),H,I.kept λb o z=>y b o (by simp only[List.mem_singleton];exact Nat.ne_of_lt (Heap.lt_size z)) (Heap.get?_push_of_some _ z),rZ,q]
end
structure PL(X:Cx)(es:List Expr)(t:TA):Prop where
 pa:PA X es t
section
variable{X:Cx}{e a b:Expr}{c:List Expr}{d g i:TE}{t:TA}{f:Pos}
def cZ:PL X [] i9:=#[cj]
def ci(a:PE X e d)(b:PL X c t)(f:starEach (e::c) X.env=(false,eval e X.env)::starEach c X.env):PL X (e::c) (i5 d t):=#[cu a b.pa f]
def c7(h:PL X c t):PA X c t:=h.pa
end
end L2
namespace Cyc
def beh(a b:bV):bV:=a.map λx=>b.getD x 0
def b7z(t:bV):Prop:=∀x∈t,x<t.length
def it(t:bV)(r:Nat):Nat->Nat
 |0=>r
 |k+1=>t.getD (it t r k) 0
def pw(t:bV):Nat->List Nat
 |0=>List.range t.length
 |k+1=>beh (pw t k) t
def dt{t:bV}(h:b7z t){x:Nat}(a:x<t.length):t.getD x 0<t.length:=by
 rw[cP,b8 a];exact h _ (iw a)
theorem C5{t:bV}(h:b7z t){r:Nat}(a:r<t.length):∀k,it t r k<t.length
 |0=>a
 |k+1=>dt h (C5 h a k)
theorem wZ(t:bV):∀k,pw t k=(List.range t.length).map λr=>it t r k
 |0=>by
  show List.range t.length=_;have:(List.range t.length).map (λr=>it t r 0)=(List.range t.length).map id:=hK λr _=>rfl;rw[this,oi]
 |k+1=>by
  show beh (pw t k) t=_;rw[wZ t k];unfold beh;rw[eY];rfl
def Iv{t:bV}{i j:Nat}:pw t i=pw t j↔ ∀r,r<t.length->it t r i=it t r j:=by
 rw[wZ,wZ];constructor
 .intro h r a;have e:=dw (λl:bV=>l[r]?) h;simpa[List.getElem?_map,List.getElem?_range a]using e
 .intro h;exact hK λr a=>h r (eU.mp a)
def Ke(t:bV)(k:Nat):(pw t k).length=t.length:=by rw[wZ];simp
def ED{t:bV}(h:b7z t)(k:Nat):∀x∈pw t k,x<t.length:=by
 intro x a;rw[wZ]at a;obtain⟨r,b,rfl⟩:=cq.mp a;exact C5 h (eU.mp b) k
theorem GG:∀(n:Nat) (f:Nat->Nat),(∀k,k<=n->f k<n)->∃i j,i<j/\j<=n/\f i=f j
 |0,f,h=>wC (h 0 (cm _)) (mh _)
 | n+1,f,h=>by
  by_cases e:∃i,i<=n/\f i=f (n+1)
  .obtain⟨i,g,e⟩:=e;exact#[i,n+1,(),cm _,e]
  .have ne:∀i,i<=n->f i≠f (n+1):=λi g q=>e #[i,g,q];obtain⟨i,j,l,m,o⟩:=GG n (λk=>if f k=n then f (n+1)else f k) λk p=>by
    have a:=h k ();have b:=h (n+1) (cm _);have c:=ne k p;show(if f k=n then f (n+1)else f k)<n
    split<;>lia
   refine#[i,j,l,(),?_];have r:=ne i ();have s:=ne j m;have d:(if f i=n then f (n+1)else f i)=(if f j=n then f (n+1)else f j):=o
   split at d<;>split at d<;>lia
structure Ring{α:Type}(x:Nat->α)(i c:Nat):Prop where
 pos:0<c
 back:x (i+c)=x i
 apart:∀a b,a<b->b<i+c->x a≠x b
def Fj{o:Type}{x:Nat->o}{F:o->o}(q:∀k,x (k+1)=F (x k)){i c:Nat}(R:Ring x i c):∀b a,a<b->(x a=x b↔(i<=a/\c ∣ b-a)):=by
 have f:∀k,x (i+k+c)=x (i+k):=by
  intro k
  induction k with
  |zero=>exact R.back
  |succ k d=>
   have g:i+(k+1)+c=(i+k+c)+1:=by lia
   have j:i+(k+1)=(i+k)+1:=by lia
   rw[g,j,q,q,d]
 have l:∀m k,x (i+k+m * c)=x (i+k):=by
  intro m
  induction m with
  |zero=>intro k;simp
  |succ m d=>
   intro k;have e:i+k+(m+1) * c=i+(k+m * c)+c:=by rw[Nat.add_mul];lia
   rw[e,f,<-d k]
   congr 1
   lia
 intro b
 induction b using Nat.strongRecOn with
 | _ b d=>
  intro a n;constructor
  .intro h;by_cases t:b<i+c
   .exact wC h (R.apart a b n t)
   .have u:=R.pos;have e:x b=x (b-c):=by
     have g:b=i+(b-c-i)+c:=by lia
     have j:b-c=i+(b-c-i):=by lia
     rw[j]
     conv=>lhs;rw[g]
     exact f _
    rw[e]at h;by_cases r:a<b-c
    .obtain⟨s,p⟩:=(d (b-c) () a r).mp h;refine#[s,?_];have:b-a=(b-c-a)+c:=by lia
     rw[this];exact Nat.dvd_add p (Nat.dvd_refl c)
    .by_cases v:a=b-c
     .refine#[(),?_];have:b-a=c:=by lia
      rw[this];exact Nat.dvd_refl c
     .obtain⟨s,p⟩:=(d a n (b-c) ()).mp h.symm;have:=Nat.le_of_dvd () p;lia
  .rintro⟨r,m,w⟩;have g:a=i+(a-i):=by lia
   have j:b=i+(a-i)+m * c:=by
    rw[Nat.mul_comm];lia
   conv=>rhs;rw[j]
   rw[l,<-g]
def G9{d:Type}[DecidableEq d](x:Nat->d):∀(N:Nat),(∃a b,a<b/\b<=N/\x a=x b)->∃i c,Ring x i c/\i+c<=N:=by
 intro N
 induction N with
 |zero=>rintro⟨a,b,e,g,_⟩;lia
 | succ N j=>
  rintro⟨a,b,e,g,f⟩;by_cases h:∃a b,a<b/\b<=N/\x a=x b
  .obtain⟨i,c,R,o⟩:=j h;exact#[i,c,R,()]
  .have p:b=N+1:=by
    by_cases q:b<=N
    .exact wC #[a,b,e,q,f] h
    .lia
   refine#[a,b-a,#[(),?_,λk l m r n=>h #[k,l,m,(),n]],()];have:a+(b-a)=b:=by lia
   rw[this,f]
def Mj{t:bV}(h:b7z t){r:Nat}(a:r<t.length):∃i c,Ring (it t r) i c/\i+c<=t.length:=
 G9 _ _ (let⟨i,j,b,d,e⟩:=GG t.length (it t r) λk _=>C5 h a k;#[i,j,b,d,e])
def qd:Nat->Nat
 |0=>1
 |n+1=>(n+1) * qd n
theorem Ft:∀(n c:Nat),0<c->c<=n->c ∣ qd n
 |0,c,a,b=>by lia
 | n+1,c,a,b=>by
  by_cases h:c=n+1
  .rw[h];exact Nat.dvd_mul_right _ _
  .exact Nat.dvd_trans (Ft n c a ()) (Nat.dvd_mul_left _ _)
theorem BK:∀n,0<qd n
 |0=>Nat.one_pos
 |n+1=>Nat.mul_pos (Nat.succ_pos n) (BK n)
def Oi{t:bV}(h:b7z t):pw t t.length=pw t (t.length+qd t.length):=by
 rw[Iv];intro r a;obtain⟨i,c,R,d⟩:=Mj h a;have b:=R.pos;refine(Fj (F:=λy=>t.getD y 0) (λ_=>rfl) R _ _ (by have:=BK t.length;lia)).mpr #[(),?_];have:t.length+qd t.length-t.length=qd t.length:=by lia
 rw[this];exact Ft _ _ b ()
def Tn(n:Nat)(t:bV):Prop:=t.length=n/\∀x∈t,x<n
def Tn.turn{n:Nat}{t:bV}(h:Tn n t):b7z t:=λx a=>by rw[h.1];exact h.2 x a
def cO{x y z:bV}(h:∀a∈x,a<y.length):beh (beh x y) z=beh x (beh y z):=by
 unfold beh;rw[eY];refine hK λa b=>?_;have c:=h a b;show z.getD (y.getD a 0) 0=(y.map λx=>z.getD x 0).getD a 0;rw[cP (l:=y),cP (l:=y.map _),cr,b8 c];rfl
def vT{n:Nat}{x y z:bV}(b:Tn n x)(c:Tn n y):beh (beh x y) z=beh x (beh y z):=cO λa d=>by rw[c.1];exact b.2 a d
def eO{n:Nat}{y:bV}(a:y.length=n):beh (List.range n) y=y:=by
 refine lR λi=>?_;unfold beh;rw[cr];by_cases h:i<n
 .rw[ko h,b8 ()];show some (y.getD i 0)=_;rw[cP,b8 ()];rfl
 .rw[ie (by simp;lia),List.getElem?_eq_none ()];rfl
def pw_one(t:bV):pw t 1=t:=eO rfl
def EQ{n:Nat}{t:bV}(h:Tn n t)(k:Nat):Tn n (pw t k):=#[by rw[Ke,h.1],λx a=>by have:=ED h.turn k x a;rw[h.1]at this;exact this]
theorem FG{n:Nat}{t:bV}(h:Tn n t)(a:Nat):∀b,beh (pw t a) (pw t b)=pw t (a+b)
 | 0=>by
  show beh (pw t a) (List.range t.length)=pw t a;unfold beh;have:(pw t a).map (λx=>(List.range t.length).getD x 0)=(pw t a).map id:=hK λx c=>by
   have d:=ED h.turn a x c;rw[cP,ko d];rfl
  rw[this,oi]
 |b+1=>by
  show beh (pw t a) (beh (pw t b) t)=beh (pw t (a+b)) t;rw[<-FG h a b,vT (EQ h a) (EQ h b)]
def Idem(e:bV):Prop:=beh e e=e
instance (e:bV):Decidable (Idem e):=inferInstanceAs (Decidable (beh e e=e))
def ring_of{t:bV}(h:b7z t):∃b c,Ring (pw t) b c/\b+c<=t.length+qd t.length:=G9 _ _ #[t.length,t.length+qd t.length,by have:=BK t.length;lia,cm _,Oi h]
def idem_ex{n:Nat}{t:bV}(h:Tn n t){b c:Nat}(R:Ring (pw t) b c):Idem (pw t (c * (b+1))):=by
 show beh _ _=_;have a:=R.pos;have d:c * (b+1)>=b+1:=Nat.le_mul_of_pos_left _ a;rw[FG h];refine((Fj (F:=λp=>beh p t) (λ_=>rfl) R _ _ ()).mpr #[(),?_]).symm;rw[Nat.add_sub_cancel];exact Nat.dvd_mul_right _ _
def wn(t:bV):Prop:=∃c,1<=c/\pw t (c+1)=t
def In(t e:bV):Prop:=wn t/\∃k,1<=k/\pw t k=e
section
open Classical
noncomputable def gp (a:LN) (e:bV) (i:Nat):bV:=(List.range i).filter λk=>decide (In (a.getD k []) e)
end
end Cyc
namespace L2
open PySem PySem.Spec PyProof.Rows
def vW(op:CmpOp)(A:Ar)(s:Sh)(x y:Vl)(r:Bool):Prop:=
 ∀(P:Pg) (w:World) (E:VP) (Q:VP),Q (.bool r) s->wpAny (model P w) A (richCompare op x y) Q E s
inductive Cmp (op:CmpOp) (A:Ar) (s:Sh):List (Vl×Vl)->Option Bool->Prop where
 |nil:Cmp op A s [] none
 |eq {x y zs o}:SeqAt.EqAt A s x y true->Cmp op A s zs o->Cmp op A s ((x,y)::zs) o
 |ne {x y zs r}:SeqAt.EqAt A s x y false->vW op A s x y r->Cmp op A s ((x,y)::zs) (some r)
def SeqObj(c:String)(h:Heap)(a:Ad)(b:Vs):Prop:=∃n d sl,h.get? a=some #[.type c,d,.seq b.toArray n,sl]
section
variable{P:Pg}{w:World}{A:Ar}{E:VP}{s:Sh}{a:CmpOp}
def Kb{i:Type}{f:Vl×Vl->i->Sem (ForInStep i)}{d:i}{Q:i->Sh->Prop}{j:List (Vl×Vl)}{o:Option Bool}(h:Cmp a A s j o)(k:∀x y Q,SeqAt.EqAt A s x y true->Q (.yield d) s->wpAny (model P w) A (f (x,y) d) Q E s)(no:∀x y r,SeqAt.EqAt A s x y false->vW a A s x y r->o=some r->wpAny (model P w) A (f (x,y) d) (λt g=>match t with|.yield _=>False|.done b=>Q b g) E s)(fin:o=none->Q d s):wpAny (model P w) A (forIn j d f) Q E s:=by
 refine yf f (λrest b g=>b=d/\g=s/\Cmp a A s rest o) Q (λz rest b g q=>?_) (λb g q=>?_) j d #[rZ,rZ,h]
 .obtain⟨rfl,rfl,c⟩:=q;cases c with
  |eq e c=>exact k _ _ _ e #[rZ,rZ,c]
  |ne e c=>
   refine gJ (no _ _ _ e c rZ) (λt l z=>?_) λ_ _ z=>z;cases t with
   |yield _=>exact z.elim
   |done _=>exact z
 .obtain⟨rfl,rfl,c⟩:=q;cases c;exact fin rfl
end
section
open AutoSeq1
open MeetsSeq MeetsSeq2 MeetsSeq3 SeqRoads2 SeqAt
variable{l b:Ad}{a d:Vs}
def JW:Meets (Builtin.«tuple.__lt__» #[[.ref l,.ref b],[]]) (λA R s=>SeqObj "tuple" s.heap l a/\SeqObj "tuple" s.heap b d/\∃o,Cmp .Lt A.in1 s (a.zip d) o/\R (.ok (.ret (.bool (o.getD (decide (a.length<d.length)))))) s):=by
 refine .of_wp λP w A R ⟨h,p,t,k,os⟩ ⟨⟨n,u,sl,f⟩,⟨m,v,tl,i⟩,o,c,q⟩=>?_;have sub:=AutoSeq1.sub_tuple_tuple
 wp_walk using CT f,CT i
 refine Kb c (λx y Q e z=>?_) (λx y r e j z=>?_) (λz=>?_)
 .refine bW (e P w _ _ ?_)
  wp_walk
  exact z
 .refine bW (e P w _ _ ?_);generalize g:richCompare .Lt x y=ask
  wp_walk
  subst g;refine j P w _ _ ?_
  wp_walk
  subst z;exact#[_,rZ,q]
 .subst z
  wp_walk
  exact#[_,rZ,by simpa[Builtin.Tuple.tupleCompareSizes]using q]
end
def hA:bV->List Nat->Option Bool
 |a::c,b::d=>if a=b then hA c d else some (decide (a<b))
 |_,_=>none
def d8(a b:bV):Bool:=(hA a b).getD (decide (a.length<b.length))
def qa(b:bV):d8 b b=false:=by
 have no:hA b b=none:=by
  induction b with
  |nil=>rfl
  |cons a b c=>rw[hA,wB rZ,c]
 unfold d8;rw[no];simp
section
variable{A:Ar}{s:Sh}{l b:Ad}{a d:Vs}{o:Option Bool}
def Ks{i j:Int}{t u:Tok}:vW .Lt A s (.int i t) (.int j u) (decide (i<j)):=λP w E Q q=>show wpAny _ _ (compareOp .Lt _ _) _ _ _ from PyProof.Rows.lt_int q
def fA{i j:Int}{t u:Tok}:SeqAt.EqAt A s (.int i t) (.int j u) (decide (i=j)):=by
 have z:=yX (A:=A) (s:=s) (y:= .int i) (x:= .int j) (u:= .int i t) (v:= .int j u) #[t,rZ] #[u,rZ] rZ rfl;have e:m5 (.int i) (.int j)=decide (i=j):=by
  show(i==j)=_;by_cases h:i=j<;>simp[h]
 rwa[e]at z
theorem Fh{op:CmpOp}{F:Bool->Bool}(f:∀(i j:Nat) (t u:Tok),i≠j->vW op A s (.int (i:Int) t) (.int (j:Int) u) (F (decide (i<j)))):
  ∀{c b:bV} {a d:Vs},Vals (c.map nv) a->Vals (b.map nv) d->Cmp op A s (a.zip d) ((hA c b).map F)
 | [],b,_,_,.nil,_=>by rw[C4,show hA [] b=none by cases b<;>rfl];exact .nil
 |n::c,[],_,_,.cons _ _,.nil=>by rw[List.zip_nil_right];exact .nil
 | n::c,m::b,_,_,.cons ⟨t,g⟩ h,.cons ⟨u,k⟩ l=>by
  subst g k;have z:=fA (A:=A) (s:=s) (i:=(n:Int)) (j:=(m:Int)) (t:=t) (u:=u);by_cases e:n=m
  .rw[c9 ()]at z;rw[hA,wB e];exact .eq z (Fh f h l)
  .rw[eQ ()]at z;rw[hA,wA e];exact .ne z (f n m t u e)
def Md{c f:bV}(g:Vals (c.map nv) a)(h:Vals (f.map nv) d):Cmp .Lt A s (a.zip d) (hA c f):=by
 have z:=Fh (A:=A) (s:=s) (op:= .Lt) (F:=λb=>b) (λi j t u _=>by
  have e:decide ((i:Int)<(j:Int))=decide (i<j):=by simp
  exact e▸Ks) g h
 rwa[Option.map_id']at z
def JJ(h:s.heap.IsTuple l a.toArray):SeqObj "tuple" s.heap l a:=by
 obtain⟨⟨c,b,g,sl⟩,e,d,n,f⟩:=h;cases d;cases f;exact#[n,b,sl,e]
def SeqObj.ty{c:String}(h:SeqObj c s.heap l a):s.TypeIs (.ref l) c:=let⟨_,_,_,e⟩:=h;#[_,e,rZ]
def NW(e:SeqObj "tuple" s.heap l a)(f:SeqObj "tuple" s.heap b d)(g:A.units<cLine)(c:Cmp .Lt A.in1 s (a.zip d) o):vW .Lt A s (.ref l) (.ref b) (o.getD (decide (a.length<d.length))):=λP w E Q q=>
 richCompare_meets_room (op:= .Lt) e.ty f.ty F.slot_tuple_lt F.entry_tuple_lt (F.args_tuple_lt_2 _ _) JW #[e,f,o,c,(λz=>nomatch z),q] g
end
section
variable{X:Cx}
def vB(i:Int)(a:bV)(j:Int)(b:bV):Bool:=if i=j then d8 a b else decide (i<j)
end
def nV(m:Nat):bV:=(List.range 5).filter λi=>m.testBit i
def wX(led:Bool)(a:bV):SetTable:={mask:=if a.length=5 then 31 else 7,place:=a.toArray,dummies:= #v[],finger:=0,led,moves:=if a.length=5 then 1 else 0,plain:=true}
def JO:∀(m:Fin 32) (k:Fin 5),(m |||2 ^ (k:Nat):Nat)<32:=by decide+kernel
def jd(a:List (Int×Vl))(b:Nat)(t:SetTable):Obj:={cls:= .type "set",data:= .set a.toArray b t}
def t7{b:Type}(a:List b)(p:Nat)(x:b):(SetTable.insertAt a.toArray p x)=(a.take p++x::a.drop p).toArray:=by
 unfold SetTable.insertAt;apply Array.ext';simp;exact u6 (by simp)
section
variable{P:Pg}{w:World}{A:Ar}{E:VP}{s:Sh}{a:Ad}{b:Bool}{m k:Nat}{t:Tok}
def AF{h:Heap}{c fs:List (Int×Vl)}{b:Nat}{t u:SetTable}(e:h.get? a=some (jd c b t)):(h.update a (Obj.putSet fs.toArray u)).get? a=some (jd fs (b+1) u):=uy _ e rfl
end
def lB(m:Nat)(a:bV):Nat:=a.foldl (λm n=>m |||2 ^ n) m
section
variable{P:Pg}{w:World}{A:Ar}{E:VP}{S it l:Ad}{a:Bool}{b:bV}{c:Vs}
def NO{s:Sh}{x:Vl}{Q:VP}(q:Q (.ref s.heap.objs.size) {s with heap:=s.heap.push (jd [] 0 (wX (!w.params.followText "set-order") []))}):
  codeAny (model P w) A (.call (.builtin "set.__new__") #[[.type "set",x],[]]) (wants Q E) s:=by
 refine Bu ?_;show wpAny _ A.in1 (checkBuiltinCall "set.__new__" #[[.type "set",x],[]] >>= λ_=>again (.builtin "set.__new__" #[[.type "set",x],[]])) _ _ s;refine bW (uh (F.newCall_set_1 x) (b9 #[mI F.plain_set_new _,mX F.entry_set_new ?_]));rw[oW F.plain_set_new _];have sub:=sub_set_self;unfold Builtin.«set.__new__» Builtin.Frozenset.newClass
 wp_walk
 refine wH (b9 ?_);dsimp only;simp only[newObj];refine bW (wpAny_alloc (b9 (b9 ?_)));exact q
abbrev pN(a:Bool):Obj:={cls:= .type "set",dict:=none,data:= .set #v[] 0 (.fresh 0 0 a)}
end
def eK:Slot "set_iterator" "__next__" "set_iterator.__next__":=Slot.of (owner:="set_iterator") (n:="__next__") (by rw[typeLookup_type,builtinLookup_eq_fast];kernel_rfl) (by decide+kernel) (by decide+kernel) (by decide+kernel) (by first|exact .inl (by decide+kernel)|exact .inr (by decide+kernel)) (by rw[isSubtype_type];kernel_rfl)
def Gm:Slot "set_iterator" "__iter__" "set_iterator.__iter__":=Slot.of (owner:="set_iterator") (n:="__iter__") (by rw[typeLookup_type,builtinLookup_eq_fast];kernel_rfl) (by decide+kernel) (by decide+kernel) (by decide+kernel) (by first|exact .inl (by decide+kernel)|exact .inr (by decide+kernel)) (by rw[isSubtype_type];kernel_rfl)
def EN:entryFor table "set_iterator.__next__"=some Builtin.«set_iterator.__next__»:=entryFor_of_tree (by kernel_rfl)
def NA:entryFor table "set_iterator.__iter__"=some Builtin.«dict_keyiterator.__iter__»:=entryFor_alias (id':="dict_keyiterator.__iter__") (by kernel_rfl) (by first|rfl|decide+kernel|(unfold String.splitOn;simp+decide [String.splitOnAux])) (by decide+kernel) (by kernel_rfl)
def Iw:entryFor table "set.__iter__"=some Builtin.«frozenset.__iter__»:=entryFor_alias (id':="frozenset.__iter__") (by kernel_rfl) (by first|rfl|decide+kernel|(unfold String.splitOn;simp+decide [String.splitOnAux])) (by decide+kernel) (by kernel_rfl)
def FF(a:Vl):argsOk "set_iterator.__next__" #[[a],[]]:=by unfold argsOk;kernel_rfl
def MU(a:Vl):argsOk "set_iterator.__iter__" #[[a],[]]:=by unfold argsOk;kernel_rfl
theorem Fq{c:Type}(f:Nat->Nat):∀(fuel k:Nat) (left:List c) (b:Array c),left.length=fuel->(pickOrder.go f fuel k left b).toList.Perm (b.toList++left)
 |0,k,left,b,h=>by
  rw[List.eq_nil_of_length_eq_zero h];simp[pickOrder.go]
 | fuel+1,k,left,b,h=>by
  have lt:f k%left.length<left.length:=lZ _ ();unfold pickOrder.go;rw[b8 lt];dsimp only;refine(Fq f fuel (k+1) (left.eraseIdx (f k%left.length)) (b.push left[f k%left.length]) (by rw[List.length_eraseIdx_of_lt lt];lia)).trans ?_;rw[t8,fY];refine xp _ ?_;rw[List.eraseIdx_eq_take_drop_succ];have e:left=left.take (f k%left.length)++left[f k%left.length]::left.drop (f k%left.length+1):=by
   rw[<-y6 lt,iM]
  have z:=(yl (a:=left[f k%left.length]) (l₁:=left.take (f k%left.length)) (l₂:=left.drop (f k%left.length+1))).symm;rw[<-e]at z;exact z
def j4(w:World)(a:Ad)(c:Nat)(b:List (Int×Vl)):List (Int×Vl):=if w.params.followText "set-order" then(pickOrder (w.params.setOrder a c) b.toArray).toList else b
def wF(w:World)(a:Ad)(c:Nat)(b:List (Int×Vl)):(j4 w a c b).Perm b:=by
 unfold j4;cases w.params.followText "set-order" with
 |true=>
  have z:=Fq (w.params.setOrder a c) b.toArray.size 0 b.toArray.toList #v[] (by simp);simpa[pickOrder]using z
 |false=>exact List.Perm.refl _
def sv(b i n c:Nat)(a:Ad):Obj:={cls:= .type "set_iterator",data:= .fields #v[rawInt b,rawInt i,.ref a,rawInt n,rawInt c]}
section
variable{P:Pg}{w:World}{A:Ar}{E:VP}{a it:Ad}{m d:Nat}{c:List (Int×Vl)}
def xf{s:Sh}{Q:Bool->Sh->Prop}(ty:s.TypeIs (.ref a) "set")(q:Q false s):wpAny (model P w) A (Builtin.List.listLengthHint (.ref a)) Q E s:=by
 unfold Builtin.List.listLengthHint;refine bW (BO ty F.slot_set_len.lookup ?_);generalize g:("set.__len__":String)=name
 wp_delta
 rw[show splitId name=some ("set","__len__") by subst g;decide+kernel];subst g;refine bW (wpAny_isInstance (T:="set") (b:=true) ty (by rw[isSubtype_type];kernel_rfl) (Dy (λz=>wC z (by decide)) λ_=>?_));exact Dy (λ_=>bW (yU ty (b9 q))) λz=>wC (by decide+kernel) z
end
def dM(ns:bV):bV:=(List.range 5).filter λi=>ns.contains i
theorem E5(i:Nat):∀(ns:bV) (m:Nat),(lB m ns).testBit i=(m.testBit i || ns.contains i)
 | [],m=>by simp[lB]
 |n::ns,m=>by
  show(lB (m |||2 ^ n) ns).testBit i=_;rw[E5 i ns,Nat.testBit_or,Nat.testBit_two_pow,List.contains_cons,Bool.or_assoc]
  congr 2
  by_cases h:n=i
  .simp[h]
  .simp[h,Ne.symm h]
def xi(a:bV):nV (lB 0 a)=dM a:=by
 unfold nV dM
 congr 1
 funext i
 rw[E5];simp
theorem ut:∀{a:Vs} {is:Zs},IntsAre a is->Vals (is.map V.int) a
 |_,_,.nil=> .nil
 |_,_,.cons n t h=> .cons #[t,rZ] (ut h)
section
variable{X:Cx}
def Inv.track{d:AO}{f:St}{H:Hp}{s:Sh}{D:Ad}{o:HO}(I:Inv X d f H s)(g:H D=none)(ok:ObjOk X.prog X.w (bX H D o) s.heap D o)(h:X.s₀.heap.objs.size<=D) (i:D≠X.env.locals) (j:∀x c,X.env.cells.lookup x=some c->c≠D) (k:∀p∈X.pn++d,p.1≠D):Inv X d f (bX H D o) s:=by
 have nd:∀b u,H b=some u->b≠D:=λb u q z=>by rw[z,g]at q;cases q
 have q:=I.step (h':=s.heap) (H':=bX H D o) (g':=s.gens) (t':=s.toks) (d':=s.drawn) (ch:=[D]) (λb a=>by
   have z:b=D:=by simpa using a
   subst z;exact#[.inr h,i,j,k])
  (λb o _ _ _ e _=>e) (λb o _ _ _ e _=>#[o.slots,e]) (λb o a _ n=>by rw[cf (λz=>a (by simp[z]))];exact n) (λb o _ e=>#[o,e])
  (λb l q=>by rw[cf (nd b _ q)];exact q) (λb o u q=>by rw[cf (nd b _ q)];exact q) (λb t q=>#[#v[],by rw[cf (nd b _ q),q];simp]) (λm r=>r) (λb u q=>?_) I.bare
 .exact q
 .by_cases a:b=D
  .subst a;rw[cb]at q;cases q;exact ok
  .rw[cf a]at q;exact(I.hok b u q).stay (λ_ _ _ z=>z) (λc z=>by rw[cf (nd c _ z)];exact z) λc l z=>by rw[cf (nd c _ z)];exact z
def Inv.trackNew{a:AO}{c:St}{H:Hp}{s s1:Sh}{o:HO}(I:Inv X a c H s)(d:Inv X a c H s1)(ok:ObjOk X.prog X.w (bX H s.heap.objs.size o) s1.heap s.heap.objs.size o):Inv X a c (bX H s.heap.objs.size o) s1:=by
 obtain⟨e,f,i,j,g,h⟩:=I.fpOk (b:=s.heap.objs.size) (H':=H) (cm _) (I.hok.fresh (cm _));exact d.track e ok I.sz f g h
end
section
variable{X:Cx}
inductive wO(K:O2)(a:List V)(H:Hp)(Q:VK):Prop|mk:∀(p:Ad) (bs:List Bool),a=[.ref p]->SqL K H p (bs.map V.bl)->Q (.bl (bs.any id)) H->wO K a H Q
def HV(n:X.calm=true):hG X (.builtin "any") (wO X.K):=by
 intro G s J H L M Q I r h;obtain⟨p,bs,rfl,t,q⟩:=h;obtain⟨u,rfl,w⟩:=gD r;cases w;obtain⟨a,g,j,_⟩:=I.list t;have k:=j.isList;have f:p<s.heap.objs.size:=j.lt;have c:a.length=bs.length:=by rw[<-g.length,bZ]
 refine call_any_walk (vZ k #[_,_,_,_,_,_,λi=>bs.getD i false,rZ,Walks.list (A:=X.A.in1) (I.ok.hd n) _ p (dP f) a.toArray,#[#[_,dW _ rZ,rZ,rZ],k.push _],?_,λN O y=>?_])
 .intro i v T U Y B C;have d:a[i]?=some v:=by simpa using B
  have l:i<bs.length:=by rw[<-c];exact(cg.mp d).1
  obtain⟨u2,m,D⟩:=g.get (i:=i) (x:= .bl (bs.getD i false)) (by rw[cr,b8 l,cP,b8 l];rfl);rw[d]at m;cases m;cases(show v=Value.bool _ from D);exact pV C
 .have e:(List.range a.toArray.size).any (λi=>bs.getD i false)=bs.any id:=by
   rw[dS,c];have:bs=(List.range bs.length).map λi=>bs.getD i false:=by
    refine qp (by simp) λi E h2=>?_;simp[List.getD_eq_getElem?_getD,E]
   conv=>rhs;rw[this,yM]
   rfl
  rw[e];exact#[.bl (bs.any id),H,I.kept λb o z=>y b o (by simp only[List.mem_singleton];exact Nat.ne_of_lt (Heap.lt_size z)) (Heap.get?_push_of_some _ z),rZ,q]
end
def drop(H:Hp)(c:Ad):Hp:=λb=>if b=c then none else H b
def vo{H:Hp}{c:Ad}:drop H c c=none:=by unfold drop;rw[wB rZ]
def eB{H:Hp}{b c:Ad}(h:b≠c):drop H c b=H b:=by unfold drop;rw[wA h]
def uY{H:Hp}{b c:Ad}(h:H b=none):drop H c b=none:=by
 by_cases e:b=c
 .rw[e];exact vo
 .rw[eB e];exact h
def eJ(c m:Ad)(o:Obj):HO:= .ext λh=>h.get? c=some o/\o.data=.cell (some (.ref m))
def iV(c:Ad)(q:Str):HO:= .ext λh=>h.CodeRec (.ref c) q
def gF(f:Ad)(a:Fd):HO:= .ext λh=>h.get? f=some {cls:= .type "function",data:= .func a}
def HOk.drop{P:Pg}{w:World}{H:Hp}{h:Heap}{c:Ad}{g:Heap->Prop}(x:HOk P w H h)(a:H c=some (.ext g)):HOk P w (drop H c) h:=λb o e=>by
 by_cases f:b=c
 .rw[f,vo]at e;cases e
 .rw[eB f]at e;refine(x b o e).stay (λ_ _ _ z=>z) (λd z=>?_) λd i z=>?_
  .rw[eB (λq=>by rw[q,a]at z;cases z)];exact z
  .rw[eB (λq=>by rw[q,a]at z;cases z)];exact z
def HOk.back{P:Pg}{w:World}{H:Hp}{h:Heap}{c:Ad}{o:HO}(x:HOk P w H h)(a:H c=none)(ok:ObjOk P w (bX H c o) h c o):HOk P w (bX H c o) h:=λb u e=>by
 by_cases f:b=c
 .subst f;rw[cb]at e;cases e;exact ok
 .rw[cf f]at e;exact(x b u e).stay (λ_ _ _ z=>z) (λd z=>by rw[cf (di z a)];exact z) λd g z=>by rw[cf (di z a)];exact z
def FP{P:Pg}{w:World}{H:Hp}{h:Heap}{c m:Ad}{o:Obj}(x:h.get? c=some o)(d:o.data=.cell (some (.ref m))):ObjOk P w H h c (eJ c m o):=#[#[x,d],#[o,x],λa b e k=>#[k _ e.1,e.2]]
def Gw{P:Pg}{w:World}{H:Hp}{h:Heap}{f:Ad}{a:Fd}(x:h.get? f=some {cls:= .type "function",data:= .func a}):ObjOk P w H h f (gF f a):=#[x,#[_,x],λb c e k=>k _ e]
def IB{P:Pg}{w:World}{H:Hp}{h:Heap}{c:Ad}{q:Str}(x:h.CodeRec (.ref c) q):ObjOk P w H h c (iV c q):=by
 obtain⟨b,o,m,t,d,e,n⟩:=id x;cases d;refine#[x,#[o,e],λp r ⟨b,f,a,g,i,j,l⟩ k=>?_];cases i;exact#[c,f,a,g,rZ,k _ j,l]
structure LamScope(ps:Ss)(y:Str)(sc:Scope):Prop where
 kind:sc.kind=.function
 co:sc.isCoroutine=false
 gen:sc.isGenerator=false
 nd:(ps++[y]).Nodup
 par:∀x∈ps,sc.names.lookup x=some .local
 fre:sc.names.lookup y=some .free
 only:∀z∈sc.names,z.2≠ .cell/\(z.2=.free->z.1=y)
abbrev fq(d:Str)(a:Arguments)(e:Expr)(b:Scope)(y:Str)(c:Ad)(f g h:Vl):Fd:=PySem.W.kla_fn "<lambda>" d a e b [(y,c)] f g h
def pk(P:Pg)(w:World)(K:O2)(mg:SV)(base:Heap)(N:Ss)(b:Str)(a:Scope)(f:Ad)(c:Vl)(d:List (Str×Ad))(A:Ar)(outer:List Env)(s:Sh)(H:Hp):Cx where
 prog:=P
 w:=w
 K:=K
 mg:=mg
 base:=base
 A:=A.deeper (PySem.W.envX b a s.heap.objs.size f c d)
 N:=N
 s₀:=s
 H₀:=H
 env:=PySem.W.envX b a s.heap.objs.size f c d
 outer:=outer
 stack:=PySem.W.envX b a s.heap.objs.size f c d::outer
 ex:=[]
 calm:=true
 fn:=λ_=>false
 pn:=[]
 xe:=λ_ _=>False
theorem Fn{x:Str}{u:Vl}:∀{l:List (Str×Vl)},(l.map (·.1)).Nodup->(x,u)∈l->l.lookup x=some u
 | (a,b)::l,nd,h=>by
  rw[eZ,gP]at nd;rw[pj]
  rcases dq.mp h with e|e
  .cases e;rw[xH]
  .have ne:(x==a)=false:=mH.mpr λq=>nd.1 (cq.mpr #[(x,u),e,q]);rw[ne];exact Fn nd.2 e
def JF{c:Ss}{d:Vs}{i:Nat}{x:Str}{u:Vl}(nd:c.Nodup)(e:c[i]?=some x)(f:d[i]?=some u):(c.zip d).reverse.lookup x=some u:=by
 refine Fn ?_ (m7.mpr (dU.mpr #[i,Dd.mpr #[e,f]]));have sub:∀(c:Ss) (d:Vs),((c.zip d).map (·.1)).Sublist c:=λc=>by
  induction c with
  |nil=>intro d;simp
  |cons a c g=>
   intro d;cases d with
   |nil=>simp
   |cons b d=>rw[zq,eZ];exact(g d).cons₂ a
 rw[List.map_reverse];show List.Pairwise (· ≠ ·) _;rw[List.pairwise_reverse];exact(nd.sublist (sub c d)).imp eC
def N'{P:Pg}{w:World}{K:O2}{mg:SV}{l:Heap}{n:Ss}{y B:Str}{g:Scope}{f c m:Ad}{O:Vl}{A:Ar}{k:List Env}{s:Sh}{H:Hp}{Q:Vs}{I:List V}{E:Heap}{U:Nat}(S:LamScope n y g) (Y:A.handled=none) (t:Env0 P w K mg l A k s H) (T:I.length=n.length) (r:Vals I Q) (hc:H c=none) (ic:s.heap.IsCell c (some (.ref m)))(L:E.Ns s.heap.objs.size (λx=>(n.zip Q).reverse.lookup x)) (sb:Heap.SameBut s.heap.objs.size (s.heap.push {cls:= .type "frame",data:= .dict #v[]}) E):
  Inv (pk P w K mg l (n++[y]) B g f O [(y,c)] A k s H) [] (I.map some++[some (.ref m)]) H {s with heap:=E,toks:=U}:=by
 have M:∀b o,s.heap.get? b=some o->E.get? b=some o:=λb o e=>sb.extBut _ _ (dP (cQ e)) (cV _ e);have J:E.IsCell c (some (.ref m)):=let⟨o,e,d⟩:=ic;#[o,M _ _ e,d]
 have one:∀{x:Str} {d:Ad},([(y,c)]:List (Str×Ad)).lookup x=some d->x=y/\d=c:=λ{x d} h=>by
  rw[pj]at h;cases q:x==y with
  |true=>rw[q]at h;cases h;exact#[eq_of_beq q,rZ]
  |false=>rw[q]at h;cases h
 have C:([(y,c)]:List (Str×Ad)).lookup y=some c:=by rw[pj,xH]
 have G:∀b:Ad,b∉(pk P w K mg l (n++[y]) B g f O [(y,c)] A k s H).ex:=λb z=>wC (show b∈([]:As)from z) (by simp);refine#[#[t.mod,S.kind,rZ,rZ,cm _,λa b d E h2=>(one E).1.trans (one h2).1.symm,λa ha=>?_,λa d h _=>wC (show false=true from h) gN,λ_=>Y,Around.frames_deeper t.frames,.inr #[rZ,rZ],λb z=>wC z (G b),t.bs,t.bsz,λb _ _=>G b,λb z=>wC z (G b),t.funs,t.frf],
  rfl,t.bare,Un.kept M,#[_,L,λi x v q1 D q3=>?_],λa d h=>?_,t.hok.fresh (cm _),λa d h=>?_,λp hp=>wC (show p∈([]:AO)from hp) (by simp),t.hok.kept M,?_]
 .have N:g.names.lookup a=some .cell\/g.names.lookup a=some .free:=ha
  rcases N with z|z
  .exact wC rZ (S.only _ (o0 z)).1
  .have e:=(S.only _ (o0 z)).2 rfl;exact#[c,by rw[show a=y from e];exact C]
 .have j:(n++[y])[i]?=some x:=q1
  rcases Nat.lt_or_ge i n.length with z|z
  .rw[eA z]at j;rw[eA (by rw[bZ];lia),cr]at D;cases e:I[i]? with
   |none=>rw[e]at D;cases D
   |some a=>
    rw[e]at D;cases D;obtain⟨u,hu,rv⟩:=r.get e;have kx:=S.par x (cH j);refine#[u,rv,.inl #[kx,?_]];exact JF (S.nd.sublist (List.sublist_append_left _ _)) j hu
  .rw[dZ z]at j;rw[dZ (by rw[bZ];lia),bZ]at D;have e:i-n.length=0:=by
    rcases Nat.eq_zero_or_pos (i-n.length)with y0|y0
    .exact y0
    .rw[ie (by simp;lia)]at j;cases j
   rw[e]at j;rw[T,e]at D;cases j;cases D;exact#[.ref m,rZ,.inr #[.inr S.fre,c,C,J]]
 .obtain⟨rfl,rfl⟩:=one (show([(y,c)]:List (Str×Ad)).lookup a=some d from h);exact#[_,J]
 .obtain⟨rfl,rfl⟩:=one (show([(y,c)]:List (Str×Ad)).lookup a=some d from h);exact hc
 .show(I.map some++[some (V.ref m)]).length=(n++[y]).length;simp[T]
def Cp{P:Pg}{w:World}{K:O2}{mg:SV}{j:Heap}{k:Nat}{D:Ss}{y g:Str}{l:Arguments}{p:Expr}{a:Scope}{f c m G:Ad}{oc:Obj}{pm ct:Vl}{Y:Sp}(S:LamScope D y a) (len:∀B H Q E,Y B H Q E->B.length=D.length) (here:∀B H Q E,Y B H Q E->H f=some (gF f (fq g l p a y c pm (.ref G) ct))/\H c=some (eJ c m oc)/\H G=some (iV G g))(L:∀(A:Ar) (d:List Env) (s:Sh) (H:Hp) (B:List V) (Q:VK) (E:XK),Room k (A.deeper (PySem.W.envX g a s.heap.objs.size f (.ref G) [(y,c)]))->Y B H Q E->
   ∃t,PE (pk P w K mg j (D++[y]) g a f (.ref G) [(y,c)] A d s (drop H c)) p t/\t (B.map some++[some (.ref m)]) (drop H c) λv U=>U c=none->Q v (bX U c (eJ c m oc))):
  FnOk P w K mg j cL (k+1) f (fq g l p a y c pm (.ref G) ct) D Y:=by
 refine#[len,λA d s H args us B Q E hr h M r N=>?_];obtain⟨hf,O,aa⟩:=here _ _ _ _ N;have hl:=len _ _ _ _ N;obtain⟨ef,_,_⟩:=h.hok f _ hf;obtain⟨i,_,_⟩:=h.hok c _ O;obtain⟨T,_,_⟩:=h.hok G _ aa;have e1:Env0 P w K mg j A d s (drop H c):=#[h.frames,h.mod,λb o e=>#[(h.bs b o e).1,uY (h.bs b o e).2],h.bsz,h.funs,λb M=>uY (h.frf b M),h.hok.drop O,h.bare];have ab:s.heap.NoLimit:=h.mod.nolimit.keeps λb o e=>(h.bs b o e).1;refine PySem.W.kla_callFunE hr.depth ef rZ S.co S.gen rZ T (M _ _ _ _ ?_);refine wpAny_newFunctionEnv (λx hx=>(S.only x hx).1) (λx hx=>S.par _ (yQ hx).1) (λh1 ae sb=>?_) S.kind;have hk:∀b o,s.heap.get? b=some o->h1.get? b=some o:=λb o e=>sb.extBut _ _ (dP (cQ e)) (cV _ e);refine#[ab.keeps hk,PySem.W.kla_codeExpr ?_];obtain⟨t,ht,hq⟩:=L A d s H B Q E (hr.deeper _) N;have I:Inv (pk P w K mg j (D++[y]) g a f (.ref G) [(y,c)] A d s (drop H c)) [] (B.map some++[some (.ref m)]) (drop H c) {s with heap:=h1,toks:=s.toks+(D.zip us).length}:=N' S hr.hd e1 hl r vo #[oc,i] ae sb;refine gJ (ht [] _ _ _ _ I hq) (λv s' ⟨x,U,J,rx,q⟩=>?_) λe s' z=>wE z;have Hc:U c=none:=J.freeC y c (by show([(y,c)]:List (Str×Ad)).lookup y=some c;rw[pj,xH]);have af:s'.heap.get? c=some oc:=J.base.keep c oc i.1 vo (λz=>?_) (by simp[pk])
 .refine#[x,bX U c (eJ c m oc),J.os,J.bare,#[λb o e n M _=>?_,λb o e n M _=>?_,λb o e n _=>?_,λb o e _=>J.base.there b o e (by simp[pk]),λb xs e=>?_,λb o u e=>?_,λb D e=>?_],J.hok.back Hc (FP af i.2),rx,q Hc]
  .exact J.base.keep b o e (uY n) M (by simp[pk])
  .exact J.base.slot b o e (uY n) M (by simp[pk])
  .have C:b≠c:=λz=>by rw[z,O]at n;cases n
   rw[cf C];exact J.base.free b o e (uY n) (by simp[pk])
  .have C:b≠c:=λz=>by rw[z,O]at e;cases e
   rw[cf C];exact J.base.tups b xs (by show drop H c b=_;rw[eB C];exact e)
  .have C:b≠c:=λz=>by rw[z,O]at e;cases e
   rw[cf C];exact J.base.frzs b o u (by show drop H c b=_;rw[eB C];exact e)
  .have C:b≠c:=λz=>by rw[z,O]at e;cases e
   rw[cf C];exact J.base.tbls b D (by show drop H c b=_;rw[eB C];exact e)
 .have:=h.frf c z;rw[O]at this;cases this
section
variable{X:Cx}
def Gx(X:Cx)(i:Nat)(t:TA):TE:=λb H Q=>c8 i b H λv c=>∃st a,v=.ref st/\c st=some (gF st a)/\t b c λg d=>d st=some (gF st a)/\∃k e f,FnOk X.prog X.w X.K X.mg X.base cL k st a e f/\Room k X.A/\Binds X.K a e []/\f g d Q E0
def F8{a:AO}{b:St}{H:Hp}{s:Sh}{st:Ad}{c:Fd}(I:Inv X a b H s)(h:H st=some (gF st c)):PySem.W.FnAt st s.heap:=by
 obtain⟨e,_,_⟩:=I.hok st _ h;exact#[_,_,_,_,e]
def OI(i:Nat){x:Str}{e:Expr}{b:List Expr}{t:TA}{p a:Pos}(l:PE X (.Name x p) (c8 i))(m:PA X (e::b) t)(n:starEach (e::b) X.env=(false,eval e X.env)::starEach b X.env:=by rfl)(c:(backTo a (starEach b X.env)).any (·.1)=false:=by rfl):
  PE X (.Call (.Name x p) (e::b) [] a) (Gx X i t):=by
 intro d s f H Q I h;refine pA (cB (l d s f H _ I h) λu o ⟨v,w,g,y,st,L,A,B,q⟩=>?_);subst A;cases y;refine PySem.W.callWith_F (F8 g B) (cB (m a d o f w _ g q) λM N C=>?_) n c;obtain⟨O,T,j,r,D,k,U,Y,F,E,G,J⟩:=C;refine#[F8 j D,?_];have z:=Bs (dvs:=[]) (ds:=[]) F E G .nil wP j r (by rw[gL];exact J);exact z
def HY(g:Sp)(a:List V)(j:Nat)(c:Ad)(t:TA):TE:=λb H Q=>t b H λh d=>∃m,b[j]?=some (some (.ref m))/\∀e,d c=none->g (h++a) (bX d c (eJ c m e)) (λr f=>f c=some (eJ c m e)/\Q r (drop f c)) E0
def Inv.afterC{p:AO}{t:St}{H:Hp}{s x:Sh}{c m:Ad}{i:Obj}{Q:VK}{u:Vl}(I:Inv X p t H s)(k:H c=none)(y:s.heap.get? c=some i)(h:CE X.stack X.prog X.w (bX H c (eJ c m i)) s (λr j=>j c=some (eJ c m i)/\Q r (drop j c)) u x):EP X p t Q u x:=by
 obtain⟨v,j,os,a,un,d,B,A,q⟩:=h;obtain⟨⟨f,_⟩,_,_⟩:=d c _ A;refine I.after #[v,drop j c,os,a,#[λb o e n l g=>?_,λb o e n l g=>?_,λb o e n g=>?_,un.there,λb C e=>?_,λb o w e=>?_,λb D e=>?_],d.drop A,B,q]
 .by_cases z:b=c
  .subst z;rw[y]at e;cases e;exact f
  .exact un.keep b o e (by rw[cf z];exact n) l g
 .by_cases z:b=c
  .subst z;rw[y]at e;cases e;exact#[i.slots,f]
  .exact un.slot b o e (by rw[cf z];exact n) l g
 .by_cases z:b=c
  .rw[z];exact vo
  .exact uY (un.free b o e (by rw[cf z];exact n) g)
 .have z:b≠c:=λz=>by rw[z,k]at e;cases e
  rw[eB z];exact un.tups b C (by rw[cf z];exact e)
 .have z:b≠c:=λz=>by rw[z,k]at e;cases e
  rw[eB z];exact un.frzs b o w (by rw[cf z];exact e)
 .have z:b≠c:=λz=>by rw[z,k]at e;cases e
  rw[eB z];exact un.tbls b D (by rw[cf z];exact e)
def Lg{x:Str}{k j:Nat}{M:Ss}{U:Sp}{f c:Ad}{Y:Fd}{g:List V}{A:Vs}{y:Str}{e:Expr}{B:List Expr}{t:TA}{p l:Pos}(F:FnOk X.prog X.w X.K X.mg X.base cL k f Y M U)(hr:Room k X.A)(hg:Gl X x)(hm:X.mg x=some (.ref f))(hk:PySem.W.keepIn X.K (.ref f)=true) (v:Binds X.K Y M A) (hd:Vals g A) (hN:X.N[j]?=some y) (J:X.env.cells.lookup y=some c) (C:X.env.scope.names.lookup y=some .cell) (N:X.fn y=true) (ha:PA X (e::B) t)(O:(x==("__debug__":Str))=false:=by decide) (he:starEach (e::B) X.env=(false,eval e X.env)::starEach B X.env:=by rfl) (T:(backTo l (starEach B X.env)).any (·.1)=false:=by rfl):
  PE X (.Call (.Name x p) (e::B) [] l) (HY U g j c t):=by
 intro za s σ H Q I h;refine pA (wL I hg hm ?_ O);refine Dc (h₀:=X.base) I.ok.mod.kin hk (cB (ha l za s σ H _ I h) λD L ⟨vs,H1,a,r,m,hj,q⟩=>#[a.kIn,?_]) he T;have n:H1 c=none:=a.freeC y c J;obtain⟨mm,hn,look⟩:=a.loc;obtain⟨u,ru,lk⟩:=look j y (.ref m) hN hj (.inr (.inl C));cases ru;obtain⟨oc,ec,dc⟩:L.heap.IsCell c (some (.ref m)):=by
  rcases lk with⟨z,_⟩|⟨_,c',E,ic⟩
  .have z':X.env.scope.names.lookup y=some .local:=z;rw[C]at z';cases z'
  .rw[J]at E;cases E;exact ic
 have q1:=q oc n;have r2:Vals (vs++g) (D++A):=r.append hd;have hl:(D++A).length=M.length:=by rw[<-r2.length];exact F.len _ _ _ _ q1
 have e1:Env0 X.prog X.w X.K X.mg X.base X.A X.stack L (bX H1 c (eJ c m oc)):=by
  have i:=a.env0;have d:=a.ok.cab y c N J;have nb:∀b o,X.base.get? b=some o->b≠c:=λb o e z=>by
   subst z;exact wC (gm (cQ e) (cW a.ok.bsz d)) (kS _)
  have nf:∀b∈lH X.stack,b≠c:=λb v z=>by
   subst z
   rcases dq.mp (a.stkSub b v)with w|w
   .exact a.cne y b J w
   .obtain⟨_,o,ho,_⟩:=a.ok.funs.mem w;exact wC (gm (cQ ho) d) (kS _)
  exact#[i.frames,i.mod,λb o e=>#[(i.bs b o e).1,by rw[cf (nb b o e)];exact(i.bs b o e).2],i.bsz,i.funs,λb v=>by rw[cf (nf b v)];exact i.frf b v,i.hok.back n (FP ec dc),i.bare]
 refine td (mD (F.run X.A X.stack L _ #[D,[]] (D++A) (vs++g) _ E0 hr e1 (v L D a.kIn hl) r2 q1) λr s' G=>?_);cases r with
 |error e=>exact G.elim
 |ok fl=>
  cases fl with
  |ret u=>exact a.afterC n ec G
  |next=>exact wE G
  |brk=>exact wE G
  |cont=>exact wE G
end
section
variable{X:Cx}
def nG(mg:SV)(h:Heap):Prop:=∃a o,mg "__builtins__"=some (.ref a)/\a≠builtinsNs/\h.get? a=some o/\o.cls=.type "module"/\o.dict=some builtinsNs/\o.data=.plain
abbrev i6(a:Pos)(b:Ad):AV:= #v[rawInt a.line,rawInt a.col,.ref b]
def xq(P:Ad)(a:Str)(b:Arguments)(g:Expr)(d:Scope)(y:Str)(c:Ad)(j:Vl)(h:Pos):TE:=λ_ H Q=>
 (H P=some (.tbl #v[])/\∀f e i,H f=none->H e=none->f≠e->Q (.ref f) (bX (bX (bX H P (.tbl (i6 h e))) e (iV e a)) f (gF f (fq a b g d y c j (.ref e) i))))\/
 ∃e,H P=some (.tbl (i6 h e))/\H e=some (iV e a)/\∀f i,H f=none->Q (.ref f) (bX H f (gF f (fq a b g d y c j (.ref e) i)))
def B9{P cd c:Ad}{qual y:Str}{a:Arguments}{g:Expr}{f:Scope}{i:Pos}(G:X.env.code=.ref cd)(C:PySem.W.CodeHd X.base cd P)(bm:nG X.mg X.base)(J:∀D E H s,Inv X D E H s->closureFor f X.env=pure [(y,c)])(aa:defaultsOf a X.env=([],[])) (hq:X.env.qual++"<lambda>"=qual):PE X (.Lambda a g f i) (xq P qual a g f y c ((X.mg "__name__").getD .none) i):=by
 intro D s E H Q I h;rw[arm_eval_Lambda,aa,hq];have C':PySem.W.CodeHd s.heap cd P:=C.keeps I.bk;have hg:s.heap.Ns mainGlobals X.mg:=I.mod.glob.keeps I.bk;refine bW (m:=evalAll []) (b9 (bW (m:=holding _ (evalAllOpt [])) (gf (b9 ?_))));have track:∀L,H P=some (.tbl L)->s.heap.get? P=some (PySem.W.tabObj L)/\mainGlobals≠P/\s.heap.BuiltinsAt X.mg P:=λL e=>by
  have M:s.heap.get? P=some (PySem.W.tabObj L):=I.hok P _ e;have ng:mainGlobals≠P:=λz=>by
   obtain⟨o,es,ep,e1,_⟩:=I.mod.glob;have:=(I.bs _ _ e1).2
   rw[z,e]at this;cases this
  obtain⟨b,o,b1,b2,b3,b4,b5,b6⟩:=bm;refine#[M,ng,b,o,b1,b2,λz=>?_,λz=>?_,I.bk _ _ b3,b4,b5,b6]
  .obtain⟨o',es,ep,e1,d1,_⟩:=I.mod.glob;rw[z,e1]at b3;cases b3;rw[d1]at b6;cases b6
  .have:=(I.bs _ _ b3).2;rw[z,e]at this;cases this
 rcases h with⟨e,q⟩|⟨j,e,ag,q⟩
 .obtain⟨M,ng,hb⟩:=track _ e;refine PySem.W.kla_makeFunction (J D E H s I) I.ok.glob hg G C' M (by trivial) rZ ng hb λj p k tk hx r t N ab=>?_;have x:H j=none:=I.hok.fresh r;have A:H k.objs.size=none:=I.hok.fresh (cW r (jc t));have ae:P≠j:=di e x;have af:P≠k.objs.size:=di e A;have O:k.objs.size≠j:=mS t;generalize eo:PySem.W.kla_obj "<lambda>" qual a g f [(y,c)] ((X.mg "__name__").getD .none) j p=ob;have old:∀b u,H b=some u->b≠j/\b≠k.objs.size:=λb u z=>#[di z x,di z A];have T:∀b o,s.heap.get? b=some o->b≠j/\b≠k.objs.size:=λb o z=>#[dP (gm (cQ z) r),dP (gm (cQ z) (cW r (jc t)))];have U:∀b o,b≠P->s.heap.get? b=some o->(k.push ob).get? b=some o:=λb o n z=>cV _ (hx b o n z);have l:∀b,b≠P->b≠j->b≠k.objs.size->bX (bX (bX H P (.tbl (i6 i j))) j (iV j qual)) k.objs.size (gF k.objs.size (fq qual a g f y c ((X.mg "__name__").getD .none) (.ref j) p)) b=H b:=λb n1 n2 n3=>by rw[cf n3,cf n2,cf n1]
  have Y:bX (bX (bX H P (.tbl (i6 i j))) j (iV j qual)) k.objs.size (gF k.objs.size (fq qual a g f y c ((X.mg "__name__").getD .none) (.ref j) p)) P=some (.tbl (i6 i j)):=by rw[cf af,cf ae,cb]
  have tP:(k.push ob).get? P=some (PySem.W.tabObj (i6 i j)):=by
   refine cV _ ?_;rw[ab];rfl
  refine#[.ref k.objs.size,_,?_,rZ,q k.objs.size j p A x O];refine I.step (ch:=[]) (λ_ z=>nomatch z) (λb o _ _ _ z n=>U b o (λw=>by rw[w,e]at n;cases n) z) (λb o _ _ _ z n=>#[o.slots,U b o (λw=>by rw[w,e]at n;cases n) z])
   (λb o _ z n=>?_) (λb o _ z=>?_) (λb xs z=>?_) (λb o u z=>?_) (λb L z=>?_) (λm hm=>?_) (λb u z=>?_) I.bare
  .rw[l b (λw=>by rw[w,e]at n;cases n) (T b o z).1 (T b o z).2];exact n
  .by_cases w:b=P
   .rw[w];exact#[_,tP]
   .exact#[o,U b o w z]
  .rw[l b (λw=>by rw[w,e]at z;cases z) (old b _ z).1 (old b _ z).2];exact z
  .rw[l b (λw=>by rw[w,e]at z;cases z) (old b _ z).1 (old b _ z).2];exact z
  .by_cases w:b=P
   .subst w;rw[e]at z;cases z;exact#[i6 i j,by rw[Y];rfl]
   .exact#[#v[],by rw[l b w (old b _ z).1 (old b _ z).2,z];simp]
  .exact hm.at' λo z=>U _ o (λw=>by have:=I.free;rw[w,e]at this;cases this) z
  .by_cases w3:b=k.objs.size
   .rw[w3,cb]at z;cases z;rw[w3];exact Gw (by rw[<-eo];exact dW _ rZ)
   .by_cases w2:b=j
    .rw[w2,cf O.symm,cb]at z;cases z;rw[w2];exact IB (N.push _)
    .by_cases w1:b=P
     .rw[w1,Y]at z;cases z;rw[w1];exact tP
     .rw[l b w1 w2 w3]at z;refine(I.hok b u z).stay (λd o hd y=>U d o (λw=>?_) y) (λd y=>?_) λd xs y=>?_
      .rcases hd with v|v
       .exact w1 (v.symm.trans w)
       .rw[w,e]at v;cases v
      .rw[l d (λw=>by rw[w,e]at y;cases y) (old d _ y).1 (old d _ y).2];exact y
      .rw[l d (λw=>by rw[w,e]at y;cases y) (old d _ y).1 (old d _ y).2];exact y
 .obtain⟨M,ng,hb⟩:=track _ e;have B:codeAmong i (i6 i j).toList=some (.ref j):=by
   show(if((i.line:Int)==(i.line:Int)&&(i.col:Int)==(i.col:Int))=true then _ else _)=_;rw[wB (by simp)]
  refine PySem.W.kla_makeFunctionHit (J D E H s I) I.ok.glob hg G C' M (by trivial) B hb λp k tk keep sz=>?_;have I1:Inv X D E H {s with heap:=k,toks:=tk}:=I.kept keep;have I2:Inv X D E H {s with heap:=k.push {cls:= .type "function",data:= .func (fq qual a g f y c ((X.mg "__name__").getD .none) (.ref j) p)},toks:=tk}:=I1.kept λb o z=>cV _ z;have ok:ObjOk X.prog X.w (bX H k.objs.size (gF k.objs.size (fq qual a g f y c ((X.mg "__name__").getD .none) (.ref j) p))) (k.push {cls:= .type "function",data:= .func (fq qual a g f y c ((X.mg "__name__").getD .none) (.ref j) p)}) k.objs.size (gF k.objs.size (fq qual a g f y c ((X.mg "__name__").getD .none) (.ref j) p)):=Gw (dW _ rZ);exact#[.ref k.objs.size,_,Inv.trackNew I1 I2 ok,rZ,q _ p I1.fresh]
end
def Oq(K:O2)(c:As)(a:Ad)(o:Obj)(d:Zs):Hp:=λb=>if b∈c then some (.tbl #v[])else if b=a/\K.lookup a=none then some (.frz o (.lst (d.map V.int)))else none
def Jy{P:Pg}{w:World}{K:O2}{mg mb:SV}{k:Nat}{fa a:Ad}{fd:Fd}{x:Str}{sp:Sp}{f:Sh}{A:Vs}{D:Zs}{tabs:As}(KX:K.In f.heap) (I:f.heap.Ns mainGlobals mg) (g:f.heap.Ns builtinsNs mb) (aa:∀x:Str,x≠"__name__"->mb x=bootBuiltins x) (J:f.heap.NoLimit) (hg:f.gens= #v[]) (ab:nG mg f.heap)(E:f.heap.get? a=some {cls:= .type "list",data:= .seq A.toArray}) (hi:IntsAre A D) (hl:D.length<=sizeLine) (hr:Room k callerA) (hT:∀q∈tabs,K.lookup q=none/\∃c,f.heap.TableAt c q #v[])
  (F:∀l:Heap,K.In l->l.Ns mainGlobals mg->nG mg l->FnOk P w K mg l cL k fa fd [x] sp) (G:∀(s:Sh) (u:Vl),BindsTo s fd #[[u],[]] [(x,u)])
  (ae:∀H:Hp,(∀q∈tabs,H q=some (.tbl #v[]))->SqL K H a (D.map V.int)->sp [.ref a] H (λv _=>v=.bl true) λ_ _ _=>False):
  codeAny (model P w) callerA (.call (.ref fa) #[[.ref a],[]]) (λr L=>r=.ok (.ret (.bool true))/\OldK f.heap L.heap/\L.os=f.os/\AllBare L.gens) f:=by
 have rv:=EX hi;have M:=hi.length;have i:∀q∈tabs,f.heap.get? q=some (PySem.W.tabObj #v[]):=λq N=>let⟨_,c,t⟩:=hT q N;t.2
 have na:a∉tabs:=λN=>by
  have:=i a N;rw[E]at this;cases this
 generalize eH:Oq K tabs a {cls:= .type "list",data:= .seq A.toArray} D=H;have O:∀q∈tabs,H q=some (.tbl #v[]):=λq N=>by rw[<-eH];exact wB N
 have B:∀b,b∉tabs->H b=if b=a/\K.lookup a=none then some (.frz {cls:= .type "list",data:= .seq A.toArray} (.lst (D.map V.int)))else none:=λb g=>by rw[<-eH];exact wA g
 have j:∀b u,H b=some u->(b∈tabs/\u=.tbl #v[])\/(b=a/\K.lookup a=none/\u=.frz {cls:= .type "list",data:= .seq A.toArray} (.lst (D.map V.int))):=λb u e=>by
  by_cases g:b∈tabs
  .rw[O b g]at e;cases e;exact .inl #[g,rZ]
  .rw[B b g]at e;by_cases h:b=a/\K.lookup a=none
   .rw[wB h]at e;cases e;exact .inr #[h.1,h.2,rZ]
   .rw[wA h]at e;cases e
 have af:HOk P w H f.heap:=λb u e=>by
  rcases j b u e with⟨g,rfl⟩|⟨rfl,_,rfl⟩
  .exact i b g
  .exact#[E,by rw[bZ];exact hl,A,_,rv,E]
 have hS:SqL K H a (D.map V.int):=by
  cases Q:K.lookup a with
  |some o=>
   have e:=KX a o Q;rw[E]at e;cases e;exact .inr #[_,A.toArray,_,Q,rZ,rZ,rZ,by rw[dS,M];exact hl,by simpa using rv]
  |none=>exact .inl (.inr #[{cls:= .type "list",data:= .seq A.toArray},by rw[B a na,wB #[rZ,Q]]])
 have free:∀{b:Ad} {o:Obj},f.heap.get? b=some o->o.cls≠ .none->(∀T n,o.data≠ .seq T n)->H b=none:=λ{b o} e hc hd=>by
  cases q:H b with
  |none=>rfl
  | some u=>
   rcases j b u q with⟨g,_⟩|⟨rfl,_,_⟩
   .rw[i b g]at e;cases e;exact wC rZ hc
   .rw[E]at e;cases e;exact wC rZ (hd _ _)
 have p:∀{b:Ad} {m:SV},f.heap.Ns b m->(oZ f.heap H).Ns b m:=λ{b m} ⟨o,es,ep,e,d,r⟩=>by
  refine#[o,es,ep,C8 e ?_,d,r];cases q:H b with
  |none=>rfl
  | some u=>
   rcases j b u q with⟨g,_⟩|⟨rfl,_,_⟩
   .rw[i b g]at e;cases e;cases d
   .rw[E]at e;cases e;cases d
 have U:K.In (oZ f.heap H):=λb o e=>C8 (KX b o e) (by
  cases q:H b with
  |none=>rfl
  | some u=>
   rcases j b u q with⟨g,_⟩|⟨rfl,Q,_⟩
   .rw[(hT b g).1]at e;cases e
   .rw[Q]at e;cases e)
 have ag:nG mg (oZ f.heap H):=by
  obtain⟨bm,o,b1,b2,b3,b4,b5,b6⟩:=ab;exact#[bm,o,b1,b2,C8 b3 (free b3 (by rw[b4];nofun) (λT n z=>by rw[b6]at z;cases z)),b4,b5,b6]
 have hM:Mod K mg (oZ f.heap H):=#[U,p I,#[mb,p g,aa],let⟨mc,h1,h2⟩:=J;#[mc,p h1,h2]];have e0:Env0 P w K mg (oZ f.heap H) callerA [] f H:=#[rZ,hM,λb o e=>Nc e,px (Ni _ _),trivial,λb g=>wC (show b∈([]:As)from g) (by simp),af,.of_eq hg];refine mD ((F _ U (p I) ag).run callerA [] f H #[[.ref a],[]] [.ref a] [.ref a] _ _ hr e0 (G f (.ref a)) (.cons rZ .nil) (ae H O hS)) λr L h=>?_;cases r with
 |error e=>exact h.elim
 | ok fl=>
  cases fl with
  |next=>exact wE h
  |brk=>exact wE h
  |cont=>exact wE h
  | ret u=>
   obtain⟨v,H',os,Y,un,C,r',q⟩:=h;have q':v=.bl true:=q;subst q'
   obtain rfl:u=Value.bool true:=r';refine#[rZ,#[λb o e=>?_,λb o e=>un.there b o e (by simp)],os,Y];cases z:H b with
   |none=>exact .inl (un.keep b o e z (by intro y;exact wC (show b∈([]:As)from y) (by simp)) (by simp))
   | some u=>
    rcases j b u z with⟨g,rfl⟩|⟨rfl,_,rfl⟩
    .obtain⟨more,z2⟩:=un.tbls b _ z;have e2:L.heap.get? b=some (PySem.W.tabObj (#v[]++more)):=C b _ z2;rw[i b g]at e;cases e;obtain⟨_,c,t⟩:=hT b g;exact .inr (.inl #[t.isCodeTable,rZ,#v[],more,rZ,e2])
    .obtain⟨e2,_⟩:=C b _ (un.frzs b _ _ z);rw[E]at e;cases e;exact .inl e2
def sl(u v:bV):Prop:=u.length<v.length\/(u.length=v.length/\d8 u v=true)
def ju{a b:Nat}{c d:bV}(h:a≠b):d8 (a::c) (b::d)=decide (a<b):=by
 unfold d8;rw[hA,wA h];rfl
def pW{a:Nat}{c d:bV}:d8 (a::c) (a::d)=d8 c d:=by
 unfold d8;rw[hA,wB rZ];cases hA c d with
 |none=>simp
 |some b=>rfl
theorem FU:∀{i e j:bV},i.length=e.length->e.length=j.length->d8 i e=true->d8 e j=true->d8 i j=true
 | [],[],_,_,_,h,_=>by rw[qa]at h;cases h
 | [],_::_,_,h,_,_,_=>by simp at h
 |_::_,[],_,h,_,_,_=>by simp at h
 |_::_,_::_,[],_,h,_,_=>by simp at h
 | a::i,b::e,c::j,l,m,f,d=>by
  by_cases k:a=b
  .subst k;rw[pW]at f;by_cases g:a=c
   .subst g;rw[pW]at d|-;exact FU (by simpa using l) (by simpa using m) f d
   .rw[ju g]at d|-;exact d
  .rw[ju k]at f;have n:a<b:=fG f;by_cases g:b=c
   .subst g;rw[ju k];exact f
   .rw[ju g]at d;have o:b<c:=fG d;rw[ju ()];exact c9 ()
theorem HS:∀{c d g i:bV},c.length=d.length->d8 c d=true->d8 (c++g) (d++i)=true
 | [],[],_,_,_,h=>by rw[qa]at h;cases h
 | [],_::_,_,_,h,_=>by simp at h
 |_::_,[],_,_,h,_=>by simp at h
 | a::c,b::d,g,i,j,e=>by
  by_cases f:a=b
  .subst f;rw[t6,t6,pW];rw[pW]at e;exact HS (by simpa using j) e
  .rw[t6,t6,ju f];rw[ju f]at e;exact e
def Ly(c:bV){a b:Nat}(h:a<b):d8 (c++[a]) (c++[b])=true:=by
 induction c with
 |nil=>exact(ju ()).trans (c9 h)
 |cons x c d=>rw[t6,t6,pW];exact d
def pC{u v x:bV}(a:sl u v)(b:sl v x):sl u x:=by
 rcases a with a|⟨c,d⟩<;>rcases b with b|⟨e,f⟩
 .exact .inl ()
 .exact .inl ()
 .exact .inl ()
 .exact .inr #[(),FU c e d f]
def Ai{u:bV}(h:sl u u):False:=by
 rcases h with h|⟨_,h⟩
 .lia
 .rw[qa]at h;cases h
def Cs{u v:bV}{a b:Nat}(h:sl u v):sl (u++[a]) (v++[b]):=by
 rcases h with h|⟨e,l⟩
 .exact .inl (by simp;lia)
 .exact .inr #[by simp[e],HS e l]
def uj(u:bV){a b:Nat}(h:a<b):sl (u++[a]) (u++[b]):= .inr #[by simp,Ly u h]
def oD(u v:bV):Prop:=u=v\/sl u v
def K8{u v x:bV}(h1:oD u v)(h2:oD v x):oD u x:=by
 rcases h1 with rfl|h1
 .exact h2
 .rcases h2 with rfl|h2
  .exact .inr h1
  .exact .inr (pC h1 h2)
def NV{u v:bV}{a:Nat}(h:oD u v):oD (u++[a]) (v++[a]):=by
 rcases h with rfl|h
 .exact .inl rfl
 .exact .inr (Cs h)
section
variable(f:bV->Nat->List Nat)(L:Nat)(x0:bV)
abbrev TW:=List (bV×bV)
def cw(word:bV):bV:=word.foldl f x0
def Goes(a:TW)(p:bV×bV)(l:Nat):Prop:=∃u,(f p.1 l,u)∈a/\oD u (p.2++[l])
structure Told(ws:TW):Prop where
 head:ws[0]?=some (x0,[])
 keys:(ws.map (·.1)).Nodup
 run:∀p∈ws,(∀l∈p.2,l<L)/\cw f x0 p.2=p.1
 up:ws.Pairwise λp q=>sl p.2 q.2
 all:∀p∈ws,∀l,l<L->Goes f ws p l
 short:∀p∈ws,p.2.length<ws.length
structure Bfs(d:Nat)(ws wv fo:TW)(i j:Nat):Prop where
 head:ws[0]?=some (x0,[])
 keys:(ws.map (·.1)).Nodup
 run:∀p∈ws,(∀l∈p.2,l<L)/\cw f x0 p.2=p.1
 up:ws.Pairwise λp q=>sl p.2 q.2
 len:∀p∈ws,p.2.length<=d+1
 wave:∀p∈wv,p∈ws/\p.2.length=d
 wup:wv.Pairwise λp q=>sl p.2 q.2
 foll:∀p∈fo,p∈ws/\p.2.length=d+1
 fup:fo.Pairwise λp q=>sl p.2 q.2
 front:∀p∈ws,∀t,wv[i]?=some t->sl p.2 (t.2++[j])
 done:∀p∈ws,p∈fo\/(∃a,i<=a/\wv[a]?=some p)\/∀l,l<L->Goes f ws p l
 part:∀t,wv[i]?=some t->∀l,l<j->Goes f ws t l
 short:∀p∈ws,p.2.length<ws.length
variable{f L x0}{d i j:Nat}{ws wv fo:TW}{t:bV×bV}
def Goes.more{p q:bV×bV}{l:Nat}(h:Goes f ws p l):Goes f (ws++[q]) p l:=by
 obtain⟨u,a,b⟩:=h;exact#[u,oC _ a,b]
def Bfs.start:Bfs f L x0 0 [(x0,[])] [(x0,[])] [] 0 0 where
 head:=rfl
 keys:=by simp
 run:=λp a=>by
  rw[cE.mp a];exact#[λ_ h=>(nomatch h),rZ]
 up:=oF _ _
 len:=λp a=>by rw[cE.mp a];simp
 wave:=λp a=>#[a,by rw[cE.mp a];rfl]
 wup:=oF _ _
 foll:=λ_ h=>nomatch h
 fup:= .nil
 front:=λp a t _=>by
  rw[cE.mp a];exact .inl (by simp)
 done:=λp a=> .inr (.inl #[0,cm _,by rw[cE.mp a];rfl])
 part:=λ_ _ _ h=>wC h (mh _)
 short:=λp a=>by rw[cE.mp a];simp
def Bfs.old(b:Bfs f L x0 d ws wv fo i j)(ht:wv[i]?=some t)(k:f t.1 j∈ws.map (·.1)):Bfs f L x0 d ws wv fo i (j+1):=by
 obtain⟨p,h,e⟩:=cq.mp k;refine {b with front:=λq m c a=>?_,part:=λc a l g=>?_}
 .exact pC (b.front q m c a) (uj _ (iW _))
 .rcases Nat.lt_succ_iff_lt_or_eq.mp g with g|rfl
  .exact b.part c a l g
  .rw[ht]at a;cases a;exact#[p.2,by rw[<-e];exact h,.inr (b.front p h t ht)]
def Bfs.new(b:Bfs f L x0 d ws wv fo i j)(ht:wv[i]?=some t)(n:j<L)(o:f t.1 j∉ws.map (·.1)):
  Bfs f L x0 d (ws++[(f t.1 j,t.2++[j])]) wv (fo++[(f t.1 j,t.2++[j])]) i (j+1):=by
 obtain⟨tw,tl⟩:=b.wave t (cH ht);obtain⟨r,g⟩:=b.run t tw;have k:(t.2++[j]).length=d+1:=by simp[tl]
 have c:0<ws.length:=xr tw;refine#[?_,?_,λp hp=>?_,?_,λp hp=>?_,λp hp=>#[oC _ (b.wave p hp).1,(b.wave p hp).2],b.wup,λp hp=>?_,?_,λp hp s a=>?_,λp hp=>?_,λs a l hl=>?_,λp hp=>?_]
 .rw[eA c];exact b.head
 .rw[dX,oQ];refine#[b.keys,by simp,λx u y m z=>?_];simp at m;subst m;exact o (z▸u)
 .rcases cM.mp hp with hp|hp
  .exact b.run p hp
  .rw[cE.mp hp];refine#[λl hl=>?_,?_]
   .rcases cM.mp hl with hl|hl
    .exact r l hl
    .rw[cE.mp hl];exact n
   .show cw f x0 (t.2++[j])=f t.1 j;unfold cw at g|-;rw[kg,g];rfl
 .rw[ik];refine#[b.up,oF _ _,λp hp q e=>?_];rw[cE.mp e];exact b.front p hp t ht
 .rcases cM.mp hp with hp|hp
  .exact b.len p hp
  .rw[cE.mp hp];exact px k
 .rcases cM.mp hp with hp|hp
  .exact#[oC _ (b.foll p hp).1,(b.foll p hp).2]
  .exact#[ft _ hp,by rw[cE.mp hp];exact k]
 .rw[ik];refine#[b.fup,oF _ _,λp hp q e=>?_];rw[cE.mp e];exact b.front p (b.foll p hp).1 t ht
 .rw[ht]at a;cases a
  rcases cM.mp hp with hp|hp
  .exact pC (b.front p hp t ht) (uj _ (iW _))
  .rw[cE.mp hp];exact uj _ (iW _)
 .rcases cM.mp hp with hp|hp
  .rcases b.done p hp with h|h|h
   .exact .inl (oC _ h)
   .exact .inr (.inl h)
   .exact .inr (.inr λl hl=>(h l hl).more)
  .exact .inl (ft _ hp)
 .rw[ht]at a;cases a
  rcases Nat.lt_succ_iff_lt_or_eq.mp hl with hl|rfl
  .exact(b.part t ht l hl).more
  .exact#[t.2++[l],ft _ (cE.mpr rZ),.inl rZ]
 .rw[dA,wh]
  rcases cM.mp hp with hp|hp
  .exact yo (b.short p hp)
  .rw[cE.mp hp];have z:=b.short t tw;show(t.2++[j]).length<_
   rw[dA,wh];lia
def Bfs.next(b:Bfs f L x0 d ws wv fo i L)(ht:wv[i]?=some t):Bfs f L x0 d ws wv fo (i+1) 0:=by
 refine {b with front:=λp g t' j=>?_,done:=λp g=>?_,part:=λ_ _ l k=>wC k (mh _)}
 .have m:=b.front p g t ht;have c:sl t.2 t'.2:=by
   obtain⟨n,o⟩:=cg.mp ht;obtain⟨q,r⟩:=cg.mp j;rw[<-o,<-r];exact ke.mp b.wup i (i+1) n q (iW _)
  exact pC m (Cs c)
 .rcases b.done p g with h|⟨a,m,c⟩|h
  .exact .inl h
  .rcases Nat.eq_or_lt_of_le m with e|e
   .subst e;rw[ht]at c;cases c;exact .inr (.inr λl k=>b.part t ht l k)
   .exact .inr (.inl #[a,e,c])
  .exact .inr (.inr h)
def Bfs.wave'(b:Bfs f L x0 d ws wv fo wv.length 0):Bfs f L x0 (d+1) ws fo [] 0 0:=by
 refine#[b.head,b.keys,b.run,b.up,λp c=>Nat.le_succ_of_le (b.len p c),b.foll,b.fup,λ_ h=>(nomatch h),.nil,λp c t ht=>?_,λp c=>?_,λ_ _ l j=>wC j (mh _),b.short]
 .have i:=b.len p c;have g:=(b.foll t (cH ht)).2;exact .inl (by simp;lia)
 .rcases b.done p c with h|⟨a,i,g⟩|h
  .obtain⟨a,e⟩:=dU.mp h;exact .inr (.inl #[a,gc _,e])
  .rw[ie i]at g;cases g
  .exact .inr (.inr h)
def Bfs.told(b:Bfs f L x0 d ws [] [] 0 0):Told f L x0 ws:=#[b.head,b.keys,b.run,b.up,λp c=>by
 rcases b.done p c with h|⟨a,_,h⟩|h
 .nomatch h
 .simp at h
 .exact h,b.short]
theorem Told.least(T:Told f L x0 ws):∀(n:Nat) (v:bV),v.length=n->(∀l∈v,l<L)->∃u,(cw f x0 v,u)∈ws/\oD u v
 |0,v,a,_=>by
  have e:v=[]:=oo.mp a;subst e;exact#[[],cH T.head,.inl rZ]
 | n+1,v,a,c=>by
  obtain⟨b,l,rfl⟩:∃b l,v=b++[l]:=#[v.dropLast,v.getLast (by intro z;rw[z]at a;cases a),(FQ _).symm];obtain⟨u,d,g⟩:=T.least n b (by simp at a;lia) λx h=>c x (List.mem_append_left _ h);obtain⟨i,j,k⟩:=T.all _ d l (c l (ft _ (cE.mpr rZ)));refine#[i,?_,K8 k (NV g)];have e:cw f x0 (b++[l])=f (cw f x0 b) l:=by
   unfold cw;rw[kg];rfl
  rw[e];exact j
def nS{U:LN}(b:x0∈U)(c:∀x∈U,∀l,l<L->f x l∈U):∀word:bV,(∀l∈word,l<L)->cw f x0 word∈U:=by
 have go:∀(word:bV) (x:bV),x∈U->(∀l∈word,l<L)->word.foldl f x∈U:=by
  intro word
  induction word with
  |nil=>intro x a _;exact a
  |cons l word d=>intro x a h;exact d _ (c x a l (h l (dh ..))) λy e=>h y (dR _ e)
 exact λword h=>go word x0 b h
def lL{U:LN}{l:LN}(nd:l.Nodup)(h:∀x∈l,x∈U):l.length<=U.length:=rY nd h
end
def HD{u v:bV}(a:sl u v)(b:sl v u):False:=Ai (pC a b)
def MW{u v:bV}(h1:oD u v)(h2:oD v u):u=v:=by
 rcases h1 with h1|h1
 .exact h1
 .rcases h2 with h2|h2
  .exact h2.symm
  .exact(HD h1 h2).elim
theorem Fs:∀{a b:TW},(a.Pairwise λp q=>sl p.2 q.2)->(b.Pairwise λp q=>sl p.2 q.2)->(∀p,p∈a↔p∈b)->a=b
 | [],[],_,_,_=>rfl
 | [],q::b,_,_,h=>wC ((h q).mpr (dh ..)) (by simp)
 |p::a,[],_,_,h=>wC ((h p).mp (dh ..)) (by simp)
 | p::a,q::b,g,i,h=>by
  obtain⟨d,j⟩:=vz.mp g;obtain⟨f,k⟩:=vz.mp i;have l:p=q:=by
   rcases dq.mp ((h p).mp (dh ..))with e|e
   .exact e
   .rcases dq.mp ((h q).mpr (dh ..))with e'|e'
    .exact e'.symm
    .exact(HD (f p e) (d q e')).elim
  subst l;have rest:a=b:=Fs j k λr=>by
   constructor
   .intro c
    rcases dq.mp ((h r).mp (dR _ c))with e|e
    .subst e;exact(Ai (d r c)).elim
    .exact e
   .intro c
    rcases dq.mp ((h r).mpr (dR _ c))with e|e
    .subst e;exact(Ai (f r c)).elim
    .exact e
  rw[rest]
def Told.sub{f:bV->Nat->List Nat}{L:Nat}{b:bV}{g h:TW}(T:Told f L b g)(k:Told f L b h){p:bV×bV}(l:p∈g):p∈h:=by
 obtain⟨o,q⟩:=T.run p l;obtain⟨u,a,r⟩:=k.least _ p.2 rZ o;rw[q]at a;obtain⟨s,t⟩:=k.run _ a;obtain⟨v,m,n⟩:=T.least _ u rZ s;have e:cw f b u=p.1:=t;rw[e]at m;have same:v=p.2:=by
  obtain⟨i,c⟩:=dU.mp m;obtain⟨j,d⟩:=dU.mp l;have w:i=j:=(jk (by rw[bZ];exact(cg.mp c).1) T.keys).mp (by rw[cr,cr,c,d];rfl);subst w;rw[c]at d;have z:=fL d;rw[<-z]
 rw[same]at n;have x:u=p.2:=MW r n;rw[x]at a;exact a
def Told.uniq{f:bV->Nat->List Nat}{L:Nat}{b:bV}{c d:TW}(T:Told f L b c)(a:Told f L b d):c=d:=Fs T.up a.up λp=>#[λh=>T.sub a h,λh=>a.sub T h]
section
variable{P:Pg}{w:World}{A:Ar}{E:VP}{s:Sh}{it d:Ad}{i f:Nat}{j:Array DictEntry}
abbrev jr(k v:Vl):Obj:={cls:= .type "tuple",data:= .seq #v[k,v]}
abbrev py(a:Vl)(b:Bool)(d:Ad)(i n f:Nat)(k v:Vl):Obj:={cls:= .type "dict_itemiterator",data:= .fields #v[a,.bool b,.ref d,.int i 0,.int n 0,.int f 0,k,v]}
def Lies(h:Heap)(d:Ad)(j:Array DictEntry)(f:Nat):Prop:=∃o,h.get? d=some o/\o.ExactDict/\o.data=.dict j f
def Goer(h:Heap)(it d:Ad)(i n f:Nat):Prop:=∃b c k v,h.get? it=some (py b c d i n f k v)/\(b=.none\/∃a:Nat,b=rawInt a/\a≠it/\∃o,h.get? a=some o)
def Goer.keep{h j:Heap}{n:Nat}(g:Goer h it d i n f)(k:∀o,h.get? it=some o->j.get? it=some o)(l:∀b o,h.get? b=some o->∃q,j.get? b=some q):Goer j it d i n f:=by
 obtain⟨m,p,x,v,e,c⟩:=g;refine#[m,p,x,v,k _ e,c.imp id ?_];rintro⟨a,r,s,o,t⟩;exact#[a,r,s,l a o t]
def OO{j:Vl}{g:Bool}{n:Nat}{B C k v:Vl}{Q:VP}(e:s.heap.get? it=some (py j g d i n f B C))(c:j=.none\/∃a:Nat,j=rawInt a/\a≠it/\∃o,s.heap.get? a=some o)(q:∀u,Goer u it d i n f->u.get? s.heap.objs.size=some (jr k v)->(∀b o,b≠it->s.heap.get? b=some o->u.get? b=some o)->Q (.ref s.heap.objs.size) {s with heap:=u}):
  wpAny (model P w) A (Builtin.Dict_items.pairFromOwner (.ref it) 6 k v) Q E s:=by
 have lt:it<s.heap.objs.size:=cQ e;unfold Builtin.Dict_items.pairFromOwner;refine bW (wpAny_newTuple ?_);have h:=cV (jr k v) e;have l:(s.heap.push (jr k v)).get? s.heap.objs.size=some (jr k v):=dW _ rfl;have y:∀b o,s.heap.get? b=some o->(s.heap.push (jr k v)).get? b=some o:=λb o z=>cV _ z;have ne:s.heap.objs.size≠it:=mS lt
 rcases c with rfl|⟨a,rfl,D,o,N⟩
 .have free:∀{R:Bool->Sh->Prop} {G:Sh},G.heap.get? it=some (py .none g d i n f B C)->R true G->wpAny (model P w) A (Builtin.Dict_items.ownedTupleIsFree (.ref it)) R E G:=λe r=>by
   unfold Builtin.Dict_items.ownedTupleIsFree;exact bW (rz e rZ (x:= .none) rZ (b9 r))
  refine bW (free h ?_);rw[wB rZ];refine bW (rz h rZ (x:=B) rZ (bW (rz h rZ (x:=C) rZ ?_)));refine bW (mC h (by simp) λL H p=>wpAny_bind (wpAny_setField_rec H (by simp) λh3 O T=>?_));refine bW (mC O (by simp) λh4 U Y=>wpAny_bind (wpAny_setField_rec U (by simp) λh5 e5 s5=>wpAny_bind (wpAny_letGo (wpAny_pure ?_))));have M:=((p.trans T).trans Y).trans s5;have t:=M.extBut _ _ ne l;exact q h5 #[_,_,_,_,e5,.inr #[_,rZ,ne,_,t]] t λb o I z=>M.extBut _ _ I (y b o z)
 .have J:=y a o N;refine bW (m:=Builtin.Dict_items.ownedTupleIsFree _) ?_;unfold Builtin.Dict_items.ownedTupleIsFree;refine bW (rz h rZ (x:=rawInt a) rZ ?_);have alive:∀{R:Option Obj->Sh->Prop},R (some o) {s with heap:=s.heap.push (jr k v)}->wpAny (model P w) A (loadIfAlive ((a:Int).toNat)) R E {s with heap:=s.heap.push (jr k v)}:=λ{R} r=>by
   rw[iI];exact λ_ _ _=>show R ((s.heap.push (jr k v)).get? a) _ by rw[J];exact r
  refine show wpAny _ _ (loadIfAlive ((a:Int).toNat) >>= _) _ _ _ from bW (alive ?_)
  refine bW (m:=field _ _) (rz h rZ (x:= .bool g) rZ ?_);cases g with
  |true=>exact b9 (b9 (q _ #[_,_,_,_,h,.inr #[a,rZ,D,o,J]] l λb o _ z=>y b o z))
  |false=>
   refine bW (m:=setField _ _ _) (mC h (by simp) λL H p=>wpAny_pure (wpAny_pure ?_));exact q L #[_,_,_,_,H,.inr #[a,rZ,D,o,p.extBut _ _ D J]] (p.extBut _ _ ne l) λb o I z=>p.extBut _ _ I (y b o z)
end
section
variable{P:Pg}{w:World}{A:Ar}{E:VP}{s:Sh}{it d:Ad}{i g:Nat}{f:Array DictEntry}
def M9{h:DictEntry}{Q:Option Vl->Sh->Prop}(G:Goer s.heap it d i f.size g)(L:Lies s.heap d f g)(x:f[i]?=some h)(q:∀n,Goer n it d (i+1) f.size g->n.get? s.heap.objs.size=some (jr h.key h.val)->(∀b o,b≠it->s.heap.get? b=some o->n.get? b=some o)->Q (some (.ref s.heap.objs.size)) {s with heap:=n}):
  wpAny (model P w) A (pyNext (.ref it)) Q E s:=by
 obtain⟨p,r,I,J,e,c⟩:=G;obtain⟨o,y,_,B⟩:=L;have ty:s.TypeIs (.ref it) "dict_itemiterator":=#[_,e,rZ];have lt:i<f.size:=(io.mp x).1;unfold pyNext;refine bW (nI (oB (name:=Str.ofString "__next__") ty v7 (iG v7 ty HF ?_ (Hr _))));refine bW (b9 (bW (bW ?_)));refine bW (zv ty (b9 (bW (pQ e rZ ?_))));have k:Builtin.Dict_items.ownsTuple "dict_itemiterator"=true:=by decide
 simp only[k,if_true];refine show wpAny _ _ (if(Value.ref d==Value.none)=true then _ else _) _ _ s from(wA (show ¬((Value.ref d==Value.none)=true)from gN))▸bW (b9 (bW (nH y B ?_)))
 rw[wA (by simp)];refine bW (b9 (bW (oX y B ?_)));rw[wA (by simp)];refine b9 ?_;have t:(if((i:Nat):Int)<0 then none else f[((i:Nat):Int).toNat]?)=some h:=by
  rw[wA (),iI];exact x
 show wpAny _ _ (match (if((i:Nat):Int)<0 then none else f[((i:Nat):Int).toNat]?)with|some e=>_|none=>_) _ _ s;rw[t];refine bW (bW (zv ty (b9 (bW (C3 ty ?_)))));refine show wpAny _ _ (setField (.ref it) 3 (rawInt ((i:Int)+1)) >>= _) _ _ s from bW (mC e (by simp) λj M u=>wpAny_bind (wpAny_holding ?_))
 have l:j.get? it=some (py p r d (i+1) f.size g I J):=by
  have z:((i+1:Nat):Int)=(i:Int)+1:=by lia
  unfold py;rw[z];simpa[rawInt]using M
 have m:Shared.TypeIs {s with heap:=j} (.ref it) "dict_itemiterator":=#[_,l,rfl];refine bW (C3 m (bW (C3 m ?_)));have sz:j.objs.size=s.heap.objs.size:=u.1;refine show wpAny _ _ (Builtin.Dict_items.pairFromOwner (.ref it) 6 h.key h.val) _ _ {s with heap:=j}from OO (s:={s with heap:=j}) l (c.imp id ?_) λC N O T=>?_
 .rintro⟨a,U,D,Y,z⟩;exact#[a,U,D,Y,u.extBut _ _ D z]
 .have v:C.get? s.heap.objs.size=some (jr h.key h.val):=by rw[<-sz];exact O
  show wpAny _ _ (ret (.ref j.objs.size)) _ _ _;rw[sz];exact b9 #[_,rZ,b9 (q C N v λb o H z=>T b o H (u.extBut _ _ H z))]
def IJ{Q:Option Vl->Sh->Prop}(p:A.handled=none)(G:Goer s.heap it d i f.size g)(L:Lies s.heap d f g)(r:f[i]?=none)(q:∀k,Heap.ExtBut it s.heap k->Q none {s with heap:=k}):wpAny (model P w) A (pyNext (.ref it)) Q E s:=by
 obtain⟨t,u,y,B,e,c⟩:=G;obtain⟨o,l,_,n⟩:=L;have ty:s.TypeIs (.ref it) "dict_itemiterator":=#[_,e,rZ];unfold pyNext;refine bW (nI (oB (name:=Str.ofString "__next__") ty v7 (iG v7 ty HF ?_ (Hr _))));refine bW (b9 (bW (bW ?_)));refine bW (zv ty (b9 (bW (pQ e rZ ?_))));have h:Builtin.Dict_items.ownsTuple "dict_itemiterator"=true:=by decide
 simp only[h,if_true];refine show wpAny _ _ (if(Value.ref d==Value.none)=true then _ else _) _ _ s from(wA (show ¬((Value.ref d==Value.none)=true)from gN))▸bW (b9 (bW (nH l n ?_)))
 rw[wA (by simp)];refine bW (b9 (bW (oX l n ?_)));rw[wA (by simp)];refine b9 ?_;have j:(if((i:Nat):Int)<0 then none else f[((i:Nat):Int).toNat]?)=none:=by
  rw[wA (),iI];exact r
 show wpAny _ _ (match (if((i:Nat):Int)<0 then none else f[((i:Nat):Int).toNat]?)with|some e=>_|none=>_) _ _ s;rw[j];refine bW (bW (zv ty (b9 ?_)));refine show wpAny _ _ (setField (.ref it) 2 .none >>= _) _ _ s from bW (mC e (by simp) λC D v=>?_)
 refine bW (m:=newExc _ _) ?_;simp only[newExc,newTuple];refine bW (mw ?_ (by size_fits));refine bW (m:=firstArgMember _ _) (uh (a:=Value.none) (by first|rfl|(unfold firstArgMember;rfl)) (wpAny_newObj_type ?_ (by size_fits)));refine AE (by simpa using p) (wpAny_bind (wpAny_isInstance (T:="StopIteration") (b:=true) #[_,Heap.get?_push_size _ rZ,rZ] isSubtype_stop (wpAny_pure ?_)));exact q _ λb o x z=>cV _ (cV _ (v.extBut b o x z))
end
structure PMade(es:Array DictEntry)(lo:Ad)(h:Heap)(as:As):Prop where
 far:∀a∈as,lo<a
 up:as.Pairwise (· < ·)
 is:∀(j:Nat) (a:Ad),as[j]?=some a->∃en:DictEntry,es[j]?=some en/\h.get? a=some (jr en.key en.val)
def PMade.nil{a:Array DictEntry}{lo:Ad}{h:Heap}:PMade a lo h []:=#[λ_ z=>(nomatch z),.nil,λ_ _ z=>by simp at z]
def PMade.here{c:Array DictEntry}{lo:Ad}{h:Heap}{b:As}(m:PMade c lo h b):∀a∈b,a<h.objs.size:=λa d=>by
 obtain⟨j,e⟩:=dU.mp d;obtain⟨_,_,g⟩:=m.is j a e;exact cQ g
def PMade.keep{c:Array DictEntry}{lo:Ad}{h d:Heap}{f:As}(m:PMade c lo h f)(k:∀b o,lo<b->h.get? b=some o->d.get? b=some o):PMade c lo d f:=
 #[m.far,m.up,λj a e=>by
  obtain⟨i,x,g⟩:=m.is j a e;exact#[i,x,k a _ (m.far a (cH e)) g]]
def PMade.more{i:Array DictEntry}{lo a:Ad}{h:Heap}{d:As}{f:DictEntry}(m:PMade i lo h d)(o:lo<a)(new:∀b∈d,b<a)(x:i[d.length]?=some f)(g:h.get? a=some (jr f.key f.val)):PMade i lo h (d++[a]):=
  #[λb k=>by
    rcases cM.mp k with z|z
    · exact m.far b z
    · rw[cE.mp z];exact o,
   ik.mpr #[m.up,oF _ _,λb k c p=>by rw[cE.mp p];exact new b k],
   λj b e=>by
    by_cases l:j<d.length
    · rw[eA l]at e
      exact m.is j b e
    · rw[dZ (xW l)]at e
      obtain⟨z,n⟩:=cg.mp e;have r:j-d.length=0:=by simp at z;lia
      have q:j=d.length:=by lia
      subst q;simp at n;subst n;exact#[f,x,g]]
section
variable{P:Pg}{w:World}{A:Ar}{R:Result->Sh->Prop}{S I d:Ad}{g:Nat}{a:Array DictEntry}{f:Vl}
abbrev xE(h:Heap)(S:Ad)(a:AV)(c:Nat):Prop:=h.get? S=some {cls:= .type "list",data:= .seq a c}
def fill(U:A.handled=none)(H:S<I)(Y:d≠S)(dI:d≠I)(aa:a.size<=sizeLine):∀(r i:Nat) (s:Sh) (h:As) (c:Nat),i+r=a.size->h.length=i->Goer s.heap I d i a.size g->Lies s.heap d a g->
      xE s.heap S (h.map Value.ref).toArray c->PMade a I s.heap h->
      (∀j bs v,bs.length=a.size->PMade a I j bs->xE j S (bs.map Value.ref).toArray v->(∀b o,b≠S->b≠I->s.heap.get? b=some o->j.get? b=some o)->R (.ok (.ret f)) {s with heap:=j})->
      codeAny (model P w) A (.builtin "list.extend.loop" #[[.ref S,.ref I,f],[]]) R s:=by
  have k:S≠I:=dP H;intro r
  induction r with
  | zero=>
    intro i s h c hi y G L t M q;refine mX F.entry_extend_loop ?_;rw[oW vV _];refine show wpAny _ A.in1 (pyNext (.ref I) >>= _) _ _ s from bW (IJ (by simpa using U) G L (Array.getElem?_eq_none ()) λj x=>wpAny_pure ?_)
    exact q j h c () (M.keep λb o l e=>x b o (mS l) e) (x S _ k t) λb o _ z e=>x b o z e
  | succ r ih=>
    intro i s h c hi y G L t M q;obtain⟨J,N⟩:∃J,a[i]?=some J:=#[a[i]'(),fX ()];have B:I<s.heap.objs.size:=by
      obtain⟨_,_,_,_,e,_⟩:=G;exact cQ e
    have C:S<s.heap.objs.size:=cQ t;refine mX F.entry_extend_loop ?_;rw[oW vV _];refine show wpAny _ A.in1 (pyNext (.ref I) >>= _) _ _ s from bW (M9 G L N λm G1 p1 u=>?_)
    have n:=u S _ k t;refine show wpAny _ A.in1 (updateSeq S (·.push (Value.ref s.heap.objs.size)) >>= _) _ _ {s with heap:=m}from bW (si n rfl (b9 #[mI vV _,?_]) ?_ ?_)
    · have off:∀b o,b≠S->m.get? b=some o->(m.update S (Obj.mapSeq (·.push (Value.ref s.heap.objs.size)))).get? b=some o:=λb o z e=>(iQ _ _ (eC z)).trans e
      have p:=uy (Obj.mapSeq (·.push (Value.ref s.heap.objs.size))) n rfl;obtain⟨D,h0,x0,y0⟩:=L;have M1:PMade a I m h:=M.keep λb o l e=>u b o (mS l) e
      refine ih (i+1) {s with heap:=m.update S (Obj.mapSeq (·.push (Value.ref s.heap.objs.size)))} (h++[s.heap.objs.size]) _ () (by simp[y]) (G1.keep (λo e=>off I o (Ne.symm k) e) λb o e=>?_)
        #[D,off d D Y (u d D dI h0),x0,y0] (by simpa[Obj.mapSeq,List.map_append]using p) ?_ λj bs v l' M' E k'=>q j bs v l' M' E λb o O Q e=>k' b o O Q (off b o O (u b o Q e))
      · by_cases T:b=S
        · subst T
          exact#[_,p]
        · exact#[o,off b o T e]
      · exact(M1.keep λb o l e=>off b o (mS (tr H l)) e).more B M.here (y▸N) (off _ _ (mS C) p1)
    · simp;lia
    · simp;lia
end
section
variable{P:Pg}{w:World}{A:Ar}{E:VP}{s:Sh}{v d:Ad}{g:Nat}{f:Array DictEntry}
abbrev qt(d:Ad):Obj:={cls:= .type "dict_items",data:= .fields #v[.ref d]}
def Lies.typeIs{s:Sh}(L:Lies s.heap d f g):s.TypeIs (.ref d) "dict":=let⟨o,h,x,_⟩:=L;#[o,h,x.1]
def NT{Q:VP}(nd:(d==sysModules)=false)(L:Lies s.heap d f g)(q:Q (.ref s.heap.objs.size) {s with heap:=s.heap.push (qt d)}):wpAny (model P w) A (call (.builtin "dict.items") [.ref d]) Q E s:=by
 refine call_meetsIn (S:=λ_ R s=>Lies s.heap d f g/\R (.ok (.ret (.ref s.heap.objs.size))) {s with heap:=s.heap.push (qt d)}) F.slot_dict_items L.typeIs F.entry_dict_items (F.args_dict_items_1 _) (.of_wp λA R s ⟨L,r⟩=>?_) #[L,q];unfold Builtin.«dict.items» Builtin.Dict.noArgs;refine bW (bW (Bd L.typeIs ?_));refine show wpAny _ _ (pure d) _ _ s from b9 (show wpAny _ _ (Builtin.Dict.showsAll d >>= _) _ _ s from ?_)
 have all:Builtin.Dict.showsAll d=pure Unit.unit:=by
  unfold Builtin.Dict.showsAll;rw[nd];rfl
 rw[all];exact bW (b9 (bW (mw (b9 #[_,rZ,r]))))
def Nw{Q:VP}(a:s.heap.get? v=some (qt d))(L:Lies s.heap d f g)(q:Q (.ref s.heap.objs.size) {s with heap:=s.heap.push (py .none false d 0 f.size g .none .none)}):wpAny (model P w) A (pyIter (.ref v)) Q E s:=by
 have ty:s.TypeIs (.ref v) "dict_items":=#[_,a,rZ];obtain⟨o,b,_,c⟩:=L;refine pJ ty F.slot_dict_items_iter (iG F.slot_dict_items_iter ty F.entry_dict_items_iter ?_ (F.args_dict_items_iter_1 _));unfold Builtin.«dict_items.__iter__» Builtin.Dict_items.dictOf Builtin.Dict_items.newIterator;refine bW (b9 (bW (bW (rz a rZ (x:= .ref d) rZ (b9 (bW (bW (nH b c (bW (oX b c ?_))))))))));refine show wpAny _ _ (newFields "dict_itemiterator" [.none,.bool false,.ref d,rawInt 0,rawInt (f.size:Nat),rawInt (g:Nat),.none,.none]) _ _ s from mw (b9 #[_,rZ,"dict_itemiterator",_,#[_,dW _ rZ,rZ],v7.lookup,q]) (by size_fits)
def ML{Q:Bool->Sh->Prop}(ty:s.TypeIs (.ref v) "dict_items")(q:Q false s):wpAny (model P w) A (Builtin.List.listLengthHint (.ref v)) Q E s:=PySem.W.kdx_hint ty q
def JN{Q:VP}(hh:A.handled=none)(Y:s.heap.get? v=some (qt d))(L:Lies s.heap d f g)(H:f.size<=sizeLine)(q:∀j n c k,n.length=f.size->PMade f s.heap.objs.size j n->xE j s.heap.objs.size (n.map Value.ref).toArray c->(∀b o,s.heap.get? b=some o->j.get? b=some o)->Q (.ref s.heap.objs.size) {s with heap:=j,toks:=k}):
  wpAny (model P w) A (call (.type "list") [.ref v]) Q E s:=by
 let S:=s.heap.objs.size
 obtain⟨o,I,x,hd⟩:=id L;have ld:d<S:=cQ I;have lv:v<S:=cQ Y;refine callType_codes (Q₁:=λp t=>p=.ref S/\t={s with heap:=s.heap.push {cls:= .type "list",data:= .seq #v[]}}) F.called_list (F.typeCall_list_1 _) F.entry_list_init (code_list_new _ #[rfl,rfl]) λp s1 z=>?_;obtain⟨rfl,rfl⟩:=z;have G:xE (s.heap.push {cls:= .type "list",data:= .seq #v[]}) S #v[] 0:=dW _ rfl;refine#[#[_,G,rZ],F.args_list_init_2 _ _,?_];unfold Builtin.«list.__init__» Builtin.List.listItems;refine bW (bW (vr G rZ (b9 ?_)));refine bW (m:=updateSeq S _) (si G rZ (bW (rj ?_)));have J:=uy (Obj.mapSeq (λ_=>(#v[]:AV))) G rfl
 let u:=(s.heap.push {cls:= .type "list",data:= .seq #v[]}).update S (Obj.mapSeq (λ_=>(#v[]:AV)))
 have M:∀b o,s.heap.get? b=some o->u.get? b=some o:=λb o e=>(iQ _ _ (mS (cQ e))).trans (cV _ e);have N:u.objs.size=S+1:=by
  show(Heap.update _ _ _).objs.size=_;simp[Heap.update,Heap.push,S]
 have go:∀(l:Heap) (c k:Nat),xE l S #v[] c->(∀b o,b≠S->(u.push (py .none false d 0 f.size g .none .none)).get? b=some o->l.get? b=some o)->
   codeAny (model P w) A.in1 (.builtin "list.extend.loop" #[[.ref S,.ref u.objs.size,.none],[]]) (wants (λr y=>r=Value.none/\Q (Value.ref S) y) E) {s with heap:=l,toks:=k}:=λl c k l2 k2=>by
  have B:S<u.objs.size:=by rw[N];exact iW _
  have C:∀b o,s.heap.get? b=some o->l.get? b=some o:=λb o e=>k2 b o (dP (cQ e)) (cV _ (M b o e));refine fill (by simpa using hh) B (Nat.ne_of_lt ld) (Nat.ne_of_lt (Nat.lt_trans ld B)) H f.size 0 {s with heap:=l,toks:=k} [] c () rfl #[_,_,_,_,k2 _ _ (Nat.ne_of_gt B) (Heap.get?_push_size _ rfl),.inl rfl] #[o,C d o I,x,hd] l2 .nil λj n c' l' O U k'=>?_;refine#[rZ,q j n c' k l' #[λa ha=>tr B (O.far a ha),O.up,O.is] U λb o e=>?_];have lb:b<S:=cQ e;exact k' b o (dP lb) (dP (tr lb B)) (C b o e)
 refine show wpAny _ _ (Builtin.List.listExtendWith (.ref S) (.ref v) .none) _ _ _ from ?_
 unfold Builtin.List.listExtendWith;have h:=M v _ Y;refine bW (yU (T:="dict_items") #[_,h,rZ] ?_);have no:(Builtin.List.listSameRef (.ref S) (.ref v) || Value.type "dict_items"==Value.type "list" || Value.type "dict_items"==Value.type "tuple")=false:=by
  have z:Builtin.List.listSameRef (.ref S) (.ref v)=false:=by simp[Builtin.List.listSameRef,Nat.ne_of_gt lv]
  rw[z];decide
 rw[no,wA (by decide)];refine bW (Nw h #[o,M d o I,x,hd] (bW (gf (ML #[_,cV _ h,rZ] ?_))));have i:=cV (py .none false d 0 f.size g .none .none) J;refine Dy (λ_=>?_) λ_=>b9 #[mI vV _,go _ _ _ i λ_ _ _ e=>e];unfold Builtin.List.listTouch Builtin.List.listUpdate;refine bW (oY (bW (bW (m:=updateSeq S _) (si i rZ ?_))));have D:=uy (Obj.mapSeq (·.push Value.none)) i rfl;refine show wpAny _ _ (updateSeq S (·.pop)) _ _ _ from si (hz:=by seq_fits) D rZ (b9 #[mI vV _,go _ _ _ (uy (Obj.mapSeq (·.pop)) D rZ) λb o nb e=>?_])
 rw[iQ _ _ (eC nb),iQ _ _ (eC nb)];exact e
end
def p0(H:Hp):List (Ad×HO)->Hp
 | []=>H
 |p::l=>p0 (bX H p.1 p.2) l
theorem Cf:∀{l:List (Ad×HO)} {H:Hp} {b:Ad},(∀p∈l,b≠p.1)->p0 H l b=H b
 | [],_,_,_=>rfl
 |p::l,H,b,n=>by
  show p0 (bX H p.1 p.2) l b=_;rw[Cf λq a=>n q (dR _ a),cf (n p (dh ..))]
theorem AQ:∀{l:List (Ad×HO)} {H:Hp} {p:Ad×HO},(l.map (·.1)).Nodup->p∈l->p0 H l p.1=some p.2
 | q::l,H,p,nd,hp=>by
  obtain⟨a,b⟩:=gP.mp nd
  rcases dq.mp hp with rfl|hp
  .show p0 (bX H p.1 p.2) l p.1=_;rw[Cf λr c z=>a (cq.mpr #[r,c,z.symm]),cb]
  .exact AQ (l:=l) b hp
def wu{c d:Type}{F:c->d->Prop}{l:List c}{m:List d}{j:Nat}{a:c}(r:Paired F l m)(e:l[j]?=some a):∃b,m[j]?=some b/\F a b:=by
 induction r generalizing j with
 |nil=>simp at e
 | cons h _ f=>
  cases j with
  |zero=>
   have z:=fL e;subst z;exact#[_,rZ,h]
  |succ j=>exact f (by simpa using e)
section
variable{X:Cx}
theorem Inv.tracks{a:AO}{c:St}{g:Hp}{s s1:Sh}(I:Inv X a c g s):∀(l:List (Ad×HO)) (H:Hp),Inv X a c H s1->(∀p∈l,s.heap.objs.size<=p.1/\H p.1=none/\∀h,ObjOk X.prog X.w h s1.heap p.1 p.2)->(l.map (·.1)).Nodup->
  Inv X a c (p0 H l) s1
 | [],_,d,_,_=>d
 |p::l,H,d,ok,nd=>by
  obtain⟨i,j⟩:=gP.mp nd;obtain⟨le,n,o⟩:=ok p (dh ..);obtain⟨t,k,u,v,m,r⟩:=I.fpOk (b:=p.1) (H':=H) le n;refine Inv.tracks I l _ (d.track n (o _) (cW I.sz le) k m r) (λq f=>?_) j;obtain⟨x,y,z⟩:=ok q (dR _ f);exact#[x,by rw[cf λe=>i (cq.mpr #[q,f,e])];exact y,z]
structure Listed(H H':Hp)(kvs:List (List cy×V))(l:Ad)(as:As):Prop where
 new:H l=none
 news:∀a∈as,H a=none
 out:l∉as
 nd:as.Nodup
 len:as.length=kvs.length
 lst:H' l=some (.lst (as.map .ref))
 is:∀(j:Nat) (a:Ad),as[j]?=some a->∃k v b,kvs[j]?=some (k,v)/\H b=some (.tup (k.map kV))/\H' a=some (.tup [.ref b,v])
 rest:∀b,b≠l->b∉as->H' b=H b
def ss(v d:Ad):HO:= .ext λh=>h.get? v=some (qt d)
def JY:V->List V->Hp->VK->Prop:=λx c H Q=>c=[]/\∃a b,x=.ref a/\H a=some (.dT b)/\∀v,H v=none->Q (.ref v) (bX H v (ss v a))
def GH:vD X "dict.items" JY:=by
 intro n s p H x r u t Q I b c h;obtain⟨rfl,a,d,rfl,f,q⟩:=h;cases b;cases c;obtain⟨z,g,v,i,o,w,A,j,l,m,_⟩:=I.hok a _ f;refine NT g #[o,j,l,m] #[.ref s.heap.objs.size,_,I.laid (a:=s.heap.objs.size) (o:=ss s.heap.objs.size a) (t':=s.toks) (λ_ _ q=>cV _ q) (cm _) ?_,rZ,q _ I.fresh];have e:(s.heap.push (qt a)).get? s.heap.objs.size=some (qt a):=dW _ rfl;exact#[e,#[_,e],λB C y k=>k _ y]
inductive gE(c:List V)(H:Hp)(Q:VK):Prop|mk:∀v a b,c=[.ref v]->H v=some (ss v a)->H a=some (.dT b)->(∀l e d,Listed H d b l e->Q (.ref l) d)->gE c H Q
def FZ(hc:X.calm=true):hG X (.type "list") gE:=by
 intro za s σ H xs us Q I r h;obtain⟨v,a,t,rfl,hv,ha,q⟩:=h;obtain⟨u,rfl,ru⟩:=gD r;cases ru;obtain⟨ev,_,_⟩:=I.hok v _ hv;obtain⟨z,na,ys,E,o,es,ep,e1,e2,e3,e4,_⟩:=I.hok a _ ha;have el:es.size=t.length:=by rw[wN e4,<-oG E]
 refine JN (I.ok.hd hc) ev #[o,e1,e2,e3] () λD f c tk ln M lS k=>?_;have I1:Inv X za σ H {s with heap:=D,toks:=tk}:=I.kept k;have big:∀b,s.heap.objs.size<=b->H b=none:=λb n=>I.hok.fresh n;have nd:f.Nodup:=M.up.imp λz=>dP z;have A:s.heap.objs.size∉f:=λm=>kS _ (M.far _ m);have G:∀(j:Nat) (b:Ad),f[j]?=some b->∃k x y,t[j]?=some (k,x)/\H y=some (.tup (k.map kV))/\∃u,RelV x u/\D.get? b=some (jr (.ref y) u):=λj b d=>by
  obtain⟨en,ee,g⟩:=M.is j b d;obtain⟨jl,_⟩:=cg.mp d;obtain⟨⟨k,x⟩,ek⟩:∃p,t[j]?=some p:=#[_,b8 ()];obtain⟨⟨k',y,u⟩,ey,p1,p2,p3⟩:=wu E ek;rw[entry_at e4,ey]at ee;cases ee;exact#[k,x,y,ek,p2,u,p3,g]
 have w:∀b,∃o:HO,∀j:Nat,f[j]?=some b->∃k x y,t[j]?=some (k,x)/\H y=some (.tup (k.map kV))/\o=.tup [.ref y,x]/\∃u,RelV x u/\D.get? b=some (jr (.ref y) u):=λb=>by
  by_cases n:b∈f
  .obtain⟨j,d⟩:=dU.mp n;obtain⟨k,x,y,L,N,u,O,T⟩:=G j b d;refine#[.tup [.ref y,x],λi ei=>?_];have ij:j=i:=jk (cg.mp d).1 nd |>.mp (d.trans ei.symm)
   subst ij;exact#[k,x,y,L,N,rZ,u,O,T]
  .exact#[.tup [],λj d=>wC (cH d) n]
 let J:Ad->HO:=λb=>Classical.choose (w b)
 have B:∀(j:Nat) (b:Ad),f[j]?=some b->∃k x y,t[j]?=some (k,x)/\H y=some (.tup (k.map kV))/\J b=.tup [.ref y,x]/\∃u,RelV x u/\D.get? b=some (jr (.ref y) u):=λj b d=>ti (w b) j d;have C:(f.map λb=>(b,J b)).map (·.1)=f:=by simp[List.map_map,Function.comp_def]
 have U:∀b∈f,∀Y,ObjOk X.prog X.w Y D b (J b):=λb n Y=>by
  obtain⟨j,d⟩:=dU.mp n;obtain⟨k,x,y,L,N,O,u,T,h5⟩:=B j b d;rw[O];exact#[by show 2<=sizeLine;decide,[.ref y,u],.cons rZ (.cons T .nil),_,h5,rZ,0,rZ,rZ]
 have vs:∀l:As,Vals (l.map V.ref) (l.map Value.ref):=λl=>by
  induction l with
  |nil=>exact .nil
  |cons x l ih=>exact .cons rZ ih
 have I2:=Inv.tracks (s1:={s with heap:=D,toks:=tk}) I ((s.heap.objs.size,.lst (f.map .ref))::f.map λb=>(b,J b)) H I1 (λp hp=>by
   rcases dq.mp hp with rfl|hp
   .exact#[cm _,big _ (cm _),λY=>#[by rw[bZ];lia,_,c,vs f,lS]]
   .obtain⟨b,n,rfl⟩:=cq.mp hp;exact#[jc (M.far b n),big _ (jc (M.far b n)),U b n]) (by
   rw[eZ,C];exact gP.mpr #[A,nd])
 refine#[.ref s.heap.objs.size,_,I2,rZ,q _ f _ #[big _ (cm _),λb n=>big _ (jc (M.far b n)),A,nd,(),?_,λj b d=>?_,λb L N=>?_]]
 .exact AQ (p:=(s.heap.objs.size,.lst (f.map .ref))) (by rw[eZ,C];exact gP.mpr #[A,nd]) (dh ..)
 .obtain⟨k,x,y,g1,g2,g3,_⟩:=B j b d;refine#[k,x,y,g1,g2,?_];rw[<-g3];exact AQ (p:=(b,J b)) (by rw[eZ,C];exact gP.mpr #[A,nd]) (dR _ (cq.mpr #[b,cH d,rZ]))
 .refine Cf λp hp=>?_
  rcases dq.mp hp with rfl|hp
  .exact L
  .obtain⟨y,hy,rfl⟩:=cq.mp hp;exact λe=>N (e▸hy)
end
def a2j(b:TW)(c:As):List (List cy×V):=List.zipWith (λp a=>(nk p.1,V.ref a)) b c
def yb{ws:TW}{as:As}{p:bV×bV}{a:Ad}(h:as.length=ws.length):a2j (ws++[p]) (as++[a])=a2j ws as++[(nk p.1,.ref a)]:=by
 unfold a2j;rw[List.zipWith_append h.symm];rfl
def vS{a:TW}{b:As}(h:b.length=a.length):(a2j a b).length=a.length:=by
 unfold a2j;rw[List.length_zipWith];lia
def Ig{b:TW}{c:As}{j:Nat}{p:bV×bV}{a:Ad}(d:b[j]?=some p)(e:c[j]?=some a):(a2j b c)[j]?=some (nk p.1,.ref a):=by
 unfold a2j;rw[List.getElem?_zipWith,d,e]
theorem rT:∀{b:TW} {c:As} {x:bV},x∉b.map (·.1)->gW (a2j b c) (nk x)=none
 | [],_,_,_=>rfl
 |_::_,[],_,_=>rfl
 |p::b,a::c,x,h=>by
  have d: ¬(nk p.1:List cy)=nk x:=λz=>h (cq.mpr #[p,dh ..,sh z]);exact(rb (p:=(nk p.1,V.ref a)) (r:=a2j b c) d).trans (rT λz=>h (dR _ z))
theorem wp:∀{c:TW} {d:As} {j:Nat} {p:bV×bV} {a:Ad},(c.map (·.1)).Nodup->c[j]?=some p->d[j]?=some a->gW (a2j c d) (nk p.1)=some (.ref a)
 |q::c,b::d,0,p,a,_,e,f=>by
  cases e;cases f;exact xv (p:=(nk q.1,V.ref b)) (r:=a2j c d) rfl
 |q::c,b::d,j+1,p,a,nd,e,f=>by
  obtain⟨h,i⟩:=gP.mp nd;have g:c[j]?=some p:=by simpa using e
  have n: ¬(nk q.1:List cy)=nk p.1:=λz=>h (cq.mpr #[p,cH g,(sh z).symm]);exact(rb (p:=(nk q.1,V.ref b)) (r:=a2j c d) n).trans (wp i g (by simpa using f))
 | [],_,_,_,_,_,e,_=>by simp at e
 |_::_,[],_,_,_,_,_,f=>by simp at f
structure WordsAt(H:Hp)(D:Ad)(ws:TW)(as:As):Prop where
 len:as.length=ws.length
 dict:H D=some (.dT (a2j ws as))
 list:∀(j:Nat) (a:Ad) (p:bV×bV),as[j]?=some a->ws[j]?=some p->H a=some (.lst (p.2.map nv))
def WordsAt.same{H b:Hp}{D:Ad}{c:TW}{d:As}(W:WordsAt H D c d)(g:Same H b):WordsAt b D c d:=#[W.len,g _ _ W.dict,λj a p e f=>g _ _ (W.list j a p e f)]
def WordsAt.word{H:Hp}{D:Ad}{b:TW}{c:As}{p:bV×bV}(W:WordsAt H D b c)(nd:(b.map (·.1)).Nodup)(f:p∈b):∃a,gW (a2j b c) (nk p.1)=some (.ref a)/\H a=some (.lst (p.2.map nv)):=by
 obtain⟨j,e⟩:=dU.mp f;obtain⟨g,_⟩:=cg.mp e;obtain⟨a,d⟩:∃a,c[j]?=some a:=#[_,b8 (by rw[W.len];exact g)];exact#[a,wp nd e d,W.list j a p d e]
def WordsAt.put{H:Hp}{D l:Ad}{c:TW}{e:As}{p:bV×bV}(W:WordsAt H D c e)(f:H l=some (.lst (p.2.map nv))):WordsAt (bX H D (.dT (a2j c e++[(nk p.1,.ref l)]))) D (c++[p]) (e++[l]):=by
 have g:∀{a:Ad} {k:List V},H a=some (.lst k)->a≠D:=λh=>nE h W.dict;refine#[by simp[W.len],by rw[cb,yb W.len],λj a q d b=>?_];by_cases i:j<c.length
 .rw[eA (by rw[W.len];exact i)]at d;rw[eA i]at b;have z:=W.list j a q d b;rw[cf (g z)];exact z
 .rw[dZ (by rw[W.len];lia)]at d;rw[dZ ()]at b;have z:j-c.length=0:=by
   have:=(cg.mp b).1;simp at this;lia
  rw[W.len,z]at d;rw[z]at b;cases d;cases b;rw[cf (g f)];exact f
def noT(H:Hp):Hp:=λa=>match H a with
 |some (.tbl _)=>none
 |o=>o
def r6{H:Hp}{a:Ad}{o:HO}(h:H a=some o)(n:∀b,o≠ .tbl b):noT H a=some o:=by
 unfold noT;rw[h];cases o<;>first|rfl|exact wC rZ (n _)
def NE:HO->Bool
 |.tbl _=>true
 |_=>false
def nU{H:Hp}{a:Ad}{o:HO}(h:H a=some o)(d:NE o=false:=by rfl):noT H a=some o:=r6 h λb e=>by subst e;cases d
def vC{H:Hp}{a:Ad}{o:HO}(h:noT H a=some o):H a=some o/\∀b,o≠ .tbl b:=by
 unfold noT at h;split at h
 .cases h
 .rename_i n
  exact#[h,λb z=>n b (by rw[h,z])]
def Eo{H:Hp}{a:Ad}(h:H a=none):noT H a=none:=by
 unfold noT;rw[h]
def Keeps(H a:Hp):Prop:=Same (noT H) a
def Same.keeps{H b:Hp}(g:Same H b):Keeps H b:=λa o h=>g a o (vC h).1
def Keeps.refl(H:Hp):Keeps H H:=(Same.refl H).keeps
def Keeps.trans{H d e:Hp}(a:Keeps H d)(b:Keeps d e):Keeps H e:=λc o h=>b c o (r6 (a c o h) (vC h).2)
def TabOk(a:Str)(b:Pos)(H:Hp)(T:Ad):Prop:=H T=some (.tbl #v[])\/∃c,H T=some (.tbl (i6 b c))/\H c=some (iV c a)
def TabOk.same{a:Str}{b:Pos}{H c:Hp}{T:Ad}(t:TabOk a b H T)(g:Same H c):TabOk a b c T:=by
 rcases t with t|⟨d,e,f⟩
 .exact .inl (g _ _ t)
 .exact .inr #[d,g _ _ e,g _ _ f]
def DefAt(K:O2)(x:Str)(st:Stmt)(f:Ad)(b:Fd)(g e:Vl):Prop:=
 PySem.W.codeIn K e x=true/\(∃kV a h i j,b=PySem.W.fnOf x x (iv st) (gh st) (cz st) g kV a h i e j)/\∃c d sl,K.lookup f=some #[c,d,.func b,sl]
section
variable{P:Pg}{w:World}{K:O2}{mg:SV}{base:Heap}{x:Str}{st:Stmt}{f:Ad}{i:Fd}{m l:Vl}{N g:Ss}{k:Nat}{a:Sp}
def Ms(P:Pg)(w:World)(K:O2)(mg:SV)(base:Heap)(x:Str)(st:Stmt)(f:Ad)(l:Vl)(N:Ss)(k:Nat)(a:Sp):Prop:=
 ∀A b s H c Q E,a c H Q E->Room k (A.deeper (envOfC x (cz st) s.heap.objs.size f l))->∃t:TS,t #[λ_ d=>Q .non d,Q,λ_ _=>False,λ_ _=>False] (start N c) H/\PSs (sr cL P w K mg base N x (cz st) f l A b s H E).nox (gh st) t
def DefAt.fnOk(d:DefAt K x st f i m l)(o:FnScope N g (cz st))(len:∀j H Q E,a j H Q E->j.length=g.length)(b:Ms P w K mg base x st f l N k a):FnOk P w K mg base cL (k+1) f i g a:=by
 obtain⟨c,⟨kV,p,u,v,y,rfl⟩,_,_,_,lk⟩:=d;refine Fp lk c o len λA e s H j Q E r n=>?_;obtain⟨t,q,h⟩:=b A e s H j Q E n r;exact#[t,h.nox,q]
def CalleeD(P:Pg)(w:World)(K:O2)(mg:SV)(base:Heap)(x:Str)(k:Nat)(g:Ss)(a:Sp)(b:List V):Prop:=
 ∃f i c,FnOk P w K mg base cL k f i g a/\mg x=some (.ref f)/\PySem.W.keepIn K (.ref f)=true/\Binds K i g c/\Vals b c
def BR{X:Cx}{x y:Str}{k j:Nat}{g:Ss}{a:Sp}{c:Ad}{b:List V}{e:Expr}{d:List Expr}{t:TA}{p h:Pos}(q:CalleeD X.prog X.w X.K X.mg X.base x k g a b)(r:Room k X.A)(s:Gl X x)(u:X.N[j]?=some y)(v:X.env.cells.lookup y=some c)(l:X.env.scope.names.lookup y=some .cell) (m:X.fn y=true) (w:PA X (e::d) t) (n:(x==("__debug__":Str))=false:=by decide) (z:starEach (e::d) X.env=(false,eval e X.env)::starEach d X.env:=by rfl)
  (o:(backTo h (starEach d X.env)).any (·.1)=false:=by rfl):PE X (.Call (.Name x p) (e::d) [] h) (HY a b j c t):=by
 obtain⟨f,i,E,F,A,B,C,D⟩:=q;exact Lg F r s A B C D u v l m w n z o
end
def CalleeD.imp{P:Pg}{w:World}{K:O2}{mg:SV}{base:Heap}{x:Str}{k:Nat}{j:Ss}{l g:Sp}{i:List V}(c:CalleeD P w K mg base x k j l i)(h:∀m H Q E,g m H Q E->l m H Q E):CalleeD P w K mg base x k j g i:=
 let⟨f,n,o,F,a,b,d,e⟩:=c;#[f,n,o,F.imp h,a,b,d,e]
def Dl{X:Cx}{x:Str}{k:Nat}{i:Ss}{h:Sp}{a:List V}{e:Expr}{d:List Expr}{t:TA}{p g:Pos}(c:CalleeD X.prog X.w X.K X.mg X.base x k i h a)(j:Room k X.A)(l:Gl X x)(n:PA X (e::d) t)(o:(x==("__debug__":Str))=false:=by decide) (q:starEach (e::d) X.env=(false,eval e X.env)::starEach d X.env:=by rfl) (r:(backTo g (starEach d X.env)).any (·.1)=false:=by rfl):
  PE X (.Call (.Name x p) (e::d) [] g) (xF h a E0 t):=by
 obtain⟨f,v,w,F,m,s,b,u⟩:=c;exact Ie F j l m s b u wP n o q r
def c6x{l:PySem.W.OpenLaw}{n k:Nat}{q:Pg}{i:Ss}{Q:SV->Heap->Prop}{z:World->Heap->Prop}{d:DefRec}{K:Params->O2}{sp:World->Sp}{x:Str}{tabs:As}(T:l.most=some n) (A:n<=sizeLine) (B:d.params.defaults=[]) (U:Room k callerA) (hY:∀(w:World) (h:Heap),z w h->(K w.params).In h)(hT:∀w:World,∀t∈tabs,(K w.params).lookup t=none/\((∃y c,PySem.W.tabIn (K w.params) y=some (c,t)/\∃e,(recsOf q).find? (λr=>r.name==y)=some e)\/((∃c,PySem.W.codeHdIn (K w.params) c t=true)/\∀h,z w h->h.get? t=some (PySem.W.tabObj #v[]))))(F:∀(w:World) (mg:SV) (fa:Ad) (h:Heap),(K w.params).In h->h.Ns mainGlobals mg->mg d.name=some (.ref fa)->
   ∃D:Fd,(∀(s:Sh) (u:Vl),BindsTo s D #[[u],[]] [(x,u)])/\∀b:Heap,(K w.params).In b->b.Ns mainGlobals mg->nG mg b->FnOk l.prog w (K w.params) mg b cL k fa D [x] (sp w))(E:∀(w:World) (H:Hp) (a:Ad) (p:Zs),p.length<=n->(∀t∈tabs,H t=some (.tbl #v[]))->SqL (K w.params) H a (p.map V.int)->sp w [.ref a] H (λv _=>v=.bl true) λ_ _ _=>False):
  PySem.W.WalkO q i Q z l.row.toRowW d [] (λf L=>PySem.call f L):=by
 refine Att.attach_call T B λw M N mg mb fa o pm cd aa a L p G Y ho hd ab hmg m j g hg=>?_;have KX:=hY w _ Y;obtain⟨D,hb,hF⟩:=F w mg fa _ KX G.T.g hmg;refine Jy (tabs:=tabs) KX G.T.g G.T.b G.T.builtins G.T.nolimit hg G.T.bmain m j (cW g A) U (λt ht=>?_) hF hb (λH hH hS=>E w H a p g hH hS);obtain⟨O,⟨y,c,I,e,J⟩|⟨⟨c,I⟩,J⟩⟩:=hT w t ht
 .obtain⟨C,eP⟩:=PySem.W.tab_of G.T KX J I;exact#[O,c,C.tab eP]
 .exact#[O,c,(PySem.W.codeHd_of_K KX I).tab (J _ Y)]
section
variable{X:Cx}
def HW(d e:TE):TE:=λc H Q=>∀p,H p=none->d c (bX H p (.dT [])) λx f=>e c f λy a=>a p=some (.dT [])/\∃b k,x=.ref b/\a b=some (.tup (k.map kV))/\Q (.ref p) (bX a p (.dT [(k,y)]))
def GO{k v:Expr}{A B:TE}{pos:Pos}(hu:X.A.units+1<cLine)(D:PE X k A)(E:PE X v B):PE X (.Dict [some k] [v] pos) (HW A B):=by
 intro J s L H Q I q;have M:=I.hok.fresh (cm s.heap.objs.size);have N:=I.laid (a:=s.heap.objs.size) (o:= .dT []) (h':=s.heap.push {cls:= .type "dict",data:= .dict #v[]}) (t':=s.toks) (λ_ _ q=>cV _ q) (cm _) (E4 s.heap I.big);have pairs:=J6 (X:=X) (pos:=pos) D E OH;have O:=q s.heap.objs.size M;rw[arm_eval_Dict];refine bW (zL ?_);have d:(evalEachOpt [some k] X.env).zip ((evalEach [v] X.env).map λv=>do let x <-v;standAt pos;pure x)=(pairTrees [some k] [v] X.env pos).map λp=>(some p.1,p.2):=rfl;rw[d,dictDisplay_pairs _ (by intro z;cases z) (by show 1<17;decide)];refine bW ?_;unfold subDict;refine bW (wpAny_alloc (bW (gf ?_)));rw[wB (by show 1<=15;decide)]
 let G:List (V×V)->Hp->Prop:=λf i=>match f with| [(x,y)]=>i s.heap.objs.size=some (.dT [])/\∃b k,x=.ref b/\i b=some (.tup (k.map kV))/\Q (.ref s.heap.objs.size) (bX i s.heap.objs.size (.dT [(k,y)]))|_=>False
 refine bW (cB (pairs J _ L _ G N O) λT s2 ⟨f,i,l,m,g⟩=>?_);obtain⟨x,y,rfl⟩:∃x y,f=[(x,y)]:=by
  cases f with
  |nil=>exact wE g
  |cons p f=>
   cases f with
   |nil=>exact#[p.1,p.2,rZ]
   |cons _ _=>exact wE g
 obtain⟨e,b,c,rfl,n,U⟩:=g;obtain⟨u,r,rfl,Y,rr⟩:∃u r,T=[(u,r)]/\RelV (.ref b) u/\RelV y r:=by
  cases m with
  | @cons _ q _ qs h t=>
   cases t;exact#[q.1,q.2,rZ,h.1,h.2]
 cases Y;obtain⟨z,hd,xs,kt,dd⟩:=Dh l.hok e;cases kt;refine gf ?_;simp only[List.forIn_cons,List.forIn_nil];refine bW (bW (bW (wpAny_dictSet_heap (show X.A.units<cLine by lia) (sn l.hok n) dd (λh' w hs=>?_) (by show 0<=_;exact gc _))));refine b9 (b9 (b9 (b9 ?_)));obtain⟨o,es,ep,C,h2,h3,h4,_,h5⟩:=w;have j:bX i s.heap.objs.size (.dT [(c,y)]) b=some (.tup (c.map kV)):=by
  rw[cf (nE n e)];exact n
 have ok:ObjOk X.prog X.w (bX i s.heap.objs.size (.dT [(c,y)])) h' s.heap.objs.size (.dT [(c,y)]):=#[by show 1<=sizeLine;decide,hd,_,.cons #[rZ,j,rr] .nil,o,es,ep,C,h2,h3,h4,h5];exact b9 #[.ref s.heap.objs.size,_,AN l (by rw[e];exact True.intro) hs #[o,C] ok,rfl,U]
end
inductive dD(G:Hp->Prop)(U:LN)(L:Nat)(g:bV->Nat->List Nat)(b:List V)(H:Hp)(Q:VK)(a:XK):Prop|mk:∀(t:Ad) (x:bV) (l:Nat),b=[.ref t,nv l]->G H->H t=some (.tup (x.map nv))->x∈U->l<L->xt H ((g x l).map nv) Q->dD G U L g b H Q a
def ThAt(H:Hp)(l:Ad)(b:TW):Prop:=∃a:As,H l=some (.lst (a.map .ref))/\a.length=b.length/\∀(j:Nat) (t:Ad) (p:bV×bV),a[j]?=some t->b[j]?=some p->H t=some (.tup (p.1.map nv))
def ThAt.same{H a:Hp}{l:Ad}{b:TW}(h:ThAt H l b)(g:Same H a):ThAt a l b:=by
 obtain⟨c,d,e,f⟩:=h;exact#[c,g _ _ d,e,λj t p i k=>g _ _ (f j t p i k)]
def ThAt.more{H:Hp}{l t:Ad}{c:TW}{d:As}{p:bV×bV}(i:H l=some (.lst (d.map .ref)))(f:d.length=c.length)(k:∀(j:Nat) (t:Ad) (p:bV×bV),d[j]?=some t->c[j]?=some p->H t=some (.tup (p.1.map nv)))(ht:H t=some (.tup (p.1.map nv))):
  ThAt (bX H l (.lst (d.map .ref++[.ref t]))) l (c++[p]):=by
 have g:∀{a:Ad} {m:List V},H a=some (.tup m)->a≠l:=λh=>nE h i;refine#[d++[t],by rw[cb,dX];rfl,by simp[f],λj a q e b=>?_];by_cases n:j<c.length
 .rw[eA ()]at e;rw[eA n]at b;have z:=k j a q e b;rw[cf (g z)];exact z
 .rw[dZ ()]at e;rw[dZ ()]at b;have z:j-c.length=0:=by
   have:=(cg.mp b).1;simp at this;lia
  rw[f,z]at e;rw[z]at b;cases e;cases b;rw[cf (g ht)];exact ht
structure Srch(H0 H:Hp)(D wa fa:Ad)(ts:As)(ws wv fo:TW)(as:As):Prop where
 g:Same H0 H
 nD:H0 D=none
 nF:H0 fa=none
 W:WordsAt H D ws as
 wl:H wa=some (.lst (ts.map .ref))
 wt:∀(j:Nat) (t:Ad) (p:bV×bV),ts[j]?=some t->wv[j]?=some p->H t=some (.tup (p.1.map nv))
 foll:ThAt H fa fo
 wf:wa≠fa
 fas:fa∉as
 new:∀b∈as,H0 b=none
def Srch.same{a H b:Hp}{D c fa:Ad}{d:As}{e f g:TW}{h:As}(S:Srch a H D c fa d e f g h)(k:Same H b):Srch a b D c fa d e f g h:=
 #[S.g.trans k,S.nD,S.nF,S.W.same k,k _ _ S.wl,λj t p i l=>k _ _ (S.wt j t p i l),S.foll.same k,S.wf,S.fas,S.new]
def Srch.more{k H:Hp}{D n fa l t:Ad}{tw:As}{f v g:TW}{i d:As}{p:bV×bV}(S:Srch k H D n fa tw f v g i)(y:H l=some (.lst (p.2.map nv)))(w:l≠fa)(A:k l=none)(ht:H t=some (.tup (p.1.map nv)))(o:H fa=some (.lst (d.map .ref))) (B:d.length=g.length) (C:∀(j:Nat) (t:Ad) (p:bV×bV),d[j]?=some t->g[j]?=some p->H t=some (.tup (p.1.map nv))):
  Srch k (bX (bX H D (.dT (a2j f i++[(nk p.1,.ref l)]))) fa (.lst (d.map .ref++[.ref t]))) D n fa tw (f++[p]) v (g++[p]) (i++[l]):=by
 have x:fa≠D:=nE o S.W.dict;have r:∀{a:Ad} {s:List V},H a=some (.tup s)->a≠D:=λh=>nE h S.W.dict;have E:n≠D:=nE S.wl S.W.dict;have G:∀{a:Ad} {s:List V},H a=some (.tup s)->a≠fa:=λh=>nE h o;have u:=S.W.put (l:=l) (p:=p) y;have I:(bX H D (.dT (a2j f i++[(nk p.1,.ref l)]))) fa=some (.lst (d.map .ref)):=by rw[cf x];exact o
 refine#[iq (iq S.g S.nD) S.nF,S.nD,S.nF,#[u.len,?_,λj a q c e=>?_],?_,λj a q c e=>?_,?_,S.wf,?_,λb J=>(cM.mp J).elim (S.new b) λm=>by rw[cE.mp m];exact A]
 .rw[cf (eC x)];exact u.dict
 .have L:a≠fa:=λz=>by
   subst z
   rcases cM.mp (cH c)with m|m
   .exact S.fas m
   .exact w (cE.mp m).symm
  rw[cf L];exact u.list j a q c e
 .rw[cf S.wf,cf E];exact S.wl
 .have z:=S.wt j a q c e;rw[cf (G z),cf (r z)];exact z
 .refine ThAt.more I B (λj a q c e=>?_) ?_
  .have z:=C j a q c e;rw[cf (r z)];exact z
  .rw[cf (r ht)];exact ht
 .intro m
  rcases cM.mp m with m|m
  .exact S.fas m
  .exact w (cE.mp m).symm
section
variable{X:Cx}{h:Hp}{a st D k fa:Ad}{c:Fd}{e:Ss}{b:bV}{L:Nat}{U:LN}{g:bV->Nat->List Nat}
def Mq{d i j:Nat}{a c e:TW}(h:b∈U)(k:∀x∈U,∀l,l<L->g x l∈U)(B:Bfs g L b d a c e i j):a.length<=U.length:=by
 rw[<-bZ (f:=(·.1)) (as:=a)];exact lL B.keys λx m=>by
  obtain⟨p,n,rfl⟩:=cq.mp m;obtain⟨o,q⟩:=B.run p n;rw[<-q];exact nS h k p.2 o
end
abbrev rP(G:TW->Prop)(b:Sp)(c:V)(d:XK)(g:bV->Nat->List Nat)(L:Nat)(e:bV)(f:Hp):Prop:=∀(H:Hp) (D:Ad) (a:TW) (h:As) (Q:VK),Same f H->WordsAt H D a h->(a.map (·.1)).Nodup->(∀p∈a,(∀l∈p.2,l<L)/\cw g e p.2=p.1)->(G a->Q .non H)->b [.ref D,c] H Q d
section
variable{G:TW->Prop}{sR:Sp}{mo:V}{EE:XK}{X:Cx}{n:Hp}{a st D r fa:Ad}{s:Fd}{u:Ss}{o:bV}{L:Nat}{U:LN}{g:bV->Nat->List Nat}
abbrev EV(X:Cx)(sR:Sp)(EE:XK):TS:=mE (n4 (Gx X 2 (i5 (c8 7) (i5 (c8 8) i9))) (hI 9)) (wT (tB (EA (c8 9) (c8 4)))
 (mE (FN (c8 4) (c8 9) (vH (mN X.K) (Em (c8 4) (c8 7)) (vP (i5 (c8 8) i9)))) (mE (Am (xF sR [] EE (i5 (c8 4) (i5 (c8 3) i9)))) (Am (yc X.K "list" iE (c8 6) (i5 (c8 9) i9))))) GU)
def J8{d i j:Nat}{b Q M:TW}{T ts:As}{C:Ad}{t:bV×bV}{H:Hp}{En:Ends}{o9:Option V}(hR:rP G sR mo EE g L o n)(hr:Room 5 X.A)(Y:n st=some (gF st s))(h0:o∈U)(hU:∀x∈U,∀l,l<L->g x l∈U)(few:U.length<=4000)(hF:FnOk X.prog X.w X.K X.mg X.base cL 5 st s u (dD (Same n) U L g)) (hB:Binds X.K s u []) (gw:G b) (B:Bfs g L o d b Q M i j) (ht:Q[i]?=some t) (hj:j<L) (hd:d+1<=b.length) (S:Srch n H D r fa ts b Q M T) (aa:H C=some (.tup (t.1.map nv)))(next:∀A I ae H' v,G A->Bfs g L o d A Q I i (j+1)->Srch n H' D r fa ts A Q I ae->A.length+M.length=b.length+I.length->H' C=some (.tup (t.1.map nv))->En.nx [some (.ref a),some (nv L),some (.ref st),some mo,some (.ref D),some (.ref r),some (.ref fa),some (.ref C),some (nv j),some v] H'):
  EV X sR EE En [some (.ref a),some (nv L),some (.ref st),some mo,some (.ref D),some (.ref r),some (.ref fa),some (.ref C),some (nv j),o9] H:=by
 have tw:=(B.wave t (cH ht)).1;have tU:t.1∈U:=by
  obtain⟨r1,r2⟩:=B.run t tw;rw[<-r2];exact nS h0 hU t.2 r1
 have ai:b.length<=4000:=by
  have z:(b.map (·.1)).length<=U.length:=lL B.keys λx hx=>by
   obtain⟨p,w,rfl⟩:=cq.mp hx;obtain⟨r1,r2⟩:=B.run p w;rw[<-r2];exact nS h0 hU p.2 r1
  rw[bZ]at z;lia
 refine#[_,rZ,st,s,rZ,S.g _ _ Y,_,rZ,_,rZ,S.g _ _ Y,5,u,_,hF,hr,hB,C,t.1,j,rZ,S.g,aa,tU,hj,λfn H1 g1 N=>?_];have E:=S.same g1;have m:=g1 _ _ aa;refine#[_,rZ,_,rZ,D,_,rZ,DGet.t E.W.dict (by rw[gO];exact N),_,rZ,?_];by_cases O:g t.1 j∈b.map (·.1)
 .obtain⟨p,w,e⟩:=cq.mp O;obtain⟨c,v1,_⟩:=E.W.word B.keys w;rw[<-e,v1];rw[wA (by simp)];exact next b M T H1 _ gw (B.old ht O) E rZ m
 .rw[rT O];refine gA ?_;obtain⟨tw,tl⟩:=B.wave t (cH ht);obtain⟨c,v1,v2⟩:=E.W.word B.keys tw;have dg:DGet H1 D (.ref C) (some (.ref c)):=v1▸DGet.t E.W.dict (by rw[gO];exact m);refine#[_,rZ,_,rZ,D,_,rZ,dg,_,rZ,by show 1<=sizeLine;decide,λp w=>?_];have k2:=cn w (.lst [nv j]);refine#[c,p,_,_,rZ,rZ,O0 (k2 _ _ v2),O0 cb,by rw[bZ,tl,cS];show d+1<=_;lia,λl hl=>?_];have k3:=k2.trans (cn hl (.lst (t.2.map nv++[nv j])));have y:=E.same k3;have e3:=k3 _ _ N;have J:bX (bX H1 p (.lst [nv j])) l (.lst (t.2.map nv++[nv j])) l=some (.lst ((t.2++[j]).map nv)):=by rw[cb,dX];rfl
  have k:=k3 _ _ m;obtain⟨tf,f1,f2,f3⟩:=y.foll;have lf:l≠fa:=λz=>by
   obtain⟨_,q1,_⟩:=E.foll;have q2:=k2 _ _ q1;rw[<-z,hl]at q2;cases q2
  generalize bX (bX H1 p (.lst [nv j])) l (.lst (t.2.map nv++[nv j]))=H3 at y e3 J k f1 f3|-;refine#[_,rZ,_,rZ,D,_,rZ,DPut.t y.W.dict (by rw[gO];exact e3) (by rw[vS y.W.len,cS];lia),?_];rw[xQ _ (rT O)];have fD:fa≠D:=nE f1 y.W.dict;have af:C≠D:=nE k y.W.dict;have ag:C≠fa:=nE k f1;have ab:(bX H3 D (.dT (a2j b T++[(nk (g t.1 j),.ref l)]))) fa=some (.lst (tf.map .ref)):=by rw[cf fD];exact f1
  have fl:tf.length<=4000:=by
   have z:(M.map (·.1)).length<=b.length:=by
    rw[<-bZ (f:=(·.1)) (as:=b)];refine lL ?_ λx hx=>?_
    .refine(sw.mpr (B.fup.imp_of_mem λ{p q} w hq h z=>?_));have r1:=(B.run p (B.foll p w).1).2;have r2:=(B.run q (B.foll q hq).1).2;obtain⟨i1,N⟩:=dU.mp (B.foll p w).1;obtain⟨i2,e2⟩:=dU.mp (B.foll q hq).1;have ii:i1=i2:=(jk (by rw[bZ];exact(cg.mp N).1) B.keys).mp (by rw[cr,cr,N,e2];exact dw some z);subst ii;rw[N]at e2;cases e2;exact Ai h
    .obtain⟨p,w,rfl⟩:=cq.mp hx;exact cq.mpr #[p,(B.foll p w).1,rZ]
   rw[bZ]at z;lia
  have Bn:=B.new ht hj O;refine#[_,rZ,_,rZ,hR _ D (b++[(g t.1 j,t.2++[j])]) (T++[l]) _ (iq y.g y.nD) (y.W.put (l:=l) (p:=(g t.1 j,t.2++[j])) J) Bn.keys Bn.run λah=>?_];refine#[_,rZ,.inl #[rZ,_,O0 ab],_,rZ,fa,_,_,rZ,rZ,ab,by rw[bZ,cS];lia,?_];exact next (b++[(g t.1 j,t.2++[j])]) (M++[(g t.1 j,t.2++[j])]) (T++[l]) _ _ ah (B.new ht hj O) (y.more (p:=(g t.1 j,t.2++[j])) J lf ((E.g.trans k2).free hl) e3 f1 f2 f3) (by simp;lia) (by rw[cf ag,cf af];exact k)
abbrev FX(X:Cx)(sR:Sp)(EE:XK):TS:=ri (HA X.K (c8 5)) (hI 7) (ri (HQ (i5 (c8 1) i9)) (hI 8) (EV X sR EE))
def Jv{d:Nat}{c f:TW}{C y:As}{H:Hp}{En:Ends}{A k m:Option V}(hR:rP G sR mo EE g L o n)(hr:Room 5 X.A)(T:n st=some (gF st s))(h0:o∈U)(hU:∀x∈U,∀l,l<L->g x l∈U)(few:U.length<=4000)(aa:L<=4000)(hF:FnOk X.prog X.w X.K X.mg X.base cL 5 st s u (dD (Same n) U L g)) (hB:Binds X.K s u []) (gw:G c) (B:Bfs g L o d c f [] 0 0) (hd:d+1<=c.length) (S:Srch n H D r fa y c f [] C) (lt:y.length=f.length)(next:∀b e h q A k m,G b->Bfs g L o d b f e f.length 0->Srch n q D r fa y b f e h->b.length=c.length+e.length->En.nx [some (.ref a),some (nv L),some (.ref st),some mo,some (.ref D),some (.ref r),some (.ref fa),A,k,m] q):
  FX X sR EE En [some (.ref a),some (nv L),some (.ref st),some mo,some (.ref D),some (.ref r),some (.ref fa),A,k,m] H:=by
 let Pv:Nat->L2.St->Hp->Prop:=λi w q=>∃b e h A k m,G b/\Bfs g L o d b f e i 0/\Srch n q D r fa y b f e h/\b.length=c.length+e.length/\
  w=[some (.ref a),some (nv L),some (.ref st),some mo,some (.ref D),some (.ref r),some (.ref fa),A,k,m]
 refine#[_,rZ,r,rZ,#[_,O0 S.wl],oN (xs:=y.map .ref) Pv #[c,[],C,A,k,m,gw,B,S,by simp,rZ] (λi w q _ p=>?_) (λi x w q hx p=>?_) (λw q p=>?_)]
 .obtain⟨_,_,_,_,_,_,_,_,E,_⟩:=p;exact O0 E.wl
 .obtain⟨b,e,h,p7,Y,p9,g1,O,E,l1,rfl⟩:=p;rw[cr]at hx;obtain⟨th,I,rfl⟩:=da.mp hx;obtain⟨hi,_⟩:=cg.mp I;obtain⟨t,ht⟩:∃t,f[i]?=some t:=#[_,b8 ()]
  let Pj:Nat->L2.St->Hp->Prop:=λj w H2=>∃b e h k m,G b/\Bfs g L o d b f e i j/\Srch n H2 D r fa y b f e h/\b.length=c.length+e.length/\
   w=[some (.ref a),some (nv L),some (.ref st),some mo,some (.ref D),some (.ref r),some (.ref fa),some (.ref th),k,m]
  refine#[_,rZ,(L:Int),rZ,(),(),vQ Pj #[b,e,h,Y,p9,g1,O,E,l1,rZ] (λj w H2 hj p=>?_) (λw H2 p=>?_)]
  .obtain⟨J,M,N,q8,q9,g2,B2,Q,l2,rfl⟩:=p;have z:(0:Int)+((j:Nat):Int)=((j:Nat):Int):=by lia
   rw[z];refine J8 (t:=t) hR hr T h0 hU few hF hB g2 B2 ht (by simpa using hj) () Q (Q.wt i th t I ht) λw3 f3 a3 H3 v g3 B3 S3 l3 _=>#[w3,f3,a3,_,_,g3,B3,S3,(),rZ]
  .obtain⟨J,M,N,q8,q9,g2,B2,Q,l2,rfl⟩:=p;exact#[J,M,N,_,_,_,g2,Bfs.next (by simpa using B2) ht,Q,l2,rZ]
 .obtain⟨b,e,h,p7,Y,p9,g1,O,E,l1,rfl⟩:=p;rw[bZ,lt]at O;exact next b e h q p7 Y p9 g1 O E l1
abbrev MT(X:Cx)(sR:Sp)(EE:XK):TS:=mE (n4 (HW (c8 0) (vP i9)) (hI 4)) (mE (Am (xF sR [] EE (i5 (c8 4) (i5 (c8 3) i9)))) (mE (n4 (vP (i5 (c8 0) i9)) (hI 5))
 (mE (EW (λc a Q=>c8 5 c a λx b=>∃k,sf X.K x b k/\Q k b) (mE (n4 (vP i9) (hI 6)) (mE (FX X sR EE) (n4 (c8 6) (hI 5))))) (wg (c8 4)))))
def N6{En:Ends}(hR:rP G sR mo EE g L o n)(hr:Room 5 X.A)(ha:n a=some (.tup (o.map nv)))(aa:n st=some (gF st s))(h0:o∈U)(hU:∀x∈U,∀l,l<L->g x l∈U)(few:U.length<=4000)(I:L<=4000)(hF:FnOk X.prog X.w X.K X.mg X.base cL 5 st s u (dD (Same n) U L g)) (hB:Binds X.K s u []) (q:∀D c k C,Same n C->WordsAt C D c k->(∀b∈D::k,n b=none)->Told g L o c->G c->En.rt (.ref D) C):
  MT X sR EE En [some (.ref a),some (nv L),some (.ref st),some mo,none,none,none,none,none,none] n:=by
 intro D O;have kD:=cn O (.dT []);refine#[_,rZ,by show 0<=sizeLine;decide,λl E=>?_];have kl:=cn E (.lst []);refine#[kl _ _ cb,a,nk o,rZ,by rw[gO];exact(kD.trans kl) _ _ ha,?_];have lD:l≠D:=λz=>by
  subst z;rw[cb]at E;cases E
 have W0:WordsAt (bX (bX (bX n D (.dT [])) l (.lst [])) D (.dT [(nk o,.ref l)])) D [(o,[])] [l]:=#[rZ,cb,λj b p v J=>by
  cases j with
  |zero=>
   cases v;cases J;rw[cf lD,cb];rfl
  |succ j=>simp at v]
 have Q:Same n (bX (bX (bX n D (.dT [])) l (.lst [])) D (.dT [(nk o,.ref l)])):=iq (kD.trans kl) O;generalize bX (bX (bX n D (.dT [])) l (.lst [])) D (.dT [(nk o,.ref l)])=H1 at W0 Q|-;refine#[_,rZ,_,rZ,hR _ D [(o,[])] [l] _ Q W0 (by simp) (λp hp=>by rw[List.mem_singleton.mp hp];exact#[λl E=>(nomatch E),rZ]) λT=>?_];refine#[_,rZ,by show 1<=sizeLine;decide,λr hw=>?_];have kw:=cn hw (.lst [.ref a])
 let Wv:Nat->L2.St->Hp->Prop:=λm σ H=>∃(d:Nat) (c y:TW) (k:As) (r:Ad) (i:As) (o6 o7 o8 o9:Option V),G c/\Bfs g L o d c y [] 0 0/\WordsAt H D c k/\H r=some (.lst (i.map .ref))/\(∀(j:Nat) (t:Ad) (p:bV×bV),i[j]?=some t->y[j]?=some p->H t=some (.tup (p.1.map nv)))/\i.length=y.length/\Same n H/\(∀b∈k,n b=none)/\
   (y≠[]->d+1<=c.length)/\m=2 * (U.length-c.length)+(if y=[]then 0 else 1)/\σ=[some (.ref a),some (nv L),some (.ref st),some mo,some (.ref D),some (.ref r),o6,o7,o8,o9]
 refine#[Wv,#[_,0,[(o,[])],[(o,[])],[l],r,[a],none,none,none,none,T,Bfs.start,W0.same kw,cb,?_,rZ,Q.trans kw,λb hb=>(by rw[cE.mp hb];exact kD.free E),λ_=>cm _,rZ,rZ],λm σ H P=>?_]
 .intro j t p v J;cases j with
  |zero=>
   cases v;cases J;exact(Q.trans kw) _ _ ha
  |succ j=>simp at v
 .obtain⟨d,c,y,k,r,i,o6,o7,o8,o9,T,B,W,wl,wt,lt,gg,nw,A,hm,rfl⟩:=P;refine#[_,rZ,!(i.map V.ref).isEmpty,.inl #[_,O0 wl,rZ],?_];by_cases f:y=[]
  .subst f;have e:i=[]:=oo.mp lt;subst e;rw[wA (by simp)];exact#[_,rZ,q D c k H gg W (λb hb=>(dq.mp hb).elim (λe=>e▸O) (nw b)) B.told T]
  .have ne:i≠[]:=λz=>f (oo.mp (by rw[<-lt,z];rfl));have c1:(!(i.map V.ref).isEmpty)=true:=by
    cases i with
    |nil=>exact wC rZ ne
    |cons=>rfl
   rw[c1];refine gA ?_;refine#[λM C=>∃m',m'<m/\Wv m' M C,λM C h=>h,by show 0<=sizeLine;decide,λfa w=>?_];have Y:=cn w (.lst []);have ab:fa∉k:=λm=>by
    obtain⟨j,e⟩:=dU.mp m;obtain⟨hj,_⟩:=cg.mp e;have z:=W.list j fa _ e (b8 (by rw[<-W.len];exact hj));rw[w]at z;cases z
   have S:Srch n (bX H fa (.lst [])) D r fa i c y [] k:=#[gg.trans Y,O,gg.free w,W.same Y,Y _ _ wl,λj t p v J=>Y _ _ (wt j t p v J),#[[],cb,rZ,λj t p v _=>by simp at v],di wl w,ab,nw];refine Jv (En:={En with nx:=_,ct:=_,bk:=_}) hR hr aa h0 hU few I hF hB T B (A f) S lt λN fo ae C p7 p8 p9 af B' S' l'=>?_;obtain⟨tf,f1,f2,f3⟩:=S'.foll;have z1:=Mq h0 hU B';have z2:=A f;refine#[_,rZ,2 * (U.length-N.length)+(if fo=[]then 0 else 1),?_,d+1,N,fo,ae,fa,tf,_,_,_,_,af,B'.wave',S'.W,f1,f3,f2,S'.g,S'.new,λnf=>?_,rZ,rZ]
   .rw[hm,wA f];by_cases hf:fo=[]
    .subst hf;rw[wB rZ];simp at l';lia
    .have:=List.length_pos_iff.mpr hf;rw[wA hf];lia
   .have:=List.length_pos_iff.mpr nf;lia
end
structure Que(f:bV->Nat->List Nat)(L:Nat)(x0:bV)(ws:TW)(i j:Nat):Prop where
 head:ws[0]?=some (x0,[])
 keys:(ws.map (·.1)).Nodup
 run:∀p∈ws,(∀l∈p.2,l<L)/\cw f x0 p.2=p.1
 up:ws.Pairwise λp q=>sl p.2 q.2
 done:∀(a:Nat) p,a<i->ws[a]?=some p->∀l,l<L->Goes f ws p l
 part:∀p,ws[i]?=some p->∀l,l<j->Goes f ws p l
 front:∀t,ws[i]?=some t->∀p∈ws,sl p.2 (t.2++[j])
 short:∀(a:Nat) p,ws[a]?=some p->p.2.length<=a
section
variable{f:bV->Nat->List Nat}{L:Nat}{c:bV}{b:TW}{i j:Nat}{t:bV×bV}
def Que.start:Que f L c [(c,[])] 0 0 where
 head:=rfl
 keys:=by simp
 run:=λp b=>by
  rw[cE.mp b];exact#[λl d=>(nomatch d),rZ]
 up:=oF _ _
 done:=λa p h=>wC h (mh _)
 part:=λp _ l h=>wC h (mh _)
 front:=λt _ p b=>by
  rw[cE.mp b];exact .inl (by simp)
 short:=λa p h=>by
  have z:p∈[(c,([]:bV))]:=cH h;rw[cE.mp z];exact gc _
def Que.old(q:Que f L c b i j)(ht:b[i]?=some t)(h:f t.1 j∈b.map (·.1)):Que f L c b i (j+1):=by
 refine#[q.head,q.keys,q.run,q.up,q.done,λp a l n=>?_,λo d p a=>?_,q.short]
 .by_cases e:l<j
  .exact q.part p a l e
  .have k:l=j:=by lia
   subst k;rw[ht]at a;cases a;obtain⟨r,g,m⟩:=cq.mp h;exact#[r.2,by rw[<-m];exact g,.inr (q.front t ht r g)]
 .rw[ht]at d;cases d;exact pC (q.front t ht p a) (uj _ (iW _))
def Que.new(q:Que f L c b i j)(ht:b[i]?=some t)(u:j<L)(h:f t.1 j∉b.map (·.1)):Que f L c (b++[(f t.1 j,t.2++[j])]) i (j+1):=by
 obtain⟨G,_⟩:=cg.mp ht;have g:∀{a:Nat} {p:bV×bV},a<=i->(b++[(f t.1 j,t.2++[j])])[a]?=some p->b[a]?=some p:=λ{a p} o e=>by
  rwa[eA ()]at e
 refine#[?_,?_,λp d=>?_,?_,λa p o d l m=>?_,λp d l m=>?_,λH n p d=>?_,λa p d=>?_]
 .rw[eA ()];exact q.head
 .rw[dX,oQ];refine#[q.keys,by simp,λx v y w=>?_];have e:y=f t.1 j:=by simpa using w
  subst e;exact λz=>h (z▸v)
 .rcases cM.mp d with z|z
  .exact q.run p z
  .rw[cE.mp z];obtain⟨A,B⟩:=q.run t (cH ht);refine#[λl m=>?_,?_]
   .rcases cM.mp m with y|y
    .exact A l y
    .rw[cE.mp y];exact u
   .show(t.2++[j]).foldl f c=f t.1 j;rw[kg,<-B];rfl
 .refine ik.mpr #[q.up,oF _ _,λp d r C=>?_];rw[cE.mp C];exact q.front t ht p d
 .exact(q.done a p o (g () d) l m).more
 .have k:=g (cm _) d;by_cases e:l<j
  .exact(q.part p k l e).more
  .have D:l=j:=by lia
   subst D;rw[ht]at k;cases k;exact#[_,ft _ (cE.mpr rZ),.inl rZ]
 .have e:=g (cm _) n;rw[ht]at e;cases e
  rcases cM.mp d with z|z
  .exact pC (q.front t ht p z) (uj _ (iW _))
  .rw[cE.mp z];exact uj _ (iW _)
 .by_cases e:a<b.length
  .rw[eA e]at d;exact q.short a p d
  .have s:=(cg.mp d).1;rw[dA]at s;have E:a=b.length:=by
    have:a<b.length+1:=s;lia
   rw[E,dZ (cm _),jg]at d;cases d;have:=q.short i t ht
   simp;lia
def Que.next(q:Que f L c b i L)(ht:b[i]?=some t):Que f L c b (i+1) 0:=by
 refine#[q.head,q.keys,q.run,q.up,λa p r d=>?_,λp _ l h=>wC h (mh _),λt' g p d=>?_,q.short]
 .by_cases e:a<i
  .exact q.done a p e d
  .have j:a=i:=by lia
   subst j;exact q.part p d
 .obtain⟨k,m⟩:=cg.mp ht;obtain⟨n,o⟩:=cg.mp g;have up:=ke.mp q.up i (i+1) k n (iW _);rw[m,o]at up;exact pC (q.front t ht p d) (Cs up)
def Que.told(q:Que f L c b i j)(h:b.length<=i):Told f L c b:=by
 refine#[q.head,q.keys,q.run,q.up,λp d=>?_,λp d=>?_]
 .obtain⟨a,e⟩:=dU.mp d;exact q.done a p (by have:=(cg.mp e).1;lia) e
 .obtain⟨a,e⟩:=dU.mp d;have:=(cg.mp e).1;have:=q.short a p e;lia
end
def Mp{g:TW}{d:As}{k:List cy}{a:Ad}(h:gW (a2j g d) k=some (.ref a)):a∈d:=by
 unfold gW at h;obtain⟨m,j,l⟩:=da.mp h;obtain⟨i,c⟩:=dU.mp (List.mem_of_find?_eq_some j);unfold a2j at c;rw[List.getElem?_zipWith]at c;cases e:g[i]? with
 |none=>rw[e]at c;cases c
 | some p=>
  cases f:d[i]? with
  |none=>rw[e,f]at c;cases c
  |some b=>
   rw[e,f]at c;cases c;cases l;exact cH f
section
variable{X:Cx}
inductive wY(K:O2)(a:Bool)(x y:V)(H:Hp)(Q:VK):Prop|mk:∀(l:Ad) (n:Nat) (d:Dt) (c:List Dt) (e:List V),y=.ref l->SqL K H l e->e.length=c.length->Rep K H n d x->((∀(i:Nat) f v,c[i]?=some f->e[i]?=some v->Rep K H n f v))->n<=30->(∀b,(b=true↔d∈c)->Q (.bl (if a then !b else b)) H)->wY K a x y H Q
def HR{K:O2}{H:Hp}{n:Nat}{d f:Dt}{y z:V}{u:Vl}(g:Rep K H n d y)(j:Rep K H n f z)(k:RelV y u)(l:RelV z u):y=z:=by
 have c:∀{y:V} {d:Dt},Rep K H n d y->RelV y u->(y=.non/\u=.none)\/(∃i t,y=.int i/\u=.int i t)\/(∃x t,y=.str x/\u=.str x t)\/∃a,y=.ref a/\u=.ref a:=λh r=>by
  cases h with
  |non=>exact .inl #[rZ,r]
  |int _ i=>
   obtain⟨t,e⟩:=r;exact .inr (.inl #[i,t,rZ,e])
  |str _ x=>
   obtain⟨t,e⟩:=r;exact .inr (.inr (.inl #[x,t,rZ,e]))
  |lst=>exact .inr (.inr (.inr #[_,rZ,r]))
  |tup=>exact .inr (.inr (.inr #[_,rZ,r]))
 rcases c g k with⟨rfl,e⟩|⟨i,t,rfl,e⟩|⟨x,t,rfl,e⟩|⟨a,rfl,e⟩<;>rcases c j l with⟨rfl,b⟩|⟨o,m,rfl,b⟩|⟨p,m,rfl,b⟩|⟨q,rfl,b⟩<;>rw[e]at b<;>cases b<;>rfl
def Kc{M:AO}{N:St}{H:Hp}{s:Sh}{x:V}{v:Vl}{n:Nat}{d:Dt}{k:List Dt}{l:List V}{c:Vs}(hu:X.A.units+64<cLine)(I:Inv X M N H s)(O:RelV x v)(r:Vals l c)(hl:l.length=k.length)(Q:Rep X.K H n d x)(q:∀(i:Nat) a v,k[i]?=some a->l[i]?=some v->Rep X.K H n a v) (hn:n<=30):∃e:Vl->Bool,(∀u∈c,SeqAt.EqAt X.A.in1 s u v (e u))/\(c.any e=true↔d∈k):=by
 have one:∀(i:Nat) u,c[i]?=some u->∃b a,k[i]?=some a/\SeqAt.EqAt X.A.in1 s u v b/\(b=true↔a=d):=λi u g=>by
  obtain⟨C,_⟩:=cg.mp g;have t:=r.length;obtain⟨y,m⟩:∃y,l[i]?=some y:=#[_,b8 ()];obtain⟨a,o⟩:∃a,k[i]?=some a:=#[_,b8 ()];obtain⟨u',p,T⟩:=Vals.get r m;rw[g]at p;cases p;obtain⟨b,w,G⟩:=wm I n (A:=X.A.in1) (by show X.A.units+1+n<cLine;lia) (q i a y o m) Q T O;exact#[b,a,o,w,G]
 have f:∀u,∃b,(∃i:Nat,c[i]?=some u)->SeqAt.EqAt X.A.in1 s u v b/\∃(i:Nat) (a:Dt),c[i]?=some u/\k[i]?=some a/\(b=true↔a=d):=λu=>by
  by_cases h:∃i:Nat,c[i]?=some u
  .obtain⟨i,B⟩:=h;obtain⟨b,a,C,t,w⟩:=one i u B;exact#[b,λ_=>#[t,i,a,B,C,w]]
  .exact#[true,λz=>wC z h]
 refine#[λu=>Classical.choose (f u),λu g=>(ti (f u) (dU.mp g)).1,?_];rw[AI];constructor
 .rintro⟨u,g,U⟩;obtain⟨_,i,a,C,t,w⟩:=ti (f u) (dU.mp g);rw[<-w.mp U];exact cH t
 .intro Y;obtain⟨i,o⟩:=dU.mp Y;obtain⟨C,_⟩:=cg.mp o;have t:=r.length;obtain⟨u,p⟩:∃u,c[i]?=some u:=#[_,b8 ()];refine#[u,cH p,?_];obtain⟨_,j,a,g1,D,g3⟩:=ti (f u) #[i,p];refine g3.mpr ?_;obtain⟨y,m⟩:∃y,l[i]?=some y:=#[_,b8 ()];obtain⟨G,_⟩:=cg.mp D;obtain⟨z,E⟩:∃z,l[j]?=some z:=#[_,b8 ()];obtain⟨u1,J,r1⟩:=Vals.get r m;obtain⟨u2,L,r2⟩:=Vals.get r E;rw[p]at J;rw[g1]at L;cases J;cases L;have yz:y=z:=HR (q i d y o m) (q j a z D E) r1 r2;subst yz;exact DQ I n (q j a y D E) (q i d y o m)
def D5(b:X.A.units+64<cLine):OpR X (compareOp .NotIn) (wY X.K true):=by
 intro z s A H x y v u Q I c f h;obtain⟨l,n,d,B,C,rfl,g,i,j,k,m,q⟩:=h;cases f;obtain⟨a,r,o,D⟩:=I.list g;obtain⟨e,p,t⟩:=Kc b I c r i j k m;refine SeqAt.notIn_listAt e o.isList (λw hw=>p w (by simpa using hw)) #[.bl _,H,I,rZ,?_];rw[show a.toArray.any e=a.any e by simp];exact q _ t
def DK{x y:Str}{p q e:Pos}{k:Nat}{a:Scope}(S:CompScope X [x,y] a)(f:X.calm=true)(b:a.names.lookup x=some .local)(c:a.names.lookup y=some .local):
  ∀C s H d,PG (gi X [x,y] a C s H d) (.Tuple [.Name x p,.Name y q] k e) (re X.K 2 (j9 (hI 0) (j9 (hI 1) vN))):=λC s H d=>
 ui f (mF (fV S.nd rZ (.inl (uq b)) (.inr (uq b))) (mF (fV S.nd rZ (.inl (uq c)) (.inr (uq c))) u0))
end
section
variable{X:Cx}
inductive gj(K:O2)(x:V)(c:List V)(H:Hp)(Q:VK):Prop|mk:∀(l:Ad) (y:V) (n:Nat) (d:Dt) (a:List Dt) (b:List V) (j:Nat),x=.ref l->c=[y]->SqL K H l b->b.length=a.length->Rep K H n d y->((∀(i:Nat) e v,a[i]?=some e->b[i]?=some v->Rep K H n e v))->n<=30->a[j]?=some d->((∀i:Nat,i<j->a[i]? ≠some d))->Q (.int (j:Nat)) H->gj K x c H Q
def Ov{M:AO}{N:St}{H:Hp}{s:Sh}{x:V}{v:Vl}{n:Nat}{d:Dt}{k:List Dt}{l:List V}{c:Vs}(hu:X.A.units+64<cLine)(I:Inv X M N H s)(O:RelV x v)(r:Vals l c)(hl:l.length=k.length)(Q:Rep X.K H n d x)(p:∀(i:Nat) a v,k[i]?=some a->l[i]?=some v->Rep X.K H n a v) (hn:n<=30):∃e:Vl->Bool,(∀u∈c,SeqAt.EqAt X.A.in1 s u v (e u))/\∀(i:Nat) u a,c[i]?=some u->k[i]?=some a->(e u=true↔a=d):=by
 have E:=r.length;have one:∀(i:Nat) u,c[i]?=some u->∃b a,k[i]?=some a/\SeqAt.EqAt X.A.in1 s u v b/\(b=true↔a=d):=λi u g=>by
  obtain⟨w,_⟩:=cg.mp g;obtain⟨y,m⟩:∃y,l[i]?=some y:=#[_,b8 ()];obtain⟨a,o⟩:∃a,k[i]?=some a:=#[_,b8 ()];obtain⟨u',q,T⟩:=Vals.get r m;rw[g]at q;cases q;obtain⟨b,B,G⟩:=wm I n (A:=X.A.in1) (by show X.A.units+1+n<cLine;lia) (p i a y o m) Q T O;exact#[b,a,o,B,G]
 have f:∀u,∃b,(∃i:Nat,c[i]?=some u)->SeqAt.EqAt X.A.in1 s u v b/\∃(i:Nat) (a:Dt),c[i]?=some u/\k[i]?=some a/\(b=true↔a=d):=λu=>by
  by_cases h:∃i:Nat,c[i]?=some u
  .obtain⟨i,t⟩:=h;obtain⟨b,a,w,E,B⟩:=one i u t;exact#[b,λ_=>#[E,i,a,t,w,B]]
  .exact#[true,λz=>wC z h]
 refine#[λu=>Classical.choose (f u),λu g=>(ti (f u) (dU.mp g)).1,λi u d0 q o=>?_];obtain⟨_,j,a,U,C,Y⟩:=ti (f u) #[i,q];rw[Y];obtain⟨w,_⟩:=cg.mp o;obtain⟨y,m⟩:∃y,l[i]?=some y:=#[_,b8 ()];obtain⟨G,_⟩:=cg.mp C;obtain⟨z,D⟩:∃z,l[j]?=some z:=#[_,b8 ()];obtain⟨u1,J,r1⟩:=Vals.get r m;obtain⟨u2,L,r2⟩:=Vals.get r D;rw[q]at J;rw[U]at L;cases J;cases L;have yz:y=z:=HR (p i d0 y o m) (p j a z C D) r1 r2;subst yz;have dd:a=d0:=DQ I n (p j a y C D) (p i d0 y o m);rw[dd]
def yu(w:X.A.units+64<cLine):vD X "list.index" (gj X.K):=by
 intro za s σ H x vs v us Q I A B h;obtain⟨l,y,m,d,C,xs,j,rfl,rfl,D,E,G,J,L,f,no,q⟩:=h;cases A;obtain⟨u,rfl,M⟩:=B.one;obtain⟨a,r,⟨⟨c1,d1,k1,N⟩,n,e,g,i,o⟩,O⟩:=I.list D;simp only at g i o;subst g i o;obtain⟨b,T,p⟩:=Ov w I M r E G J L;have lr:=r.length;have lj:=(cg.mp f).1;rw[cS]at O;refine call_meets F.slot_list_index #[_,e,rZ] F.entry_list_index (F.args_list_index_2 _ _) (SeqAt.list_indexAt l a.toArray n none N u b j (by simp only[List.size_toArray];lia) () ?_ ?_)
  #[e,λy U=>T y (by simpa using U),#[.int (j:Nat),H,I.tok _,#[_,rZ],q]]
 .show b a[j]=true;exact(p j _ d (b8 ()) f).mpr rfl
 .intro k Y c;show b a[k]=false;have t:k<C.length:=by lia
  cases z:b a[k]with
  |false=>rfl
  |true=>
   have z2:=(p k _ _ (b8 ()) (b8 t)).mp z;exact wC (by rw[b8 t,z2]) (no k c)
def Fo{X:Cx}{K:O2}{e:Expr}{T:String}{to:TE}{t:TA}(r:O2->V->List V->Hp->VK->Prop)(a:X.K=K)(h:PE X e (yc X.K T (r X.K) to t)):PE X e (yc K T (r K) to t):=a▸h
end
section
variable{P:Pg}{w:World}{A:Ar}{E:VP}{s:Sh}{it d:Ad}{i f:Nat}{c:Array DictEntry}
abbrev pS(d:Ad)(i n f:Nat):Obj:={cls:= .type "dict_keyiterator",data:= .fields #v[.ref d,.int i 0,.int n 0,.int f 0]}
def GV{g:DictEntry}{Q:Option Vl->Sh->Prop}(G:s.heap.get? it=some (pS d i c.size f))(L:Lies s.heap d c f)(p:c[i]?=some g)(q:∀j,j.get? it=some (pS d (i+1) c.size f)->Heap.SameBut it s.heap j->Q (some g.key) {s with heap:=j}):wpAny (model P w) A (pyNext (.ref it)) Q E s:=by
 obtain⟨o,m,_,n⟩:=L;have ty:s.TypeIs (.ref it) "dict_keyiterator":=#[_,G,rZ];unfold pyNext;refine bW (nI (oB (name:=Str.ofString "__next__") ty se (iG se ty HE ?_ (Hh _))));refine bW (b9 (bW (bW ?_)));refine bW (zJ ty (b9 (bW (pQ G rZ ?_))));have a:Builtin.Dict_items.ownsTuple "dict_keyiterator"=false:=by decide
 simp only[a,Bool.false_eq_true,if_false];refine show wpAny _ _ (if(Value.ref d==Value.none)=true then _ else _) _ _ s from(wA (show ¬((Value.ref d==Value.none)=true)from gN))▸bW (b9 (bW (nH m n ?_)))
 rw[wA (by simp)];refine bW (b9 (bW (oX m n ?_)));rw[wA (by simp)];refine b9 ?_;have k:(if((i:Nat):Int)<0 then none else c[((i:Nat):Int).toNat]?)=some g:=by
  rw[wA (),iI];exact p
 show wpAny _ _ (match (if((i:Nat):Int)<0 then none else c[((i:Nat):Int).toNat]?)with|some e=>_|none=>_) _ _ s;rw[k];refine bW (bW (zJ ty (b9 (bW (wpAny_isOneOf_keyiter ty ?_)))));refine show wpAny _ _ (setField (.ref it) 1 (rawInt ((i:Int)+1)) >>= _) _ _ s from bW (mC G (by simp) λh r t=>wpAny_bind (wpAny_holding ?_))
 have b:h.get? it=some (pS d (i+1) c.size f):=by
  have z:((i+1:Nat):Int)=(i:Int)+1:=by lia
  unfold pS;rw[z];simpa[rawInt]using r
 have l:Shared.TypeIs {s with heap:=h} (.ref it) "dict_keyiterator":=#[_,b,rfl];refine bW (wpAny_isOneOf_keyiter l ?_);exact show wpAny _ _ (pure g.key) _ _ {s with heap:=h}from b9 (b9 #[_,rfl,b9 (q h b t)])
def EC{Q:Option Vl->Sh->Prop}(n:A.handled=none)(G:s.heap.get? it=some (pS d i c.size f))(L:Lies s.heap d c f)(p:c[i]?=none)(q:∀j,Heap.ExtBut it s.heap j->Q none {s with heap:=j}):wpAny (model P w) A (pyNext (.ref it)) Q E s:=by
 obtain⟨o,k,_,l⟩:=L;have ty:s.TypeIs (.ref it) "dict_keyiterator":=#[_,G,rZ];unfold pyNext;refine bW (nI (oB (name:=Str.ofString "__next__") ty se (iG se ty HE ?_ (Hh _))));refine bW (b9 (bW (bW ?_)));refine bW (zJ ty (b9 (bW (pQ G rZ ?_))));have g:Builtin.Dict_items.ownsTuple "dict_keyiterator"=false:=by decide
 simp only[g,Bool.false_eq_true,if_false];refine show wpAny _ _ (if(Value.ref d==Value.none)=true then _ else _) _ _ s from(wA (show ¬((Value.ref d==Value.none)=true)from gN))▸bW (b9 (bW (nH k l ?_)))
 rw[wA (by simp)];refine bW (b9 (bW (oX k l ?_)));rw[wA (by simp)];refine b9 ?_;have h:(if((i:Nat):Int)<0 then none else c[((i:Nat):Int).toNat]?)=none:=by
  rw[wA (),iI];exact p
 show wpAny _ _ (match (if((i:Nat):Int)<0 then none else c[((i:Nat):Int).toNat]?)with|some e=>_|none=>_) _ _ s;rw[h];refine bW (bW (zJ ty (b9 ?_)));refine show wpAny _ _ (setField (.ref it) 0 .none >>= _) _ _ s from bW (mC G (by simp) λu v r=>?_)
 refine bW (m:=newExc _ _) ?_;simp only[newExc,newTuple];refine bW (mw ?_ (by size_fits));refine bW (m:=firstArgMember _ _) (uh (a:=Value.none) (by first|rfl|(unfold firstArgMember;rfl)) (wpAny_newObj_type ?_ (by size_fits)));refine AE (by simpa using n) (wpAny_bind (wpAny_isInstance (T:="StopIteration") (b:=true) #[_,Heap.get?_push_size _ rZ,rZ] isSubtype_stop (wpAny_pure ?_)));exact q _ λb o t z=>cV _ (cV _ (r.extBut b o t z))
def D9{Q:VP}(nd:(d==sysModules)=false)(L:Lies s.heap d c f)(q:Q (.ref s.heap.objs.size) {s with heap:=s.heap.push (pS d 0 c.size f)}):wpAny (model P w) A (pyIter (.ref d)) Q E s:=by
 obtain⟨o,a,x,b⟩:=L;have ty:s.TypeIs (.ref d) "dict":=#[o,a,x.1];refine pJ ty F.slot_dict_iter (iG F.slot_dict_iter ty F.entry_dict_iter ?_ (F.args_dict_iter_1 _));unfold Builtin.«dict.__iter__» Builtin.Dict.dictSlotNone;refine bW (bW (Bd ty ?_));refine show wpAny _ _ (pure (Value.ref d)) _ _ s from b9 (show wpAny _ _ (Builtin.Dict.showsAll d >>= _) _ _ s from ?_)
 have all:Builtin.Dict.showsAll d=pure Unit.unit:=by
  unfold Builtin.Dict.showsAll;rw[nd];rfl
 rw[all];refine bW (b9 (bW (nH a b (bW (oX a b ?_)))));exact bW (mw (b9 #[_,rZ,"dict_keyiterator",_,#[_,dW _ rZ,rZ],se.lookup,q]))
def NI(p:A.handled=none)(j:d≠it):Walks P w A it [it,d] [it] c.size (λi v=>∃a,c[i]?=some a/\v=a.key) (λi h=>h.get? it=some (pS d i c.size f)/\Lies h d c f) where
 sub:=λb r=>dq.mpr (.inl (cE.mp r))
 frame:=λi h g st k=>#[k it (dh ..) _ st.1,let⟨o,e,x⟩:=st.2;#[o,k d (dR _ (cE.mpr rZ)) _ e,x]]
 item:=λi s Q E t st q=>by
  obtain⟨a,m⟩:∃a,c[i]?=some a:=#[_,fX t];refine GV st.1 st.2 m λg u n=>q a.key g s.toks #[a,m,rZ] #[u,let⟨o,e,x⟩:=st.2;#[o,n.extBut _ _ j e,x]] λb o l e=>n.extBut _ _ (λz=>l (cE.mpr z)) e
 done:=λs Q E st q=>EC p st.1 st.2 (zo (cm _)) λg x=>q g s.toks λb o l e=>x b o (λz=>l (cE.mpr z)) e
 self:=λi s Q E st q=>by
  have ty:s.TypeIs (.ref it) "dict_keyiterator":=#[_,st.1,rZ];refine pJ ty zT (iG zT ty HH ?_ (Eu _));exact show wpAny _ _ (ret (.ref it)) _ _ s from b9 #[_,rZ,"dict_keyiterator",_,ty,se.lookup,q]
def v8(nd:(d==sysModules)=false):PySem.W.KdlSrc P w "dict" d d c.size (λi v=>∃a,c[i]?=some a/\v=a.key) (λh=>Lies h d c f) where
 type:=λ_ e=>e.typeIs
 there:=λ_ ⟨_,e,_⟩=>#[cQ e,cQ e]
 keep:=λ_ _ ⟨o,e,x⟩ k=>#[o,k d (.inl rZ) _ e,x]
 notList:=by decide
 notTuple:=by decide
 hint:=λ_ _ _ _ e q=>PySem.W.kdl_hint_dict e.typeIs q
 iter:=λ_ _ b e=>#[_,_,λ_ _ q=>D9 nd e q,NI b (dP (let⟨_,z,_⟩:=e;cQ z)),dW _ rZ,let⟨o,z,x⟩:=e;#[o,cV _ z,x]]
end
open PySem PySem.W PyProof.Rows
section
variable(n:Nat)(k:Nat->Int)
def KOk{b:Type}:KasT b->(b->Prop)->Prop
 |.ret a,R=>R a
 |.ask i j f,R=>i<n/\j<n/\KOk (f (decide (k i<k j))) R
def Arr(p:Array Nat):Prop:=p.Perm (List.range n).toArray
def pf(p:Array Nat)(m:Nat):Prop:=∀a b,a<b->b<m->k (p.getD a 0)<k (p.getD b 0)
def OR(p:Array Nat)(m:Nat):Prop:=∀a b,a<b->b<m->k (p.getD b 0)<k (p.getD a 0)
variable{n k}
theorem KOk.bind{b c:Type}{f:b->KasT c}{R:b->Prop}{d:c->Prop}(h:∀a,R a->KOk n k (f a) d):∀t:KasT b,KOk n k t R->KOk n k (t.bind f) d
 |.ret a,q=>h a q
 |.ask i j g,q=>#[q.1,q.2.1,KOk.bind h (g _) q.2.2]
def Arr.size{p:Array Nat}(h:Arr n p):p.size=n:=by
 have z:=(lM.mp h).length_eq;simpa using z
def Arr.at{p:Array Nat}(h:Arr n p){i:Nat}(b:i<n):p.getD i 0<n/\p[i]?=some (p.getD i 0):=by
 have hs:=h.size;have e:p[i]?=some (p.getD i 0):=by
  rw[pH,fX ()];rfl
 refine#[?_,e];have m:p.getD i 0∈p:=DD e;have a:=(Cm h).mp m;simpa using a
def Arr.inj{p:Array Nat}(h:Arr n p){i j:Nat}(b:i<n)(d:j<n)(e:p.getD i 0=p.getD j 0):i=j:=by
 have nd:p.toList.Nodup:=(lM.mp h).nodup_iff.mpr (by simpa using List.nodup_range);have c:=(h.at b).2;have a:=(h.at d).2;rw[<-e]at a;rw[<-fh]at c a;exact(jk (by rw[de,h.size];exact b) nd).mp (c.trans a.symm)
variable(inj:∀i j,i<n->j<n->k i=k j->i=j)
include inj
end
end L2
namespace L2
open PySem PySem.Spec PySem.W PyProof.Rows
section
variable{P:Pg}{w:World}{A:Ar}{E:VP}{s:Sh}{a:Ad}{c d:Vs}{k:Nat->Int}
def xu(P:Pg)(w:World)(A:Ar)(d:Vs)(lt:Nat->Nat->Bool)(s:Sh):Prop:=
 wpAny (model P w) A (keyKind' d.toArray) (λa b=>b=s/\∀i j (C:Bool->Sh->Prop),i<d.length->j<d.length->C (lt i j) s->kas_ask P w A a d i j C s) (λ_ _=>False) s
abbrev f8(c:Vs)(p:Array Nat):Vs:=p.toList.map λi=>c.getD i Value.none
def Hq(c:Vs):f8 c (List.range c.length).toArray=c:=by
 unfold f8;refine lR λi=>?_;rw[qe,cr];by_cases h:i<c.length
 .rw[ko h,b8 h];show some (c.getD i Value.none)=_;rw[cP,b8 h];rfl
 .rw[ie (by simp;lia),List.getElem?_eq_none ()];rfl
def Fa(a:d.length=c.length):(d.toArray.zip c.toArray).map (·.2)=c.toArray:=by
 apply zz.mp;rw[yH,ksk_zip];exact Aw (by simp[a])
def xh{a:Heap}{b:Ad}{x:Obj}(e:a.get? b=some x)(c d:Obj):((a.push c).push d).get? b=some x:=cV _ (cV _ e)
end
theorem DO{a:Type}{p q:a->Bool}:∀{xs:List a},(∀z∈xs,p z=true->q z=true)->(∃z∈xs,p z=false/\q z=true)->xs.countP p<xs.countP q
 | [],_,h=>by obtain⟨z,hz,_⟩:=h;cases hz
 | x::xs,mono,h=>by
  have g:xs.countP p<=xs.countP q:=List.countP_mono_left λz hz=>mono z (dR _ hz);rw[zI,zI];obtain⟨z,hz,b,c⟩:=h
  rcases dq.mp hz with e|hz
  .subst e;rw[b,c];simp;lia
  .have i:=DO (xs:=xs) (λy d=>mono y (dR _ d)) #[z,hz,b,c];have m:=mono x (dh ..);cases f:p x with
   |false=>cases q x<;>simp<;>lia
   |true=>rw[m f];simp;lia
structure Total{α:Type}(lt:α->α->Bool)(xs:List α):Prop where
 irr:∀x,lt x x=false
 trans:∀x y z,lt x y=true->lt y z=true->lt x z=true
 tot:∀x∈xs,∀y∈xs,x≠y->lt x y=true\/lt y x=true
def ja{a:Type}(lt:a->a->Bool)(xs:List a)(x:a):Int:=((xs.countP λy=>lt y x):Nat)
section
variable{a:Type}{lt:a->a->Bool}{xs:List a}(T:Total lt xs)
include T
def Total.up{x y:a}(b:x∈xs)(h:lt x y=true):ja lt xs x<ja lt xs y:=by
 unfold ja;have z:=DO (xs:=xs) (p:=λz=>lt z x) (q:=λz=>lt z y) (λz _ c=>T.trans _ _ _ c h) #[x,b,T.irr x,h];lia
def Total.asks{x y:a}(b:x∈xs)(c:y∈xs):decide (ja lt xs x<ja lt xs y)=lt x y:=by
 by_cases e:x=y
 .subst e;rw[T.irr];exact eQ (Int.lt_irrefl _)
 .rcases T.tot x b y c e with h|h
  .rw[h];exact c9 (T.up b h)
  .have:=T.up c h;rw[eQ ()];cases z:lt x y with
   |false=>rfl
   |true=>
    have:=T.up b z;lia
def Total.same{x y:a}(b:x∈xs)(c:y∈xs)(h:ja lt xs x=ja lt xs y):x=y:=by
 refine qo λe=>?_
 rcases T.tot x b y c e with z|z
 .have:=T.up b z;lia
 .have:=T.up c z;lia
end
theorem Bm:∀(a b:bV),a≠b->d8 a b=true\/d8 b a=true
 | [],[],h=>wC rZ h
 | [],y::b,_=> .inl (by unfold d8;rw[show hA [] (y::b)=none from rfl];simp)
 |x::a,[],_=> .inr (by unfold d8;rw[show hA [] (x::a)=none from rfl];simp)
 | x::a,y::b,h=>by
  by_cases e:x=y
  .subst e
   rcases Bm a b (λz=>h (by rw[z]))with q|q
   .exact .inl (by rw[pW];exact q)
   .exact .inr (by rw[pW];exact q)
  .rw[ju e,ju (eC e)]
   rcases Nat.lt_or_gt_of_ne e with q|q
   .exact .inl (c9 q)
   .exact .inr (c9 q)
theorem v6:∀(xs a d:bV),d8 xs a=true->d8 a d=true->d8 xs d=true
 | xs,a,[],_,b=>by
  have:d8 a []=false:=by
   unfold d8;rw[show hA a []=none by cases a<;>rfl];simp
  rw[this]at b;cases b
 | [],a,z::d,_,_=>by unfold d8;rw[show hA [] (z::d)=none from rfl];simp
 | x::xs,[],z::d,c,_=>by
  have:d8 (x::xs) []=false:=by
   unfold d8;rw[show hA (x::xs) []=none from rfl];simp
  rw[this]at c;cases c
 | x::xs,y::a,z::d,c,b=>by
  by_cases f:x=y
  .subst f;by_cases e:x=z
   .subst e;rw[pW]at c b|-;exact v6 xs a d c b
   .rw[ju e]at b|-;exact b
  .rw[ju f]at c;have g:=fG c;by_cases e:y=z
   .subst e;rw[ju f];exact c
   .rw[ju e]at b;have h:=fG b;rw[ju ()];exact c9 ()
def Hg(a:LN):Total d8 a:=#[qa,v6,λx _ y _ e=>Bm x y e]
section
variable{P:Pg}{w:World}{A:Ar}{E:VP}{s:Sh}
def Hb{i j:Int}{t u:Tok}(f:Bool){Q:Bool->Sh->Prop}(h:Q (decide (i<j)) s):wpAny (model P w) A (oneLt' f (.int i t) (.int j u)) Q E s:=by
 cases f with
 |true=>exact oneLt_int h
 |false=>exact kat_one _ _ (PyProof.Rows.lt_int h)
theorem F'{fin:Bool}{Q:Bool->Sh->Prop}:∀{b a:bV} {c d:Vs} (i:Nat),Vals (b.map nv) c->Vals (a.map nv) d->Q ((hA b a).getD fin) s->KatLex P w A true fin Q (c.zip d) i s
 | [],a,_,_,i,.nil,_,q=>by
  rw[show hA [] a=none by cases a<;>rfl]at q;rw[C4];exact kat_nil q
 |n::b,[],_,_,i,.cons _ _,.nil,q=>by
  rw[List.zip_nil_right];exact kat_nil q
 | n::b,m::a,_,_,i,.cons ⟨t,f⟩ g,.cons ⟨u,h⟩ k,q=>by
  subst f h;refine kat_cons ?_;have z:=fA (A:=A) (s:=s) (i:=(n:Int)) (j:=(m:Int)) (t:=t) (u:=u);by_cases e:n=m
  .rw[c9 ()]at z;rw[hA,wB e]at q;exact z P w _ _ (kat_yes (F' (i+1) g k q))
  .rw[eQ ()]at z;rw[hA,wA e]at q;refine z P w _ _ (kat_no (Hb _ ?_));have l:decide ((n:Int)<(m:Int))=decide (n<m):=by simp
   rw[l];exact q
def oS(h:Heap)(v:Vl)(d:bV):Prop:=∃a o b c,v=.ref a/\h.get? a=some o/\o.cls=.type "tuple"/\o.data=.seq b c/\Vals (d.map nv) b.toList
theorem FM{h:Heap}:∀{vs:Vs} {ts:LN},vs.length=ts.length->(∀(i:Nat) v t,vs[i]?=some v->ts[i]?=some t->oS h v t/\t≠[])->∃fs:Vs,KatTups h vs fs/\fs.length=vs.length/\∀f∈fs,∃i t,f=.int i t
 | [],[],_,_=>#[[],.nil,rZ,λ_ z=>nomatch z]
 | [],_::_,l,_=>by simp at l
 |_::_,[],l,_=>by simp at l
 | v::vs,t::ts,l,g=>by
  obtain⟨fs,k,m,k3⟩:=FM (h:=h) (vs:=vs) (ts:=ts) (by simpa using l) λi v t p q=>g (i+1) v t (by simpa using p) (by simpa using q);obtain⟨⟨a,o,d,c,rfl,s,u,w,x⟩,ne⟩:=g 0 v t rZ rfl;obtain⟨n,b,rfl⟩:∃n b,t=n::b:=by
   cases t with
   |nil=>exact wC rZ ne
   |cons n b=>exact#[n,b,rZ]
  obtain⟨j⟩:=d;cases x with
  | cons r _=>
   obtain⟨y,rfl⟩:=r;exact#[_::fs,.cons s u w rZ k,by simp[m],λf hf=>by
    rcases dq.mp hf with e|hf
    .exact#[_,_,e]
    .exact k3 f hf]
def Fc{a:Vs}{b:LN}(l:a.length=b.length)(L:1<=a.length)(e:∀(i:Nat) v t,a[i]?=some v->b[i]?=some t->oS s.heap v t/\t≠[]):xu P w A a (λi j=>d8 (b.getD i []) (b.getD j [])) s:=by
 obtain⟨fs,k,M,k3⟩:=FM l e;refine kat_kind (T:= .type "int") k () (λf m=>?_) (by decide) #[rZ,λi j C d n o=>?_]
 .obtain⟨i,t,rfl⟩:=k3 f m;exact .now
 .have c:∀{i:Nat},i<a.length->oS s.heap (a.getD i Value.none) (b.getD i []):=λ{i} d=>by
   have p:a[i]?=some (a.getD i Value.none):=by rw[cP,b8 d];rfl
   have q:b[i]?=some (b.getD i []):=by rw[cP,b8 ()];rfl
   exact(e i _ _ p q).1
  obtain⟨x,N,r,O,u,z,Q,B,g⟩:=c d;obtain⟨y,U,D,Y,E,G,y2,H,h⟩:=c n;show wpAny (model P w) A (keyLt' _ (a.getD i Value.none) (a.getD j Value.none)) C _ s;rw[u,E];refine kat_lt z B G H (F' 0 g h ?_);have I:(b.getD i []).length=r.size:=by have:=g.length;simpa using this
  have J:(b.getD j []).length=D.size:=by have:=h.length;simpa using this
  rw[<-I,<-J];exact o
end
def CJ{b:Type}{a:List b}{p:Array Nat}{d:b}(c:Arr a.length p):(p.toList.map λi=>a.getD i d).Perm a:=by
 have z:=(lM.mp c).map λi=>a.getD i d;refine z.trans (.of_eq ?_);refine lR λi=>?_;rw[qe,cr];by_cases h:i<a.length
 .rw[ko h,b8 h];show some (a.getD i d)=_;rw[cP,b8 h];rfl
 .rw[ie (by simp;lia),List.getElem?_eq_none ()];rfl
def GJ{p:Array Nat}{n i:Nat}(a:Arr n p)(b:i<n):p.toList[i]?=some (p.getD i 0):=by
 rw[fh];exact(a.at b).2
def Bh{c:Type}{lt:c->c->Bool}{a:List c}{d:c}{p:Array Nat}(T:Total lt a)(b:Arr a.length p)(up:pf (λi=>ja lt a (a.getD i d)) p a.length):(p.toList.map λi=>a.getD i d).Pairwise λx y=>lt x y=true:=by
 rw[ke];intro i j e f o;have k:i<a.length:=by rw[bZ,de,b.size]at e;exact e
 have g:j<a.length:=by rw[bZ,de,b.size]at f;exact f
 have l:(p.toList.map λi=>a.getD i d)[i]?=some (a.getD (p.getD i 0) d):=by rw[cr,GJ b k];rfl
 have n:(p.toList.map λi=>a.getD i d)[j]?=some (a.getD (p.getD j 0) d):=by rw[cr,GJ b g];rfl
 rw[b8 e]at l;rw[b8 f]at n;rw[fL l,fL n];have u:=up i j o g;have m:∀{i:Nat},i<a.length->a.getD (p.getD i 0) d∈a:=λ{i} h=>by
  have:=(b.at h).1;rw[cP,b8 this];exact iw _
 rw[<-T.asks (m k) (m g)];exact c9 u
structure TupsAt(H:Hp)(bs:As)(us:LN):Prop where
 len:bs.length=us.length
 is:∀(i:Nat) (b:Ad) (u:bV),bs[i]?=some b->us[i]?=some u->H b=some (.tup (u.map nv))
def TupsAt.same{H a:Hp}{bs:As}{c:LN}(h:TupsAt H bs c)(g:Same H a):TupsAt a bs c:=#[h.len,λi b u d e=>g _ _ (h.is i b u d e)]
def TupsAt.pick{H:Hp}{bs:As}{a:LN}(h:TupsAt H bs a){p:Array Nat}(f:Arr a.length p):TupsAt H (p.toList.map λi=>bs.getD i 0) (p.toList.map λi=>a.getD i []):=by
 refine#[by simp,λi b u d c=>?_];rw[cr]at d c;obtain⟨j,e,rfl⟩:=da.mp d;rw[e]at c;cases c;have g:j<a.length:=by
  have m:=(lM.mp f).mem_iff.mp (cH e);simpa using m
 have k:=h.len;refine h.is j _ _ ?_ ?_
 .rw[cP,b8 ()];rfl
 .show a[j]?=some (a.getD j []);rw[cP,b8 g];rfl
section
variable{X:Cx}
def CI{P:Pg}{w:World}{H:Hp}{h:Heap}{a:Ad}{t:bV}(ok:HOk P w H h)(e:H a=some (.tup (t.map nv))):oS h (.ref a) t:=by
 obtain⟨_,b,r,o,d,f,c,g,_⟩:=(show ObjOk P w H h a (.tup (t.map nv))from ok a _ e);exact#[a,o,b.toArray,c,rZ,d,f,g,by simpa using r]
theorem vI:∀{b:As} {c:Vs},Vals (b.map V.ref) c->c=b.map Value.ref
 | [],_,.nil=>rfl
 |a::b,_,.cons r t=>by
  have d:_=Value.ref a:=r;rw[d,vI t];rfl
def nj{b:Type}{a:List b}{d:b}{i:Nat}(h:i<a.length):a[i]?=some (a.getD i d)/\a.getD i d∈a:=by
 have e:a[i]?=some (a.getD i d):=by
  rw[cP,b8 h];rfl
 exact#[e,cH e]
def CV{b:Type}{lt:b->b->Bool}{a:List b}{d:b}(T:Total lt a)(nd:a.Nodup):∀i j,i<a.length->j<a.length->ja lt a (a.getD i d)=ja lt a (a.getD j d)->i=j:=λi j c f e=>by
 have z:=T.same (nj c).2 (nj f).2 e;refine(jk c nd).mp ?_;rw[(nj (d:=d) c).1,(nj (d:=d) f).1,z]
end
abbrev d0:Keyed:=(Value.none,Value.none)
structure Asks(M:Model)(A:Ar)(s:Sh)(κ:SortKind)(r:Keyed->Int)(a₀:Array Keyed):Prop where
 lt:∀(x y:Keyed) (C:Bool->Sh->Prop),x∈a₀->y∈a₀->C (decide (r x<r y)) s->wpAny M A (keyLt' κ x.1 y.1) C (λ_ _=>False) s
 ne:∀i j,i<a₀.size->j<a₀.size->i≠j->r (a₀.getD i d0)≠r (a₀.getD j d0)
structure StOk(κ:SortKind)(a₀:Array Keyed)(st:SortSt):Prop where
 kind:kindOf st=κ
 perm:(arrOf st).Perm a₀
 ok:failedOf st=none
section
variable{M:Model}{A:Ar}{E:VP}{s:Sh}{o:SortKind}{r:Keyed->Int}{f xs g:Array Keyed}
abbrev kx(r:Keyed->Int)(xs:Array Keyed)(i:Nat):Int:=r (xs.getD i d0)
def pu{i:Nat}(h:i<xs.size):xs[i]?=some (xs.getD i d0):=by
 rw[pH,fX h];rfl
def uv{i:Nat}{x:Keyed}(h:xs[i]?=some x):xs.getD i d0=x:=by
 rw[pH,h];rfl
def oy{i j:Nat}(h:xs[i]?=g[j]?):xs.getD i d0=g.getD j d0:=by
 rw[pH,pH,h]
def qm(p:xs.Perm f):xs.size=f.size:=by
 have z:=(lM.mp p).length_eq;simpa using z
def zY(p:xs.Perm f){i:Nat}(h:i<f.size):xs.getD i d0∈f:=(Cm p).mp (DD (pu (by rw[qm p];exact h)))
def Asks.pairs(K:Asks M A s o r f):(f.toList.map r).Nodup:=by
 refine ke.mpr λi j a b c=>?_;rw[ry,ry];rw[bZ,de]at a b;have z:=K.ne i j a b ();rw[pH,pH,fX a,fX b]at z;exact z
def Asks.apart(K:Asks M A s o r f)(p:xs.Perm f){i j:Nat}(a:i<f.size)(b:j<f.size)(c:i≠j):kx r xs i≠kx r xs j:=by
 have nd:(xs.toList.map r).Nodup:=((lM.mp p).map r).nodup_iff.mpr K.pairs;have sz:=qm p;intro z;have e:∀k,k<f.size->(xs.toList.map r)[k]?=some (kx r xs k):=λk d=>by
  rw[cr,fh,pu ()];rfl
 exact c ((jk (by rw[bZ,de];lia) nd).mp (by rw[e i a,e j b,z]))
def wS{st:SortSt}{x y:Keyed}{Q:Option Bool->SortSt->Prop}(K:Asks M A s o r f)(c:kindOf st=o)(d:x∈f)(e:y∈f)(h:Q (some (decide (r x<r y))) st):wpS M A E s (lt' x y) Q st:=by
 rw[lt'_eq];refine cA (mq ?_);rw[c];refine cA (qz (nI (gJ (K.lt x y (λb a=>a=s/\b=decide (r x<r y)) d e #[rZ,rZ]) (λb a g=>?_) λ_ _ z=>z.elim)));obtain⟨rfl,rfl⟩:=g;exact#[rZ,cK h]
def gq{a:SortSt}{i:Nat}{Q:Keyed->SortSt->Prop}(b:i<xs.size)(h:Q (xs.getD i d0) a):wpS M A E s (elem' xs i) Q a:=by
 rw[elem'_eq,pu b];exact cK h
def xJ{st:SortSt}{i j:Nat}{Q:Option Bool->SortSt->Prop}(K:Asks M A s o r f)(B:StOk o f st)(a:i<f.size)(b:j<f.size)(h:Q (some (decide (kx r (arrOf st) i<kx r (arrOf st) j))) st):wpS M A E s (ltAt' i j) Q st:=by
 have sz:=qm B.perm;rw[ltAt'_eq];refine cA (mq ?_);exact cA (gq () (cA (gq () (wS K B.kind (zY B.perm a) (zY B.perm b) h))))
def Ris(r:Keyed->Int)(xs:Array Keyed)(lo c:Nat):Prop:=∀a b,lo<=a->a<b->b<c->kx r xs a<kx r xs b
def Fal(r:Keyed->Int)(xs:Array Keyed)(lo c:Nat):Prop:=∀a b,lo<=a->a<b->b<c->kx r xs b<kx r xs a
def Out(xs g:Array Keyed)(lo a:Nat):Prop:=∀k,k<lo\/a<=k->g[k]?=xs[k]?
def Out.refl(xs:Array Keyed)(lo a:Nat):Out xs xs lo a:=λ_ _=>rfl
def Out.trans{b:Array Keyed}{lo a:Nat}(h:Out xs g lo a)(c:Out g b lo a):Out xs b lo a:=λk z=>(c k z).trans (h k z)
def Out.wide{lo c a b:Nat}(h:Out xs g lo c)(d:a<=lo)(e:c<=b):Out xs g a b:=λk z=>h k ()
def Out.ris{lo c a b:Nat}(h:Out xs g lo c)(e:Ris r xs a b)(d:b<=lo\/c<=a):Ris r g a b:=λi j f k l=>by
 show r (g.getD i d0)<r (g.getD j d0);rw[oy (h i ()),oy (h j ())];exact e i j f k l
def Ris.one{lo:Nat}:Ris r xs lo (lo+1):=λa b c d e=>by lia
def Ris.snoc{lo c:Nat}(h:Ris r xs lo c)(i:lo<c)(l:kx r xs (c-1)<kx r xs c):Ris r xs lo (c+1):=λa b d f j=>by
 by_cases e:b=c
 .subst e;by_cases g:a=b-1
  .subst g;exact l
  .have:=h a (b-1) d () ();lia
 .exact h a b d f ()
def Fal.snoc{lo c:Nat}(h:Fal r xs lo c)(i:lo<c)(l:kx r xs c<kx r xs (c-1)):Fal r xs lo (c+1):=λa b d f j=>by
 by_cases e:b=c
 .subst e;by_cases g:a=b-1
  .subst g;exact l
  .have:=h a (b-1) d () ();lia
 .exact h a b d f ()
def StOk.set{st:SortSt}(B:StOk o f st)(p:g.Perm (arrOf st)):StOk o f (setArr st g):=#[B.kind,p.trans B.perm,B.ok]
def Fw{i j:Nat}(b:j<=xs.size)(k:Nat):kx r (mirror xs i j ((j-i) /2)) k=if i<=k/\k<j then kx r xs (i+j-1-k)else kx r xs k:=by
 have e:=getElem?_mirror_all (i:=i) b k;by_cases a:i<=k/\k<j
 .rw[wB a]at e|-;exact dw r (oy e)
 .rw[wA a]at e|-;exact dw r (oy e)
def IE{st:SortSt}{lo g:Nat}{Q:Option Nat->SortSt->Prop}(K:Asks M A s o r f)(B:StOk o f st)(hn:lo+g<=f.size)(G:1<=g)(h:∀n l,StOk o f l->pendingOf l=pendingOf st->gallopOf l=gallopOf st->Out (arrOf st) (arrOf l) lo (lo+g)->1<=n->n<=g->Ris r (arrOf l) lo (lo+n)->Q (some n) l):wpS M A E s (countRun' lo g) Q st:=by
 rw[countRun'_eq];have x:∀(m:Nat) (l:SortSt) (H:Option (Option Nat)×Nat->SortSt->Prop),StOk o f l->1<=m->m<=g->Ris r (arrOf l) lo (lo+m)->(∀n,m<=n->n<=g->Ris r (arrOf l) lo (lo+n)->(n<g->kx r (arrOf l) (lo+n)<kx r (arrOf l) (lo+n-1))->H (none,n) l)->
   wpS M A E s (forIn [m:g] ((none,m):Option (Option Nat)×Nat) λ_ p=>do
    let J <-ltAt' (lo+p.snd) (lo+p.snd-1)
    match J with
    |some t=>if t=true then pure (ForInStep.done (none,p.snd))else pure (ForInStep.yield (none,p.snd+1))
    |_=>pure (ForInStep.done (some none,p.snd))) H l:=λm l H U m1 L up q=>by
  refine iU (I:=λi c d=>d=l/\c=(none,i)/\Ris r (arrOf l) lo (lo+i)) (λi c d mB vK v=>?_) (λc d v=>?_) #[rZ,rZ,up]
  .obtain⟨rfl,rfl,u⟩:=v;refine cA (xJ K U (by show lo+i<_;lia) (by show lo+i-1<_;lia) ?_);by_cases c:kx r (arrOf d) (lo+i)<kx r (arrOf d) (lo+i-1)
   .rw[c9 c];exact cK (q i mB () u λ_=>c)
   .rw[eQ c];have ne:=K.apart U.perm (i:=lo+i) (j:=lo+i-1) () () ();exact cK #[rZ,rZ,u.snoc () ()]
  .obtain⟨rfl,rfl,u⟩:=v;rw[show max m g=g by lia]at u|-;exact q g L (cm _) u λz=>wC z (kS _)
 refine cA (x 1 st _ B (cm _) G Ris.one λn N D up stop=>?_);dsimp only;by_cases e:n=g
 .rw[wB (by simpa using e)];exact cK (h n st B rZ rZ (Out.refl _ _ _) N D up)
 rw[wA (by simpa using e)];have O:=stop ();by_cases Y:n>1
 .rw[wB Y];refine cA (xJ K B () () ?_);rw[c9 (up lo (lo+n-1) (cm _) () ())];exact cK (h n st B rZ rZ (Out.refl _ _ _) N D up)
 rw[wA Y];have en:n=1:=by lia
 subst en;refine cA (qz (oY #[rZ,?_]));have y:Fal r (arrOf st) lo (lo+2):=λa b G h2 h3=>by
  have ea:a=lo:=by lia
  have eb:b=lo+1:=by lia
  subst ea eb;exact O
 refine cA (iZ (iU (I:=λi c d=>d=st/\c=(none,i,0)/\Fal r (arrOf st) lo (lo+i)) (Q:=λc d=>d=st/\∃m,c=(none,m,0)/\2<=m/\m<=g/\Fal r (arrOf st) lo (lo+m)) (λi c d mB vK v=>?_) (λc d v=>?_) #[rZ,rZ,y]) ?_)
 .obtain⟨rfl,rfl,fa⟩:=v;refine cA (xJ K B (by show lo+i<_;lia) (by show lo+i-1<_;lia) ?_);by_cases c:kx r (arrOf d) (lo+i)<kx r (arrOf d) (lo+i-1)
  .rw[c9 c];exact cK #[rZ,rZ,fa.snoc () c]
  .rw[eQ c];have ne:=K.apart B.perm (i:=lo+i) (j:=lo+i-1) () () ();refine cA (xJ K B (by show lo+i-1<_;lia) (by show lo+i<_;lia) ?_);rw[c9 (by show kx r (arrOf d) (lo+i-1)<kx r (arrOf d) (lo+i);lia)];exact cK #[rZ,i,rZ,(),(),fa]
 .obtain⟨rfl,rfl,fa⟩:=v;refine#[rZ,_,rZ,(),(),fa]
 .rintro c d ⟨rfl,m,rfl,m2,L,fa⟩;dsimp only;obtain⟨m,rfl⟩:∃k,m=k+1:=nr λz=>by rw[z]at m2;exact wC m2 (by decide)
  rw[wA (kS 0)];rw[reverseSlice'_eq];have sz:=qm B.perm;have w:lo+(m+1)<=(arrOf d).size:=by lia
  have B2:StOk o f (setArr d (mirror (arrOf d) lo (lo+(m+1)) ((lo+(m+1)-lo) /2))):=B.set (mirror_perm _ _ _ _);have T:Ris r (mirror (arrOf d) lo (lo+(m+1)) ((lo+(m+1)-lo) /2)) lo (lo+(m+1)):=λa b G h2 h3=>by
   rw[Fw w,Fw w,wB (),wB ()];exact fa _ _ (show lo<=lo+(lo+m)-b from BX ()) (show lo+(lo+m)-b<lo+(lo+m)-a from Nat.sub_lt_sub_left () h2) (show lo+(lo+m)-a<lo+(m+1)from we () ())
  have C:Out (arrOf d) (mirror (arrOf d) lo (lo+(m+1)) ((lo+(m+1)-lo) /2)) lo (lo+g):=λk hk=>by
   rw[getElem?_mirror_all w,wA ()]
  refine cA (nP (cA (x (m+1) _ _ B2 () L T λn N D up stop=>?_)));exact cK (h n _ B2 rZ rZ C () D up)
end
section
variable{M:Model}{A:Ar}{E:VP}{s:Sh}{b:SortKind}{r:Keyed->Int}{a f g:Array Keyed}
def E7{a d:Nat}(g:a<f.size)(h:d<=a)(k:Nat):kx r (bubble f a d) k=if k=a-d then kx r f a else if a-d<k/\k<=a then kx r f (k-1)else kx r f k:=by
 have e:=getElem?_bubble g d h k;by_cases b:k=a-d
 .rw[wB b]at e|-;exact dw r (oy e)
 .rw[wA b]at e|-;by_cases c:a-d<k/\k<=a
  .rw[wB c]at e|-;exact dw r (oy e)
  .rw[wA c]at e|-;exact dw r (oy e)
def KY{st:SortSt}{lo n ok:Nat}{Q:Bool->SortSt->Prop}(K:Asks M A s b r a)(B:StOk b a st)(hn:lo+n<=a.size)(aa:ok<=n)(hs:Ris r (arrOf st) lo (lo+ok))(h:∀e,StOk b a e->pendingOf e=pendingOf st->gallopOf e=gallopOf st->Out (arrOf st) (arrOf e) lo (lo+n)->Ris r (arrOf e) lo (lo+n)->Q true e):wpS M A E s (binarySort' lo n ok) Q st:=by
 rw[binarySort'_eq];refine cA (iZ (iU (I:=λk c e=>c=(none,Unit.unit)/\StOk b a e/\pendingOf e=pendingOf st/\gallopOf e=gallopOf st/\Out (arrOf st) (arrOf e) lo (lo+n)/\Ris r (arrOf e) lo (lo+min k n))
  (Q:=λc e=>c=(none,Unit.unit)/\StOk b a e/\pendingOf e=pendingOf st/\gallopOf e=gallopOf st/\Out (arrOf st) (arrOf e) lo (lo+n)/\Ris r (arrOf e) lo (lo+n)) ?step ?fin ?init) ?post)
 case post=>
  rintro c e ⟨rfl,y,H,J,o,u⟩;exact cK (h e y H J o u)
 case init=>
  refine#[rZ,B,rZ,rZ,Out.refl _ _ _,λi j v C h3=>?_];exact hs i j v C ()
 case fin=>
  rintro c e ⟨hc,y,H,J,o,u⟩;refine#[hc,y,H,J,o,?_];rwa[show min (max (max ok 1) n) n=n by lia]at u
 case step=>
  rintro k c e ab ae ⟨rfl,y,H,J,o,w⟩;rw[show min k n=k by lia]at w;have sz:=qm y.perm;refine cA (iZ (iU (I:=λx c f=>f=e/\∃l q,c=(none,l,q)/\l<=q/\q<=k/\q+x<=k+l/\
    (∀i,i<l->kx r (arrOf e) (lo+i)<kx r (arrOf e) (lo+k))/\(∀i,q<=i->i<k->kx r (arrOf e) (lo+k)<kx r (arrOf e) (lo+i)))
   (Q:=λc f=>f=e/\∃l q,c=(none,l,q)/\l<=k/\
    (∀i,i<l->kx r (arrOf e) (lo+i)<kx r (arrOf e) (lo+k))/\(∀i,l<=i->i<k->kx r (arrOf e) (lo+k)<kx r (arrOf e) (lo+i))) ?istep ?ifin ?iinit) ?ipost)
  case iinit=>exact#[rZ,0,k,rZ,(),(),(),λi hi=>by lia,λi v C=>by lia]
  case ifin=>
   rintro c f ⟨rfl,l,q,rfl,N,t,hm,m,p⟩;have:l=q:=by lia
   subst this;exact#[rZ,l,l,rZ,t,m,p]
  case istep=>
   rintro x c f _ af ⟨rfl,l,q,rfl,N,t,hm,m,p⟩;dsimp only;by_cases D:l>=q
   .rw[wB D];have:l=q:=by lia
    subst this;exact cK #[rZ,l,l,rZ,t,m,p]
   .rw[wA D];have Y:l<=(l+q) /2:=by lia
    have O:(l+q) /2<q:=by lia
    clear D;generalize(l+q) /2=d at Y O|-;have dk:d<k:=gm O t;refine cA (xJ K y () () ?_);by_cases g:kx r (arrOf f) (lo+k)<kx r (arrOf f) (lo+d)
    .simp only[g,decide_true,if_true];refine cK #[rZ,l,d,rZ,Y,jc dk,(),m,λi v C=>?_];by_cases z:i=d
     .subst z;exact g
     .exact vm g (w (lo+d) (lo+i) (nA ..) (zr (wc v (eC z)) _) (zr C _))
    .simp only[g,decide_false,Bool.false_eq_true,if_false];have ne:=K.apart y.perm (i:=lo+k) (j:=lo+d) () () ();refine cK #[rZ,d+1,q,rZ,O,t,(),λi v=>?_,p];by_cases z:i=d
     .subst z;exact Int.lt_iff_le_and_ne.mpr #[Int.not_lt.mp g,ne.symm]
     .exact Int.lt_of_lt_of_le (w (lo+i) (lo+d) (nA ..) (zr (wc (Aa v) z) _) (zr dk _)) (Int.not_lt.mp g)
  case ipost=>
   rintro c f ⟨rfl,l,q,rfl,L,m,p⟩;show wpS _ _ _ _ (do moveDown' (lo+k) (lo+l);pure (ForInStep.yield (none,Unit.unit))) _ _
   rw[moveDown'_eq];have G:lo+k<(arrOf f).size:=by lia
   refine cA (nP (cK #[rZ,y.set (bubble_perm _ _ _),H,J,o.trans λj hj=>?_,?_]))
   .show(bubble (arrOf f) (lo+k) (lo+k-(lo+l)))[j]?=_;rw[getElem?_bubble G _ (),Nat.sub_sub_self (vE L lo),wA (),wA ()]
   .rw[show min (k+1) n=k+1 by lia];intro i j v C h3;show kx r (bubble (arrOf f) (lo+k) (lo+k-(lo+l))) i<kx r (bubble (arrOf f) (lo+k) (lo+k-(lo+l))) j
    rw[E7 G (),E7 G (),Nat.sub_sub_self (vE L lo)];have T:∀i,lo<=i->i<lo+l->kx r (arrOf f) i<kx r (arrOf f) (lo+k):=λi v C=>by
     have:=m (i-lo) ();rwa[show lo+(i-lo)=i by lia]at this
    have U:∀i,lo+l<=i->i<lo+k->kx r (arrOf f) (lo+k)<kx r (arrOf f) i:=λi v C=>by
     have:=p (i-lo) () ();rwa[show lo+(i-lo)=i by lia]at this
    repeat' split
    all_goals first
     |(exfalso;lia)
     |exact T _ () ()
     |exact U _ () ()
     |exact w _ _ () () ()
def qf:Bool->Keyed->Array Keyed->Nat->Nat->Nat->StateT SortSt Sem (Option Nat):=sortPriv%PySem.Builtin.gallop
def Ot(left:Bool)(e:Keyed)(g:Array Keyed)(d n a:Nat):qf left e g d n a=(do
 let c (i:Nat):StateT SortSt Sem (Option Bool):=do
  let x <-elem' g (d+i)
  if left then lt' x e else return (<-lt' e x).map (!·)
 let mut lastofs:=0
 let mut ofs:=1
 let mut lo:=0
 let mut hi:=0
 let some right <-c a|return none
 if right then
  let b:=n-a
  for _ in[0:n] do
   if ofs>=b then break
   let some more <-c (a+ofs)|return none
   if !more then break
   lastofs:=ofs
   ofs:=2 * ofs+1
  lo:=a+lastofs+1
  hi:=a+min ofs b
 else
  let b:=a+1
  for _ in[0:n] do
   if ofs>=b then break
   let some f <-c (a-ofs)|return none
   if f then break
   lastofs:=ofs
   ofs:=2 * ofs+1
  lo:=a+1-min ofs b
  hi:=a-lastofs
 for _ in[0:n] do
  if lo>=hi then break
  let m:=lo+(hi-lo) /2
  let some more <-c m|return none
  if more then lo:=m+1 else hi:=m
 return some hi):=rfl
end
section
variable{M:Model}{A:Ar}{E:VP}{s:Sh}{b:SortKind}{r:Keyed->Int}{a m d:Array Keyed}
def vk{st:SortSt}{left:Bool}{t:Keyed}{p:Array Keyed}{d n m:Nat}{Q:Option Nat->SortSt->Prop}(K:Asks M A s b r a)(hk:kindOf st=b)(hz:d+n<=p.size)(mem:∀i,i<n->p.getD (d+i) d0∈a)(mk:t∈a)(ne:∀i,i<n->kx r p (d+i)≠r t)(up:Ris r p d (d+n)) (U:m<n) (q:∀k,k<=n->(∀i,i<k->kx r p (d+i)<r t)->(∀i,k<=i->i<n->r t<kx r p (d+i))->Q (some k) st):wpS M A E s (qf left t p d n m) Q st:=by
 rw[Ot];have G:∀(i:Nat) (Q:Option Bool->SortSt->Prop),i<n->Q (some (decide (kx r p (d+i)<r t))) st->wpS M A E s (do
   let x <-elem' p (d+i)
   if left then lt' x t else return (<-lt' t x).map (!·)) Q st:=λi Q w hQ=>by
  refine cA (gq () ?_);cases left with
  |true=>exact wS K hk (mem i w) mk hQ
  | false=>
   refine cA (wS K hk mk (mem i w) (cK ?_));have e:(!decide (r t<r (p.getD (d+i) d0)))=decide (kx r p (d+i)<r t):=by
    have:=ne i w;by_cases z:kx r p (d+i)<r t
    .rw[c9 z,eQ (show ¬r t<r (p.getD (d+i) d0)from λy=>by have:r t<kx r p (d+i):=y;lia)];rfl
    .rw[eQ z,c9 (show r t<r (p.getD (d+i) d0)from by show r t<kx r p (d+i);lia)];rfl
   show Q (some (!decide (r t<r (p.getD (d+i) d0)))) st;rw[e];exact hQ
 have dn:∀i j,i<=j->j<n->kx r p (d+j)<r t->kx r p (d+i)<r t:=λi j ij jn l=>by
  by_cases z:i=j
  .subst z;exact l
  .have:=up (d+i) (d+j) () () ();lia
 have N:∀i j,i<=j->j<n-> ¬kx r p (d+i)<r t->r t<kx r p (d+j):=λi j ij jn l=>by
  have n1:=ne i ();by_cases z:i=j
  .subst z;lia
  .have:=up (d+i) (d+j) () () ();lia
 have fin:∀(lo w:Nat) (u:SortSt) (f:Nat->Option (Option Nat)×Nat×Nat->StateT SortSt Sem (ForInStep (Option (Option Nat)×Nat×Nat))) (g:Option (Option Nat)×Nat×Nat->StateT SortSt Sem (Option Nat)),u=st->lo<=w->w<=n->(∀i,i<lo->kx r p (d+i)<r t)->(∀i,w<=i->i<n->r t<kx r p (d+i))->
   (∀x l h (R:ForInStep (Option (Option Nat)×Nat×Nat)->SortSt->Prop),l>=h->R (.done (none,l,h)) st->wpS M A E s (f x (none,l,h)) R st)->
   (∀x l h (R:ForInStep (Option (Option Nat)×Nat×Nat)->SortSt->Prop),l<h->h<=n->R (.yield (if kx r p (d+(l+(h-l) /2))<r t then(none,l+(h-l) /2+1,h)else(none,l,l+(h-l) /2))) st->wpS M A E s (f x (none,l,h)) R st)->
   (∀h,Q (some h) st->wpS M A E s (g (none,h,h)) Q st)->wpS M A E s (forIn [0:n] (none,lo,w) f >>= g) Q u:=λlo w u f g e lh hn dl du f1 f2 f3=>by
  subst e;refine cA (iZ (iU (I:=λx c v=>v=u/\∃l h,c=(none,l,h)/\l<=h/\h<=n/\h+x<=n+l/\(∀i,i<l->kx r p (d+i)<r t)/\∀i,h<=i->i<n->r t<kx r p (d+i))
   (Q:=λc v=>v=u/\∃h,c=(none,h,h)/\h<=n/\(∀i,i<h->kx r p (d+i)<r t)/\∀i,h<=i->i<n->r t<kx r p (d+i)) ?step ?stop #[rZ,lo,w,rZ,lh,hn,(),dl,du]) ?post)
  case step=>
   rintro x c v _ hx ⟨rfl,l,h,rfl,B,H,l3,O,T⟩;by_cases z:l>=h
   .have:l=h:=by lia
    subst this;exact f1 x l l _ z #[rZ,l,rZ,H,O,T]
   .refine f2 x l h _ () H ?_;by_cases c:kx r p (d+(l+(h-l) /2))<r t
    .rw[wB c];exact#[rZ,_,_,rZ,(),(),(),λi w=>dn i _ () () c,T]
    .rw[wA c];exact#[rZ,_,_,rZ,(),(),(),O,λi J L=>N _ i J L c]
  case stop=>
   rintro c v ⟨rfl,l,h,rfl,B,H,l3,O,T⟩;have:l=h:=by lia
   subst this;exact#[rZ,l,rZ,H,O,T]
  case post=>
   rintro c v ⟨rfl,h,rfl,L,O,T⟩;exact f3 h (q h L O T)
 refine cA (G m _ U ?_);by_cases Y:kx r p (d+m)<r t
 .rw[c9 Y];dsimp only;rw[wB rZ];refine cA (iZ (iU (I:=λx c u=>u=st/\∃l o,c=(none,l,o)/\l<o/\x+1<=o/\l<n-m/\kx r p (d+(m+l))<r t)
   (Q:=λc u=>u=st/\∃l o,c=(none,l,o)/\l<o/\l<n-m/\kx r p (d+(m+l))<r t/\(o<n-m-> ¬kx r p (d+(m+o))<r t)) ?step ?stop #[rZ,0,1,rZ,(),(),(),Y]) ?post)
  case step=>
   rintro x c u _ hx ⟨rfl,l,o,rfl,B,H,l3,C⟩;dsimp only;by_cases z:o>=n-m
   .rw[wB z];exact cK #[rZ,l,o,rZ,B,l3,C,λy=>by lia]
   .rw[wA z];refine cA (G _ _ () ?_);by_cases c:kx r p (d+(m+o))<r t
    .rw[c9 c];exact cK #[rZ,o,_,rZ,(),(),(),c]
    .rw[eQ c];exact cK #[rZ,l,o,rZ,B,l3,C,λ_=>c]
  case stop=>
   rintro c u ⟨rfl,l,o,rfl,B,H,l3,C⟩;exact#[rZ,l,o,rZ,B,l3,C,λy=>by lia]
  case post=>
   rintro c u ⟨rfl,l,o,rfl,B,l3,C,l5⟩;dsimp only;refine fin (m+l+1) (m+min o (n-m)) _ _ _ rZ (vE (Nat.le_min.mpr #[B,l3]) m) (cW (vE (Nat.min_le_right ..) m) (px (n6 (jc U)))) (λi w=>dn i (m+l) (Aa w) (Nat.add_lt_of_lt_sub' l3) C) (λi J L=>by
    by_cases z:o<n-m
    .exact N (m+o) i (by rw[tv (jc z)]at J;exact J) L (l5 z)
    .rw[Nat.min_eq_right (xW z),n6 (jc U)]at J;exact wC L (Nat.not_lt.mpr J)) (λx l h R z D=>?_) (λx l h R z hn D=>?_) (λh hq=>cK hq)
   .dsimp only;rw[wB z];exact cK D
   .dsimp only;rw[wA ()];refine cA (G _ _ () ?_);by_cases c:kx r p (d+(l+(h-l) /2))<r t
    .rw[wB c]at D;rw[c9 c];exact cK D
    .rw[wA c]at D;rw[eQ c];exact cK D
 .rw[eQ Y];dsimp only;rw[wA (by decide)];refine cA (iZ (iU (I:=λx c u=>u=st/\∃l o,c=(none,l,o)/\l<o/\x+1<=o/\l<m+1/\ ¬kx r p (d+(m-l))<r t)
   (Q:=λc u=>u=st/\∃l o,c=(none,l,o)/\l<o/\l<m+1/\ ¬kx r p (d+(m-l))<r t/\(o<m+1->kx r p (d+(m-o))<r t)) ?step ?stop #[rZ,0,1,rZ,(),(),(),Y]) ?post)
  case step=>
   rintro x c u _ hx ⟨rfl,l,o,rfl,B,H,l3,C⟩;dsimp only;by_cases z:o>=m+1
   .rw[wB z];exact cK #[rZ,l,o,rZ,B,l3,C,λy=>by lia]
   .rw[wA z];refine cA (G _ _ () ?_);by_cases c:kx r p (d+(m-o))<r t
    .rw[c9 c];exact cK #[rZ,l,o,rZ,B,l3,C,λ_=>c]
    .rw[eQ c];exact cK #[rZ,o,_,rZ,(),(),(),c]
  case stop=>
   rintro c u ⟨rfl,l,o,rfl,B,H,l3,C⟩;exact#[rZ,l,o,rZ,B,l3,C,λy=>by lia]
  case post=>
   rintro c u ⟨rfl,l,o,rfl,B,l3,C,l5⟩;dsimp only;refine fin (m+1-min o (m+1)) (m-l) _ _ _ rZ (cW (Nat.sub_le_sub_left (Nat.le_min.mpr #[B,l3]) _) (px (Nat.add_sub_add_right ..))) (cW (Nat.sub_le ..) (jc U)) (λi w=>by
    by_cases z:o<m+1
    .rw[tv (jc z),Nat.succ_sub (Aa z)]at w;exact dn i (m-o) (Aa w) (rX (Nat.sub_le ..) U) (l5 z)
    .rw[Nat.min_eq_right (xW z),jg]at w;exact wC w (mh _)) (λi J L=>N (m-l) i J L C) (λx l h R z D=>?_) (λx l h R z hn D=>?_) (λh hq=>cK hq)
   .dsimp only;rw[wB z];exact cK D
   .dsimp only;rw[wA ()];refine cA (G _ _ () ?_);by_cases c:kx r p (d+(l+(h-l) /2))<r t
    .rw[wB c]at D;rw[c9 c];exact cK D
    .rw[wA c]at D;rw[eQ c];exact cK D
end
abbrev T5:Type:=Option (Array Keyed)×Array Keyed×Nat×Nat×Nat
abbrev T6:Type:=Option (Array Keyed)×Array Keyed×Nat×Nat×Nat×Nat
abbrev T7:Type:=Option (Array Keyed)×Array Keyed×Nat×Nat×Nat×Nat×Nat
def AZ:Array Keyed->Array Keyed->StateT SortSt Sem (Array Keyed):=sortPriv%PySem.Builtin.mergeLo
def DW:Array Keyed->Array Keyed->StateT SortSt Sem (Array Keyed):=sortPriv%PySem.Builtin.mergeHi
def t5:Nat->StateT SortSt Sem Unit:=sortPriv%PySem.Builtin.setMinGallop
def Op(g:Nat):t5 g=modify λst=>SortSt.mk' (kindOf st) (arrOf st) (pendingOf st) g (failedOf st):=rfl
section
variable(a b:Array Keyed)
abbrev lC(c:Array Keyed)(d e:Nat):Array Keyed:=c++a.extract d a.size++b.extract e b.size
abbrev oM(c:Array Keyed)(d e:Nat):Array Keyed:=c++b.extract e b.size++a.extract d a.size
def CU(mg:Nat)(c:T6):StateT SortSt Sem (ForInStep T6):=do
 let some d <-lt' (<-elem' b c.2.2.2.1) (<-elem' a c.2.2.1)|pure (.done (some (lC a b c.2.1 c.2.2.1 c.2.2.2.1),c.2.1,c.2.2.1,c.2.2.2.1,c.2.2.2.2.1,c.2.2.2.2.2))
 if d then
  let x <-elem' b c.2.2.2.1
  if c.2.2.2.1+1==b.size then pure (.done (some (lC a b (c.2.1.push x) c.2.2.1 (c.2.2.2.1+1)),c.2.1.push x,c.2.2.1,c.2.2.2.1+1,0,c.2.2.2.2.2+1))
  else if c.2.2.2.2.2+1>=mg then pure (.done (none,c.2.1.push x,c.2.2.1,c.2.2.2.1+1,0,c.2.2.2.2.2+1))
  else pure (.yield (none,c.2.1.push x,c.2.2.1,c.2.2.2.1+1,0,c.2.2.2.2.2+1))
 else
  let x <-elem' a c.2.2.1
  if c.2.2.1+1+1==a.size then pure (.done (some (oM a b (c.2.1.push x) (c.2.2.1+1) c.2.2.2.1),c.2.1.push x,c.2.2.1+1,c.2.2.2.1,c.2.2.2.2.1+1,0))
  else if c.2.2.2.2.1+1>=mg then pure (.done (none,c.2.1.push x,c.2.2.1+1,c.2.2.2.1,c.2.2.2.2.1+1,0))
  else pure (.yield (none,c.2.1.push x,c.2.2.1+1,c.2.2.2.1,c.2.2.2.2.1+1,0))
def oT(c:Array Keyed)(d e mg k f:Nat):StateT SortSt Sem (ForInStep T7):=do
 let x <-elem' a d
 if d+1+1==a.size then pure (.done (some (oM a b (c.push x) (d+1) e),c.push x,d+1,e,mg,k,f))
 else if k<7&&f<7 then pure (.done (none,c.push x,d+1,e,mg,k,f))
 else pure (.yield (none,c.push x,d+1,e,mg,k,f))
def oU(d:Array Keyed)(f c mg k g:Nat):StateT SortSt Sem (ForInStep T7):=do
 let y <-elem' b c
 if c+1==b.size then pure (.done (some (lC a b (d.push y) f (c+1)),d.push y,f,c+1,mg,k,g))
 else do
  let some e <-qf true (<-elem' a f) b (c+1) (b.size-(c+1)) 0|pure (.done (some (lC a b (d.push y) f (c+1)),d.push y,f,c+1,mg,k,g))
  if e>0 then
   if c+1+e==b.size then pure (.done (some (lC a b (d.push y++b.extract (c+1) (c+1+e)) f (c+1+e)),d.push y++b.extract (c+1) (c+1+e),f,c+1+e,mg,k,e))
   else oT a b (d.push y++b.extract (c+1) (c+1+e)) f (c+1+e) mg k e
  else oT a b (d.push y) f (c+1) mg k e
def n7(c:T7)(mg:Nat):StateT SortSt Sem (ForInStep T7):=do
 t5 mg
 let some k <-qf false (<-elem' b c.2.2.2.1) a c.2.2.1 (a.size-c.2.2.1) 0|pure (.done (some (lC a b c.2.1 c.2.2.1 c.2.2.2.1),c.2.1,c.2.2.1,c.2.2.2.1,mg,c.2.2.2.2.2.1,c.2.2.2.2.2.2))
 if k>0 then
  if c.2.2.1+k+1==a.size then pure (.done (some (oM a b (c.2.1++a.extract c.2.2.1 (c.2.2.1+k)) (c.2.2.1+k) c.2.2.2.1),c.2.1++a.extract c.2.2.1 (c.2.2.1+k),c.2.2.1+k,c.2.2.2.1,mg,k,c.2.2.2.2.2.2))
  else if c.2.2.1+k==a.size then pure (.done (some (lC a b (c.2.1++a.extract c.2.2.1 (c.2.2.1+k)) (c.2.2.1+k) c.2.2.2.1),c.2.1++a.extract c.2.2.1 (c.2.2.1+k),c.2.2.1+k,c.2.2.2.1,mg,k,c.2.2.2.2.2.2))
  else oU a b (c.2.1++a.extract c.2.2.1 (c.2.2.1+k)) (c.2.2.1+k) c.2.2.2.1 mg k c.2.2.2.2.2.2
 else oU a b c.2.1 c.2.2.1 c.2.2.2.1 mg k c.2.2.2.2.2.2
def C6(c:T7):StateT SortSt Sem (ForInStep T7):=if c.2.2.2.2.1>1 then n7 a b c (c.2.2.2.2.1-1)else n7 a b c c.2.2.2.2.1
def CP(c:T5):StateT SortSt Sem (ForInStep T5):=do
 let e <-forIn [0:a.size+b.size] ((none,c.2.1,c.2.2.1,c.2.2.2.1,0,0):T6) λ_ e=>CU a b c.2.2.2.2 e
 match e.1 with
 |some r=>pure (.done (some r,e.2.1,e.2.2.1,e.2.2.2.1,c.2.2.2.2))
 | none=>do
  rule "list.sort.gallop"
  let d <-forIn [0:a.size+b.size] ((none,e.2.1,e.2.2.1,e.2.2.2.1,c.2.2.2.2+1,e.2.2.2.2.1,e.2.2.2.2.2):T7) λ_ d=>C6 a b d
  match d.1 with
  |some r=>pure (.done (some r,d.2.1,d.2.2.1,d.2.2.2.1,d.2.2.2.2.1))
  |none=>do
   t5 (d.2.2.2.2.1+1)
   pure (.yield (none,d.2.1,d.2.2.1,d.2.2.2.1,d.2.2.2.2.1+1))
def EK:StateT SortSt Sem (Array Keyed):=do
 rule "list.sort.merge-lo"
 let x <-elem' b 0
 if 1==b.size then pure (lC a b #v[x] 0 1)
 else if 0+1==a.size then pure (oM a b #v[x] 0 1)
 else do
  let st <-get
  let c <-forIn [0:a.size+b.size] ((none,#v[x],0,1,gallopOf st):T5) λ_ c=>CP a b c
  match c.1 with
  |some r=>pure r
  |none=>unsupported "internal:list.sort.merge-bound"
def OG:AZ a b=EK a b:=by
 refine dw (bind _) (funext λ_=>?_);refine dw (bind (elem' b 0)) (funext λx=>?_);refine vi rZ (λ_=>rfl) (λ_=>?_);refine vi rZ (λ_=>rfl) (λ_=>?_);refine dw (bind get) (funext λst=>?_);refine congr (dw bind (dw (forIn [0:a.size+b.size] _) (funext λu=>funext λc=>?_))) (funext λc=>?_)
 .refine congr (dw bind (dw (forIn [0:a.size+b.size] _) (funext λu=>funext λd=>rfl))) (funext λd=>?_);obtain⟨e,f,h,i,j,k⟩:=d;cases e with
  |some e=>rfl
  | none=>
   refine dw (bind _) (funext λ_=>?_);refine congr (dw bind (dw (forIn [0:a.size+b.size] _) (funext λu=>funext λg=>?_))) (funext λg=>?_)
   .refine vi rZ (λ_=>?_) (λ_=>?_)
    .rfl
    .rfl
   .obtain⟨l,_⟩:=g;cases l<;>rfl
 .obtain⟨r,_⟩:=c;cases r<;>rfl
end
abbrev Up(r:Keyed->Int)(l:List Keyed):Prop:=l.Pairwise λx y=>r x<r y
structure Mg(r:Keyed->Int)(la lb out:List Keyed)(ia ib:Nat):Prop where
 perm:(out++la.drop ia++lb.drop ib).Perm (la++lb)
 so:Up r out
 oa:∀x∈out,∀y∈la.drop ia,r x<r y
 ob:∀x∈out,∀y∈lb.drop ib,r x<r y
section
variable{r:Keyed->Int}{a b out:List Keyed}{c d:Nat}
def xZ{l:List Keyed}(h:Up r l)(i:Nat):Up r (l.drop i):=vd (List.drop_sublist i l) h
def E6{l:List Keyed}(h:Up r l)(i k:Nat):Up r ((l.drop i).take k)/\∀x∈(l.drop i).take k,∀y∈l.drop (i+k),r x<r y:=by
 have z:=xZ h i;rw[<-iM k (l.drop i)]at z;obtain⟨b,_,a⟩:=ik.mp z;rw[List.drop_drop]at a;exact#[b,a]
def Mg.len(m:Mg r a b out c d)(e:c<=a.length)(f:d<=b.length):out.length+(a.length-c)+(b.length-d)=a.length+b.length:=by
 have z:=m.perm.length_eq;rw[dA,dA,dA,tj,tj]at z;exact z
def Mg.moveA(m:Mg r a b out c d)(i:Up r a)(k:Nat)(h:∀x∈(a.drop c).take k,∀y∈b.drop d,r x<r y):Mg r a b (out++(a.drop c).take k) (c+k) d:=by
 obtain⟨j,l⟩:=E6 i c k;have e:(a.drop c).take k++a.drop (c+k)=a.drop c:=by rw[<-List.drop_drop];exact iM k _
 have sub:∀y∈a.drop (c+k),y∈a.drop c:=λy f=>by rw[<-e];exact cM.mpr (.inr f)
 refine#[?_,ik.mpr #[m.so,j,λx g y f=>m.oa x g y (qc f)],λx g y f=>?_,λx g y f=>?_]
 .have z:=m.perm;rw[<-e,<-fY]at z;exact z
 .rcases cM.mp g with z|z
  .exact m.oa x z y (sub y f)
  .exact l x z y f
 .rcases cM.mp g with z|z
  .exact m.ob x z y f
  .exact h x z y f
def Mg.moveB(m:Mg r a b out c d)(i:Up r b)(k:Nat)(h:∀x∈(b.drop d).take k,∀y∈a.drop c,r x<r y):Mg r a b (out++(b.drop d).take k) c (d+k):=by
 obtain⟨j,l⟩:=E6 i d k;have e:(b.drop d).take k++b.drop (d+k)=b.drop d:=by rw[<-List.drop_drop];exact iM k _
 have sub:∀y∈b.drop (d+k),y∈b.drop d:=λy f=>by rw[<-e];exact cM.mpr (.inr f)
 refine#[?_,ik.mpr #[m.so,j,λx g y f=>m.ob x g y (qc f)],λx g y f=>?_,λx g y f=>?_]
 .have z:=m.perm;rw[<-e]at z;refine List.Perm.trans ?_ z;rw[fY,fY,fY];refine xp _ ?_;rw[<-fY,<-fY];exact yR _ zi
 .rcases cM.mp g with z|z
  .exact m.oa x z y f
  .exact h x z y f
 .rcases cM.mp g with z|z
  .exact m.ob x z y (sub y f)
  .exact l x z y f
def f'(r:Keyed->Int)(a b out:List Keyed):Prop:=out.Perm (a++b)/\Up r out
def Mg.endB(m:Mg r a b out c d)(e:Up r a)(h:b.length<=d):f' r a b (out++a.drop c++b.drop d):=by
 refine#[m.perm,?_];rw[List.drop_of_length_le h,gL];exact ik.mpr #[m.so,xZ e c,m.oa]
def Mg.endA(m:Mg r a b out c d)(e:Up r b)(h:a.length<=c):f' r a b (out++a.drop c++b.drop d):=by
 refine#[m.perm,?_];rw[List.drop_of_length_le h,gL];exact ik.mpr #[m.so,xZ e d,m.ob]
def Mg.last(m:Mg r a b out c d)(f:Up r b)(h:c+1=a.length)(top:∀y∈b,∀x∈a.drop c,r y<r x):f' r a b (out++b.drop d++a.drop c):=by
 refine#[List.Perm.trans ?_ m.perm,?_]
 .rw[fY,fY];exact xp _ zi
 .obtain⟨x,g⟩:∃x,a.drop c=[x]:=List.length_eq_one_iff.mp (by rw[tj];lia);refine ik.mpr #[ik.mpr #[m.so,xZ f d,m.ob],by rw[g];exact oF _ _,λy i x e=>?_]
  rcases cM.mp i with z|z
  .exact m.oa y z x e
  .exact top y (x4 z) x e
end
structure Eqv(st st':SortSt):Prop where
 kind:kindOf st'=kindOf st
 arr:arrOf st'=arrOf st
 pend:pendingOf st'=pendingOf st
 ok:failedOf st'=failedOf st
def Eqv.refl(st:SortSt):Eqv st st:=#[rZ,rZ,rZ,rZ]
def Eqv.trans{a b c:SortSt}(h:Eqv a b)(d:Eqv b c):Eqv a c:=#[d.kind.trans h.kind,d.arr.trans h.arr,d.pend.trans h.pend,d.ok.trans h.ok]
section
variable{M:Model}{A:Ar}{E:VP}{s:Sh}{κ:SortKind}{r:Keyed->Int}{a₀ a b out:Array Keyed}{ia ib:Nat}
def zc{g:Nat}{st:SortSt}{Q:Unit->SortSt->Prop}(h:∀a,Eqv st a->Q ⟨⟩ a):wpS M A E s (t5 g) Q st:=by
 rw[Op];exact nP (h _ #[rZ,rZ,rZ,rZ])
def yh(a:Array Keyed)(i:Nat):(a.extract i a.size).toList=a.toList.drop i:=by
 rw[yB,yA,u6 (by rw[tj,de];exact cm _)]
def GB(a:Array Keyed)(i k:Nat):(a.extract i (i+k)).toList=(a.toList.drop i).take k:=by
 rw[yB,yA,pD]
def xm:(lC a b out ia ib).toList=out.toList++a.toList.drop ia++b.toList.drop ib:=by
 rw[l8,l8,yh,yh]
def yj:(oM a b out ia ib).toList=out.toList++b.toList.drop ib++a.toList.drop ia:=by
 rw[l8,l8,yh,yh]
def Cd{i:Nat}(h:i<a.size):a.toList.drop i=a.getD i d0::a.toList.drop (i+1):=by
 have z:=pu h;rw[<-fh]at z;obtain⟨b,c⟩:=cg.mp z;rw[y6 b,c]
def yV{i:Nat}{x:Keyed}(h:x∈a.toList.drop i):∃j,i<=j/\j<a.size/\a.getD j d0=x:=by
 obtain⟨j,b⟩:=pz h;rw[nO,fh]at b;exact#[i+j,(),(io.mp b).1,uv b]
def Ch{i k:Nat}{x:Keyed}(h:x∈(a.toList.drop i).take k):∃j,j<k/\i+j<a.size/\a.getD (i+j) d0=x:=by
 obtain⟨j,b⟩:=pz h;rw[zU]at b;split at b
 .next l=>
  rw[nO,fh]at b;exact#[j,l,(io.mp b).1,uv b]
 .cases b
def vc{lo b:Nat}(h:Up r a.toList)(n:b<=a.size):Ris r a lo b:=λi j _ c o=>by
 have e:∀k,k<a.size->a.toList[k]?=some (a.getD k d0):=λk d=>by rw[fh];exact pu d
 obtain⟨f,g⟩:=cg.mp (e i ());obtain⟨l,m⟩:=cg.mp (e j ());have z:=ke.mp h i j f l c;rw[g,m]at z;exact z
def hO{i:Nat}(h:i<a.size):a.getD i d0∈a.toList:=by
 rw[zf];exact DD (pu h)
structure Two(κ:SortKind)(r:Keyed->Int)(a₀ a b:Array Keyed):Prop where
 ma:∀x∈a.toList,x∈a₀
 mb:∀x∈b.toList,x∈a₀
 sa:Up r a.toList
 sb:Up r b.toList
 ap:∀x∈a.toList,∀y∈b.toList,r x≠r y
 a1:0<a.size
 b1:0<b.size
 lo:∀x∈a.toList,r (b.getD 0 d0)<r x
 top:∀y∈b.toList,r y<r (a.getD (a.size-1) d0)
abbrev Gd(r:Keyed->Int)(a b m:Array Keyed):Prop:=f' r a.toList b.toList m.toList
def Two.tops(t:Two κ r a₀ a b){i:Nat}(h:i+1=a.size):∀y∈b.toList,∀x∈a.toList.drop i,r y<r x:=λy c x d=>by
 obtain⟨j,f,g,rfl⟩:=yV d;have e:j=a.size-1:=by lia
 subst e;exact t.top y c
def zg{x:Keyed}:(out.push x).toList=out.toList++[x]:=t8
def GF(t:Two κ r a₀ a b)(m:Mg r a.toList b.toList out.toList ia ib)(c:ia<a.size)(h:∀y∈b.toList.drop ib,r (a.getD ia d0)<r y):Mg r a.toList b.toList (out.push (a.getD ia d0)).toList (ia+1) ib:=by
 have e:(a.toList.drop ia).take 1=[a.getD ia d0]:=by rw[Cd c];rfl
 have z:=m.moveA t.sa 1 (by rw[e];intro x d;rw[cE.mp d];exact h);rw[e]at z;rw[zg];exact z
def B6(t:Two κ r a₀ a b)(m:Mg r a.toList b.toList out.toList ia ib)(c:ib<b.size)(h:∀y∈a.toList.drop ia,r (b.getD ib d0)<r y):Mg r a.toList b.toList (out.push (b.getD ib d0)).toList ia (ib+1):=by
 have e:(b.toList.drop ib).take 1=[b.getD ib d0]:=by rw[Cd c];rfl
 have z:=m.moveB t.sb 1 (by rw[e];intro x d;rw[cE.mp d];exact h);rw[e]at z;rw[zg];exact z
def below{x:Int}{i:Nat}(b:Up r a.toList)(f:i<a.size)(h:x<r (a.getD i d0)):∀y∈a.toList.drop i,x<r y:=λy c=>by
 obtain⟨j,g,d,rfl⟩:=yV c;by_cases e:j=i
 .subst e;exact h
 .have:=vc (lo:=0) b (cm _) i j (gc _) () d;show x<kx r a j;have:x<kx r a i:=h;lia
def OJ{cR:SortSt}{mg old t:Nat}{c:T6}{st:SortSt}{Q:ForInStep T6->SortSt->Prop}(K:Asks M A s κ r a₀)(T:Two κ r a₀ a b)(l:Eqv cR st)(n:kindOf cR=κ)(o:c=(none,out,ia,ib,c.2.2.2.2.1,c.2.2.2.2.2))(m:Mg r a.toList b.toList out.toList ia ib)(p:ia+1<a.size)(d:ib<b.size)(v:old+t<=out.size)(j:∀w rest,Gd r a b w->Q (.done (some w,rest)) st) (k:∀out ia ib x y,Mg r a.toList b.toList out.toList ia ib->ia+1<a.size->ib<b.size->old+t+1<=out.size->Q (.done (none,out,ia,ib,x,y)) st/\Q (.yield (none,out,ia,ib,x,y)) st):wpS M A E s (CU a b mg c) Q st:=by
 have f:=l.kind.trans n;unfold CU;rw[o];dsimp only;have q:=T.ma _ (hO (show ia<a.size by lia));have u:=T.mb _ (hO d);refine cA (gq d (cA (gq () (cA (wS K f u q ?_)))));by_cases w:r (b.getD ib d0)<r (a.getD ia d0)
 .rw[c9 w];refine cA (gq d ?_);have e:=B6 T m d (below T.sa () w);by_cases z:ib+1=b.size
  .rw[wB (by simpa using z)];refine cK (j _ _ ?_);show f' r _ _ (lC a b _ _ _).toList
   rw[xm];exact e.endB T.sa (by rw[de];lia)
  .rw[wA (by simpa using z)];obtain⟨h,i⟩:=k _ _ _ 0 (c.2.2.2.2.2+1) e p () (by rw[ou];lia);by_cases g:c.2.2.2.2.2+1>=mg
   .rw[wB g];exact cK h
   .rw[wA g];exact cK i
 .rw[eQ w];refine cA (gq () ?_);have ne:=T.ap _ (hO (show ia<a.size by lia)) _ (hO d);have e:=GF T m () (below T.sb d ());by_cases z:ia+1+1=a.size
  .rw[wB (by simpa using z)];refine cK (j _ _ ?_);show f' r _ _ (oM a b _ _ _).toList
   rw[yj];exact e.last T.sb (by rw[de];lia) (T.tops ())
  .rw[wA (by simpa using z)];obtain⟨h,i⟩:=k _ _ _ (c.2.2.2.2.1+1) 0 e () d (by rw[ou];lia);by_cases g:c.2.2.2.2.1+1>=mg
   .rw[wB g];exact cK h
   .rw[wA g];exact cK i
end
section
variable{M:Model}{A:Ar}{E:VP}{s:Sh}{κ:SortKind}{r:Keyed->Int}{a₀ a b out:Array Keyed}{ia ib:Nat}
structure Rnd(r:Keyed->Int)(a b:Array Keyed)(cR:SortSt)(old:Nat)(Q:ForInStep T7->SortSt->Prop):Prop where
 q1:∀st w rest,Eqv cR st->Gd r a b w->Q (.done (some w,rest)) st
 q2:∀st (out:Array Keyed) ia ib x y z,Eqv cR st->Mg r a.toList b.toList out.toList ia ib->ia+1<a.size->ib<b.size->old<=out.size->Q (.done (none,out,ia,ib,x,y,z)) st/\Q (.yield (none,out,ia,ib,x,y,z)) st
def EZ{cR st:SortSt}{mg k c old:Nat}{Q:ForInStep T7->SortSt->Prop}(T:Two κ r a₀ a b)(d:Eqv cR st)(m:Mg r a.toList b.toList out.toList ia ib)(j:ia+1<a.size)(f:ib<b.size)(l:old<=out.size)(lt:∀y∈b.toList.drop ib,r (a.getD ia d0)<r y)(q:Rnd r a b cR old Q):wpS M A E s (oT a b out ia ib mg k c) Q st:=by
 unfold oT;refine cA (gq () ?_);have e:=GF T m () lt;by_cases z:ia+1+1=a.size
 .rw[wB (by simpa using z)];refine cK (q.q1 _ _ _ d ?_);show f' r _ _ (oM a b _ _ _).toList;rw[yj];exact e.last T.sb (by rw[de];lia) (T.tops ())
 .rw[wA (by simpa using z)];obtain⟨h,i⟩:=q.q2 st _ _ _ mg k c d e () f (by rw[ou];lia);by_cases g:(decide (k<7)&&decide (c<7))=true
  .rw[wB g];exact cK h
  .rw[wA g];exact cK i
def Gc{cR st:SortSt}{mg k H old:Nat}{Q:ForInStep T7->SortSt->Prop}(K:Asks M A s κ r a₀)(I:kindOf cR=κ)(T:Two κ r a₀ a b)(d:Eqv cR st)(m:Mg r a.toList b.toList out.toList ia ib)(v:ia+1<a.size)(w:ib<b.size)(O:old<=out.size)(lt:∀y∈a.toList.drop ia,r (b.getD ib d0)<r y)(q:Rnd r a b cR old Q):wpS M A E s (oU a b out ia ib mg k H) Q st:=by
 have o:=d.kind.trans I;unfold oU;refine cA (gq w ?_);have n:=B6 T m w lt;have f:old<=(out.push (b.getD ib d0)).size:=by rw[ou];lia
 generalize out.push (b.getD ib d0)=h at n f;by_cases z:ib+1=b.size
 .rw[wB (by simpa using z)];refine cK (q.q1 _ _ _ d ?_);show f' r _ _ (lC a b _ _ _).toList;rw[xm];exact n.endB T.sa (by rw[de];lia)
 rw[wA (by simpa using z)];have B:=hO (show ia<a.size by lia);refine cA (gq () (cA (vk K o () (λi J=>T.mb _ (hO ())) (T.ma _ B) (λi J=>(T.ap _ B _ (hO (show ib+1+i<b.size by lia))).symm) (vc T.sb ()) () λc U L k3=>?_)));dsimp only;have C:∀y∈b.toList.drop (ib+1+c),r (a.getD ia d0)<r y:=λy p=>by
  obtain⟨j,l,D,rfl⟩:=yV p;have:=k3 (j-(ib+1)) (BX (Nat.add_comm .. ▸l)) (Nat.sub_lt_sub_right (cW (nA ..) l) D);rw[n6 (cW (nA ..) l)]at this;exact this
 by_cases g:c>0
 .rw[wB g];have t:=n.moveB T.sb c (λx N y p=>by
   obtain⟨j,l,D,rfl⟩:=Ch N;exact below T.sa () (L j l) y p)
  rw[<-GB,<-l8]at t;have u:old<=(h++b.extract (ib+1) (ib+1+c)).size:=by rw[zE];lia
  by_cases G:ib+1+c=b.size
  .rw[wB (by simpa using G)];refine cK (q.q1 _ _ _ d ?_);show f' r _ _ (lC a b _ _ _).toList
   rw[xm];exact t.endB T.sa (by rw[de];lia)
  .rw[wA (by simpa using G)];exact EZ T d t v () u C q
 .rw[wA g];have e:c=0:=Nat.eq_zero_of_not_pos g;subst e;exact EZ T d n v () f C q
def HI{cR st:SortSt}{c:T7}{mg old:Nat}{Q:ForInStep T7->SortSt->Prop}(K:Asks M A s κ r a₀)(n:kindOf cR=κ)(T:Two κ r a₀ a b)(C:Eqv cR st)(D:c.2.1=out/\c.2.2.1=ia/\c.2.2.2.1=ib)(m:Mg r a.toList b.toList out.toList ia ib)(G:ia+1<a.size)(d:ib<b.size)(H:old<=out.size)(q:Rnd r a b cR old Q):wpS M A E s (n7 a b c mg) Q st:=by
 obtain⟨I,J,L⟩:=D;unfold n7;rw[I,J,L];refine cA (zc λN O=>?_);have f:=C.trans O;have o:=f.kind.trans n;have u:=hO d;refine cA (gq d (cA (vk K o () (λi U=>T.ma _ (hO ())) (T.mb _ u) (λi U=>T.ap _ (hO (show ia+i<a.size by lia)) _ u) (vc T.sa ()) () λk kn Y k3=>?_)));dsimp only;have v:∀y∈a.toList.drop (ia+k),r (b.getD ib d0)<r y:=λy p=>by
  obtain⟨j,h,w,rfl⟩:=yV p;have:=k3 (j-ia) (BX (Nat.add_comm .. ▸h)) (Nat.sub_lt_sub_right (cW (nA ..) h) w);rw[n6 (cW (nA ..) h)]at this;exact this
 by_cases g:k>0
 .rw[wB g];have l:=m.moveA T.sa k (λx hx y p=>by
   obtain⟨j,h,w,rfl⟩:=Ch hx;exact below T.sb d (Y j h) y p)
  rw[<-GB,<-l8]at l;have t:old<=(out++a.extract ia (ia+k)).size:=by rw[zE];lia
  by_cases z:ia+k+1=a.size
  .rw[wB (by simpa using z)];refine cK (q.q1 _ _ _ f ?_);show f' r _ _ (oM a b _ _ _).toList
   rw[yj];exact l.last T.sb (by rw[de];lia) (T.tops ())
  rw[wA (by simpa using z)];by_cases B:ia+k=a.size
  .rw[wB (by simpa using B)];refine cK (q.q1 _ _ _ f ?_);show f' r _ _ (lC a b _ _ _).toList
   rw[xm];exact l.endA T.sb (by rw[de];lia)
  rw[wA (by simpa using B)];exact Gc K n T f l () d t v q
 .rw[wA g];have e:k=0:=Nat.eq_zero_of_not_pos g;subst e;exact Gc K n T f m G d H v q
def Ml{cR st:SortSt}{c:T7}{old:Nat}{Q:ForInStep T7->SortSt->Prop}(K:Asks M A s κ r a₀)(d:kindOf cR=κ)(T:Two κ r a₀ a b)(e:Eqv cR st)(f:c.2.1=out/\c.2.2.1=ia/\c.2.2.2.1=ib)(m:Mg r a.toList b.toList out.toList ia ib)(g:ia+1<a.size)(h:ib<b.size)(i:old<=out.size)(q:Rnd r a b cR old Q):wpS M A E s (C6 a b c) Q st:=by
 unfold C6;split
 .exact HI K d T e f m g h i q
 .exact HI K d T e f m g h i q
def Js{cR st:SortSt}{c:T5}{Q:ForInStep T5->SortSt->Prop}{mg:Nat}(K:Asks M A s κ r a₀)(hk:kindOf cR=κ)(T:Two κ r a₀ a b)(e0:Eqv cR st)(ec:c=(none,out,ia,ib,mg))(m:Mg r a.toList b.toList out.toList ia ib)(ha:ia+1<a.size)(hb:ib<b.size)(q1:∀st w rest,Eqv cR st->Gd r a b w->Q (.done (some w,rest)) st) (q2:∀st (f:Array Keyed) ia ib g,Eqv cR st->Mg r a.toList b.toList f.toList ia ib->ia+1<a.size->ib<b.size->out.size+1<=f.size->Q (.yield (none,f,ia,ib,g)) st):wpS M A E s (CP a b c) Q st:=by
 subst ec;unfold CP;dsimp only;have aa:0<a.size+b.size:=by lia
 refine cA (iZ (iU (I:=λx (p:T6) d=>Eqv cR d/\∃(o:Array Keyed) (i j u v:Nat),p=(none,o,i,j,u,v)/\Mg r a.toList b.toList o.toList i j/\i+1<a.size/\j<b.size/\out.size+x<=o.size)
  (Q:=λp d=>Eqv cR d/\((∃w rest,p=(some w,rest)/\Gd r a b w)\/∃(o:Array Keyed) (i j u v:Nat),p=(none,o,i,j,u,v)/\Mg r a.toList b.toList o.toList i j/\i+1<a.size/\j<b.size/\out.size+1<=o.size)) ?step ?stop #[e0,out,ia,ib,0,0,rZ,m,ha,hb,cm _]) ?post)
 case step=>
  rintro x p d _ hx ⟨n,o,i,j,u,v,rfl,B,C,D,h3⟩;refine OJ (old:=out.size) (t:=x) K T n hk rZ B C D h3 (λw rest g=>#[n,.inl #[w,rest,rZ,g]]) λG H J u' v' L k l q=>#[#[n,.inr #[G,H,J,u',v',rZ,L,k,l,()]],#[n,G,H,J,u',v',rZ,L,k,l,()]]
 case stop=>
  rintro p d ⟨n,o,i,j,u,v,rfl,B,C,D,h3⟩;exact#[n,.inr #[o,i,j,u,v,rZ,B,C,D,()]]
 case post=>
  rintro p d ⟨n,h⟩
  rcases h with⟨w,rest,rfl,g⟩|⟨o,i,j,u,v,rfl,B,C,D,h3⟩
  .exact cK (q1 _ _ _ n g)
  dsimp only;refine cA (qz (oY #[rZ,?_]));refine cA (iZ (iU (I:=λx (y:T7) d=>Eqv cR d/\∃(o:Array Keyed) (i j u v w:Nat),y=(none,o,i,j,u,v,w)/\Mg r a.toList b.toList o.toList i j/\i+1<a.size/\j<b.size/\out.size+1<=o.size)
   (Q:=λy d=>Eqv cR d/\((∃w rest,y=(some w,rest)/\Gd r a b w)\/∃(o:Array Keyed) (i j u v w:Nat),y=(none,o,i,j,u,v,w)/\Mg r a.toList b.toList o.toList i j/\i+1<a.size/\j<b.size/\out.size+1<=o.size)) ?step2 ?stop2 #[n,o,i,j,mg+1,u,v,rZ,B,C,D,h3]) ?post2)
  case step2=>
   rintro x y N _ hx ⟨z,o,i,j,u,v,w,rfl,O,U,Y,g3⟩;exact Ml K hk T z #[rZ,rZ,rZ] O U Y g3 #[λst w rest e g=>#[e,.inl #[w,rest,rZ,g]],λst G H J x' y' z' e L k l q=>#[#[e,.inr #[G,H,J,x',y',z',rZ,L,k,l,q]],#[e,G,H,J,x',y',z',rZ,L,k,l,q]]]
  case stop2=>
   rintro y N ⟨z,o,i,j,u,v,w,rfl,O,U,Y,g3⟩;exact#[z,.inr #[o,i,j,u,v,w,rZ,O,U,Y,g3]]
  case post2=>
   rintro y N ⟨z,h⟩
   rcases h with⟨w,rest,rfl,g⟩|⟨o,i,j,u,v,w,rfl,O,U,Y,g3⟩
   .exact cK (q1 _ _ _ z g)
   .dsimp only;exact cA (zc λab x3=>cK (q2 _ _ _ _ _ (z.trans x3) O U Y g3))
def LU{st:SortSt}{Q:Array Keyed->SortSt->Prop}(K:Asks M A s κ r a₀)(C:kindOf st=κ)(T:Two κ r a₀ a b)(q:∀m d,Eqv st d->Gd r a b m->Q m d):wpS M A E s (AZ a b) Q st:=by
 rw[OG];unfold EK;refine cA (qz (oY #[rZ,cA (gq T.b1 ?_)]));have D:Mg r a.toList b.toList (#v[]:Array Keyed).toList 0 0:=#[by simp,List.Pairwise.nil,λx f=>(nomatch f),λx f=>(nomatch f)];have k:Mg r a.toList b.toList (#v[b.getD 0 d0]:Array Keyed).toList 0 1:=B6 (out:= #v[]) T D T.b1 (λy G=>T.lo y G);have a1:=T.a1;have b1:=T.b1;by_cases t:1=b.size
 .rw[wB (by simpa using t)];refine cK (q _ _ (Eqv.refl _) ?_);show f' r _ _ (lC a b _ _ _).toList;rw[xm];exact k.endB T.sa (by rw[de];lia)
 rw[wA (by simpa using t)];by_cases u:0+1=a.size
 .rw[wB (by simpa using u)];refine cK (q _ _ (Eqv.refl _) ?_);show f' r _ _ (oM a b _ _ _).toList;rw[yj];exact k.last T.sb (by rw[de];lia) (T.tops ())
 rw[wA (by simpa using u)];refine cA (mq (cA (iZ (iU (I:=λx (c:T5) d=>Eqv st d/\∃(o:Array Keyed) (i j g:Nat),c=(none,o,i,j,g)/\Mg r a.toList b.toList o.toList i j/\i+1<a.size/\j<b.size/\x+1<=o.size)
  (Q:=λc d=>Eqv st d/\∃w rest,c=(some w,rest)/\Gd r a b w) ?step ?stop #[Eqv.refl _,_,0,1,_,rZ,k,(),(),cm _]) ?post)))
 case step=>
  rintro x c d _ f ⟨h,o,i,j,g,rfl,l,v,B,H⟩;exact Js K C T h rZ l v B (λst w rest e g=>#[e,w,rest,rZ,g]) λd J L N O e U n p Y=>#[e,J,L,N,O,rZ,U,n,p,()]
 case stop=>
  rintro c d ⟨h,o,i,j,g,rfl,l,v,B,H⟩;have z:=l.len (by rw[de];lia) (by rw[de];lia);rw[de,de,de]at z
  exfalso
  lia
 case post=>
  rintro c d ⟨h,w,rest,rfl,g⟩;exact cK (q _ _ h g)
end
abbrev U5:Type:=Option (Array Keyed)×Nat×Nat×Array Keyed×Nat
abbrev U6:Type:=Option (Array Keyed)×Nat×Nat×Array Keyed×Nat×Nat
abbrev U7:Type:=Option (Array Keyed)×Nat×Nat×Array Keyed×Nat×Nat×Nat
section
variable(a b:Array Keyed)
abbrev kv(c:Array Keyed)(d e:Nat):Array Keyed:=a.extract 0 d++b.extract 0 e++c.reverse
abbrev oz(c:Array Keyed)(d e:Nat):Array Keyed:=b.extract 0 e++a.extract 0 d++c.reverse
def mB(mg:Nat)(c:U6):StateT SortSt Sem (ForInStep U6):=do
 let some d <-lt' (<-elem' b (c.2.2.1-1)) (<-elem' a (c.2.1-1))|pure (.done (some (kv a b c.2.2.2.1 c.2.1 c.2.2.1),c.2.1,c.2.2.1,c.2.2.2.1,c.2.2.2.2.1,c.2.2.2.2.2))
 if d then
  let x <-elem' a (c.2.1-1)
  if c.2.1-1==0 then pure (.done (some (kv a b (c.2.2.2.1.push x) (c.2.1-1) c.2.2.1),c.2.1-1,c.2.2.1,c.2.2.2.1.push x,c.2.2.2.2.1+1,0))
  else if c.2.2.2.2.1+1>=mg then pure (.done (none,c.2.1-1,c.2.2.1,c.2.2.2.1.push x,c.2.2.2.2.1+1,0))
  else pure (.yield (none,c.2.1-1,c.2.2.1,c.2.2.2.1.push x,c.2.2.2.2.1+1,0))
 else
  let x <-elem' b (c.2.2.1-1)
  if c.2.2.1-1==1 then pure (.done (some (oz a b (c.2.2.2.1.push x) c.2.1 (c.2.2.1-1)),c.2.1,c.2.2.1-1,c.2.2.2.1.push x,0,c.2.2.2.2.2+1))
  else if c.2.2.2.2.2+1>=mg then pure (.done (none,c.2.1,c.2.2.1-1,c.2.2.2.1.push x,0,c.2.2.2.2.2+1))
  else pure (.yield (none,c.2.1,c.2.2.1-1,c.2.2.2.1.push x,0,c.2.2.2.2.2+1))
def oH(d e:Nat)(c:Array Keyed)(mg k f:Nat):StateT SortSt Sem (ForInStep U7):=do
 let x <-elem' a (d-1)
 if d-1==0 then pure (.done (some (kv a b (c.push x) (d-1) e),d-1,e,c.push x,mg,k,f))
 else if k<7&&f<7 then pure (.done (none,d-1,e,c.push x,mg,k,f))
 else pure (.yield (none,d-1,e,c.push x,mg,k,f))
def ow(e d:Nat)(c:Array Keyed)(mg k f:Nat):StateT SortSt Sem (ForInStep U7):=do
 let y <-elem' b (d-1)
 if d-1==1 then pure (.done (some (oz a b (c.push y) e (d-1)),e,d-1,c.push y,mg,k,f))
 else do
  let some t <-qf true (<-elem' a (e-1)) b 0 (d-1) (d-1-1)|pure (.done (some (kv a b (c.push y) e (d-1)),e,d-1,c.push y,mg,k,f))
  if d-1-t>0 then
   if t==1 then pure (.done (some (oz a b (c.push y++(b.extract t (d-1)).reverse) e t),e,t,c.push y++(b.extract t (d-1)).reverse,mg,k,d-1-t))
   else if t==0 then pure (.done (some (kv a b (c.push y++(b.extract t (d-1)).reverse) e t),e,t,c.push y++(b.extract t (d-1)).reverse,mg,k,d-1-t))
   else oH a b e t (c.push y++(b.extract t (d-1)).reverse) mg k (d-1-t)
  else oH a b e (d-1) (c.push y) mg k (d-1-t)
def nZ(c:U7)(mg:Nat):StateT SortSt Sem (ForInStep U7):=do
 t5 mg
 let some t <-qf false (<-elem' b (c.2.2.1-1)) a 0 c.2.1 (c.2.1-1)|pure (.done (some (kv a b c.2.2.2.1 c.2.1 c.2.2.1),c.2.1,c.2.2.1,c.2.2.2.1,mg,c.2.2.2.2.2.1,c.2.2.2.2.2.2))
 if c.2.1-t>0 then
  if t==0 then pure (.done (some (kv a b (c.2.2.2.1++(a.extract t c.2.1).reverse) t c.2.2.1),t,c.2.2.1,c.2.2.2.1++(a.extract t c.2.1).reverse,mg,c.2.1-t,c.2.2.2.2.2.2))
  else ow a b t c.2.2.1 (c.2.2.2.1++(a.extract t c.2.1).reverse) mg (c.2.1-t) c.2.2.2.2.2.2
 else ow a b c.2.1 c.2.2.1 c.2.2.2.1 mg (c.2.1-t) c.2.2.2.2.2.2
def vK(c:U7):StateT SortSt Sem (ForInStep U7):=if c.2.2.2.2.1>1 then nZ a b c (c.2.2.2.2.1-1)else nZ a b c c.2.2.2.2.1
def D6(c:U5):StateT SortSt Sem (ForInStep U5):=do
 let e <-forIn [0:a.size+b.size] ((none,c.2.1,c.2.2.1,c.2.2.2.1,0,0):U6) λ_ e=>mB a b c.2.2.2.2 e
 match e.1 with
 |some r=>pure (.done (some r,e.2.1,e.2.2.1,e.2.2.2.1,c.2.2.2.2))
 | none=>do
  rule "list.sort.gallop"
  let d <-forIn [0:a.size+b.size] ((none,e.2.1,e.2.2.1,e.2.2.2.1,c.2.2.2.2+1,e.2.2.2.2.1,e.2.2.2.2.2):U7) λ_ d=>vK a b d
  match d.1 with
  |some r=>pure (.done (some r,d.2.1,d.2.2.1,d.2.2.2.1,d.2.2.2.2.1))
  |none=>do
   t5 (d.2.2.2.2.1+1)
   pure (.yield (none,d.2.1,d.2.2.1,d.2.2.2.1,d.2.2.2.2.1+1))
def EG:StateT SortSt Sem (Array Keyed):=do
 rule "list.sort.merge-hi"
 let x <-elem' a (a.size-1)
 if a.size-1==0 then pure (kv a b #v[x] (a.size-1) b.size)
 else if b.size==1 then pure (oz a b #v[x] (a.size-1) b.size)
 else do
  let st <-get
  let c <-forIn [0:a.size+b.size] ((none,a.size-1,b.size,#v[x],gallopOf st):U5) λ_ c=>D6 a b c
  match c.1 with
  |some r=>pure r
  |none=>unsupported "internal:list.sort.merge-bound"
def Oy:DW a b=EG a b:=by
 refine dw (bind _) (funext λ_=>?_);refine dw (bind (elem' a (a.size-1))) (funext λx=>?_);refine vi rZ (λ_=>rfl) (λ_=>?_);refine vi rZ (λ_=>rfl) (λ_=>?_);refine dw (bind get) (funext λst=>?_);refine congr (dw bind (dw (forIn [0:a.size+b.size] _) (funext λu=>funext λc=>?_))) (funext λc=>?_)
 .refine congr (dw bind (dw (forIn [0:a.size+b.size] _) (funext λu=>funext λd=>rfl))) (funext λd=>?_);obtain⟨e,f,h,i,j,k⟩:=d;cases e with
  |some e=>rfl
  | none=>
   refine dw (bind _) (funext λ_=>?_);refine congr (dw bind (dw (forIn [0:a.size+b.size] _) (funext λu=>funext λg=>?_))) (funext λg=>?_)
   .refine vi rZ (λ_=>?_) (λ_=>?_)
    .rfl
    .rfl
   .obtain⟨l,_⟩:=g;cases l<;>rfl
 .obtain⟨r,_⟩:=c;cases r<;>rfl
end
structure Mh(r:Keyed->Int)(la lb out:List Keyed)(na nb:Nat):Prop where
 perm:(la.take na++lb.take nb++out.reverse).Perm (la++lb)
 so:Up r out.reverse
 ao:∀x∈la.take na,∀y∈out,r x<r y
 bo:∀x∈lb.take nb,∀y∈out,r x<r y
section
variable{r:Keyed->Int}{b a out:List Keyed}{f d:Nat}
def Ey{l:List Keyed}(h:Up r l){n t:Nat}(ht:t<=n):l.take t++(l.take n).drop t=l.take n/\Up r ((l.take n).drop t)/\∀x∈l.take t,∀y∈(l.take n).drop t,r x<r y:=by
 have e:l.take t++(l.take n).drop t=l.take n:=by
  have z:=iM t (l.take n);rwa[List.take_take,tv ht]at z
 have z:Up r (l.take n):=vd (qj n l) h;rw[<-e]at z;obtain⟨_,a,b⟩:=ik.mp z;exact#[e,a,b]
def Mh.len(m:Mh r b a out f d)(c:f<=b.length)(e:d<=a.length):f+d+out.length=b.length+a.length:=by
 have z:=m.perm.length_eq;rw[dA,dA,dA,e9,e9,List.length_reverse]at z;lia
def Mh.moveA(m:Mh r b a out f d)(l:Up r b){t:Nat}(ht:t<=f)(h:∀x∈a.take d,∀y∈(b.take f).drop t,r x<r y):Mh r b a (out++((b.take f).drop t).reverse) t d:=by
 obtain⟨e,u,c⟩:=Ey l ht;have sub:∀x∈b.take t,x∈b.take f:=λx g=>by rw[<-e];exact cM.mpr (.inl g)
 have i:∀x∈(b.take f).drop t,x∈b.take f:=λx g=>x4 g;have k:(out++((b.take f).drop t).reverse).reverse=(b.take f).drop t++out.reverse:=by rw[List.reverse_append,List.reverse_reverse]
 refine#[?_,?_,λx g y j=>?_,λx g y j=>?_]
 .rw[k];refine List.Perm.trans ?_ m.perm
  conv=>rhs;rw[<-e]
  rw[fY,fY,fY];refine xp _ ?_;rw[<-fY,<-fY];exact yR _ zi
 .rw[k];exact ik.mpr #[u,m.so,λx g y j=>m.ao x (i x g) y (m7.mp j)]
 .rcases cM.mp j with z|z
  .exact m.ao x (sub x g) y z
  .exact c x g y (m7.mp z)
 .rcases cM.mp j with z|z
  .exact m.bo x g y z
  .exact h x g y (m7.mp z)
def Mh.moveB(m:Mh r b a out f d)(l:Up r a){t:Nat}(ht:t<=d)(h:∀x∈b.take f,∀y∈(a.take d).drop t,r x<r y):Mh r b a (out++((a.take d).drop t).reverse) f t:=by
 obtain⟨e,u,c⟩:=Ey l ht;have sub:∀x∈a.take t,x∈a.take d:=λx g=>by rw[<-e];exact cM.mpr (.inl g)
 have i:∀x∈(a.take d).drop t,x∈a.take d:=λx g=>x4 g;have k:(out++((a.take d).drop t).reverse).reverse=(a.take d).drop t++out.reverse:=by rw[List.reverse_append,List.reverse_reverse]
 refine#[?_,?_,λx g y j=>?_,λx g y j=>?_]
 .rw[k];refine List.Perm.trans ?_ m.perm
  conv=>rhs;rw[<-e]
  rw[fY,fY,fY]
 .rw[k];exact ik.mpr #[u,m.so,λx g y j=>m.bo x (i x g) y (m7.mp j)]
 .rcases cM.mp j with z|z
  .exact m.ao x g y z
  .exact h x g y (m7.mp z)
 .rcases cM.mp j with z|z
  .exact m.bo x (sub x g) y z
  .exact c x g y (m7.mp z)
def Mh.endA(m:Mh r b a out f d)(c:Up r a)(h:f=0):f' r b a (b.take f++a.take d++out.reverse):=by
 refine#[m.perm,?_];subst h;rw[List.take_zero,List.nil_append];exact ik.mpr #[vd (qj d a) c,m.so,λx e y g=>m.bo x e y (m7.mp g)]
def Mh.endB(m:Mh r b a out f d)(c:Up r b)(h:d=0):f' r b a (b.take f++a.take d++out.reverse):=by
 refine#[m.perm,?_];subst h;rw[List.take_zero,gL];exact ik.mpr #[vd (qj f b) c,m.so,λx e y g=>m.ao x e y (m7.mp g)]
def Mh.first(m:Mh r b a out f d)(g:Up r b)(h:Up r a)(bot:∀y∈a.take d,∀x∈b,r y<r x):f' r b a (a.take d++b.take f++out.reverse):=by
 refine#[List.Perm.trans (yR _ zi) m.perm,?_];refine ik.mpr #[ik.mpr #[vd (qj d a) h,vd (qj f b) g,λy c x e=>bot y c x (qc e)],m.so,λx e y c=>?_]
 rcases cM.mp e with z|z
 .exact m.bo x z y (m7.mp c)
 .exact m.ao x z y (m7.mp c)
end
section
variable{M:Model}{A:Ar}{E:VP}{s:Sh}{κ:SortKind}{r:Keyed->Int}{a₀ a b out:Array Keyed}{na nb:Nat}
def Aj(a:Array Keyed)(i:Nat):(a.extract 0 i).toList=a.toList.take i:=by
 rw[yB,yA,List.drop_zero,Nat.sub_zero]
def A'(a:Array Keyed)(t n:Nat):(a.extract t n).toList=(a.toList.take n).drop t:=by
 rw[yB,yA,List.drop_take]
def xz:(kv a b out na nb).toList=a.toList.take na++b.toList.take nb++out.toList.reverse:=by
 rw[l8,l8,Aj,Aj,z7]
def y8:(oz a b out na nb).toList=b.toList.take nb++a.toList.take na++out.toList.reverse:=by
 rw[l8,l8,Aj,Aj,z7]
def AH{n:Nat}{x:Keyed}(h:x∈a.toList.take n):∃j,j<n/\j<a.size/\a.getD j d0=x:=by
 obtain⟨j,d,b,c⟩:=Ch (i:=0) (k:=n) (by rw[List.drop_zero];exact h);rw[ot]at b c;exact#[j,d,b,c]
def xX{t n:Nat}{x:Keyed}(h:x∈(a.toList.take n).drop t):∃j,t<=j/\j<n/\j<a.size/\a.getD j d0=x:=by
 obtain⟨j,b⟩:=pz h;rw[nO,zU]at b;split at b
 .next l=>
  rw[fh]at b;exact#[t+j,(),l,(io.mp b).1,uv b]
 .cases b
def z5{n:Nat}(h:n<a.size):(a.toList.take (n+1)).drop n=[a.getD n d0]:=by
 rw[List.drop_take,Cd h,pD];rfl
def yW{x:Int}{n:Nat}(b:Up r a.toList)(c:n<a.size)(h:r (a.getD n d0)<x):∀y∈a.toList.take (n+1),r y<x:=λy d=>by
 obtain⟨j,f,g,rfl⟩:=AH d;by_cases e:j=n
 .subst e;exact h
 .have:=vc (lo:=0) b (cm _) j n (gc _) () c;show kx r a j<x;have:kx r a n<x:=h;lia
def Cg(t:Two κ r a₀ a b)(m:Mh r a.toList b.toList out.toList (na+1) nb)(c:na<a.size)(h:∀y∈b.toList.take nb,r y<r (a.getD na d0)):Mh r a.toList b.toList (out.push (a.getD na d0)).toList na nb:=by
 have z:=m.moveA t.sa (t:=na) (pE _) (by rw[z5 c];intro x d y e;rw[cE.mp e];exact h x d);rw[z5 c]at z;rw[zg];exact z
def E9(t:Two κ r a₀ a b)(m:Mh r a.toList b.toList out.toList na (nb+1))(c:nb<b.size)(h:∀y∈a.toList.take na,r y<r (b.getD nb d0)):Mh r a.toList b.toList (out.push (b.getD nb d0)).toList na nb:=by
 have z:=m.moveB t.sb (t:=nb) (pE _) (by rw[z5 c];intro x d y e;rw[cE.mp e];exact h x d);rw[z5 c]at z;rw[zg];exact z
def Two.bot(t:Two κ r a₀ a b):∀y∈b.toList.take 1,∀x∈a.toList,r y<r x:=λy c x d=>by
 obtain⟨j,f,g,rfl⟩:=AH c;have e:j=0:=by lia
 subst e;exact t.lo x d
def IT{cR:SortSt}{mg old t:Nat}{c:U6}{st:SortSt}{Q:ForInStep U6->SortSt->Prop}(K:Asks M A s κ r a₀)(T:Two κ r a₀ a b)(o:Eqv cR st)(p:kindOf cR=κ)(q:c=(none,na+1,nb+2,out,c.2.2.2.2.1,c.2.2.2.2.2))(m:Mh r a.toList b.toList out.toList (na+1) (nb+2))(d:na<a.size)(e:nb+1<b.size)(B:old+t<=out.size)(l:∀w rest,Gd r a b w->Q (.done (some w,rest)) st) (n:∀na nb (out:Array Keyed) x y,Mh r a.toList b.toList out.toList (na+1) (nb+2)->na<a.size->nb+1<b.size->old+t+1<=out.size->Q (.done (none,na+1,nb+2,out,x,y)) st/\Q (.yield (none,na+1,nb+2,out,x,y)) st):wpS M A E s (mB a b mg c) Q st:=by
 have i:=o.kind.trans p;unfold mB;rw[q];dsimp only;have u:=T.ma _ (hO d);have v:=T.mb _ (hO e);rw[show nb+2-1=nb+1 by lia,show na+1-1=na by lia];refine cA (gq e (cA (gq d (cA (wS K i v u ?_)))));by_cases w:r (b.getD (nb+1) d0)<r (a.getD na d0)
 .rw[c9 w];refine cA (gq d ?_);have h:=Cg T m d (yW T.sb e w);by_cases z:na=0
  .rw[wB (by simpa using z)];refine cK (l _ _ ?_);show f' r _ _ (kv a b _ _ _).toList
   rw[xz];exact h.endA T.sb z
  .rw[wA (by simpa using z)];obtain⟨f,rfl⟩:∃f,na=f+1:=nr (by first|assumption|lia);obtain⟨j,k⟩:=n f nb _ (c.2.2.2.2.1+1) 0 h () e (by rw[ou];lia);by_cases g:c.2.2.2.2.1+1>=mg
   .rw[wB g];exact cK j
   .rw[wA g];exact cK k
 .rw[eQ w];refine cA (gq e ?_);have ne:=T.ap _ (hO d) _ (hO e);have h:=E9 T m e (yW T.sa d ());by_cases z:nb+1=1
  .rw[wB (by simpa using z)];refine cK (l _ _ ?_);show f' r _ _ (oz a b _ _ _).toList
   rw[y8];exact h.first T.sa T.sb (by rw[z];exact T.bot)
  .rw[wA (by simpa using z)];obtain⟨f,rfl⟩:∃f,nb=f+1:=nr (by first|assumption|lia);obtain⟨j,k⟩:=n na f _ 0 (c.2.2.2.2.2+1) h d () (by rw[ou];lia);by_cases g:c.2.2.2.2.2+1>=mg
   .rw[wB g];exact cK j
   .rw[wA g];exact cK k
structure RndH(r:Keyed->Int)(a b:Array Keyed)(cR:SortSt)(old:Nat)(Q:ForInStep U7->SortSt->Prop):Prop where
 q1:∀st w rest,Eqv cR st->Gd r a b w->Q (.done (some w,rest)) st
 q2:∀st na nb (out:Array Keyed) x y z,Eqv cR st->Mh r a.toList b.toList out.toList (na+1) (nb+2)->na<a.size->nb+1<b.size->old<=out.size->Q (.done (none,na+1,nb+2,out,x,y,z)) st/\Q (.yield (none,na+1,nb+2,out,x,y,z)) st
def FE{cR st:SortSt}{mg k c old:Nat}{Q:ForInStep U7->SortSt->Prop}(T:Two κ r a₀ a b)(e:Eqv cR st)(m:Mh r a.toList b.toList out.toList (na+1) (nb+2))(f:na<a.size)(i:nb+1<b.size)(n:old<=out.size)(lt:∀y∈b.toList.take (nb+2),r y<r (a.getD na d0))(q:RndH r a b cR old Q):wpS M A E s (oH a b (na+1) (nb+2) out mg k c) Q st:=by
 unfold oH;rw[show na+1-1=na by lia];refine cA (gq f ?_);have h:=Cg T m f lt;by_cases z:na=0
 .rw[wB (by simpa using z)];refine cK (q.q1 _ _ _ e ?_);show f' r _ _ (kv a b _ _ _).toList;rw[xz];exact h.endA T.sb z
 .rw[wA (by simpa using z)];obtain⟨d,rfl⟩:∃d,na=d+1:=nr (by first|assumption|lia);obtain⟨j,l⟩:=q.q2 st d nb _ mg k c e h () i (by rw[ou];lia);by_cases g:(decide (k<7)&&decide (c<7))=true
  .rw[wB g];exact cK j
  .rw[wA g];exact cK l
def FI{cR st:SortSt}{mg k I old:Nat}{Q:ForInStep U7->SortSt->Prop}(K:Asks M A s κ r a₀)(J:kindOf cR=κ)(T:Two κ r a₀ a b)(c:Eqv cR st)(m:Mh r a.toList b.toList out.toList (na+1) (nb+2))(d:na<a.size)(D:nb+1<b.size)(Y:old<=out.size)(lt:∀y∈a.toList.take (na+1),r y<r (b.getD (nb+1) d0))(q:RndH r a b cR old Q):wpS M A E s (ow a b (na+1) (nb+2) out mg k I) Q st:=by
 have p:=c.kind.trans J;unfold ow;rw[show nb+2-1=nb+1 by lia,show na+1-1=na by lia];refine cA (gq D ?_);have n:=E9 T m D lt;have f:old<=(out.push (b.getD (nb+1) d0)).size:=by rw[ou];lia
 generalize out.push (b.getD (nb+1) d0)=h at n f;by_cases z:nb+1=1
 .rw[wB (by simpa using z)];refine cK (q.q1 _ _ _ c ?_);show f' r _ _ (oz a b _ _ _).toList;rw[y8];exact n.first T.sa T.sb (by rw[z];exact T.bot)
 rw[wA (by simpa using z)];have G:=hO d;refine cA (gq d (cA (vk K p () (λi L=>T.mb _ (hO ())) (T.ma _ G) (λi L=>(T.ap _ G _ (hO (show 0+i<b.size by lia))).symm) (vc T.sb ()) () λt kn N k3=>?_)));dsimp only;have H:∀y∈b.toList.take t,r y<r (a.getD na d0):=λy u=>by
  obtain⟨j,v,O,rfl⟩:=AH u;have:=N j v;rw[ot]at this;exact this
 by_cases g:nb+1-t>0
 .rw[wB g];have o:=n.moveB T.sb (t:=t) () (λx U y u=>by
   obtain⟨j,v,O,h3,rfl⟩:=xX u;have:=k3 j v ()
   rw[ot]at this;exact yW T.sa d this x U)
  rw[<-A',<-z7,<-l8]at o;have w:old<=(h++(b.extract t (nb+1)).reverse).size:=by rw[zE];lia
  by_cases B:t=1
  .rw[wB (by simpa using B)];refine cK (q.q1 _ _ _ c ?_);show f' r _ _ (oz a b _ _ _).toList
   rw[y8];exact o.first T.sa T.sb (by rw[B];exact T.bot)
  rw[wA (by simpa using B)];by_cases C:t=0
  .rw[wB (by simpa using C)];refine cK (q.q1 _ _ _ c ?_);show f' r _ _ (kv a b _ _ _).toList
   rw[xz];exact o.endB T.sa C
  rw[wA (by simpa using C)];obtain⟨l,rfl⟩:∃l,t=l+2:=#[t-2,()];exact FE T c o d () w H q
 .rw[wA g];have e:t=nb+1:=by lia
  obtain⟨l,rfl⟩:∃l,nb=l+1:=nr (by first|assumption|lia);subst e;exact FE T c n d () f H q
def HB{cR st:SortSt}{c:U7}{mg old:Nat}{Q:ForInStep U7->SortSt->Prop}(K:Asks M A s κ r a₀)(h:kindOf cR=κ)(T:Two κ r a₀ a b)(B:Eqv cR st)(C:c.2.1=na+1/\c.2.2.1=nb+2/\c.2.2.2.1=out)(m:Mh r a.toList b.toList out.toList (na+1) (nb+2))(D:na<a.size)(d:nb+1<b.size)(G:old<=out.size)(q:RndH r a b cR old Q):wpS M A E s (nZ a b c mg) Q st:=by
 obtain⟨H,I,J⟩:=C;unfold nZ;rw[H,I,J];rw[show nb+2-1=nb+1 by lia,show na+1-1=na by lia];refine cA (zc λL N=>?_);have f:=B.trans N;have k:=f.kind.trans h;have v:=hO d;refine cA (gq d (cA (vk K k () (λi O=>T.ma _ (hO ())) (T.mb _ v) (λi O=>T.ap _ (hO (show 0+i<a.size by lia)) _ v) (vc T.sa ()) () λt kn U k3=>?_)));dsimp only;have w:∀y∈a.toList.take t,r y<r (b.getD (nb+1) d0):=λy l=>by
  obtain⟨j,n,Y,rfl⟩:=AH l;have:=U j n;rw[ot]at this;exact this
 by_cases g:na+1-t>0
 .rw[wB g];have o:=m.moveA T.sa (t:=t) () (λx hx y l=>by
   obtain⟨j,n,Y,h3,rfl⟩:=xX l;have:=k3 j n ()
   rw[ot]at this;exact yW T.sb d this x hx)
  rw[<-A',<-z7,<-l8]at o;have p:old<=(out++(a.extract t (na+1)).reverse).size:=by rw[zE];lia
  by_cases u:t=0
  .rw[wB (by simpa using u)];refine cK (q.q1 _ _ _ f ?_);show f' r _ _ (kv a b _ _ _).toList
   rw[xz];exact o.endA T.sb u
  rw[wA (by simpa using u)];obtain⟨z,rfl⟩:∃z,t=z+1:=nr (by first|assumption|lia);exact FI K h T f o () d p w q
 .rw[wA g];have e:t=na+1:=by lia
  subst e;exact FI K h T f m D d G w q
def Nm{cR st:SortSt}{c:U7}{old:Nat}{Q:ForInStep U7->SortSt->Prop}(K:Asks M A s κ r a₀)(d:kindOf cR=κ)(T:Two κ r a₀ a b)(e:Eqv cR st)(f:c.2.1=na+1/\c.2.2.1=nb+2/\c.2.2.2.1=out)(m:Mh r a.toList b.toList out.toList (na+1) (nb+2))(g:na<a.size)(h:nb+1<b.size)(i:old<=out.size)(q:RndH r a b cR old Q):wpS M A E s (vK a b c) Q st:=by
 unfold vK;split
 .exact HB K d T e f m g h i q
 .exact HB K d T e f m g h i q
def Nt{cR st:SortSt}{c:U5}{Q:ForInStep U5->SortSt->Prop}{mg:Nat}(K:Asks M A s κ r a₀)(hk:kindOf cR=κ)(T:Two κ r a₀ a b)(e0:Eqv cR st)(ec:c=(none,na+1,nb+2,out,mg))(m:Mh r a.toList b.toList out.toList (na+1) (nb+2))(ha:na<a.size)(hb:nb+1<b.size)(q1:∀st w rest,Eqv cR st->Gd r a b w->Q (.done (some w,rest)) st) (q2:∀st na nb (f:Array Keyed) g,Eqv cR st->Mh r a.toList b.toList f.toList (na+1) (nb+2)->na<a.size->nb+1<b.size->out.size+1<=f.size->Q (.yield (none,na+1,nb+2,f,g)) st):wpS M A E s (D6 a b c) Q st:=by
 subst ec;unfold D6;dsimp only;have aa:0<a.size+b.size:=by lia
 refine cA (iZ (iU (I:=λx (p:U6) d=>Eqv cR d/\∃(i j:Nat) (o:Array Keyed) (u v:Nat),p=(none,i+1,j+2,o,u,v)/\Mh r a.toList b.toList o.toList (i+1) (j+2)/\i<a.size/\j+1<b.size/\out.size+x<=o.size)
  (Q:=λp d=>Eqv cR d/\((∃w rest,p=(some w,rest)/\Gd r a b w)\/∃(i j:Nat) (o:Array Keyed) (u v:Nat),p=(none,i+1,j+2,o,u,v)/\Mh r a.toList b.toList o.toList (i+1) (j+2)/\i<a.size/\j+1<b.size/\out.size+1<=o.size)) ?step ?stop #[e0,na,nb,out,0,0,rZ,m,ha,hb,cm _]) ?post)
 case step=>
  rintro x p d _ hx ⟨n,i,j,o,u,v,rfl,B,C,D,h3⟩;refine IT (old:=out.size) (t:=x) K T n hk rZ B C D h3 (λw rest g=>#[n,.inl #[w,rest,rZ,g]]) λG H J u' v' L k l q=>#[#[n,.inr #[G,H,J,u',v',rZ,L,k,l,()]],#[n,G,H,J,u',v',rZ,L,k,l,()]]
 case stop=>
  rintro p d ⟨n,i,j,o,u,v,rfl,B,C,D,h3⟩;exact#[n,.inr #[i,j,o,u,v,rZ,B,C,D,()]]
 case post=>
  rintro p d ⟨n,h⟩
  rcases h with⟨w,rest,rfl,g⟩|⟨i,j,o,u,v,rfl,B,C,D,h3⟩
  .exact cK (q1 _ _ _ n g)
  dsimp only;refine cA (qz (oY #[rZ,?_]));refine cA (iZ (iU (I:=λx (y:U7) d=>Eqv cR d/\∃(i j:Nat) (o:Array Keyed) (u v w:Nat),y=(none,i+1,j+2,o,u,v,w)/\Mh r a.toList b.toList o.toList (i+1) (j+2)/\i<a.size/\j+1<b.size/\out.size+1<=o.size)
   (Q:=λy d=>Eqv cR d/\((∃w rest,y=(some w,rest)/\Gd r a b w)\/∃(i j:Nat) (o:Array Keyed) (u v w:Nat),y=(none,i+1,j+2,o,u,v,w)/\Mh r a.toList b.toList o.toList (i+1) (j+2)/\i<a.size/\j+1<b.size/\out.size+1<=o.size)) ?step2 ?stop2 #[n,i,j,o,mg+1,u,v,rZ,B,C,D,h3]) ?post2)
  case step2=>
   rintro x y N _ hx ⟨z,i,j,o,u,v,w,rfl,O,U,Y,g3⟩;exact Nm K hk T z #[rZ,rZ,rZ] O U Y g3 #[λst w rest e g=>#[e,.inl #[w,rest,rZ,g]],λst G H J x' y' z' e L k l q=>#[#[e,.inr #[G,H,J,x',y',z',rZ,L,k,l,q]],#[e,G,H,J,x',y',z',rZ,L,k,l,q]]]
  case stop2=>
   rintro y N ⟨z,i,j,o,u,v,w,rfl,O,U,Y,g3⟩;exact#[z,.inr #[i,j,o,u,v,w,rZ,O,U,Y,g3]]
  case post2=>
   rintro y N ⟨z,h⟩
   rcases h with⟨w,rest,rfl,g⟩|⟨i,j,o,u,v,w,rfl,O,U,Y,g3⟩
   .exact cK (q1 _ _ _ z g)
   .dsimp only;exact cA (zc λab x3=>cK (q2 _ _ _ _ _ (z.trans x3) O U Y g3))
def KI{st:SortSt}{Q:Array Keyed->SortSt->Prop}(K:Asks M A s κ r a₀)(L:kindOf st=κ)(T:Two κ r a₀ a b)(q:∀m d,Eqv st d->Gd r a b m->Q m d):wpS M A E s (DW a b) Q st:=by
 rw[Oy];unfold EG;have a1:=T.a1;have b1:=T.b1;obtain⟨n,hn⟩:∃n,a.size=n+1:=nr (by first|assumption|lia);have G:a.size-1=n:=by lia
 rw[G];refine cA (qz (oY #[rZ,cA (gq () ?_)]));have N:Mh r a.toList b.toList (#v[]:Array Keyed).toList (n+1) b.size:=#[by rw[u6 (by rw[de];lia),u6 (by rw[de];exact cm _)];simp,List.Pairwise.nil,λx _ y f=>(nomatch f),λx _ y f=>(nomatch f)];have k:Mh r a.toList b.toList (#v[a.getD n d0]:Array Keyed).toList n b.size:=Cg (out:= #v[]) T N () (λy f=>by have:=T.top y (qc f);rw[G]at this;exact this);by_cases p:n=0
 .rw[wB (by simpa using p)];refine cK (q _ _ (Eqv.refl _) ?_);show f' r _ _ (kv a b _ _ _).toList;rw[xz];exact k.endA T.sb p
 rw[wA (by simpa using p)];by_cases t:b.size=1
 .rw[wB (by simpa using t)];refine cK (q _ _ (Eqv.refl _) ?_);show f' r _ _ (oz a b _ _ _).toList;rw[y8];exact k.first T.sa T.sb (by rw[t];exact T.bot)
 rw[wA (by simpa using t)];obtain⟨u,rfl⟩:∃u,n=u+1:=nr (by first|assumption|lia);obtain⟨v,h⟩:∃v,b.size=v+2:=#[b.size-2,()];rw[h]at k;refine cA (mq (cA (iZ (iU (I:=λx (c:U5) d=>Eqv st d/\∃(i j:Nat) (o:Array Keyed) (g:Nat),c=(none,i+1,j+2,o,g)/\Mh r a.toList b.toList o.toList (i+1) (j+2)/\i<a.size/\j+1<b.size/\x+1<=o.size)
  (Q:=λc d=>Eqv st d/\∃w rest,c=(some w,rest)/\Gd r a b w) ?step ?stop #[Eqv.refl _,u,v,_,_,by rw[h],k,(),(),cm _]) ?post)))
 case step=>
  rintro x c d _ hx ⟨l,i,j,o,g,rfl,B,H,J,O⟩;exact Nt K L T l rZ B H J (λst w rest e g=>#[e,w,rest,rZ,g]) λd U Y o' g' e m' C D aa=>#[e,U,Y,o',g',rZ,m',C,D,()]
 case stop=>
  rintro c d ⟨l,i,j,o,g,rfl,B,H,J,O⟩;have z:=B.len (by rw[de];lia) (by rw[de];lia);rw[de,de,de]at z
  exfalso
  lia
 case post=>
  rintro c d ⟨l,w,rest,rfl,g⟩;exact cK (q _ _ l g)
end
def LC(i:Nat):mergeAt' i=(do
 let s <-get
 let(some (b,c,d),some (f,e,_)):=((pendingOf s)[i]?,(pendingOf s)[i+1]?)|unsupported "internal:list.sort.pending"
 set (setPending s (((pendingOf s).setIfInBounds i (b,c+e,d)).eraseIdxIfInBounds (i+1)))
 let some k <-qf false (<-elem' (arrOf s) f) (arrOf s) b c 0|return false
 let(b,c):=(b+k,c-k)
 if c==0 then return true
 let some e <-qf true (<-elem' (arrOf s) (b+c-1)) (arrOf s) f e (e-1)|return false
 if e==0 then return true
 let x:=(arrOf s).extract b f
 let y:=(arrOf s).extract f (f+e)
 let merged <-if c<=e then AZ x y else DW x y
 modify λs=>setArr s (merged.toList.zipIdx.foldl (λa (p,j)=>a.setIfInBounds (b+j) p) (arrOf s))
 return (failedOf (<-get)).isNone):=rfl
section
variable{M:Model}{A:Ar}{E:VP}{s:Sh}{g:SortKind}{r:Keyed->Int}{d xs f:Array Keyed}
def MA{st a:SortSt}{Q:PUnit->SortSt->Prop}(h:Q ⟨⟩ a):wpS M A E s (set a:StateT SortSt Sem PUnit) Q st:=by
 unfold wpS;rw[StateT.run_set];exact b9 #[rZ,h]
theorem laid:∀(c:List Keyed) (j b:Nat) (xs:Array Keyed),b+j+c.length<=xs.size->((c.zipIdx j).foldl (λa (p,j)=>a.setIfInBounds (b+j) p) xs).toList=xs.toList.take (b+j)++c++xs.toList.drop (b+j+c.length)
 | [],j,b,xs,_=>by
  rw[gL,Bb,xg];exact(iM _ _).symm
 | m::c,j,b,xs,h=>by
  rw[gC]at h;rw[List.zipIdx_cons,jw,laid c (j+1) b _ (by rw[yp];lia),DU,gC];have d:b+j<xs.toList.length:=by rw[de];lia
  have e:(xs.toList.set (b+j) m).take (b+(j+1))=xs.toList.take (b+j)++[m]:=by
   rw[show b+(j+1)=b+j+1 by lia,List.take_succ_eq_append_getElem (by rw[sm];exact d),List.getElem_set_self,List.take_set_of_le (cm _)]
  have f:(xs.toList.set (b+j) m).drop (b+(j+1)+c.length)=xs.toList.drop (b+j+(c.length+1)):=by
   rw[List.drop_set_of_lt ()]
   congr 1
   lia
  rw[e,f,fY,fY,fY];rfl
def zM(xs:Array Keyed)(t n:Nat):(xs.extract t n).toList=(xs.toList.take n).drop t:=A' xs t n
def zA{t n:Nat}(h:n<=xs.size):(xs.extract t n).size=n-t:=by rw[Array.size_extract];lia
def Cw{t n i:Nat}(h:n<=xs.size)(a:t+i<n):(xs.extract t n).getD i d0=xs.getD (t+i) d0:=by
 refine oy ?_;rw[Array.getElem?_extract,wB ()]
def Fv{l:List Keyed}{f:Array Keyed}(h:f.toList=l)(i:Nat):f[i]?=l[i]? :=by rw[<-h,fh]
def NS{st:SortSt}{i b o pw sb N ag:Nat}{Q:Bool->SortSt->Prop}(K:Asks M A s g r d)(B:StOk g d st)(h1:(pendingOf st)[i]?=some (b,o,pw))(h2:(pendingOf st)[i+1]?=some (sb,N,ag))(es:sb=b+o)(aq:1<=o)(ar:1<=N)(hz:sb+N<=d.size)(O:Ris r (arrOf st) b (b+o)) (U:Ris r (arrOf st) sb (sb+N))(q:∀u,StOk g d u->pendingOf u=((pendingOf st).setIfInBounds i (b,o+N,pw)).eraseIdxIfInBounds (i+1)->Out (arrOf st) (arrOf u) b (sb+N)->Ris r (arrOf u) b (sb+N)->Q true u):wpS M A E s (mergeAt' i) Q st:=by
 have sz:=qm B.perm;subst es;rw[LC];refine cA (mq ?_);rw[h1,h2];dsimp only;refine cA (MA ?_);generalize hP:((pendingOf st).setIfInBounds i (b,o+N,pw)).eraseIdxIfInBounds (i+1)=P at q|-;have B1:StOk g d (setPending st P):=#[B.kind,B.perm,B.ok];generalize G:arrOf st=xs at O U q sz|-;have pm:xs.Perm d:=G▸B.perm;have mem:∀j,j<d.size->xs.getD j d0∈d:=λj I=>zY pm I;have ap:∀i j,i<d.size->j<d.size->i≠j->kx r xs i≠kx r xs j:=λi j hi I ij=>K.apart pm hi I ij;refine cA (gq () (cA (vk K B1.kind () (λj I=>mem _ ()) (mem _ ()) (λj I=>ap _ _ () () ()) O () λk kn k2 k3=>?_)));dsimp only;by_cases z0:o-k=0
 .rw[wB (by simpa using z0)];refine cK (q _ B1 rZ (by show Out xs (arrOf st) _ _;rw[G];exact Out.refl _ _ _) ?_);show Ris r (arrOf st) _ _;rw[G];intro i j w C H;by_cases c1:j<b+o
  .exact O i j w C c1
  by_cases c2:b+o<=i
  .exact U i j c2 C H
  have D:=k2 (i-b) ();rw[n6 w]at D;have D:kx r xs i<kx r xs (b+o):=D;by_cases c3:j=b+o
  .rw[c3];exact D
  .exact vm D (U (b+o) j (cm _) (wc (Nat.not_lt.mp c1) (eC c3)) H)
 rw[wA (by simpa using z0)];have kl:k<o:=by lia
 clear z0;have dk:∀_:Unit,b+k+(o-k)=b+o:=λ_=>by lia
 rw[dk Unit.unit];refine cA (gq () (cA (vk K B1.kind () (λj I=>mem _ ()) (mem _ ()) (λj I=>ap _ _ () () ()) U () λv nn ah ae=>?_)));dsimp only;have bk:kx r xs (b+o)<kx r xs (b+k):=by
  have:=k3 k (cm _) ();exact this
 have aa:kx r xs (b+k)<=kx r xs (b+o-1):=by
  by_cases c:b+k=b+o-1
  .rw[c];exact Int.le_refl _
  .exact Int.le_of_lt (O (b+k) (b+o-1) () () ())
 have ai:v≠0:=λz=>by
  subst z;have:=ae 0 (cm _) ();rw[xg]at this;exact wC this (Int.not_lt.mpr (Int.le_trans (Int.le_of_lt bk) aa))
 rw[wA (by simpa using ai)];have sx:(xs.extract (b+k) (b+o)).size=o-k:=by rw[zA ()];exact Nat.add_sub_add_left ..
 have sy:(xs.extract (b+o) (b+o+v)).size=v:=by rw[zA ()];exact pD ..
 have mx:∀x∈(xs.extract (b+k) (b+o)).toList,∃j,b+k<=j/\j<b+o/\xs.getD j d0=x:=λx G=>by
  rw[zM]at G;obtain⟨j,w,C,_,H⟩:=xX G;exact#[j,w,C,H]
 have my:∀x∈(xs.extract (b+o) (b+o+v)).toList,∃j,b+o<=j/\j<b+o+v/\xs.getD j d0=x:=λx G=>by
  rw[zM]at G;obtain⟨j,w,C,_,H⟩:=xX G;exact#[j,w,C,H]
 have af:∀(t n:Nat),n<=xs.size->Ris r xs t n->Up r (xs.extract t n).toList:=λt n hn ur=>by
  refine ke.mpr λi j hi I ij=>?_;rw[de,zA hn]at hi I;have e:∀c (hc:c<(xs.extract t n).toList.length),(xs.extract t n).toList[c]=xs.getD (t+c) d0:=λc hc=>by
   rw[de,zA hn]at hc;rw[<-Cw hn (),Array.getElem_toList];exact(uv (fX _)).symm
  rw[e,e];exact ur (t+i) (t+j) () () ()
 have aj:∀_:Unit,b+k+(o-k-1)=b+o-1:=λ_=>by rw[<-dk Unit.unit];exact(Nat.add_sub_assoc (Nat.sub_pos_of_lt kl) _).symm
 have J:∀_:Unit,b+k+(o-k+v)=b+o+v:=λ_=>by rw[<-wj,dk Unit.unit]
 have T:Two g r d (xs.extract (b+k) (b+o)) (xs.extract (b+o) (b+o+v)):=by
  refine#[λx G=>?_,λx G=>?_,af _ _ () λi j w C H=>O i j () C H,af _ _ () λi j w C H=>U i j w C (),λx G y hy=>?_,(),(),λx G=>?_,λy hy=>?_]
  .obtain⟨j,w,C,rfl⟩:=mx x G;exact mem j ()
  .obtain⟨j,w,C,rfl⟩:=my x G;exact mem j ()
  .obtain⟨j,w,C,rfl⟩:=mx x G;obtain⟨l,H,g4,rfl⟩:=my y hy;exact ap j l () () ()
  .obtain⟨j,w,C,rfl⟩:=mx x G;rw[Cw () (),xg];show kx r xs (b+o)<kx r xs j
   by_cases c:j=b+k
   .rw[c];exact bk
   .exact vm bk (O (b+k) j (nA ..) (wc w (eC c)) C)
  .obtain⟨j,w,C,rfl⟩:=my y hy;rw[sx,Cw () (),show b+k+(o-k-1)=b+o-1 from aj Unit.unit];have:=ah (j-(b+o)) (we w C)
   rw[n6 w]at this;exact this
 have fin:∀m u,Eqv (setPending st P) u->Gd r (xs.extract (b+k) (b+o)) (xs.extract (b+o) (b+o+v)) m->wpS M A E s (do
   modify λs=>setArr s (m.toList.zipIdx.foldl (λa (p,j)=>a.setIfInBounds (b+k+j) p) (arrOf s))
   return (failedOf (<-get)).isNone) Q u:=λm u ev gd=>by
  have ea:arrOf u=xs:=ev.arr.trans G;have ml:m.toList.length=o-k+v:=by
   have:=gd.1.length_eq;rw[dA,de (xs:=xs.extract _ _),de (xs:=xs.extract _ _),sx,sy]at this;exact this
  refine cA (nP (cA (mq ?_)));rw[ea];have tl:=laid m.toList 0 (b+k) xs (by rw[ml];lia);rw[xg,ml]at tl;generalize as:m.toList.zipIdx.foldl (λa (p,j)=>a.setIfInBounds (b+k+j) p) xs=f at tl|-;have ak:(failedOf (setArr u f)).isNone=true:=by
   show(failedOf u).isNone=true;rw[ev.ok];show(failedOf st).isNone=true
   rw[B.ok];rfl
  rw[ak];have mid:xs.toList=xs.toList.take (b+k)++((xs.extract (b+k) (b+o)).toList++(xs.extract (b+o) (b+o+v)).toList)++xs.toList.drop (b+k+(o-k+v)):=by
   rw[zM,zM];have e1:xs.toList.take (b+k)++(xs.toList.take (b+o)).drop (b+k)=xs.toList.take (b+o):=by
    have z:=iM (b+k) (xs.toList.take (b+o));rwa[List.take_take,tv ()]at z
   have e2:xs.toList.take (b+o)++(xs.toList.take (b+o+v)).drop (b+o)=xs.toList.take (b+o+v):=by
    have z:=iM (b+o) (xs.toList.take (b+o+v));rwa[List.take_take,tv ()]at z
   rw[<-fY,e1,e2,J Unit.unit,iM]
  have al:f.Perm xs:=by
   refine lM.mpr ?_;rw[tl]
   conv=>rhs;rw[mid]
   exact yR _ (xp _ gd.1)
  have lx:xs.toList.length=d.size:=by rw[de];exact sz
  have mn:min (b+k) xs.toList.length=b+k:=tv ();have Y:∀j,j<b+k\/b+o+v<=j->f[j]?=xs[j]? :=λj I=>by
   rw[Fv tl j,<-fh]
   rcases I with h|h
   .rw[eA (by rw[dA,e9,mn];exact Nat.lt_add_right _ h),eA (by rw[e9,mn];exact h),zU,wB h]
   .rw[dZ (by rw[dA,e9,ml,mn,J Unit.unit];exact h),nO]
    congr 1
    rw[dA,e9,ml,mn,J Unit.unit];exact n6 h
  have ab:∀j,b+k<=j->j<b+o+v->∃h:j-(b+k)<m.toList.length,f.getD j d0=m.toList[j-(b+k)]:=λj w C=>by
   have hl:j-(b+k)<m.toList.length:=by rw[ml];exact we w (by rw[J Unit.unit];exact C)
   refine#[hl,uv ?_];rw[Fv tl j,eA (by rw[dA,e9,ml,mn,J Unit.unit];exact C),dZ (by rw[e9,mn];exact w),e9,mn,b8 hl]
  have L:∀j,b+k<=j->j<b+o+v->∃l,b+k<=l/\l<b+o+v/\f.getD j d0=xs.getD l d0:=λj w C=>by
   obtain⟨hl,e⟩:=ab j w C;have mm:f.getD j d0∈(xs.extract (b+k) (b+o)).toList++(xs.extract (b+o) (b+o+v)).toList:=by
    rw[e];exact(List.Perm.mem_iff gd.1).mp (iw hl)
   rcases cM.mp mm with z|z
   .obtain⟨l,D,l2,l3⟩:=mx _ z;exact#[l,D,(),l3.symm]
   .obtain⟨l,D,l2,l3⟩:=my _ z;exact#[l,(),l2,l3.symm]
  refine cK (q _ #[ev.kind.trans B1.kind,al.trans pm,by show failedOf u=none;rw[ev.ok];exact B.ok] ev.pend (λj I=>Y j ()) λi j w C H=>?_);show kx r f i<kx r f j;have oe:∀c,c<b+k\/b+o+v<=c->kx r f c=kx r xs c:=λc hc=>dw r (oy (Y c hc));have hd:∀c l,b<=c->c<b+k->b+k<=l->l<b+o+N->kx r xs c<kx r xs l:=λc l c1 c2 c3 c4=>by
   by_cases c5:l<b+o
   .exact O c l c1 () c5
   .have D:=k2 (c-b) (we c1 c2);rw[n6 c1]at D;have D:kx r xs c<kx r xs (b+o):=D;by_cases c6:l=b+o
    .rw[c6];exact D
    .exact vm D (U (b+o) l (cm _) (wc (Nat.not_lt.mp c5) (eC c6)) c4)
  have am:∀l c,b+k<=l->l<b+o+v->b+o+v<=c->c<b+o+N->kx r xs l<kx r xs c:=λl c c1 c2 c3 c4=>by
   by_cases c5:b+o<=l
   .exact U l c c5 () c4
   .have c0:=cW (nA ..) c3;have D:=ae (c-(b+o)) (Nat.le_sub_of_add_le' c3) (we c0 c4);rw[n6 c0]at D;have D:kx r xs (b+o-1)<kx r xs c:=D;by_cases c6:l=b+o-1
    .rw[c6];exact D
    .exact vm (O l (b+o-1) () () ()) D
  by_cases i1:i<b+k
  .rw[oe i (.inl i1)];by_cases j1:j<b+k
   .rw[oe j (.inl j1)];exact O i j w C ()
   .by_cases j2:j<b+o+v
    .obtain⟨l,D,l2,l3⟩:=L j () j2;show kx r xs i<r (f.getD j d0);rw[l3];exact hd i l w i1 D ()
    .rw[oe j (.inr ())];exact hd i j w i1 () H
  .by_cases i2:i<b+o+v
   .by_cases j2:j<b+o+v
    .obtain⟨an,e1⟩:=ab i () i2;obtain⟨ao,e2⟩:=ab j () j2;show r (f.getD i d0)<r (f.getD j d0)
     rw[e1,e2];exact ke.mp gd.2 _ _ an ao ()
    .obtain⟨l,D,l2,l3⟩:=L i () i2;rw[oe j (.inr ())];show r (f.getD i d0)<kx r xs j
     rw[l3];exact am l j D l2 () H
   .rw[oe i (.inr ()),oe j (.inr ())];exact U i j () C H
 by_cases c:o-k<=v
 .rw[wB c];exact cA (LU K B1.kind T fin)
 .rw[wA c];exact cA (KI K B1.kind T fin)
end
def fW(r:Keyed->Int)(a:Array Keyed):Nat->List (Nat×Nat×Nat)->Nat->Prop
 |s,[],e=>s=e
 |s,u::l,e=>u.1=s/\1<=u.2.1/\Ris r a s (s+u.2.1)/\fW r a (s+u.2.1) l e
section
variable{r:Keyed->Int}{j k:Array Keyed}
theorem AB:∀{l:List (Nat×Nat×Nat)} {s e:Nat},fW r j s l e->s+l.length<=e
 | [],s,e,h=>by
  have:s=e:=h;simp;lia
 |u::l,s,e,h=>by
  have:=AB h.2.2.2;have:=h.2.1;rw[gC];lia
theorem dz:∀{l c:List (Nat×Nat×Nat)} {s e:Nat},fW r j s (l++c) e↔ ∃m,fW r j s l m/\fW r j m c e
 | [],c,s,e=>#[λh=>#[s,rZ,h],λ⟨m,a,b⟩=>by have:s=m:=a;subst this;exact b]
 | u::l,c,s,e=>by
  constructor
  .rintro⟨a,b,d,i⟩;obtain⟨m,f,g⟩:=dz.mp i;exact#[m,#[a,b,d,f],g]
  .rintro⟨m,⟨a,b,d,f⟩,g⟩;exact#[a,b,d,dz.mpr #[m,f,g]]
theorem xR{lo a:Nat}(o:Out j k lo a):∀{l:List (Nat×Nat×Nat)} {s e:Nat},fW r j s l e->e<=lo\/a<=s->fW r k s l e
 | [],_,_,h,_=>h
 |u::l,s,e,h,d=>by
  have:=AB h.2.2.2;exact#[h.1,h.2.1,o.ris h.2.2.1 (),xR o h.2.2.2 ()]
def NZ{p:Array (Nat×Nat×Nat)}{i:Nat}(h:i+1<p.size):∃a u v d,p.toList=a++u::v::d/\a.length=i/\p[i]?=some u/\p[i+1]?=some v:=by
 have e:p.toList.length=p.size:=de;refine#[p.toList.take i,p[i]'(),p[i+1],p.toList.drop (i+2),?_,by rw[e9];lia,fX _,fX _];have b:p.toList.drop i=p.toList[i]'()::p.toList.drop (i+1):=y6 ();have c:p.toList.drop (i+1)=p.toList[i+1]'()::p.toList.drop (i+2):=y6 ();rw[Array.getElem_toList]at b c;rw[<-c,<-b,iM]
def Om{p:Array (Nat×Nat×Nat)}{i:Nat}{a b:List (Nat×Nat×Nat)}{u v w:Nat×Nat×Nat}(h:p.toList=a++u::v::b)(c:a.length=i):((p.setIfInBounds i w).eraseIdxIfInBounds (i+1)).toList=a++w::b:=by
 rw[Array.toList_eraseIdxIfInBounds,DU,h,List.set_append_right _ _ (),c,jg,List.eraseIdx_append_of_length_le (),c,pD];rfl
variable{M:Model}{A:Ar}{E:VP}{s:Sh}{b:SortKind}{a:Array Keyed}
def D7{st:SortSt}{i lo:Nat}{Q:Bool->SortSt->Prop}(K:Asks M A s b r a)(B:StOk b a st)(y:i+1<(pendingOf st).size)(R:fW r (arrOf st) 0 (pendingOf st).toList lo)(z:lo<=a.size)(q:∀c,StOk b a c->(pendingOf c).size+1=(pendingOf st).size->Out (arrOf st) (arrOf c) 0 lo->fW r (arrOf c) 0 (pendingOf c).toList lo->Q true c):wpS M A E s (mergeAt' i) Q st:=by
 obtain⟨T,u,v,C,e,D,G,H⟩:=NZ y;rw[e]at R;obtain⟨m,I,R2⟩:=dz.mp R;obtain⟨l,n,p,h,t,x,j⟩:=R2;obtain⟨d,g,pw⟩:=u;obtain⟨J,f,L⟩:=v;dsimp only at l n p h t x j;subst l;have U:=AB j;refine NS K B G H h n t () p (by rw[h];exact x) λc N O o up=>?_;have k:=Om (w:=(d,g+f,pw)) e D;rw[<-O]at k;refine q c N ?_ (o.wide (gc _) ()) ?_
 .have l3:(pendingOf c).toList.length+1=(pendingOf st).toList.length:=by
   rw[k,e];simp;lia
  rwa[de,de]at l3
 .rw[k];refine dz.mpr #[d,xR o I (.inl (cm _)),rZ,by show 1<=g+f;lia,?_,?_]
  .show Ris r (arrOf c) d (d+(g+f));rw[show d+(g+f)=J+f by lia];exact up
  .show fW r (arrOf c) (d+(g+f)) C lo;rw[show d+(g+f)=d+g+f by lia];exact xR o j (.inr ())
theorem D8{f:Nat->Nat}:∀{l:List (Nat×Nat×Nat)} {s e i:Nat},fW r j s l e->fW r j s (l.modify i λu=>(u.1,u.2.1,f u.2.2)) e
 | [],_,_,_,h=>by simpa using h
 |u::l,s,e,0,h=>h
 |u::l,s,e,i+1,h=>#[h.1,h.2.1,h.2.2.1,D8 h.2.2.2]
def LH{st:SortSt}{Q:Unit->SortSt->Prop}(K:Asks M A s b r a)(B:StOk b a st)(hp:pendingOf st= #v[])(h1:1<=a.size)(q:∀d,StOk b a d->Ris r (arrOf d) 0 a.size->Q ⟨⟩ d):wpS M A E s sortRuns' Q st:=by
 have sz:=qm B.perm;rw[sortRuns'_eq];refine cA (mq ?_);dsimp only;rw[sz];refine cA (iZ (iU (I:=λx c d=>∃lo,c=(none,lo)/\x<=lo/\lo<=a.size/\StOk b a d/\fW r (arrOf d) 0 (pendingOf d).toList lo)
  (Q:=λc d=>c=(none,a.size)/\StOk b a d/\fW r (arrOf d) 0 (pendingOf d).toList a.size) ?step ?stop #[0,rZ,cm _,gc _,B,by rw[hp];rfl]) ?post)
 case stop=>
  rintro c d ⟨lo,rfl,h1,h2,B',R⟩;have e:lo=a.size:=by lia
  subst e;exact#[rZ,B',R]
 case step=>
  rintro x c aa _ hx ⟨lo,rfl,af,O,Y,T⟩;dsimp only;by_cases z:lo>=a.size
  .rw[wB z];have e:lo=a.size:=by lia
   subst e;exact cK #[rZ,Y,T]
  rw[wA z];refine cA (IE K Y () () λn j H p2 L o2 N nn U=>?_);dsimp only;have R2:fW r (arrOf j) 0 (pendingOf j).toList lo:=by rw[p2];exact xR o2 T (.inl (cm _))
  by_cases mr:n<minRun' a.size a.size 0
  .rw[wB mr];refine cA (qz (oY #[rZ,?_]));refine cA (KY K H () () U λt C p3 g3 o3 v=>?_);rw[wA (by decide)];have J:fW r (arrOf t) 0 (pendingOf t).toList lo:=by rw[p3];exact xR o3 R2 (.inl (cm _))
   have N:1<=min (a.size-lo) (minRun' a.size a.size 0):=by lia
   have nn:lo+min (a.size-lo) (minRun' a.size a.size 0)<=a.size:=by lia
   generalize min (a.size-lo) (minRun' a.size a.size 0)=D at v N nn|-;refine cA (mq ?_);cases eb:(pendingOf t).back? with
   |none=>
    dsimp only;refine cA (nP (cK #[lo+D,rZ,(),(),#[C.kind,C.perm,C.ok],?_]));show fW r (arrOf t) 0 ((pendingOf t).push (lo,D,0)).toList (lo+D)
    rw[t8];exact dz.mpr #[lo,J,rZ,N,v,rZ]
   | some u=>
    obtain⟨w,m,w1⟩:=u;dsimp only;refine cA (iZ (iU (I:=λx c d=>c=(none,Unit.unit)/\StOk b a d/\fW r (arrOf d) 0 (pendingOf d).toList lo/\Ris r (arrOf d) lo (lo+D))
     (Q:=λc d=>c=(none,Unit.unit)/\StOk b a d/\fW r (arrOf d) 0 (pendingOf d).toList lo/\Ris r (arrOf d) lo (lo+D)) ?step2 ?stop2 #[rZ,C,J,v]) ?post2)
    case stop2=>
     rintro c i h;exact h
    case step2=>
     rintro y c i _ _ ⟨rfl,o,G,k⟩;refine cA (mq ?_);by_cases g:(pendingOf i).size>1
     .rw[wB g,fX ()];generalize(pendingOf i)[(pendingOf i).size-2]=u2;obtain⟨a2,b2,p⟩:=u2;dsimp only;by_cases L:p<=power' a.size (2 * w+m) (2 * w+m+m+D) a.size
      .rw[wB L];exact cK #[rZ,o,G,k]
      .rw[wA L];refine cA (D7 K o () G O λab B5 _ o5 R5=>?_);exact cK #[rZ,B5,R5,o5.ris k (.inr (cm _))]
     .rw[wA g];exact cK #[rZ,o,G,k]
    case post2=>
     rintro c i ⟨rfl,o,G,k⟩;dsimp only;refine cA (nP (cA (nP (cK #[lo+D,rZ,(),(),#[o.kind,o.perm,o.ok],?_]))));show fW r (arrOf i) 0 (((pendingOf i).modify ((pendingOf i).size-1) λx=>(x.fst,x.2.fst,power' a.size (2 * w+m) (2 * w+m+m+D) a.size)).push (lo,D,0)).toList (lo+D)
     rw[t8,Array.toList_modify];exact dz.mpr #[lo,D8 (f:=λ_=>power' a.size (2 * w+m) (2 * w+m+m+D) a.size) G,rZ,N,k,rZ]
  .rw[wA mr];have C:=H;have J:=R2;have v:=U;refine cA (mq ?_);cases eb:(pendingOf j).back? with
   |none=>
    dsimp only;refine cA (nP (cK #[lo+n,rZ,(),(),#[C.kind,C.perm,C.ok],?_]));show fW r (arrOf j) 0 ((pendingOf j).push (lo,n,0)).toList (lo+n)
    rw[t8];exact dz.mpr #[lo,J,rZ,N,v,rZ]
   | some u=>
    obtain⟨w,m,w1⟩:=u;dsimp only;refine cA (iZ (iU (I:=λx c d=>c=(none,Unit.unit)/\StOk b a d/\fW r (arrOf d) 0 (pendingOf d).toList lo/\Ris r (arrOf d) lo (lo+n))
     (Q:=λc d=>c=(none,Unit.unit)/\StOk b a d/\fW r (arrOf d) 0 (pendingOf d).toList lo/\Ris r (arrOf d) lo (lo+n)) ?step2 ?stop2 #[rZ,C,J,v]) ?post2)
    case stop2=>
     rintro c i h;exact h
    case step2=>
     rintro y c i _ _ ⟨rfl,o,G,k⟩;refine cA (mq ?_);by_cases g:(pendingOf i).size>1
     .rw[wB g,fX ()];generalize(pendingOf i)[(pendingOf i).size-2]=u2;obtain⟨a2,b2,p⟩:=u2;dsimp only;by_cases L:p<=power' a.size (2 * w+m) (2 * w+m+m+n) a.size
      .rw[wB L];exact cK #[rZ,o,G,k]
      .rw[wA L];refine cA (D7 K o () G O λab B5 _ o5 R5=>?_);exact cK #[rZ,B5,R5,o5.ris k (.inr (cm _))]
     .rw[wA g];exact cK #[rZ,o,G,k]
    case post2=>
     rintro c i ⟨rfl,o,G,k⟩;dsimp only;refine cA (nP (cA (nP (cK #[lo+n,rZ,(),(),#[o.kind,o.perm,o.ok],?_]))));show fW r (arrOf i) 0 (((pendingOf i).modify ((pendingOf i).size-1) λx=>(x.fst,x.2.fst,power' a.size (2 * w+m) (2 * w+m+m+n) a.size)).push (lo,n,0)).toList (lo+n)
     rw[t8,Array.toList_modify];exact dz.mpr #[lo,D8 (f:=λ_=>power' a.size (2 * w+m) (2 * w+m+m+n) a.size) G,rZ,N,k,rZ]
 case post=>
  rintro c aa ⟨rfl,Y,T⟩;dsimp only;refine cA (iZ (iU (I:=λx c d=>c=(none,Unit.unit)/\StOk b a d/\fW r (arrOf d) 0 (pendingOf d).toList a.size/\(pendingOf d).size+x<=a.size)
   (Q:=λc d=>c=(none,Unit.unit)/\StOk b a d/\fW r (arrOf d) 0 (pendingOf d).toList a.size/\(pendingOf d).size<=1) ?step3 ?stop3 #[rZ,Y,T,by have:=AB T;rw[de]at this;lia]) ?post3)
  case stop3=>
   rintro c j ⟨hc,H,R2,hz⟩;exact#[hc,H,R2,()]
  case step3=>
   rintro x c j _ hx ⟨rfl,H,R2,hz⟩;refine cA (mq ?_);by_cases g:(pendingOf j).size<=1
   .rw[wB g];exact cK #[rZ,H,R2,g]
   .rw[wA g];refine cA (D7 K H ?_ R2 (cm _) λt C z3 o3 J=>?_)
    .have ae:∀(c:Prop) [Decidable c],(if c then(pendingOf j).size-2-1 else(pendingOf j).size-2)+1<(pendingOf j).size:=λc _=>by
      by_cases h:c
      .rw[wB h];lia
      .rw[wA h];lia
     exact ae _
    .exact cK #[rZ,C,J,()]
  case post3=>
   rintro c j ⟨rfl,H,R2,hz⟩;refine cK (q j H ?_);have hl:(pendingOf j).toList.length<=1:=by rw[de];exact hz
   generalize(pendingOf j).toList=l at R2 hl
   match l,R2,hl with
   | [],R2,_=>
    have:0=a.size:=R2;lia
   | [u],R2,_=>
    have e:0+u.2.1=a.size:=R2.2.2.2;rw[<-e];exact R2.2.2.1
end
section
variable{P:Pg}{w:World}{A:Ar}{E:VP}{s:Sh}{a:Ad}{vs ks:Vs}{k:Nat->Int}{d:SortKind}
noncomputable def gS (ks:Vs) (x:Keyed):Nat:=Classical.epsilon λi=>ks[i]?=some x.1
def xD(nd:ks.Nodup){i:Nat}{x:Keyed}(h:ks[i]?=some x.1):gS ks x=i:=by
 have z:ks[gS ks x]?=some x.1:=Classical.epsilon_spec (p:=λi=>ks[i]?=some x.1) #[i,h];exact(jk (cg.mp z).1 nd).mp (z.trans h.symm)
def HL{Q:SortSt->Sh->Prop}(t:ks.length=vs.length)(M:1<=vs.length)(nd:ks.Nodup)(inj:∀i j,i<vs.length->j<vs.length->k i=k j->i=j)(ask:∀i j (C:Bool->Sh->Prop),i<ks.length->j<ks.length->C (decide (k i<k j)) s->kas_ask P w A d ks i j C s)(G:∀p a,Arr vs.length p->pf k p vs.length->(arrOf a).map (·.2)=(f8 vs p).toArray->failedOf a=none->Q a s):
  wpAny (model P w) A ((sortRuns').run (SortSt.mk' d (ks.toArray.zip vs.toArray) #v[] 7 none)) (λr u=>Q r.2 u) E s:=by
 have sz:(ks.toArray.zip vs.toArray).size=vs.length:=by simp[t]
 have n:∀i,i<vs.length->(ks.toArray.zip vs.toArray).getD i d0=(ks.getD i Value.none,vs.getD i Value.none):=λi b=>kat_item t i;have o:∀i,i<vs.length->ks[i]?=some (ks.getD i Value.none):=λi b=>by
  rw[cP,b8 ()];rfl
 have f:∀i,i<vs.length->gS ks ((ks.toArray.zip vs.toArray).getD i d0)=i:=λi b=>xD nd (by rw[n i b];exact o i b);have c:∀x∈ks.toArray.zip vs.toArray,∃i,i<vs.length/\x=(ks.toArray.zip vs.toArray).getD i d0:=λx l=>by
  obtain⟨i,b,e⟩:=Array.getElem_of_mem l;exact#[i,(),(uv (io.mpr #[b,e])).symm]
 have K:Asks (model P w) A s d (λx=>k (gS ks x)) (ks.toArray.zip vs.toArray):=by
  refine#[λx y C l H v=>?_,λi j b g I z=>?_]
  .obtain⟨i,b,rfl⟩:=c x l;obtain⟨j,g,rfl⟩:=c y H;have z:=ask i j C () () (by rw[f i b,f j g]at v;exact v);unfold kas_ask at z;rw[n i b,n j g];exact z
  .rw[sz]at b g;rw[f i b,f j g]at z;exact I (inj i j b g z)
 have run:=LH (E:=E) (st:=SortSt.mk' d (ks.toArray.zip vs.toArray) #v[] 7 none) (Q:=λ_ a=>Q a s) K #[rZ,B8 _,rZ] rZ () λa B up=>?_
 .unfold wpS at run;exact gJ run (λr u h=>by obtain⟨rfl,h⟩:=h;exact h) λ_ _ e=>e
 .have q:=qm B.perm;rw[sz]at up q;have mem:∀i,i<vs.length->(arrOf a).getD i d0∈ks.toArray.zip vs.toArray:=λi b=>zY B.perm ();have J:Arr vs.length ((arrOf a).map (gS ks)):=by
   refine lM.mpr ?_;rw[yH];refine((lM.mp B.perm).map (gS ks)).trans (.of_eq ?_);refine lR λi=>?_;rw[cr,fh,qe];by_cases b:i<vs.length
   .rw[pu (),ko b];exact dw some (f i b)
   .rw[zo (),ie (by simp;lia)];rfl
  have m:∀i,i<vs.length->((arrOf a).map (gS ks)).getD i 0=gS ks ((arrOf a).getD i d0):=λi b=>by
   rw[pH,Array.getElem?_map,pu ()];rfl
  refine G ((arrOf a).map (gS ks)) a J (λx y L D=>?_) ?_ B.ok
  .rw[m x (),m y D];exact up x y (gc _) L D
  .apply zz.mp;rw[yH];show _=f8 vs _
   unfold f8;rw[yH,eY];refine hK λx l=>?_;obtain⟨i,b,rfl⟩:=c x ((Cm B.perm).mp (zf.mp l));show((ks.toArray.zip vs.toArray).getD i d0).2=vs.getD (gS ks ((ks.toArray.zip vs.toArray).getD i d0)) Value.none
   rw[f i b,n i b]
def B4{n:Nat}{R:PySem.Fin->Sh->Prop}(z:s.heap.get? a=some (seqObj "list" vs.toArray n))(few:vs.length<=4000)(nd:vs.Nodup)(inj:∀i j,i<vs.length->j<vs.length->k i=k j->i=j)(ask:∀r,(∀b o,b≠a->s.heap.get? b=some o->r.get? b=some o)->2<=vs.length->xu P w A vs (λi j=>decide (k i<k j)) {s with heap:=r})
  (q:∀p r c,Arr vs.length p->pf k p vs.length->r.get? a=some (seqObj "list" (f8 vs p).toArray c)->(∀b o,b≠a->s.heap.get? b=some o->r.get? b=some o)->R (.done (.ret .none)) {s with heap:=r}):
  wpAny (model P w) A (Builtin.«list.sort» #[[.ref a],[]]) R E s:=by
 have la:a<s.heap.objs.size:=cQ z
 let D:=s.heap.update a (Obj.mapSeq λ_=>(#v[]:AV))
 obtain⟨B,u⟩:∃B,D.get? a=some (seqObj "list" #v[] B):=#[_,uz z λ_=> #v[]]
 let h:=(D.push (seqObj "tuple" vs.toArray 0)).push (seqObj "list" #v[] 0)
 have N:∀b o,b≠a->s.heap.get? b=some o->D.get? b=some o:=λb o t e=>(iQ _ _ (eC t)).trans e;have k3:∀b o,b≠a->s.heap.get? b=some o->h.get? b=some o:=λb o t e=>xh (N b o t e) _ _;have l:h.get? a=some (seqObj "list" #v[] B):=xh u _ _;rw[list_sort_plain];refine bW (listItems_at z rZ ?_);refine bW (u5 z rZ ?_ (by rw[dS,cS];lia) (gc _));refine bW (yI u rZ ?_);refine bW (wpAny_newTuple ?_ (by show vs.length<=_;rw[cS];lia));refine bW (qq ?_ (gc _));refine gf ?_;show wpAny (model P w) A _ R E {s with heap:=h};dsimp only;have fin:∀(st:SortSt) (p:Array Nat),Arr vs.length p->pf k p vs.length->(arrOf st).map (·.2)=(f8 vs p).toArray->failedOf st=none->∀G,G=h->
   wpAny (model P w) A (do
    let f:=(<-seqEpoch a) != B
    Builtin.List.listUpdate (.ref a) λ_=>(arrOf st).map (·.2)
    if let some e:=failedOf st then rule "list.sort.comparison-raised";throw e
    if f then rule "list.sort.modified";raiseError "ValueError" "list modified during sort"
    ret .none) R E {s with heap:=G}:=λst p C up g H G O=>by
  subst O;rw[g];have sz:(f8 vs p).toArray.size=vs.length:=by
   rw[dS,bZ,de,C.size]
  obtain⟨I,J⟩:∃I,(h.update a (Obj.mapSeq λ_=>(f8 vs p).toArray)).get? a=some (seqObj "list" (f8 vs p).toArray I):=#[_,uz l λ_=>(f8 vs p).toArray];refine bW (yI l rZ ?_);refine bW (u5 l rZ ?_ (gc _) (cW (px sz) (by rw[cS];lia)));rw[H];simp only[bne_self_eq_false,Bool.false_eq_true,if_false];exact b9 (q p _ I C up J λb o t e=>(iQ _ _ (eC t)).trans (k3 b o t e))
 by_cases T:2<=vs.length
 .have v: ¬vs.toArray.size<2:=by rw[dS];lia
  rw[wA v,wA v];refine bW (gJ (ask h k3 T) (λd s0 L=>?_) λ_ _ x=>x.elim);obtain⟨rfl,L⟩:=L;refine bW (gJ (HL (ks:=vs) (vs:=vs) (k:=k) (Q:=λm M=>M={s with heap:=h}/\∃p:Array Nat,Arr vs.length p/\pf k p vs.length/\(arrOf m).map (·.2)=(f8 vs p).toArray/\failedOf m=none) rfl () nd inj L λp m U Y a3 a4=>#[rfl,p,U,Y,a3,a4]) ?_ λ_ _ x=>x);rintro⟨⟨⟩,st⟩ M ⟨rfl,p,C,up,g,H⟩;exact fin st p C up g H _ rfl
 .have v:vs.toArray.size<2:=by rw[dS];lia
  rw[wB v,wB v];refine bW (b9 (bW (b9 ?_)));refine fin _ (List.range vs.length).toArray (B8 _) (λx y xy yn=>by lia) ?_ rZ _ rfl;rw[Hq];exact Fa rfl
end
def Ev{H:Hp}{e:As}{d:LN}(c:TupsAt H e d)(nd:d.Nodup):(e.map Value.ref).Nodup:=by
 refine ke.mpr λi j g k o z=>?_;rw[ry,ry]at z;rw[bZ]at g k;have z:=Value.ref.inj z;have p:=c.len;have l:=c.is i e[i] (d[i]'()) (b8 g) (b8 _);have m:=c.is j e[j] (d[j]'()) (b8 k) (b8 _);rw[z,m]at l;have n:d[j]'()=d[i]'():=by
  have y:=fL l;injection y with y
  exact(List.map_inj_right (f:=nv) λa b h=>zH (V.int.inj h)).mp y
 have q:=(jk (i:=j) (j:=i) () nd).mp (by rw[b8 (),b8 (),n]);lia
def iO(g:bV->Int)(t u:bV):Bool:=vB (g t) t (g u) u
def qk(g:bV->Int)(f:LN):Total (iO g) f:=by
 refine#[λx=>?_,λx y z b a=>?_,λx _ y _ ne=>?_]
 .unfold iO vB;rw[wB rZ,qa]
 .unfold iO vB at b a|-;by_cases d:g x=g y
  .rw[wB d]at b;by_cases c:g y=g z
   .rw[wB c]at a;rw[wB ()];exact v6 _ _ _ b a
   .rw[wA c]at a;have:=fG a;rw[wA ()];exact c9 ()
  .rw[wA d]at b;have h:=fG b;by_cases c:g y=g z
   .rw[wA ()];exact c9 ()
   .rw[wA c]at a;have i:=fG a;rw[wA ()];exact c9 ()
 .unfold iO vB;by_cases e:g x=g y
  .rw[wB e,wB e.symm];exact Bm x y ne
  .rw[wA e,wA λz=>e z.symm]
   rcases Int.lt_or_gt_of_ne e with q|q
   .exact .inl (c9 q)
   .exact .inr (c9 q)
def xK(H:Hp)(g:bV->Int)(b a:Ad)(t:bV):Prop:=H b=some (.tup [.int (g t),.ref a])/\H a=some (.tup (t.map nv))
structure KeysAt(H:Hp)(g:bV->Int)(κs as:As)(ts:LN):Prop where
 l1:κs.length=ts.length
 l2:as.length=ts.length
 is:∀(i:Nat) κ a t,κs[i]?=some κ->as[i]?=some a->ts[i]?=some t->xK H g κ a t
section
variable{X:Cx}{b:AO}{d:St}{H:Hp}{s:Sh}{g:bV->Int}
def DY{i a:Ad}{t:bV}(I:Inv X b d H s)(h:xK H g i a t):∃o j e n,s.heap.get? i=some o/\o.cls=.type "tuple"/\o.data=.seq #v[.int (g t) j,.ref a] n/\Vals (t.map nv) e/\SeqObj "tuple" s.heap a e:=by
 obtain⟨_,e,r,o,m,p,c,q,_⟩:=(show ObjOk X.prog X.w H s.heap i (.tup [.int (g t),.ref a])from I.hok i _ h.1);obtain⟨k,l,rfl,⟨j,rfl⟩,u⟩:∃k l,e=k::l/\RelV (.int (g t)) k/\Vals [.ref a] l:=by
  cases r with
  |cons x y=>exact#[_,_,rZ,x,y]
 obtain⟨A,rfl,v⟩:=gD u;cases v;obtain⟨f,w,z,_⟩:=I.tuple (O1 (K:=X.K) h.2);exact#[o,j,f,c,m,p,q,w,JJ z]
def M0{A:Ar}{f a c h:Ad}{t u:bV}{Q:Bool->Sh->Prop}{E:VP}(U:A.units+8<cLine)(I:Inv X b d H s)(k:xK H g f a t)(l:xK H g c h u)(q:Q (iO g t u) s):
  wpAny (model X.prog X.w) A (keyLt' (tuples' true) (.ref f) (.ref c)) Q E s:=by
 obtain⟨Y,m,v,n1,w,x2,x,n,y⟩:=DY I k;obtain⟨o2,o,B,n2,C,y2,D,p,G⟩:=DY I l;refine kat_lt w x C D ?_;show KatLex _ _ _ _ _ _ [(Value.int (g t) m,Value.int (g u) o),(Value.ref a,Value.ref h)] 0 s;have z:=fA (A:=A) (s:=s) (i:=g t) (j:=g u) (t:=m) (u:=o);refine kat_cons ?_;unfold iO vB at q;by_cases e:g t=g u
 .rw[c9 e]at z;rw[wB e]at q;refine z _ _ _ _ (kat_yes (kat_cons ?_));obtain⟨J,L,M⟩:=wm I 1 (A:=A) () (fQ (O1 (K:=X.K) k.2)) (fQ (O1 (K:=X.K) l.2)) rZ rfl;refine L _ _ _ _ ?_;cases J with
  |true=>
   have N:=cJ.mp (M.mp rZ);subst N;rw[qa]at q;refine kat_yes (kat_nil ?_);exact q
  |false=>
   refine kat_no (kat_one _ _ ?_);have O:t.length=v.length:=by simpa using n.length
   have T:u.length=B.length:=by simpa using p.length
   have r:=NW (A:=A) y G () (Md n p);rw[<-O,<-T]at r;exact show wpAny _ _ (richCompare .Lt _ _) _ _ _ from r _ _ _ _ q
 .rw[eQ e]at z;rw[wA e]at q;exact z _ _ _ _ (kat_no (Hb _ q))
theorem FY{g:bV->Int}(I:Inv X b d H s):∀{κs as:As} {ts:LN},KeysAt H g κs as ts->∃fs:Vs,KatTups s.heap (κs.map Value.ref) fs/\fs.length=κs.length/\∀f∈fs,∃i t,f=.int i t
 | [],as,ts,_=>#[[],.nil,rZ,λ_ z=>nomatch z]
 |κ::κs,[],ts,h=>by have:=h.l1;have:=h.l2;simp at *;lia
 |κ::κs,a::as,[],h=>by have:=h.l1;simp at this
 | κ::κs,a::as,t::ts,h=>by
  obtain⟨fs,c,j,k3⟩:=FY I (κs:=κs) (as:=as) (ts:=ts) #[by simpa using h.l1,by simpa using h.l2,λi κ a t k l m=>h.is (i+1) κ a t (by simpa using k) (by simpa using l) (by simpa using m)];obtain⟨o,v,p,n,q,r,u,_⟩:=DY I (h.is 0 κ a t rZ rZ rZ);exact#[_::fs,.cons q r u rZ c,by simp[j],λf hf=>by
   rcases dq.mp hf with e|hf
   .exact#[_,_,e]
   .exact k3 f hf]
def LI{A:Ar}{c p:As}{k:LN}(r:A.units+8<cLine)(I:Inv X b d H s)(B:1<=k.length)(h:KeysAt H g c p k):xu X.prog X.w A (c.map Value.ref) (λi j=>iO g (k.getD i []) (k.getD j [])) s:=by
 obtain⟨fs,u,D,k3⟩:=FY I h;have E:=h.l1;have G:=h.l2;refine kat_kind (T:= .type "int") u () (λf v=>?_) (by decide) #[rZ,λi j C m q w=>?_]
 .obtain⟨i,t,rfl⟩:=k3 f v;exact .now
 .rw[bZ]at m q;have l:∀{i:Nat},i<c.length->∃e a,(c.map Value.ref).getD i Value.none=.ref e/\xK H g e a (k.getD i []):=λ{i} m=>by
   obtain⟨e,n⟩:∃e,c[i]?=some e:=#[_,b8 m];obtain⟨a,o⟩:∃a,p[i]?=some a:=#[_,b8 ()];refine#[e,a,?_,h.is i e a _ n o (nj ()).1];rw[cP,cr,n];rfl
  obtain⟨e,a,n,x⟩:=l m;obtain⟨y,J,o,z⟩:=l q;show wpAny (model X.prog X.w) A (keyLt' _ ((c.map Value.ref).getD i Value.none) ((c.map Value.ref).getD j Value.none)) C _ s;rw[n,o];exact M0 r I x z w
end
inductive gG(g:bV->Int)(d:List V)(H:Hp)(Q:VK)(b:XK):Prop|mk:∀(a:Ad) (t:bV),d=[.ref a]->H a=some (.tup (t.map nv))->(∀e c,Same H c->c e=some (.tup [.int (g t),.ref a])->Q (.ref e) c)->gG g d H Q b
section
variable{X:Cx}{d:AO}{j:St}{n:Nat}{f:Ad}{m:Fd}{l:Ss}{g:bV->Int}
def LO{c:Sp}{H:Hp}{s:Sh}{Q:VK}{us:Vs}{vs:List V}(F:FnOk X.prog X.w X.K X.mg X.base cL n f m l c)(g:Room n X.A.in1.in1)(i:Binds X.K m l [])(I:Inv X d j H s)(r:Vals vs us)(h:c vs H Q E0):
  wpAny (model X.prog X.w) X.A.in1.in1 (call (.ref f) us) (EP X d j Q) (λ_ _=>False) s:=by
 have k:(us++[]).length=l.length:=by rw[gL,<-r.length];exact F.len _ _ _ _ h
 have b:=i s us I.kIn k;rw[gL]at b;refine td (mD (F.run X.A.in1.in1 X.stack s H #[us,[]] us vs Q E0 g I.env0.in1.in1 b r h) λr p a=>?_);cases r with
 |error e=>exact a.elim
 |ok o=>
  cases o with
  |ret u=>exact I.after a
  |next=>exact wE a
  |brk=>exact wE a
  |cont=>exact wE a
def Inv.pin2{H:Hp}{s:Sh}{b c:Ad}{o u:Obj}(I:Inv X d j H s)(a:FpOk X d H b)(e:FpOk X d H c)(f:s.heap.get? b=some o)(g:s.heap.get? c=some u)(h:∀v,o.data≠ .cell v)(i:∀v,u.data≠ .cell v):Inv X ((b,o)::(c,u)::d) j H s:=
 I.pins_of λp hp=>by
  rcases dq.mp hp with rfl|hp
  .exact#[f,a.1,a.2.1,a.2.2.1,h]
  .rcases dq.mp hp with rfl|hp
   .exact#[g,e.1,e.2.1,e.2.2.1,i]
   .exact I.pin p (ft _ hp)
def Inv.unpin2{H:Hp}{s:Sh}{b c:Ad}{o u:Obj}(I:Inv X ((b,o)::(c,u)::d) j H s):Inv X d j H s:=
 I.pins_of λp a=>I.pin p (ft _ (dR _ (dR _ a)))
def FpOk.to{H a:Hp}{b:Ad}(h:FpOk X d H b)(e:a b=none):FpOk X d a b:=#[e,h.2]
theorem Ih{E:VP}{y D:Ad}{J:Nat}{A:Vl->PUnit->Sem (ForInStep PUnit)}{Q:Sh->Prop}(F:FnOk X.prog X.w X.K X.mg X.base cL n f m l (gG g))(hr:Room n X.A.in1.in1)(hb:Binds X.K m l [])(ne:y≠D)(B:∀x (s:Sh) (C:VP) (Qy:Sh->Prop),wpAny (model X.prog X.w) X.A.in1.in1 (call (.ref f) [x]) C (λ_ _=>False) s->
   (∀k s',C k s'->∃aa c,s'.heap.get? y=some (seqObj "list" aa c)/\aa.size<64/\Qy {s' with heap:=s'.heap.update y (Obj.mapSeq (·.push k))})->wpAny (model X.prog X.w) X.A.in1.in1 (A x ⟨⟩) (λr s'=>r=.yield ⟨⟩/\Qy s') E s):
  ∀(r:As) (rt:LN) (H:Hp) (h:As) (c:Nat) (s:Sh),Inv X d j H s->TupsAt H r rt->s.heap.get? y=some (seqObj "list" (h.map Value.ref).toArray c)->s.heap.get? D=some (seqObj "list" #v[] J)->FpOk X d H y->FpOk X d H D->h.length+r.length<64->
   (∀L G c2 s2,Inv X d j L s2->Same H L->KeysAt L g G r rt->s2.heap.get? y=some (seqObj "list" ((h++G).map Value.ref).toArray c2)->s2.heap.get? D=some (seqObj "list" #v[] J)->FpOk X d L y->FpOk X d L D->Q s2)->
   wpAny (model X.prog X.w) X.A.in1.in1 (forIn (r.map Value.ref) PUnit.unit A) (λ_ s'=>Q s') E s
 | [],[],H,h,c,s,I,T,eS,eD,M,f2,_,q=>by
  rw[List.map_nil,List.forIn_nil];exact b9 (q H [] c s I (Same.refl _) #[rZ,rZ,λi p a t e=>by simp at e] (by rw[List.append_nil];exact eS) eD M f2)
 | [],_::_,H,h,c,s,I,T,eS,eD,M,f2,_,q=>by have:=T.len;simp at this
 |_::_,[],H,h,c,s,I,T,eS,eD,M,f2,_,q=>by have:=T.len;simp at this
 | a::r,t::rt,H,h,c,s,I,T,eS,eD,M,f2,ae,q=>by
  rw[gC]at ae;rw[eZ,List.forIn_cons];have ha:H a=some (.tup (t.map nv)):=T.is 0 a t rZ rfl;have I1:=I.pin2 M f2 eS eD (λ_ z=>nomatch z) (λ_ z=>nomatch z);have go:=LO (Q:=λv w=>∃p,v=.ref p/\Same H w/\w p=some (.tup [.int (g t),.ref a])) F hr hb I1 (us:=[.ref a]) (vs:=[.ref a]) (.cons rZ .nil) #[a,t,rZ,ha,λp w N e=>#[p,rZ,N,e]];refine bW (gJ (B _ s _ (λs'=>∃p w O,Inv X d j w s'/\Same H w/\w p=some (.tup [.int (g t),.ref a])/\s'.heap.get? y=some (seqObj "list" ((h++[p]).map Value.ref).toArray O)/\s'.heap.get? D=some (seqObj "list" #v[] J)/\FpOk X d w y/\FpOk X d w D) go λk s' hk=>?_) (λx s' hx=>?_) λ_ _ z=>z)
  .obtain⟨v,w,I',rv,p,rfl,N,U⟩:=hk;cases rv;obtain⟨p1,p2,p3,p4,_⟩:=I'.pin (y,_) (ft _ (dh ..));obtain⟨d1,d2,d3,d4,_⟩:=I'.pin (D,_) (ft _ (dR _ (dh ..)));obtain⟨O,af⟩:∃O,(s'.heap.update y (Obj.mapSeq (·.push (Value.ref p)))).get? y=some (seqObj "list" ((h++[p]).map Value.ref).toArray O):=by
    have ea:(List.map Value.ref h).toArray.push (.ref p)=((h++[p]).map Value.ref).toArray:=by simp
    rw[<-ea];exact#[_,uz p1 (·.push (Value.ref p))]
   refine#[_,_,p1,by rw[dS,bZ];lia,p,w,O,?_,N,U,af,?_,M.to p2,f2.to d2]
   .obtain⟨_,w1,w2,w3,w4,w5⟩:=M;exact I'.unpin2.turned (t':=s'.toks) (λb o nb e=>(iQ _ _ (eC nb)).trans e) p2 w1 w3 w4 w5
   .exact(iQ _ _ ne).trans d1
  .obtain⟨rfl,p,w,O,I',N,U,ag,ah,g1,g2⟩:=hx;show wpAny _ _ (forIn (r.map Value.ref) PUnit.unit A) _ E s';refine Ih F hr hb ne B r rt w (h++[p]) O s' I' #[by simpa using T.len,λi b u J e2=>N _ _ (T.is (i+1) b u (by simpa using J) (by simpa using e2))] ag ah g1 g2 (by rw[List.length_append];show h.length+1+r.length<64;lia) λL G c2 s2 I2 Y K2 ab ai h1 h2=>?_;refine q L (p::G) c2 s2 I2 (N.trans Y) #[by simp[K2.l1],by simp[K2.l2],λi aj b u J e2 e3=>?_] (by rw[List.append_assoc]at ab;exact ab) ai h1 h2;cases i with
   |zero=>
    cases J;cases e2;cases e3;exact#[Y _ _ U,(N.trans Y) _ _ ha]
   |succ i=>exact K2.is i aj b u (by simpa using J) (by simpa using e2) (by simpa using e3)
end
section
variable{X:Cx}{t:AO}{u:St}{H:Hp}{s:Sh}{B:Nat}{f D:Ad}{v:Fd}{w:Ss}{g:bV->Int}{r:As}{m:LN}{E:VP}
def L6{R:PySem.Fin->Sh->Prop}{n:Nat}(F:FnOk X.prog X.w X.K X.mg X.base cL B f v w (gG g))(hr:Room B X.A.in1.in1)(hb:Binds X.K v w [])(hu:X.A.units+64<cLine)(I:Inv X t u H s)(T:TupsAt H r m)(nd:m.Nodup)(am:m.length<64)(ho:s.heap.get? D=some (seqObj "list" (r.map Value.ref).toArray n)) (fD:FpOk X t H D)(q:∀U p s2 c,Inv X t u U s2->Same H U->Arr m.length p->pf (λi=>ja (iO g) m (m.getD i [])) p m.length->s2.heap.get? D=some (seqObj "list" (f8 (r.map Value.ref) p).toArray c)->FpOk X t U D->R (.done (.ret .none)) s2):
  wpAny (model X.prog X.w) X.A.in1.in1 (ksk_tree D (.ref f) false) R E s:=by
 have la:=T.len;have Y:(r.map Value.ref).length=m.length:=by rw[bZ,la]
 have lD:D<s.heap.objs.size:=cQ ho;obtain⟨d0,d1,d2,d3,d4,d5⟩:=fD
 let h1:=s.heap.update D (Obj.mapSeq λ_=>(#v[]:AV))
 obtain⟨L,aa⟩:∃L,h1.get? D=some (seqObj "list" #v[] L):=#[_,uz ho λ_=> #v[]];have I1:Inv X t u H {s with heap:=h1}:=I.turned (t':=s.toks) (λb o nb e=>(iQ _ _ (eC nb)).trans e) d0 d1 d3 d4 d5
 let G:=h1.push (seqObj "tuple" (r.map Value.ref).toArray 0)
 have I3:Inv X t u H {s with heap:=G.push (seqObj "list" #v[] 0)}:=I1.kept (t':=s.toks) λb o e=>xh e _ _;have ag:(G.push (seqObj "list" #v[] 0)).get? D=some (seqObj "list" #v[] L):=xh aa _ _;have ah:(G.push (seqObj "list" #v[] 0)).get? G.objs.size=some (seqObj "list" ((([]:As)).map Value.ref).toArray 0):=dW _ rfl;have lk:s.heap.objs.size<=G.objs.size:=by
  show _<=(h1.push _).objs.size;rw[size_push'];show _<=(s.heap.update D _).objs.size+1;rw[Heap.size_update];exact pE _
 have fk:FpOk X t H G.objs.size:=I.fpOk lk (I.hok.fresh lk);have ne:G.objs.size≠D:=mS (gm lD lk);unfold ksk_tree;refine bW (listItems_at ho rZ ?_);refine bW (u5 ho rZ ?_ (by rw[dS,cS];lia) (gc _));refine bW (yI aa rZ ?_);refine bW (wpAny_newTuple ?_ (by show(r.map Value.ref).length<=_;rw[cS];lia));refine bW (qq ?_ (gc _));refine gf ?_;show wpAny (model X.prog X.w) X.A.in1.in1 (ksk_rest D (.ref f) false (r.map Value.ref).toArray L (.ref G.objs.size)) R E {s with heap:=G.push (seqObj "list" #v[] 0)};unfold ksk_rest;refine bW (oY ?_);rw[List.forIn_toArray];refine bW (Ih F hr hb ne (λx s0 C Qy hx hC=>?_) r m H [] 0 _ I3 T ah ag fk #[d0,d1,d2,d3,d4,d5] (by simp;lia) λU J c2 s2 I2 gg K2 eS eD f1 f2=>?_)
 .refine bW (nI (gJ hx (λk s' hk=>?_) λ_ _ z=>z.elim));obtain⟨ai,c,e,l,qy⟩:=hC k s' hk;refine bW (u5 e rZ ?_ (by rw[cS];lia) (by show(ai.push k).size<=_;rw[ou,cS];lia));exact b9 #[rZ,qy]
 rw[List.nil_append]at eS;have ab:(J.map Value.ref).length=(r.map Value.ref).length:=by rw[bZ,Y,K2.l1]
 refine bW (listItems_at eS rZ ?_);have fin:∀(st:SortSt) (p:Array Nat),Arr m.length p->pf (λi=>ja (iO g) m (m.getD i [])) p m.length->(arrOf st).map (·.2)=(f8 (r.map Value.ref) p).toArray->failedOf st=none->
   wpAny (model X.prog X.w) X.A.in1.in1 (ksk_tail D false L (.ref G.objs.size) st) R E s2:=λst p ar up M hf=>by
  have sz:(f8 (r.map Value.ref) p).toArray.size=m.length:=by
   rw[dS,bZ,de,ar.size]
  unfold ksk_tail
  try dsimp only
  rw[M];have I4:Inv X t u U {s2 with heap:=s2.heap.update G.objs.size (Obj.mapSeq λ_=>(#v[]:AV))}:=by
   obtain⟨w0,w1,w2,w3,w4,w5⟩:=f1;exact I2.turned (t':=s2.toks) (λb o nb e=>(iQ _ _ (eC nb)).trans e) w0 w1 w3 w4 w5
  have N:(s2.heap.update G.objs.size (Obj.mapSeq λ_=>(#v[]:AV))).get? D=some (seqObj "list" #v[] L):=(iQ _ _ ne).trans eD;obtain⟨c5,aj⟩:∃c5,((s2.heap.update G.objs.size (Obj.mapSeq λ_=>(#v[]:AV))).update D (Obj.mapSeq λ_=>(f8 (r.map Value.ref) p).toArray)).get? D=some (seqObj "list" (f8 (r.map Value.ref) p).toArray c5):=#[_,uz N λ_=>(f8 (r.map Value.ref) p).toArray];refine bW (u5 eS rZ ?_ (by rw[dS,cS];lia) (gc _));refine bW (rj ?_);refine bW (yI N rZ ?_);refine bW (u5 N rZ ?_ (gc _) (by show(f8 (r.map Value.ref) p).toArray.size<=_;rw[sz,cS];lia));rw[hf];simp only[bne_self_eq_false,Bool.false_eq_true,if_false];refine b9 (q U p _ c5 ?_ gg ar up aj f2);obtain⟨w0,w1,w2,w3,w4,w5⟩:=f2;exact I4.turned (t':=s2.toks) (λb o nb e=>(iQ _ _ (eC nb)).trans e) w0 w1 w3 w4 w5
 unfold ksk_end;simp only[Bool.false_eq_true,if_false];by_cases an:2<=m.length
 .have n2: ¬(r.map Value.ref).toArray.size<2:=by rw[dS];lia
  rw[wA n2,wA n2];have To:=qk g m;have inj:=CV (d:=([]:bV)) To nd;refine bW (gJ (LI (A:=X.A.in1.in1) (by show X.A.units+1+1+8<cLine;lia) I2 () K2) (λκ s0 hk=>?_) λ_ _ x=>x.elim);obtain⟨rfl,hk⟩:=hk;have al:J.length=m.length:=K2.l1;have ae:(J.map Value.ref).Nodup:=by
   refine ke.mpr λi j hi hj ij z=>?_;rw[ry,ry]at z;rw[bZ]at hi hj;have z:=Value.ref.inj z;have L:=K2.is i J[i] (r[i]'()) (m[i]'()) (b8 hi) (b8 _) (b8 _);have e2:=K2.is j J[j] (r[j]'()) (m[j]'()) (b8 hj) (b8 _) (b8 _);obtain⟨L,ak⟩:=L;obtain⟨e2,af⟩:=e2;rw[z,e2]at L;have ea:r[j]'()=r[i]'():=by
    have y:=fL L;injection y with y
    injection y with _ y
    injection y with y
    exact V.ref.inj y
   rw[ea]at af;have et:m[j]'()=m[i]'():=by
    have y:=fL (af.symm.trans ak);injection y with y
    exact(List.map_inj_right (f:=nv) λa b h=>zH (V.int.inj h)).mp y
   have e4:=(jk (i:=j) (j:=i) () nd).mp (by rw[b8 (),b8 (),et]);lia
  refine bW (gJ (HL (ks:=J.map Value.ref) (vs:=r.map Value.ref) (k:=λi=>ja (iO g) m (m.getD i [])) (Q:=λO s'=>s'=s0/\∃p:Array Nat,Arr m.length p/\pf (λi=>ja (iO g) m (m.getD i [])) p m.length/\(arrOf O).map (·.2)=(f8 (r.map Value.ref) p).toArray/\failedOf O=none) ab () ae (by rw[Y];exact inj) (λi j C li lj hC=>hk i j C () () (by
   have e:=To.asks (nj (d:=([]:bV)) (show i<m.length by lia)).2 (nj (d:=([]:bV)) (show j<m.length by lia)).2;show C (iO g (m.getD i []) (m.getD j [])) _
   rw[<-e];exact hC)) λp O a1 a2 a3 a4=>#[rZ,p,by rw[<-Y];exact a1,by rw[<-Y];exact a2,a3,a4]) ?_ λ_ _ x=>x)
  rintro⟨⟨⟩,st⟩ s' ⟨rfl,p,ar,up,M,hf⟩;exact fin st p ar up M hf
 .have n2:(r.map Value.ref).toArray.size<2:=by rw[dS];lia
  rw[wB n2,wB n2];refine bW (b9 (bW (b9 ?_)));refine fin _ (List.range m.length).toArray (B8 _) (λx y xy yn=>by lia) ?_ rfl;rw[<-Y,Hq];exact Fa ab
end
section
variable{X:Cx}{j:AO}{m:St}{H:Hp}{s:Sh}{d:Ad}{c:List (List cy×V)}{g:LN}
def G2(I:Inv X j m H s)(h:H d=some (.dT c))(e:c.map (·.1)=g.map nk):∃M n D,Lies s.heap d n D/\(d==sysModules)=false/\TupsAt H M g/\(∀(i:Nat) (E:DictEntry),n[i]?=some E->∃a,M[i]?=some a/\E.key=.ref a)/\n.size=g.length/\g.Nodup/\g.length<=sizeLine:=by
 obtain⟨z,U,w,l,o,n,D,Y,e2,e3,N,nd⟩:=(show ObjOk X.prog X.w H s.heap d (.dT c)from I.hok d _ h);have l1:c.length=w.length:=oG l;have l2:c.length=g.length:=by rw[<-bZ (f:=(·.1)) (as:=c),e,bZ]
 have le:n.size=w.length:=wN N;have G:∀(i:Nat) (t:bV),g[i]?=some t->∃k v y u,c[i]?=some (k,v)/\w[i]?=some (k,y,u)/\k=nk t/\H y=some (.tup (t.map nv)):=λi t B=>by
  have li:=(cg.mp B).1;obtain⟨⟨k,v⟩,r⟩:∃p,c[i]?=some p:=#[_,b8 ()];obtain⟨⟨k',y,u⟩,x,J,p2,p3⟩:=wu l r;have O:k=nk t:=by
   have C:(c.map (·.1))[i]?=some k:=by rw[cr,r];rfl
   rw[e,cr,B]at C;exact(fL C).symm
  have L:k=k':=J;subst L;refine#[k,v,y,u,r,x,O,?_];have A:H y=some (.tup (k.map kV)):=p2;rw[O,gO]at A;exact A
 refine#[w.map (·.2.1),n,D,#[o,Y,e2,e3],U,#[by rw[bZ];lia,λi b t Q B=>?_],λi E T=>?_,(),?_,()]
 .obtain⟨k,v,y,u,_,x,_,hy⟩:=G i t B;rw[cr,x]at Q;cases Q;exact hy
 .rw[entry_at N]at T;obtain⟨q,eq,rfl⟩:=da.mp T;exact#[q.2.1,by rw[cr,eq];rfl,rZ]
 .have C:(w.map (·.1))=g.map nk:=by
   rw[<-e];refine lR λi=>?_;rw[cr,cr];cases r:c[i]? with
   |none=>rw[ie (by rw[<-l1];exact xl.mp r)];rfl
   |some p=>
    obtain⟨q,x,J,_⟩:=wu l r;rw[x];exact dw some J.symm
  rw[C]at nd;exact(sw.mp nd).imp λh z=>h (dw nk z)
def GP{e:As}{d:Array DictEntry}{b:AV}(is:∀(i:Nat) (c:DictEntry),d[i]?=some c->∃a,e[i]?=some a/\c.key=.ref a)(m:e.length=d.size)(it:ItemsOf (λi v=>∃c,d[i]?=some c/\v=c.key) b d.size):b.toList=e.map Value.ref:=by
 refine lR λi=>?_;by_cases h:i<d.size
 .obtain⟨v,f⟩:∃v,b[i]?=some v:=#[_,fX (by rw[it.1];exact h)];obtain⟨c,g,j⟩:=it.2 i v f;obtain⟨a,k,l⟩:=is i c g;rw[fh,f,cr,k,j,l];rfl
 .rw[ie (by rw[de,it.1];lia),ie (by rw[bZ];lia)]
theorem DL:∀l:As,Vals (l.map V.ref) (l.map Value.ref)
 | []=> .nil
 |x::l=> .cons rZ (DL l)
end
section
variable{X:Cx}
inductive iF(g:bV->Int)(f:List V)(H:Hp)(Q:VK):Prop|mk:∀d a c,f=[V.ref d]->H d=some (.dT a)->a.map (·.1)=c.map nk->c.length<64->(∀D bs e b,Same H b->H D=none->b D=some (.lst (bs.map V.ref))->TupsAt b bs e->e.Perm c->e.Pairwise (λx y=>iO g x y=true)->Q (.ref D) b)->iF g f H Q
def Gp{a:As}{p:Array Nat}(b:Arr a.length p):f8 (a.map Value.ref) p=(p.toList.map λi=>a.getD i 0).map Value.ref:=by
 unfold f8;rw[eY];refine hK λi c=>?_;have d:i<a.length:=by
  have m:=(lM.mp b).mem_iff.mp c;simpa using m
 show(a.map Value.ref).getD i Value.none=Value.ref (a.getD i 0);rw[cP,cP,cr,b8 d];rfl
def Lx{x:Nat}{f:Ad}{y:Fd}{B:Ss}{g:bV->Int}{k:AO}{n:St}{H:Hp}{s:Sh}{Q:VK}{d:Ad}(N:X.calm=true)(O:X.A.units+64<cLine)(F:FnOk X.prog X.w X.K X.mg X.base cL x f y B (gG g))(U:Room x X.A.in1.in1)(Y:Binds X.K y B [])(I:Inv X k n H s)(h:iF g [.ref d] H Q):wpAny (model X.prog X.w) X.A (call (.builtin "sorted") [.ref d] [(Str.ofString "key",.ref f)]) (EP X k n Q) X.xe s:=by
 obtain⟨d',aa,ts,e0,hd,e,u,q⟩:=h;cases e0;obtain⟨a,es,ep,L,nm,T,is,le,nd,v⟩:=G2 I hd e;refine call_function_entry_kw zS x8 zW (ksk_s1 _ _) ?_;unfold Builtin.«sorted»;refine bW (m:=checkCount "sorted" 1 1 _) (b9 ?_);refine bW (kdu_collect (A:=X.A.in1) (v8 nm) (by simpa using I.ok.hd N) L () λj r ab keep it=>?_);have ea:=GP is (by rw[T.len,le]) it;rw[ea];have t:Inv X k n H {s with heap:=j,toks:=r}:=I.kept keep;refine bW (qq ?_ (by rw[bZ,T.len,cS];lia));have C:(j.push (seqObj "list" (a.map Value.ref).toArray 0)).get? j.objs.size=some (seqObj "list" (a.map Value.ref).toArray 0):=dW _ rfl;have I2:Inv X k n H {s with heap:=j.push (seqObj "list" (a.map Value.ref).toArray 0),toks:=r}:=t.kept (t':=r) λb o z=>cV _ z;have D:H j.objs.size=none:=t.hok.fresh (cm _);have fD:FpOk X k H j.objs.size:=t.fpOk (cm _) D;refine bW (gf (wpAny_call_entry_kw AC #[_,C,rZ] Ax (L6 (s:={s with heap:=j.push (seqObj "list" (a.map Value.ref).toArray 0),toks:=r}) F U Y O I2 T nd u C fD λH2 p s2 c Iz E l up G f2=>#[_,rfl,?_]) (ksk_l1 _ _)));have w:Arr a.length p:=by rw[T.len];exact l
 rw[Gp w]at G;have T2:=(T.same E).pick l;obtain⟨J,w1,w2,w3,w4,w5⟩:=f2;have few:((p.toList.map λi=>a.getD i 0).map V.ref).length<=sizeLine:=by
  rw[bZ,bZ,de,l.size];exact v
 have I5:=Iz.track (o:= .lst ((p.toList.map λi=>a.getD i 0).map V.ref)) J #[few,_,c,DL _,G] (cW t.sz (cm _)) w1 w4 w5;have M:=cn J (.lst ((p.toList.map λi=>a.getD i 0).map V.ref));exact b9 #[_,rZ,.ref j.objs.size,_,I5,rZ,q _ _ _ _ (E.trans M) D cb (T2.same M) (CJ l) (Bh (qk g ts) l up)]
def Km(g:bV->Int)(a:TE):TE:=λb H Q=>a b H λx c=>∃d,x=.ref d/\iF g [.ref d] c Q
def KU{n:Nat}{v:Ss}{g:bV->Int}{b:Str}{e:Expr}{c:TE}{p w y a:Pos}(z:X.calm=true)(A:X.A.units+64<cLine)(B:cT X.prog X.w X.K X.mg X.base b n v (gG g))(C:Room (n+2) X.A)(D:Gl X "sorted")(E:X.mg "sorted"=none)(i:Gl X b)(G:PE X e c)(j:(b==("__debug__":Str))=false:=by decide) (k:starEach [e] X.env=[(false,eval e X.env)]:=by rfl):PE X (.Call (.Name "sorted" p) [e] [#[some "key",.Name b w,y]] a) (Km g c):=by
 intro J s L H Q I h;obtain⟨f,T,F,l,U,M⟩:=B;refine pA (uk I D E rW ?_);refine callWith_kw ?_ (by rw[k];rfl) (by rw[k];rfl);have N:PA X [e] (i5 c i9):=cu G cj k;refine cB (N a J s L H (λm o=>match m with| [x]=>∃d,x=.ref d/\iF g [.ref d] o Q|_=>False) I h) λY s1 ⟨m,o,t,r,q⟩=>?_
 match m,r,q with
 | [x],r,q=>
  obtain⟨d,rfl,q⟩:=q;obtain⟨u,rfl,O⟩:=gD r;cases O;refine kws_cons (wL t i l (kws_nil ?_) j);exact Lx z A F C.in1.in1 M t q
end
end L2
namespace L2
open PySem PySem.Spec PyProof.Rows
section
variable{X:Cx}{g:AO}{j:St}{H:Hp}{s:Sh}{d:Ad}{c:List (List cy×V)}{ts:LN}{o:Obj}
def Inv.freeze(I:Inv X g j H s)(h:H d=some (.dT c))(e:s.heap.get? d=some o):Inv X g j (bX H d (.frz o (.dT c))) s:=by
 obtain⟨z,b,f,a,i,k,l,m,n,t,u,nd⟩:=(show ObjOk X.prog X.w H s.heap d (.dT c)from I.hok d _ h);refine I.write (x:=d) (e:=d) (h':=s.heap) (t':=s.toks) (by rw[h];exact True.intro) (.inl rfl) (λ_ _ _ q=>q) #[o,e] #[e,z,b,f,Paired.mapP a λp q r=>#[r.1,?_,r.2.2],i,k,l,m,n,t,u,nd];rw[cf (nE r.2.1 h)];exact r.2.1
def DT(I:Inv X g j H s)(h:H d=some (.frz o (.dT c)))(e:c.map (·.1)=ts.map nk):∃A l r,s.heap.get? d=some o/\o.ExactDict/\o.data=.dict l r/\(d==sysModules)=false/\TupsAt H A ts/\(∀(i:Nat) (w:DictEntry),l[i]?=some w->∃a,A[i]?=some a/\w.key=.ref a)/\l.size=ts.length:=by
 obtain⟨B,z,N,x,m,o',l,r,C,O,Q,D,nd⟩:=(show ObjOk X.prog X.w H s.heap d (.frz o (.dT c))from I.hok d _ h);rw[B]at C;cases C;have l1:c.length=x.length:=oG m;have l2:c.length=ts.length:=by rw[<-bZ (f:=(·.1)) (as:=c),e,bZ]
 have le:l.size=x.length:=wN D;refine#[x.map (·.2.1),l,r,B,O,Q,N,#[by rw[bZ];lia,λi b t E G=>?_],λi w J=>?_,()]
 .have li:=(cg.mp G).1;obtain⟨⟨k,v⟩,L⟩:∃p,c[i]?=some p:=#[_,b8 ()];obtain⟨⟨k',y,u⟩,T,p1,U,p3⟩:=wu m L;have Y:k=nk t:=by
   have M:(c.map (·.1))[i]?=some k:=by rw[cr,L];rfl
   rw[e,cr,G]at M;exact(fL M).symm
  rw[cr,T]at E;cases E;have n:H y=some (.tup (k.map kV)):=U;rw[Y,gO]at n;exact n
 .rw[entry_at D]at J;obtain⟨q,eq,rfl⟩:=da.mp J;exact#[q.2.1,by rw[cr,eq];rfl,rZ]
end
def rk(d:Ad)(o:Obj):It:=
  #[λi H=>∃(b:List (List cy×V)) (c:LN) (t:bV),H d=some (.frz o (.dT b))/\b.map (·.1)=c.map nk/\c[i]?=some t,
   λi H x e=>e=H/\∃a,x=.ref a/\∀(b:List (List cy×V)) (c:LN),H d=some (.frz o (.dT b))->b.map (·.1)=c.map nk->∃t:bV,c[i]?=some t/\H a=some (.tup (t.map nv)),
   λi H=>∃b,∃c:LN,H d=some (.frz o (.dT b))/\b.map (·.1)=c.map nk/\c.length<=i]
def La{c d:LN}(h:c.map nk=d.map nk):c=d:=vh (λa b e=>sh e) h
def Mb{P:Pg}{w:World}{K:O2}{tg:Expr}{d it:Ad}{o:Obj}{x:Array DictEntry}{ep:Nat}(ne:d≠it)(j:o.data=.dict x ep)(ox:o.ExactDict):b7z P w K tg (rk d o) [it] it (λi h=>h.get? it=some (pS d i x.size ep)) where
 mem:=by simp
 obj:=λi h st b c=>by
  have e:b=it:=by simpa using c
  subst e;exact#[_,st,λv z=>by
   have z':Data.fields _=Data.cell v:=z;cases z']
 keep:=λi h l st k=>k it (by simp) _ st
 item:=by
  intro X y hw A hc i za s σ H E I m st B;subst y hw A;obtain⟨C,ts,t,p,r,u⟩:=B;obtain⟨as,D,G,J,e2,f,nm,T,is,le⟩:=DT I p r;rw[j]at f;cases f;obtain⟨L,M,f2,N,O,U⟩:=m it (by simp);have li:=(cg.mp u).1;obtain⟨Y,ee⟩:∃Y,x[i]?=some Y:=#[_,fX ()];obtain⟨a,ea,ek⟩:=is i Y ee;refine GV st #[o,J,ox,j] ee λl g sb=>?_;have I1:Inv X za σ H {s with heap:=l}:=I.turned (t':=s.toks) (λb o c e=>(sb.2 b c).trans e) L M N O U;refine#[_,rZ,Ac (s:={s with heap:=l}) (n:="dict_keyiterator") g rfl rfl (by decide) #[.ref a,H,I1,ek,#[rfl,a,rfl,λaa ab g1 g2=>?_],g,λb c=>(m b c).1]];rw[p]at g1;cases g1;have tt:=La (r.symm.trans g2);subst tt;exact#[t,u,T.is i a t ea u]
 done:=by
  intro X y hw A hc i za s σ H E I m st B;subst y hw A;obtain⟨C,ts,p,r,u⟩:=B;obtain⟨as,D,G,J,e2,f,nm,T,is,le⟩:=DT I p r;rw[j]at f;cases f;obtain⟨L,M,f2,N,O,U⟩:=m it (by simp);exact EC (I.ok.hd hc) st #[o,J,ox,j] (zo ()) λl eb=>#[rZ,I.turned (t':=s.toks) (λb o c e=>eb b o c e) L M N O U]
 self:=λ_ i s Q E st q=>by
  have ty:s.TypeIs (.ref it) "dict_keyiterator":=#[_,st,rZ];refine pJ ty zT (iG zT ty HH ?_ (Eu _));exact show wpAny _ _ (ret (.ref it)) _ _ s from b9 #[_,rZ,"dict_keyiterator",_,ty,se.lookup,q]
section
variable{X:Cx}{a:Expr}
def Mu(H:Hp)(d:Ad)(o:Obj)(a:List (List cy×V))(b:Hp):Prop:=(H d=some (.frz o (.dT a))/\b=H)\/(H d=some (.dT a)/\b=bX H d (.frz o (.dT a)))
def xP(e:TE):TI:=λf H R=>e f H λx b=>∃d a,∃g:LN,x=.ref d/\a.map (·.1)=g.map nk/\(b d=some (.dT a)\/∃o,b d=some (.frz o (.dT a)))/\∀o c,Mu b d o a c->R (rk d o) c
def EI{l:Expr}{tl:TE}(z:PE X l tl):PI X a l (xP tl):=by
 intro m s n H R I h;refine cB (z m s n H _ I h) λv f ⟨x,t,p,A,B⟩=>?_;obtain⟨d,g,G,e,C,w,q⟩:=B;subst e;cases A;have go:∀(i:Hp) (o:Obj),Inv X m n i f->i d=some (.frz o (.dT g))->R (rk d o) i->wpAny (model X.prog X.w) X.A (pyIter (.ref d)) (A1 X m n a R) X.xe f:=λi o j c r=>by
  obtain⟨J,L,M,k,u,y,D,T,is,N⟩:=DT j c C;refine D9 D #[o,k,u,y] ?_;refine#[f.heap.objs.size,[f.heap.objs.size],_,_,i,rZ,j.kept (t':=f.toks) λb o e=>cV _ e,Mb (dP (cQ k)) y u,dW _ rZ,λb E=>?_,r];have e:b=f.heap.objs.size:=by simpa using E
  subst e;exact j.fpOk (cm _) (j.hok.fresh (cm _))
 rcases w with c|⟨o,c⟩
 .obtain⟨_,_,_,_,o,_,_,k,_⟩:=(show ObjOk X.prog X.w t f.heap d (.dT g)from p.hok d _ c);exact go _ o (p.freeze c k) cb (q o _ (.inr #[c,rZ]))
 .exact go t o p c (q o _ (.inl #[c,rZ]))
end
section
variable{d:Ad}{o:Obj}{f:List (List cy×V)}{c:LN}{j:Ss}{g:TG}{k:TT}{l:TE}{h:St}{H:Hp}{Fin:List V->Hp->Prop}
def KW(u:f.map (·.1)=c.map nk)(Pv:Nat->List V->Hp->Prop)(N:c.length<=sizeLine)(x:Pv 0 [] H)(z:∀i n H,i<=c.length->Pv i n H->H d=some (.frz o (.dT f))/\n.length<=i)(A:∀i a t n H,c[i]?=some t->H a=some (.tup (t.map nv))->Pv i n H->g (.ref a) (j3 j h) H λr B=>s9 (j3 j h) r/\k r B λb w=>if b=true then l r w λy C=>Pv (i+1) (n++[y]) C else Pv (i+1) n w)(D:∀n H,Pv c.length n H->Fin n H):pd j g k l h (rk d o) H Fin:=by
 refine#[λi m n H=>m=c.length-i/\i<=c.length/\Pv i n H,#[c.length,by simp,Nat.zero_le _,x],?_];rintro i m n H ⟨rfl,E,p⟩;obtain⟨q,O⟩:=z i n H E p;by_cases s:i<c.length
 .refine .inr #[#[f,c,c[i],q,u,by simp[s]],(),Pv (i+1),λQ G I=>#[c.length-(i+1),Nat.sub_succ_lt_self _ _ s,rZ,s,I],λv G y=>?_];obtain⟨e,a,J,y⟩:=y;subst e J;obtain⟨t,L,M⟩:=y f c q u;exact A i a t n _ L M p
 .have e:i=c.length:=by lia
  subst e;exact .inl #[#[f,c,q,u,cm _],(),D n H p]
end
section
variable{d:Ad}{o:Obj}{c:List (List cy×V)}{ts:LN}{g:TG}{f:TS}{D:Ends}{b:St}{H:Hp}
def OC(n:c.map (·.1)=ts.map nk)(Pv:Nat->St->Hp->Prop)(u:Pv 0 b H)(v:∀i b H,i<=ts.length->Pv i b H->H d=some (.frz o (.dT c)))(w:∀i a t b H,ts[i]?=some t->H a=some (.tup (t.map nv))->Pv i b H->g (.ref a) b H λh r=>f {D with nx:=Pv (i+1),ct:=Pv (i+1),bk:=D.nx} h r) (z:∀b H,Pv ts.length b H->D.nx b H):
  ∃W:Nat->Nat->St->Hp->Prop,(∃m,W 0 m b H)/\∀i m b H,W i m b H->
   ((rk d o).stop i H/\D.nx b H)\/((rk d o).go i H/\∃N:St->Hp->Prop,(∀j k,N j k->∃s,s<m/\W (i+1) s j k)/\∀x k,(rk d o).yld i H x k->g x b k λh r=>f {D with nx:=N,ct:=N,bk:=D.nx} h r):=by
 refine#[λi m b H=>m=ts.length-i/\i<=ts.length/\Pv i b H,#[ts.length,by simp,Nat.zero_le _,u],?_];rintro i m b H ⟨rfl,A,p⟩;have q:=v i b H A p;by_cases l:i<ts.length
 .refine .inr #[#[c,ts,ts[i],q,n,by simp[l]],Pv (i+1),λj k B=>#[ts.length-(i+1),Nat.sub_succ_lt_self _ _ l,rZ,l,B],λx k y=>?_];obtain⟨e,a,C,y⟩:=y;subst e C;obtain⟨t,E,G⟩:=y c ts q n;exact w i a t b _ E G p
 .have e:i=ts.length:=by lia
  subst e;exact .inl #[#[c,ts,q,n,cm _],z b H p]
end
section
variable{X:Cx}{a:AO}{d:St}{H:Hp}{s:Sh}{h':Heap}{t':Nat}
def Inv.turnedN{ch:As}(I:Inv X a d H s)(k:∀b o,b∉ch->s.heap.get? b=some o->h'.get? b=some o)(h:∀b∈ch,FpOk X a H b):Inv X a d H {s with heap:=h',toks:=t'}:=by
 have i:∀b u,H b=some u->b∉ch:=λb u e f=>by rw[(h b f).1]at e;cases e
 refine I.step (h':=h') (H':=H) (g':=s.gens) (t':=t') (d':=s.drawn) (ch:=ch) (λb f=>?_) (λb o _ _ g e _=>k b o g e) (λb o _ _ g e _=>#[o.slots,k b o g e]) (λb o _ _ n=>n) (λb o g e=>#[o,k b o g e])
  (λb w q=>q) (λb o u q=>q) (λb x q=>#[#v[],by rw[q];simp]) (λm j=>?_) (λb u q=>?_) I.bare
 .obtain⟨_,l,_,p,r,t⟩:=h b f;exact#[p,l,r,t]
 .exact j.at' λo e=>k _ o (λf=>(h _ f).2.1 rZ) e
 .refine(I.hok b u q).stay (λc o v e=>k c o ?_ e) (λ_ z=>z) λ_ _ z=>z
  rcases v with z|z
  .rw[z];exact i b u q
  .exact i c _ z
end
def vX(K:O2)(l:Ad):It:=
  #[λi H=>∃a x,SqL K H l a/\a[i]?=some x,
   λi H v b=>∃T x,v=.ref T/\H T=none/\b=bX H T (.tup [.int (i:Nat),x])/\∀a,SqL K H l a->a[i]?=some x,
   λi H=>∃a,SqL K H l a/\a.length<=i]
def LD(e it l:Ad)(i:Nat)(h:Heap):Prop:=(∃old,IsEnum h e it (i:Nat) old)/\h.IsListIter it l i
def L7{P:Pg}{w:World}{K:O2}{j:List Expr}{x1:Nat}{A:Pos}{e it l:Ad}(ne:e≠it):b7z P w K (.Tuple j x1 A) (vX K l) [e,it] e (λi h=>LD e it l i h) where
 mem:=dh ..
 obj:=λi h Z b d=>by
  obtain⟨⟨old,c⟩,o,f,p,B⟩:=Z;simp only[List.mem_cons,List.not_mem_nil,or_false]at d
  rcases d with rfl|rfl
  .exact#[_,c,λv q=>by cases q]
  .exact#[_,f,λv q=>by rw[B]at q;cases q]
 keep:=λi h m Z k=>by
  obtain⟨⟨old,c⟩,o,f,p,B⟩:=Z;exact#[#[old,k e (by simp) _ c],o,k it (by simp) _ f,p,B]
 item:=by
  intro X C hw D T i r s t H E I n Z G;subst C hw D;obtain⟨xs,x,y,U⟩:=G;obtain⟨⟨old,c⟩,f⟩:=Z;obtain⟨J,L,M,_⟩:=I.list y;obtain⟨u,hu,ru⟩:=L.get U;refine wpAny_pyNext_enum_item c f M.isList (x:=u) (by simpa using hu) ne λm ho N hT hs k=>?_;have I1:Inv X r t H {s with heap:=m,toks:=s.toks+1}:=I.turnedN (ch:=[e,it]) (t':=s.toks+1) (λb o g O=>k b o (λz=>g (by simp[z])) (λz=>g (by simp[z])) O) n;have nT:H s.heap.objs.size=none:=I.hok.fresh (cm _);have ok:ObjOk X.prog X.w (bX H s.heap.objs.size (.tup [.int (i:Nat),x])) m s.heap.objs.size (.tup [.int (i:Nat),x]):=#[by show 2<=sizeLine;decide,[_,u],.cons #[_,rZ] (.cons ru .nil),#[_,hT,rZ,_,rZ,rZ]];have I2:Inv X r t (bX H s.heap.objs.size (.tup [.int (i:Nat),x])) {s with heap:=m,toks:=s.toks+1}:=Inv.trackNew I I1 ok;refine#[_,rZ,wpAny_letOwnedTupleGo_enum ho λp Q Y=>?_];have le:e<s.heap.objs.size:=cQ c;have li:it<s.heap.objs.size:=by obtain⟨_,z,_⟩:=f;exact cQ z
  have a:∀b∈[e,it],bX H s.heap.objs.size (.tup [.int (i:Nat),x]) b=none:=λb d=>by
   have g:b≠s.heap.objs.size:=by
    simp only[List.mem_cons,List.not_mem_nil,or_false]at d
    rcases d with rfl|rfl
    .exact dP le
    .exact dP li
   rw[cf g];exact(n b d).1
  obtain⟨f0,f1,f2,f3,f4,f5⟩:=n e (dh ..);have I3:Inv X r t (bX H s.heap.objs.size (.tup [.int (i:Nat),x])) {s with heap:=p,toks:=s.toks+1}:=I2.turned (t':=s.toks+1) (λb o g e=>Y.extBut b o g e) (a e (dh ..)) f1 f3 f4 f5;refine#[.ref s.heap.objs.size,_,I3,rZ,#[_,x,rZ,nT,rZ,λaa h=>?_],#[#[_,Q],?_],a]
  .rw[I.list_inj h y];exact U
  .obtain⟨o,z1,z2,z3⟩:=N;exact#[o,Y.extBut _ _ (eC ne) z1,z2,z3]
 done:=by
  intro X C hw D T i r s t H E I n Z G;subst C hw D;obtain⟨xs,y,he⟩:=G;obtain⟨⟨old,c⟩,f⟩:=Z;obtain⟨J,L,M,_⟩:=I.list y;have l1:=L.length;refine wpAny_pyNext_enum_end (I.ok.hd T) c f M.isList (by simp;lia) λm k=>#[rZ,?_];exact I.turnedN (ch:=[it]) (t':=s.toks) (λb o g O=>k b o (λz=>g (by simp[z])) O) λb d=>n b (by rw[List.mem_singleton.mp d];simp)
 self:=λ_ _ _ _ _ Z q=>by
  obtain⟨⟨old,c⟩,_⟩:=Z;exact wpAny_pyIter_enum c q
section
variable{X:Cx}
def xV(K:O2)(b:TA):TI:=λc H R=>b c H λd a=>∃l e,d=[.ref l]/\SqL K a l e/\R (vX K l) a
def DF{c:List Expr}{w:Nat}{x:Pos}{a:Expr}{m:TA}{p d:Pos}(y:Gl X "enumerate")(z:X.mg "enumerate"=none)(A:PA X [a] m)(B:starEach [a] X.env=[(false,eval a X.env)]:=by rfl):PI X (.Tuple c w x) (.Call (.Name "enumerate" p) [a] [] d) (xV X.K m):=by
 intro n s o H R I h;refine Call_ (uk I y z PyProof.Rows.boot_enumerate (BF (cB (A d n s o H _ I h) λM s1 ⟨N,r,f,C,g⟩=>?_) (by rw[B];rfl) (by rfl)));obtain⟨l,O,e,g,q⟩:=g;subst e;obtain⟨Q,rfl,i⟩:=gD C;cases i;obtain⟨D,T,E,_⟩:=f.list g;have j:=E.isList;refine call_enumerate_list j λG t J sz k=>wpAny_pyIter_enum t ?_;have L:Inv X n o r {s1 with heap:=G}:=f.kept (t':=s1.toks) k;refine#[_,_,_,_,r,rZ,L,L7 (l:=l) (mS (iW _)),#[#[_,t],J],λb u=>?_,q];have v:s1.heap.objs.size<=b:=by
  simp only[List.mem_cons,List.not_mem_nil,or_false]at u
  rcases u with e|e<;>(rw[e];first|exact cm _|exact nA _ _)
 exact f.fpOk v (f.hok.fresh v)
end
section
variable{K:O2}{l:Ad}{xs:List V}{g:TG}{b:TS}{D:Ends}{a:St}{H:Hp}
def Ck(Pv:Nat->St->Hp->Prop)(n:Pv 0 a H)(o:∀i a H,i<=xs.length->Pv i a H->SqL K H l xs)(r:∀i T x a H,xs[i]?=some x->H T=none->Pv i a H->g (.ref T) a (bX H T (.tup [.int (i:Nat),x])) λc j=>b {D with nx:=Pv (i+1),ct:=Pv (i+1),bk:=D.nx} c j) (s:∀a H,Pv xs.length a H->D.nx a H):
  ∃W:Nat->Nat->St->Hp->Prop,(∃m,W 0 m a H)/\∀i m a H,W i m a H->
   ((vX K l).stop i H/\D.nx a H)\/((vX K l).go i H/\∃N:St->Hp->Prop,(∀d f,N d f->∃k,k<m/\W (i+1) k d f)/\∀x f,(vX K l).yld i H x f->g x a f λc j=>b {D with nx:=N,ct:=N,bk:=D.nx} c j):=by
 refine#[λi m a H=>m=xs.length-i/\i<=xs.length/\Pv i a H,#[xs.length,by simp,Nat.zero_le _,n],?_];rintro i m a H ⟨rfl,t,p⟩;have q:=o i a H t p;by_cases h:i<xs.length
 .refine .inr #[#[xs,xs[i],q,by simp[h]],Pv (i+1),λd f u=>#[xs.length-(i+1),Nat.sub_succ_lt_self _ _ h,rZ,h,u],λv f y=>?_];obtain⟨T,x,rfl,w,rfl,y⟩:=y;exact r i T x a _ (y xs q) w p
 .have e:i=xs.length:=by lia
  subst e;exact .inl #[#[xs,q,cm _],s a H p]
end
open PySem PySem.Spec PySem.W PyProof.Rows
section
variable{X:Cx}
inductive iJ(e:List V)(H:Hp)(Q:VK):Prop|mk:∀d a b,e=[V.ref d]->H d=some (.dT a)->a.map (·.1)=b.map nk->(∀t∈b,t≠[])->b.length<=4000->(∀D bs c,H D=none->TupsAt H bs c->c.Perm b->c.Pairwise (λx y=>d8 x y=true)->Q (.ref D) (bX H D (.lst (bs.map V.ref))))->iJ e H Q
def LJ(hc:X.calm=true):hG X (.builtin "sorted") iJ:=by
 intro G s J H xs us Q I rr h;obtain⟨d,ae,g,rfl,hd,e,ne,few,q⟩:=h;obtain⟨u,rfl,ru⟩:=gD rr;cases ru;obtain⟨n,es,ep,L,nm,f,is,le,nd,M⟩:=G2 I hd e;refine Ag zS x8 zW (args_sorted1 _) ?_;unfold Builtin.«sorted»;refine bW (m:=checkCount "sorted" 1 1 _) (b9 ?_);refine bW (kdu_collect (A:=X.A.in1) (v8 nm) (by simpa using I.ok.hd hc) L (by rw[sizeLine_eq];lia) λl y af keep it=>?_);have N:=GP is (by rw[f.len,le]) it;rw[N];have D:(n.map Value.ref).length=g.length:=by rw[bZ,f.len]
 refine bW (qq ?_ (by rw[D,cS];lia));have T:=Hg g;have inj:=CV (d:=([]:bV)) T nd;have O:=Ev f nd;have eD:(l.push (seqObj "list" (n.map Value.ref).toArray 0)).get? l.objs.size=some (seqObj "list" (n.map Value.ref).toArray 0):=dW _ rfl;have B:∀{b:Ad} {o:Obj},s.heap.get? b=some o->b≠l.objs.size:=λz=>dP (cQ (keep _ _ z));refine bW (gf (iG AC #[_,eD,rZ] Ax (B4 (s:={s with heap:=l.push (seqObj "list" (n.map Value.ref).toArray 0),toks:=y}) (k:=λi=>ja d8 g (g.getD i [])) eD (by rw[D];exact few) O (λi j hi hj z=>inj i j () () z) (λE U h2=>?_) λp E c r up e U=>#[_,rZ,?_]) (args_list_sort _)))
 .have Y:Inv X G J H {s with heap:=E,toks:=y}:=I.kept λb o z=>U b o (B z) (cV _ (keep b o z));have z:=Fc (P:=X.prog) (w:=X.w) (A:=X.A.in1.in1) (s:={s with heap:=E,toks:=y}) D () (λi v t e1 e2=>by
   rw[cr]at e1;obtain⟨a,N,rfl⟩:=da.mp e1;exact#[CI Y.hok (f.is i a t N e2),ne t (cH e2)])
  refine gJ z (λκ s' hk=>#[hk.1,λi j C li lj hC=>hk.2 i j C li lj ?_]) λ_ _ x=>x;have e:=T.asks (nj (d:=([]:bV)) (show i<g.length by lia)).2 (nj (d:=([]:bV)) (show j<g.length by lia)).2;show C (d8 (g.getD i []) (g.getD j [])) _;rw[<-e];exact hC
 .rw[D]at r up;have Y:Inv X G J H {s with heap:=E,toks:=y}:=I.kept λb o z=>U b o (B z) (cV _ (keep b o z));have I0:Inv X G J H {s with heap:=l,toks:=y}:=I.kept keep;have hD:H l.objs.size=none:=I0.hok.fresh (cm _);have aa:=f.pick r;obtain⟨f0,f1,f2,f3,f4,f5⟩:=I0.fpOk (b:=l.objs.size) (H':=H) (cm _) hD;have ab:Arr n.length p:=by rw[f.len];exact r
  rw[Gp ab]at e;have fw:((p.toList.map λi=>n.getD i 0).map V.ref).length<=sizeLine:=by
   rw[bZ,bZ,de,r.size];exact M
  exact b9 #[_,rZ,.ref l.objs.size,_,Y.track (o:= .lst ((p.toList.map λi=>n.getD i 0).map V.ref)) hD #[fw,_,c,DL _,e] I0.sz f1 f4 f5,rZ,q _ _ _ hD aa (CJ r) (Bh T r up)]
end
end L2
namespace L2
open PySem PySem.Spec PyProof.Rows
def NoAs(K:O2)(C:Ad):Ss->Prop
 | []=>True
 |f::fs=>PySem.W.findIn K (.ref C) f=some none/\NoAs K C fs
structure OwnC(K:O2)(C:Ad)(fs:Ss):Prop where
 cl:Cls K C
 na:NoAs K C fs
theorem NoAs.get{K:O2}{C:Ad}{f:Str}:∀{fs:Ss},NoAs K C fs->f∈fs->NoAttr K C f
 | [],_,h=>nomatch h
 | g::fs,n,h=>by
  rcases dq.mp h with e|e
  .subst e;exact n.1
  .exact NoAs.get n.2 e
def OwnC.no{K:O2}{C:Ad}{fs:Ss}(o:OwnC K C fs){f:Str}(h:fs.contains f=true:=by rfl):NoAttr K C f:=o.na.get (f7.mp h)
def NoAs.nil{K:O2}{C:Ad}:NoAs K C []:=True.intro
def NoAs.cons{K:O2}{C:Ad}{f:Str}{fs:Ss}(h:PySem.W.findIn K (.ref C) f=some none)(n:NoAs K C fs):NoAs K C (f::fs):=#[h,n]
abbrev Du(K:O2)(C:Ad)(m q:Str)(st:Stmt)(f:Ad)(a:Fd):Prop:=PySem.W.findIn K (.ref C) m=some (some (.ref f))/\PySem.W.isFn K (.ref f)=true/\Fun K m q st f a
def yy(P:Pg)(w:World)(K:O2)(mg:SV)(a:Heap)(C:Ad)(m:Str)(k:Nat)(b:Ss)(d:Sp):Prop:=
 ∃f c,FnOk P w K mg a cL k f c b d/\Meth K C m f/\Binds K c b []
def x9(P:Pg)(w:World)(K:O2)(mg:SV)(a:Heap)(x:Str)(C:Ad)(k:Nat)(b:Ss)(d:Sp):Prop:=
 ∃f c,FnOk P w K mg a cL k f c b d/\Mk K C f/\mg x=some (.ref C)/\Binds K c b []
def E'{X:Cx}{o:Expr}{e:TE}{C:Ad}{m:Str}{k:Nat}{i:Ss}{g:Sp}{a d:Pos}{j:Sem Bool}(l:PE X o e)(c:Cls X.K C)(n:yy X.prog X.w X.K X.mg X.base C m k i g)(p:Room k X.A)(ht:eval (.Call (.Attribute o m a) [] [] d) X.env=(do
   let h <-eval o X.env
   standAt a.atName
   let(f,first) <-holding [h] (getMethod h m j)
   callWith d f first (backTo d (starEach [] X.env)) (backToKw d (keywordEach [] X.env))):=by rfl):
  PE X (.Call (.Attribute o m a) [] [] d) (F7 C m g [] E0 e i9):=by
 obtain⟨f,q,F,M,b⟩:=n;exact Jt l c M F p b .nil wP ht
def Ga{X:Cx}{x:Str}{e:Expr}{a:List Expr}{t:TA}{C:Ad}{k:Nat}{h:Ss}{g:Sp}{p d:Pos}(c:x9 X.prog X.w X.K X.mg X.base x C k h g)(i:Room (k+1) X.A)(j:Gl X x)(l:PA X (e::a) t)(n:(x==("__debug__":Str))=false:=by decide) (o:starEach (e::a) X.env=(false,eval e X.env)::starEach a X.env:=by rfl) (q:(backTo d (starEach a X.env)).any (·.1)=false:=by rfl):
  PE X (.Call (.Name x p) (e::a) [] d) (Gh C g [] E0 t):=by
 obtain⟨f,r,F,M,m,b⟩:=c;exact L9 M F i j m b .nil wP l n o q
def md(a:Zs)(x:Int):Zs:=if x∈a then a else a++[x]
def lT(a:Zs):Zs:=a.foldl md []
def IsSetI(P:Pg)(w:World)(h:Heap)(a:Ad)(b:Zs):Prop:=h.SetOf (intKind P w) a (λk=>decide (k∈b)) b.length
section
variable{P:Pg}{w:World}{A:Ar}{E:VP}{S it l:Ad}{xs:Zs}{vs:Vs}
def IsSetI.ext{h b:Heap}{a:Zs}(c:IsSetI P w h S a)(k:∀o,h.get? S=some o->b.get? S=some o):IsSetI P w b S a:=by
 obtain⟨o,d,e,t,f,r⟩:=c;exact#[o,d,e,t,k _ f,r]
theorem E1{R:Result->Sh->Prop}(L:A.handled=none)(j:S≠it)(M:S≠l)(N:it≠l)(r:Vals (xs.map V.int) vs)(few:xs.length<=4000):
  ∀(rest:Zs) (i:Nat) (a:Zs) (s:Sh),xs.drop i=rest->a.length<=i->s.heap.IsTupleIter it l i->s.heap.IsTuple l vs.toArray->IsSetI P w s.heap S a->
   (∀c v,IsSetI P w c S (rest.foldl md a)->(∀b o,b≠S->b≠it->s.heap.get? b=some o->c.get? b=some o)->R (.ok (.ret .none)) {s with heap:=c,toks:=v})->
   codeAny (model P w) A (.builtin "set.update.loop" #[[.ref S,.ref it],[]]) R s
 | [],i,a,s,m,U,B,n,C,q=>by
  have O:vs.length<=i:=by
   have D:vs.length=xs.length:=by simpa using r.length.symm
   have p:=List.drop_eq_nil_iff.mp m;lia
  refine mX BE ?_;rw[oW xG _];show wpAny _ A.in1 (pyNext (.ref it) >>= _) _ _ s;refine bW (wpAny_pyNext_tuple_end (by simpa using L) B n (by simp;lia) λc keep=>?_);exact b9 (q c s.toks (C.ext λo e=>keep _ _ j e) λb o _ p e=>keep b o p e)
 | x::rest,i,a,s,m,U,B,n,C,q=>by
  have g:xs[i]?=some x:=by rw[<-List.head?_drop,m];rfl
  have next:xs.drop (i+1)=rest:=by rw[<-List.tail_drop,m];rfl
  have il:i<xs.length:=(cg.mp g).1;obtain⟨u,Y,t,rfl⟩:=r.get (i:=i) (x:=V.int x) (by rw[cr,g];rfl);refine mX BE ?_;rw[oW xG _];show wpAny _ A.in1 (pyNext (.ref it) >>= _) _ _ s;refine bW (wpAny_pyNext_tuple_item B n (x:= .int x t) (by simpa using Y) λD mB d=>?_);show wpAny _ A.in1 (holding [Value.int x t] (setAdd S (.int x t)) >>= _) _ _ _;refine bW (gf ?_);unfold setAdd;have h:(intKind P w).is x (.int x t)=true:=u9 _ _ _ _;refine gf (bW ((intKind P w).pyHash (k:=x) h ?_));have E:IsSetI P w D S a:=C.ext λo e=>d.extBut _ _ j e;refine wpAny_setAddHashed_of (knd:=intKind P w) h rZ (s:=#[D,_,_,_,_]) E (by show a.length+1<4096;lia) λp f G=>?_;have H:IsSetI P w p S (md a x):=by
   unfold IsSetI;refine SetOf_congr G (λk=>?_) ?_
   .unfold md;by_cases e:x∈a
    .rw[wB e,jt];simp only[Bool.or_eq_true,decide_eq_true_iff];exact#[λz=>z.elim id λy=>y▸e,.inl]
    .rw[wA e,jt];simp only[Bool.or_eq_true,decide_eq_true_iff,List.mem_append,List.mem_singleton]
   .unfold md;by_cases e:x∈a
    .rw[wB e,wB (by simpa using e)]
    .rw[wA e,wA (by simpa using e),List.length_append];rfl
  have I:(md a x).length<=i+1:=by
   unfold md;split
   .lia
   .rw[dA];show a.length+1<=_;lia
  refine b9 #[mI xG _,E1 L j M N r few rest (i+1) (md a x) _ next I (mB.extBut f.extBut j.symm) ((n.extBut d.extBut N.symm).extBut f.extBut M.symm) H λc v J keep=>?_];exact q c v J λb o Q T e=>keep b o Q T (f.extBut _ _ Q (d.extBut _ _ T e))
set_option maxHeartbeats 4000000 in
def Ng{h:Heap}{j:Obj}{m:Array GenState}{n:Drawn}{k:Nat}{os:OsState}{R:PySem.Fin->Sh->Prop}(x:∃a,j={cls:= .type "set",dict:=none,data:= .set #v[] 0 (.fresh 0 0 a)})(y:A.handled=none)(p:h.IsTuple l vs.toArray)(z:Vals (xs.map V.int) vs)(few:xs.length<=4000)
  (q:∀c f,IsSetI P w c h.objs.size (lT xs)->(∀b o,h.get? b=some o->c.get? b=some o)->R (.done (.ret .none)) #[c,m,n,f,os]):
  wpAny (model P w) A (Builtin.«set.__init__» #[[.ref h.objs.size,.ref l],[]]) R E #[h.push j,m,n,k,os]:=by
 obtain⟨a,rfl⟩:=x;obtain⟨⟨J,dl,B,sl⟩,r,s,C,t⟩:=id p;simp only at s t;subst s t;have L:(h.push {cls:= .type "set",dict:=none,data:= .set #v[] 0 (.fresh 0 0 a)}).get? l=some #[.type "tuple",dl,.seq vs.toArray C,sl]:=cV _ r;have D:(h.push {cls:= .type "set",dict:=none,data:= .set #v[] 0 (.fresh 0 0 a)}).get? h.objs.size=some {cls:= .type "set",dict:=none,data:= .set #v[] 0 (.fresh 0 0 a)}:=dW _ rfl;have M:=F.sub_tuple_set;have N:=F.sub_tuple_frozenset;have ne:(Value.type "tuple"==Value.type "dict")=false:=by decide
 unfold Builtin.«set.__init__» noKeywords Builtin.Frozenset.updateFrom;generalize g:pyIter=u
 wp_walk
 subst g;have d:(h.push {cls:= .type "set",dict:=none,data:= .set #v[] 0 (.fresh 0 0 a)}).IsTuple l vs.toArray:=p.push _;refine wpAny_pyIter_tuple d (bW (wpAny_runValue ?_));have lt:l<h.objs.size:=cQ r;have sz:(h.push {cls:= .type "set",dict:=none,data:= .set #v[] 0 (.fresh 0 0 a)}).objs.size=h.objs.size+1:=vq ..;have i:IsSetI P w ((h.push {cls:= .type "set",dict:=none,data:= .set #v[] 0 (.fresh 0 0 a)})) h.objs.size []:=by
  refine#[_,_,_,_,D,#[rZ,rZ,rZ],rZ,λe G=>?_,λk=>?_,by decide,by cases a<;>rfl,rZ]
  .simp at G
  .simp
 refine E1 (vs:=vs) (xs:=xs) (by simpa using y) (by rw[sz];exact Nat.ne_of_lt (Nat.lt_succ_self _)) (Nat.ne_of_gt lt) (by rw[sz];exact Nat.ne_of_gt (Nat.lt_succ_of_lt lt)) z few xs 0 [] _ rZ (Nat.le_refl _) #[_,Heap.get?_push_size _ rZ,rZ,rZ] (d.push _) (i.ext λo e=>Heap.get?_push_of_some _ e) λc f H I=>?_;refine b9 (b9 (q c f H λb o e=>?_));have v:=cQ e;exact I b o (dP v) (by rw[sz];exact dP (yo v)) (cV _ (cV _ e))
def Nh{s:Sh}{Q:VP}(B:A.handled=none)(x:s.heap.IsTuple l vs.toArray)(C:Vals (xs.map V.int) vs)(few:xs.length<=4000)(q:∀a d,IsSetI P w a s.heap.objs.size (lT xs)->(∀b o,s.heap.get? b=some o->a.get? b=some o)->Q (.ref s.heap.objs.size) {s with heap:=a,toks:=d}):
  wpAny (model P w) A (call (.type "set") [.ref l]) Q E s:=by
 have lt:l<s.heap.objs.size:=let⟨_,e,_⟩:=x;cQ e
 obtain⟨c,tl,D⟩:=jb.mro;have made:=jb.made;have sub:=jb.sub;have j:=jb.notType;have G:=jb.canCreate;have args:=F.typeCall_set_1 (.ref l);have look:=jb.init.lookup;have H:=jb.init.bind (.ref s.heap.objs.size);refine td (Bu (show wpAny _ _ (callAny (.type "set") _) _ _ _ from b9 #[Code.quiet_builtin _ (by decide+kernel),mX F.entry_type_call ?_]));rw[Around.under_plain (weight_type_call_type "set" [.ref l] []) rZ]
 repeat (any_goals (first|assumption|wp_step))
 refine mD (code_set_new_1 (.ref l) (E:=E) (Q₁:=λk i=>∃g,(∃h,g={cls:= .type "set",dict:=none,data:= .set #v[] 0 (.fresh 0 0 h)})/\k=.ref s.heap.objs.size/\i={s with heap:=s.heap.push g}) λh=>#[_,#[h,rfl],rfl,rfl]) λr L z=>?_;cases r with
 |error _=>exact z
 | ok f=>
  cases f<;>first|exact z.elim|skip
  obtain⟨g,m,n,p⟩:=z;subst n p;have I:g.cls=.type "set":=by obtain⟨_,rfl⟩:=m;rfl
  have J:(s.heap.push g).get? s.heap.objs.size=some g:=dW _ (by obtain⟨_,rfl⟩:=m;rfl);have ty:Shared.TypeIs {s with heap:=s.heap.push g} (.ref s.heap.objs.size) "set":=#[_,J,I]
  repeat (any_goals (first|assumption|wp_step))
  refine mD (codeAny_call_builtin (R:=wants (λv y=>v=.none/\∃a d,y={s with heap:=a,toks:=d}/\IsSetI P w a s.heap.objs.size (lT xs)/\∀b o,s.heap.get? b=some o->a.get? b=some o) E)
   jb.init.plain F.entry_set_init (check_set_init_1 ty ?_)) λr y z=>?_
  .exact Ng (A:=A.in1.in1) m (by simpa using B) x C few λa d t u=>#[rZ,a,d,rZ,t,u]
  .cases r with
   |error _=>exact z
   |ok f=>
    cases f<;>first|exact z.elim|skip
    obtain⟨n,a,d,p,t,u⟩:=z;subst n p
    repeat (any_goals (first|assumption|wp_step))
    exact q a d t u
end
section
variable{X:Cx}
def wU(a:Ad)(b:Zs):HO:= .ext λh=>∃P w,IsSetI P w h a (lT b)
inductive pL(K:O2)(c:List V)(H:Hp)(Q:VK):Prop|mk:∀p b,c=[.ref p]->SqT K H p (b.map V.int)->b.length<=4000->(∀a,H a=none->Q (.ref a) (bX H a (wU a b)))->pL K c H Q
def Ox(c:X.calm=true):hG X (.type "set") (pL X.K):=by
 intro d s f H A B Q I r h;obtain⟨p,a,rfl,g,few,q⟩:=h;obtain⟨u,rfl,i⟩:=gD r;cases i;obtain⟨j,l,m,_⟩:=I.tuple g;refine Nh (I.ok.hd c) m l few λb n z keep=>?_;have v:Inv X d f H {s with heap:=b,toks:=n}:=I.kept keep;obtain⟨o,C,D,t,x,r⟩:=id z;have ok:ObjOk X.prog X.w (bX H s.heap.objs.size (wU s.heap.objs.size a)) b s.heap.objs.size (wU s.heap.objs.size a):=#[#[_,_,z],#[_,x],λE G ⟨P,w,y⟩ k=>#[P,w,y.ext λo e=>k _ e]];exact#[.ref s.heap.objs.size,_,Inv.trackNew I v ok,rZ,q _ I.fresh]
inductive pr(b:List V)(H:Hp)(Q:VK):Prop|mk:∀a c,b=[.ref a]->H a=some (wU a c)->Q (.int (lT c).length) H->pr b H Q
def L1:hG X (.builtin "len") pr:=by
 intro k s l H m n Q I r h;obtain⟨a,b,rfl,c,q⟩:=h;obtain⟨u,rfl,d⟩:=gD r;cases d;obtain⟨⟨_,_,o,p,v,t,e,f,g,_,_,w,i,j⟩,_⟩:=(show ObjOk X.prog X.w H s.heap a (wU a b)from I.hok a _ c);refine call_len_set e f g i (by have:scanBound=4096:=rfl;lia) ?_;exact#[.int (lT b).length,H,I.tok _,#[_,by rw[j]],q]
end
theorem AT{b:Array Nat}{j:Nat}(m:b.toList.Pairwise (· < ·)):∀(fuel lo a:Nat),a-lo<=fuel->a<=b.size->lo<=a->(∀i x,b[i]?=some x->i<lo->x<j)->(∀i x,b[i]?=some x->a<=i->j<=x)->
  (∀i x,b[i]?=some x->i<SetTable.below.go b j fuel lo a->x<j)/\(∀i x,b[i]?=some x->SetTable.below.go b j fuel lo a<=i->j<=x)/\SetTable.below.go b j fuel lo a<=b.size
 |0,lo,a,p,f,q,g,k=>by
  have e:lo=a:=by lia
  subst e;exact#[g,k,f]
 | fuel+1,lo,a,p,f,q,g,k=>by
  unfold SetTable.below.go;by_cases c:lo<a
  .rw[wB c];dsimp only;have l:(lo+a) /2<b.size:=by lia
   have em:b[(lo+a) /2]?=some b[(lo+a) /2]:=fX l;have mono:∀i x,b[i]?=some x->(i<(lo+a) /2->x<b[(lo+a) /2])/\((lo+a) /2<i->b[(lo+a) /2]<x):=λi x e=>by
    obtain⟨o,rfl⟩:=io.mp e;have z:=ke.mp m;exact#[λh=>z i _ (by simpa using o) (by simpa using l) h,λh=>z _ i (by simpa using l) (by simpa using o) h]
   have r:b.getD ((lo+a) /2) j=b[(lo+a) /2]:=by simp[Array.getD,l]
   rw[r];by_cases d:b[(lo+a) /2]<j
   .rw[wB d];refine AT m fuel _ _ () f () (λi x e n=>?_) k;by_cases z:i=(lo+a) /2
    .subst z;rw[em]at e;cases e;exact d
    .exact tr ((mono i x e).1 ()) d
   .rw[wA d];refine AT m fuel _ _ () () () g λi x e n=>?_;by_cases z:i=(lo+a) /2
    .subst z;rw[em]at e;cases e;lia
    .have:=(mono i x e).2 ();lia
  .rw[wA c];have e:lo=a:=by lia
   subst e;exact#[g,k,f]
def ua{a:Array Nat}(b:a.toList.Pairwise (· < ·))(j:Nat):(∀i x,a[i]?=some x->i<SetTable.below a j->x<j)/\(∀i x,a[i]?=some x->SetTable.below a j<=i->j<=x)/\SetTable.below a j<=a.size:=
 AT b a.size 0 a.size () (cm _) (gc _) (λi x e h=>wC h (mh i)) λi x e h=>by
  have:=(io.mp e).1;lia
def Ol{c:Array Nat}(d:c.toList.Pairwise (· < ·)){i x:Nat}(e:c[i]?=some x):SetTable.below c (x+1)=i+1:=by
 obtain⟨g,j,l⟩:=ua d (x+1);have a: ¬SetTable.below c (x+1)<=i:=λh=>by have:=j i x e h;lia
 have b: ¬i+1<SetTable.below c (x+1):=λh=>by
  have f:i+1<c.size:=by lia
  have z:=g (i+1) c[i+1] (fX f) h;obtain⟨k,rfl⟩:=io.mp e;have y:=ke.mp d i (i+1) (by simpa using k) (by simpa using f) (Nat.lt_succ_self i);have m:c[i]<c[i+1]:=by simpa using y
  lia
 lia
def Nk{a:Array Nat}(b:a.toList.Pairwise (· < ·)):SetTable.below a 0=0:=by
 obtain⟨d,_,e⟩:=ua b 0;by_cases c:SetTable.below a 0=0
 .exact c
 .exact wC (d 0 a[0] (fX ()) ()) (mh _)
def qw{t:SetTable}(no:t.dummies= #v[])(j:Nat):t.slot j≠ .dummy:=by
 unfold SetTable.slot;rw[no];dsimp only;split
 .exact λz=>nomatch z
 .rw[show SetTable.has #v[] j=false by unfold SetTable.has;simp];exact λz=>nomatch z
theorem Ep{t:SetTable}(no:t.dummies= #v[]){f:Nat->Int}{h:Int}:∀(fuel:Nat) (p:SetTable.Probe) (j:Nat) (d:Option Nat),p.dummy=none->SetTable.probe.go t f h fuel p=some (.empty j d)->d=none/\t.slot j=.empty
 |0,_,_,_,_,e=>by cases e
 | fuel+1,p,j,d,b,e=>by
  unfold SetTable.probe.go at e;have rQ:(t.advance p).dummy=none:=by
   unfold SetTable.advance;split
   .exact b
   .exact b
  cases a:t.slot p.j with
  |empty=>
   rw[a]at e;injection e with e
   injection e with c g
   subst c;exact#[g.symm.trans b,a]
  |dummy=>exact wC a (qw no _)
  | live i=>
   rw[a]at e;dsimp only at e;split at e
   .injection e with e
    cases e
   .exact Ep no fuel _ j d rQ e
def KJ{t:SetTable}(no:t.dummies= #v[]){h:Int}{j:Nat}{d:Bool}(e:t.freeSlot h=some (j,d)):d=false/\t.slot j=.empty:=by
 unfold SetTable.freeSlot at e;split at e
 .rename_i a b c
  obtain⟨rfl,z⟩:=Ep no _ _ a b rZ c;cases e;exact#[rZ,z]
 .cases e
def Lf{t:SetTable}{j:Nat}(e:t.slot j=.empty):t.place[SetTable.below t.place j]? ≠some j:=λz=>by
 unfold SetTable.slot at e;dsimp only at e;rw[z]at e;simp at e
def Bi{t:SetTable}{j:Nat}(up:t.place.toList.Pairwise (· < ·))(h:t.slot j=.empty):(SetTable.insertAt t.place (SetTable.below t.place j) j).toList.Pairwise (· < ·):=by
 obtain⟨k,b,p⟩:=ua up j;have l:=Lf h;have m:(SetTable.insertAt t.place (SetTable.below t.place j) j).toList=t.place.toList.take (SetTable.below t.place j)++j::t.place.toList.drop (SetTable.below t.place j):=by
  have z:=t7 t.place.toList (SetTable.below t.place j) j;rw[yx]at z;rw[z]
 rw[m];have c:∀x∈t.place.toList.drop (SetTable.below t.place j),j<x:=λx a=>by
  obtain⟨i,e⟩:=dU.mp a;rw[nO,fh]at e;have q:=b _ x e (nA _ _);by_cases z:x=j
  .subst z;cases i with
   |zero=>exact wC e l
   |succ i=>
    have d:SetTable.below t.place x<t.place.size:=by have:=(io.mp e).1;lia
    have r:=b _ _ (fX d) (cm _);obtain⟨n,f⟩:=io.mp e;have y:=ke.mp up (SetTable.below t.place x) (SetTable.below t.place x+(i+1)) (by simpa using d) (by simpa using n) ();have s:t.place[SetTable.below t.place x]<t.place[SetTable.below t.place x+(i+1)]:=by simpa using y
    lia
  .lia
 refine ik.mpr #[up.sublist (qj _ _),vz.mpr #[c,up.sublist (List.drop_sublist _ _)],λx a y o=>?_];obtain⟨i,u,f⟩:=List.mem_take_iff_getElem.mp a;have g:x<j:=k i x (by rw[<-fh,b8 (),f]) ()
 rcases dq.mp o with rfl|z
 .exact g
 .exact tr g (c y z)
def BV{mask g i:Nat}{c j:Bool}{d:Array Int}{t:SetTable}{k:Array Nat}(e:SetTable.laid mask g i c j d=some (t,k)):t.place.toList.Pairwise (· < ·)/\t.dummies= #v[]/\t.led=c:=by
 unfold SetTable.laid at e;cases f:SetTable.layClean mask d with
 |none=>rw[f]at e;cases e
 |some o=>
  rw[f]at e;injection e with e
  injection e with l _
  subst l;refine#[?_,rZ,rZ];rw[qe,sw,List.pairwise_filterMap];refine List.Pairwise.imp (λ{a b} h x m y n=>?_) vy;obtain⟨u,_,rfl⟩:=da.mp m;obtain⟨v,_,rfl⟩:=da.mp n;exact h
def lF:Nat->Nat->Nat
 |0,i=>i
 |n+1,i=>lF n (5 * i+1)
def E3(a b i:Nat):lF (a+b) i=lF b (lF a i):=by
 induction a generalizing i with
 |zero=>rw[ot];rfl
 |succ a c=>rw[Nat.add_right_comm];exact c _
def Ix(m:Nat):∃c d,∀i,lF (2 ^ m) i=(1+2 ^ (m+2) * c) * i+2 ^ m * (2 * d+1):=by
 induction m with
 |zero=>exact#[1,0,λi=>by show 5 * i+1=_;lia]
 |succ m a=>
  obtain⟨c,d,h⟩:=a;refine#[c * (1+2 ^ (m+1) * c),d+(2 * d+1) * 2 ^ m * c,λi=>?_];rw[show 2 ^ (m+1)=2 ^ m+2 ^ m by lia,E3,h,h]
  grind
def NM(n i M:Nat):lF n (i%M)%M=lF n i%M:=by
 induction n generalizing i with
 |zero=>exact Nat.mod_mod _ _
 |succ n a=>
  show lF n (5 * (i%M)+1)%M=lF n (5 * i+1)%M;rw[<-a (5 * (i%M)+1),<-a (5 * i+1)]
  congr 2
  rw[Nat.add_mod,Nat.mul_mod,Nat.mod_mod,<-Nat.mul_mod,<-Nat.add_mod]
def OF(m:Nat):∀i j,j<2 ^ m->∃n,n<2 ^ m/\lF n i%2 ^ m=j:=by
 induction m with
 |zero=>exact λi j h=>#[0,by decide,by simp at h;subst h;exact Nat.mod_one _]
 | succ m l=>
  intro i j s;have o:2 ^ (m+1)=2 * 2 ^ m:=by lia
  have a:j<2 * 2 ^ m:=by lia
  have b:0<2 ^ m:=Nat.two_pow_pos m;obtain⟨n,t,e⟩:=l i (j%2 ^ m) (lZ _ b);by_cases c:lF n i%2 ^ (m+1)=j
  .exact#[n,(),c]
  .refine#[n+2 ^ m,(),?_];obtain⟨d,f,h⟩:=Ix m;rw[E3,h];generalize lF n i=x at *;have p:(1+2 ^ (m+2) * d) * x+2 ^ m * (2 * f+1)=x+2 ^ m+2 ^ (m+1) * (2 * d * x+f):=by grind
   rw[p,Nat.add_mul_mod_self_left];have q:x%2 ^ (m+1)%2 ^ m=x%2 ^ m:=Nat.mod_mod_of_dvd _ #[2,()];have r:x%2 ^ (m+1)<2 ^ (m+1):=lZ _ ();rw[Nat.add_mod];generalize x%2 ^ (m+1)=y at *;have a3:2 ^ m%2 ^ (m+1)=2 ^ m:=ud ();rw[a3];rw[<-q]at e;rw[o]at *;generalize 2 ^ m=M at *;have g:∀z,z<2 * M->z%M=if z<M then z else z-M:=λz u=>by
    split
    .exact ud (by assumption)
    .rw[Nat.mod_eq_sub_mod (),ud ()]
   rw[g y r,g j a]at e;by_cases k:y<M
   .rw[wB k]at e;rw[ud ()];split at e<;>lia
   .rw[wA k]at e;rw[Nat.mod_eq_sub_mod (),ud ()];split at e<;>lia
def lp(mask:Nat):Nat->Nat->Nat->Nat
 |0,i,_=>i
 |n+1,i,p=>lp mask n ((i * 5+1+p/32)%(mask+1)) (p/32)
def Oz(mask n i:Nat)(a:i<=mask):lp mask n i 0=lF n i%(mask+1):=by
 induction n generalizing i with
 |zero=>exact(ud (Nat.lt_succ_of_le a)).symm
 |succ n b=>
  show lp mask n ((i * 5+1+0/32)%(mask+1)) (0/32)=lF n (5 * i+1)%(mask+1);rw[Nat.zero_div,b _ (by have:=lZ (i * 5+1+0) (show 0<mask+1 by lia);lia),NM,Nat.mul_comm]
theorem Au{mask m:Nat}(b:mask+1=2 ^ m){j:Nat}(d:j<=mask):∀(q i p:Nat),i<=mask->p<32 ^ q->∃n,n<=q+mask/\lp mask n i p=j
 |0,i,p,c,a=>by
  have:p=0:=by simp at a;exact a
  subst this;obtain⟨n,f,e⟩:=OF m i j ();exact#[n,(),by rw[Oz _ _ _ c,b];exact e]
 |q+1,i,p,c,a=>by
  obtain⟨n,f,e⟩:=Au b d q ((i * 5+1+p/32)%(mask+1)) (p/32) (by have:=lZ (i * 5+1+p/32) (show 0<mask+1 by lia);lia) (Nat.div_lt_of_lt_mul (by rw[x6]at a;lia));exact#[n+1,(),e]
def Cj(h:Int):SetTable.bits h<32 ^ 13:=by
 unfold SetTable.bits;have:=yP h (show(0:Int)<2 ^ 64 by decide);have a:=AG h (show(2 ^ 64:Int)≠0 by decide);lia
section
variable{t:SetTable}{h:Int}
def lU(x:Option SetTable.Met):Prop:=∃j d,x=some (.empty j d)
def Fb(no:t.dummies= #v[]){a:Nat}{p:SetTable.Probe}(k:lU (SetTable.probe.go t (λ_=>h+1) h a (t.advance p))):lU (SetTable.probe.go t (λ_=>h+1) h (a+1) p):=by
 unfold SetTable.probe.go;cases b:t.slot p.j with
 |empty=>exact#[_,_,rZ]
 |dummy=>exact wC b (qw no _)
 |live i=>
  dsimp only;rw[show((h+1==h)=false)from by simp;lia];exact k
theorem Ew(no:t.dummies= #v[]):∀(k:Nat) (p:SetTable.Probe) (a:Nat),p.more=k->(∀b:SetTable.Probe,b.j=b.i->b.i=(p.i * 5+1+p.perturb/32)%(t.mask+1)->b.perturb=p.perturb/32->b.more<=9->lU (SetTable.probe.go t (λ_=>h+1) h a b))->
  lU (SetTable.probe.go t (λ_=>h+1) h (a+k+1) p)
 |0,p,a,e,q=>by
  refine Fb no ?_;unfold SetTable.advance;rw[wA ()];refine q _ rZ rZ rZ ?_;show SetTable.runEnd _ _-_<=9;unfold SetTable.runEnd;split<;>lia
 |k+1,p,a,e,q=>by
  refine Fb no ?_;unfold SetTable.advance;rw[wB ()];exact Ew no k _ a (by show p.more-1=k;lia) q
theorem Ah:∀(a b:Nat) (p:SetTable.Probe),lU (SetTable.probe.go t (λ_=>h+1) h a p)->a<=b->lU (SetTable.probe.go t (λ_=>h+1) h b p)
 |0,_,_,⟨_,_,e⟩,_=>by cases e
 |a+1,0,_,_,l=>wC l (Nat.not_succ_le_zero a)
 | a+1,b+1,p,f,l=>by
  unfold SetTable.probe.go at f|-;cases c:t.slot p.j with
  |empty=>exact#[_,_,rZ]
  |dummy=>rw[c]at f;exact Ah a b _ f ()
  |live i=>
   rw[c]at f;dsimp only at f|-;rw[show((h+1==h)=false)from by simp;lia]at f|-;exact Ah a b _ f ()
theorem BS(no:t.dummies= #v[]):∀(n:Nat) (p:SetTable.Probe) (a:Nat),p.j=p.i->p.more<=9->10 * n<a->t.slot (lp t.mask n p.i p.perturb)=.empty->lU (SetTable.probe.go t (λ_=>h+1) h a p)
 |0,p,a,c,em,d,b=>by
  obtain⟨f,rfl⟩:=nr (show a≠0 by lia);unfold SetTable.probe.go;rw[c,show t.slot p.i=.empty from b];exact#[_,_,rZ]
 |n+1,p,a,c,em,d,b=>by
  refine Ah (10 * n+1+p.more+1) a p (Ew no p.more p (10 * n+1) rZ λe g i j k=>?_) ();exact BS no n e _ g k () (by rw[i,j];exact b)
def Nf{m:Nat}(no:t.dummies= #v[])(c:t.mask+1=2 ^ m){j:Nat}(f:j<=t.mask)(a:t.slot j=.empty):∃b d,t.freeSlot h=some (b,d):=by
 have g:SetTable.bits h%(t.mask+1)<=t.mask:=by have:=lZ (SetTable.bits h) (show 0<t.mask+1 by lia);lia
 obtain⟨n,i,e⟩:=Au c f 13 (SetTable.bits h%(t.mask+1)) (SetTable.bits h) g (Cj h);obtain⟨b,d,z⟩:=BS (h:=h) no n (t.probeStart h) (10 * SetTable.turns t.mask) rZ (by show SetTable.runEnd _ _-_<=9;unfold SetTable.runEnd;split<;>lia) (by unfold SetTable.turns;lia) (by rw[<-e]at a;exact a);unfold SetTable.freeSlot SetTable.probe;rw[z];exact#[_,_,rZ]
end
def Hk{place:Array Nat}{mask:Nat}(few:place.size<=mask):∃j,j<=mask/\j∉place.toList:=by
 refine qo λz=>?_;have all:∀x∈List.range (mask+1),x∈place.toList:=λx a=>qo λy=>z #[x,by have:=eU.mp a;lia,y];have:=rY List.nodup_range all;rw[mz,de]at this;lia
def BC{t:SetTable}{j:Nat}(no:t.dummies= #v[])(a:j∉t.place.toList):t.slot j=.empty:=by
 unfold SetTable.slot;dsimp only;have e:(t.place[SetTable.below t.place j]? ==some j)=false:=by
  rw[mH];exact λz=>a (cH (by rw[fh];exact z))
 rw[e,no,show SetTable.has #v[] j=false by unfold SetTable.has;simp];rfl
theorem Hj{mask:Nat}{a:Array (Option Nat)}(sz:a.size=mask+1):∀(fuel i p j:Nat),i<=mask->SetTable.layClean.free mask a fuel i p=some j->a[j]?=some none
 |0,_,_,_,_,e=>by cases e
 | fuel+1,i,p,j,c,e=>by
  unfold SetTable.layClean.free at e;split at e
  .rename_i k b
   injection e with e
   subst e;have z:=List.find?_some b;have lt:i+k<a.size:=by
    have y:=eU.mp (List.mem_of_find?_eq_some b);unfold SetTable.runEnd at y;split at y<;>lia
   simp only[Array.getD,lt,dif_pos]at z;rw[fX lt]
   congr 1
   simpa using z
  .exact Hj sz fuel _ _ j (by show(i * 5+1+p/32)%(mask+1)<=mask;have:=lZ (i * 5+1+p/32) (show 0<mask+1 by lia);lia) e
theorem EH{mask:Nat}{a:Array (Option Nat)}(sz:a.size=mask+1):∀(n b i p:Nat),i<=mask->n<b->a[lp mask n i p]?=some none->∃j,SetTable.layClean.free mask a b i p=some j
 |n,0,_,_,_,l,_=>wC l (mh n)
 | n,b+1,i,p,g,l,e=>by
  unfold SetTable.layClean.free;split
  .exact#[_,rZ]
  .rename_i d
   cases n with
   |zero=>
    have z:=List.find?_eq_none.mp d 0 (eU.mpr (by unfold SetTable.runEnd;split<;>lia));have c:a[i]?=some none:=e;have lt:=(io.mp c).1;have f:=(io.mp c).2;simp[Array.getD,lt,f]at z
   |succ n=>exact EH sz n b _ _ (by show(i * 5+1+p/32)%(mask+1)<=mask;have:=lZ (i * 5+1+p/32) (show 0<mask+1 by lia);lia) () e
def OP{b:Array (Option Nat)}{k:Nat}(c:(b.toList.filterMap id).Perm (List.range k))(few:k<b.size):∃j:Nat,b[j]?=some none:=by
 refine qo λz=>?_;have all:∀l:List (Option Nat),(∀x∈l,x≠none)->(l.filterMap id).length=l.length:=λl=>by
  induction l with
  |nil=>intro _;rfl
  | cons x l d=>
   intro h;cases x with
   |none=>exact wC rZ (h none (dh ..))
   |some a=>
    show((a::l.filterMap id).length)=_;rw[gC,gC,d λy f=>h y (dR _ f)]
 have e:=all b.toList λx g e=>by
  subst e;obtain⟨j,i⟩:=dU.mp g;exact z #[j,by rw[<-fh];exact i]
 have:=c.length_eq;rw[e,mz,de]at this;lia
def Na{a:Array (Option Nat)}{j k:Nat}(e:a[j]?=some none):((a.setIfInBounds j (some k)).toList.filterMap id).Perm (k::a.toList.filterMap id):=by
 have lt:j<a.toList.length:=by rw[de];exact(io.mp e).1
 have b:a.toList[j]=none:=by
  have:=e;rw[<-fh,b8 lt]at this;exact fL this
 have c:a.toList=a.toList.take j++none::a.toList.drop (j+1):=by
  rw[<-b,List.getElem_cons_drop,iM]
 rw[DU,List.set_eq_take_append_cons_drop,wB lt,Dv]
 conv=>rhs;rw[c,Dv]
 exact yl
theorem Ic{mask m:Nat}(g:mask+1=2 ^ m)(f:Option (Array (Option Nat)×Nat)->Int->Option (Array (Option Nat)×Nat))(i:∀a k h,f (some (a,k)) h=(SetTable.layClean.free mask a (SetTable.turns mask) (SetTable.bits h%(mask+1)) (SetTable.bits h)).map λj=>(a.setIfInBounds j (some k),k+1)):
  ∀(b:Zs) (a:Array (Option Nat)) (k:Nat),a.size=mask+1->(a.toList.filterMap id).Perm (List.range k)->k+b.length<=mask+1->
   ∃c,b.foldl f (some (a,k))=some (c,k+b.length)/\c.size=mask+1/\(c.toList.filterMap id).Perm (List.range (k+b.length))
 | [],a,k,sz,d,_=>#[a,rZ,sz,d]
 | h::b,a,k,sz,d,l=>by
  rw[gC]at l;obtain⟨q,o⟩:=OP d ();have r:q<=mask:=by have:=(io.mp o).1;lia
  have e:SetTable.bits h%(mask+1)<=mask:=by have:=lZ (SetTable.bits h) (show 0<mask+1 by lia);lia
  obtain⟨n,w,s⟩:=Au g r 13 _ _ e (Cj h);obtain⟨j,p⟩:=EH sz n (SetTable.turns mask) _ _ e (by unfold SetTable.turns;lia) (by rw[s];exact o);have t:=Hj sz _ _ _ _ e p;have st:f (some (a,k)) h=some (a.setIfInBounds j (some k),k+1):=by rw[i,p];rfl
  obtain⟨c,u,v,a3⟩:=Ic g f i b (a.setIfInBounds j (some k)) (k+1) (by rw[yp];exact sz) ((Na t).trans (by rw[ve];exact(d.cons k).trans (BL _ _).symm)) ();refine#[c,?_,v,?_]
  .rw[jw,st,u,gC,show k+1+b.length=k+(b.length+1) by lia]
  .rw[gC,<-show k+1+b.length=k+(b.length+1) by lia];exact a3
def Mn{mask m:Nat}(e:mask+1=2 ^ m)(c:Array Int)(few:c.size<=mask):∃b,SetTable.layClean mask c=some b/\b.size=mask+1/\(b.toList.filterMap id).Perm (List.range c.size):=by
 unfold SetTable.layClean;rw[<-Array.foldl_toList];generalize g:(λ(d:Option (Array (Option Nat)×Nat)) (h:Int)=>do
  let(a,k) <-d
  let j <-SetTable.layClean.free mask a (SetTable.turns mask) (SetTable.bits h%(mask+1)) (SetTable.bits h)
  pure (a.setIfInBounds j (some k),k+1))=f
 obtain⟨b,i,l,a3⟩:=Ic e f (λa k h=>by
  subst g;show(Option.bind (some (a,k)) _)=_;dsimp only[Option.bind];cases SetTable.layClean.free mask a (SetTable.turns mask) (SetTable.bits h%(mask+1)) (SetTable.bits h)<;>rfl) c.toList (Array.replicate (mask+1) none) 0 (Array.size_replicate) (by
   rw[Array.toList_replicate,List.filterMap_replicate_of_none rZ];exact List.Perm.refl _) (by rw[de];lia)
 rw[i];rw[ot,de]at a3;exact#[b,rZ,l,a3]
def K5(a:Array (Option Nat)):((List.range a.size).filterMap λj=>(a.getD j none).map (j,·)).map (·.2)=a.toList.filterMap id:=by
 rw[List.map_filterMap];have e:a.toList=(List.range a.size).map λj=>a.getD j none:=by
  refine qp (by simp) λi b c=>?_;simp[Array.getD,show i<a.size by simpa using b]
 conv=>rhs;rw[e,List.filterMap_map]
 congr 1
 funext j
 simp only[Function.comp];cases a.getD j none<;>rfl
theorem HC:∀(fuel a n:Nat),∃m,SetTable.sizeAbove.go n fuel (2 ^ a)=2 ^ m/\a<=m
 |0,a,n=>#[a,rZ,cm _]
 | fuel+1,a,n=>by
  unfold SetTable.sizeAbove.go;split
  .obtain⟨m,e,l⟩:=HC fuel (a+1) n;exact#[m,by rw[<-x6];exact e,()]
  .exact#[a,rZ,cm _]
theorem Hv:∀(fuel s n:Nat),n<s * 2 ^ fuel->n<SetTable.sizeAbove.go n fuel s
 |0,s,n,h=>by rw[Nat.pow_zero,Nat.mul_one]at h;exact h
 |fuel+1,s,n,h=>by
  unfold SetTable.sizeAbove.go;split
  .exact Hv fuel (s * 2) n (by rw[x6,Nat.mul_comm (2 ^ fuel),<-Nat.mul_assoc]at h;exact h)
  .lia
def IN{n:Nat}(h:n<2 ^ 60):∃m,SetTable.sizeAbove n=2 ^ m/\n<2 ^ m/\3<=m:=by
 unfold SetTable.sizeAbove;obtain⟨m,e,l⟩:=HC 64 3 n;have g:=Hv 64 8 n ();exact#[m,e,by rw[<-e];exact g,l]
def Fm{t:SetTable}{hs:Array Int}{n:Nat}(h:n<2 ^ 60)(few:hs.size<n):∃a d,t.relaid hs n=some (a,d)/\d.toList.Perm (List.range hs.size)/\a.place.size=hs.size/\(∃m,a.mask+1=2 ^ m)/\n<=a.mask/\(∀j∈a.place.toList,j<=a.mask)/\a.plain=t.plain:=by
 obtain⟨m,e,l,_⟩:=IN h;unfold SetTable.relaid SetTable.laid;rw[e];obtain⟨i,k,o,a3⟩:=Mn (mask:=2 ^ m-1) (m:=m) () hs ();rw[k];have b:=K5 i;rw[o]at b;have f:=dw List.length b;rw[a3.length_eq,bZ,mz]at f;refine#[_,_,rZ,?_,?_,#[m,?_],?_,?_,rZ]
 .rw[qe,b];exact a3
 .rw[dS,bZ];exact f
 .show 2 ^ m-1+1=_;lia
 .show n<=2 ^ m-1;lia
 .intro j g;show j<=2 ^ m-1;rw[qe]at g;obtain⟨x,p,rfl⟩:=cq.mp g;obtain⟨q,c,r⟩:=wK.mp p;obtain⟨_,_,rfl⟩:=da.mp r;have:=eU.mp c;show q<=_;lia
structure TabG(t:SetTable)(n:Nat)(led:Bool):Prop where
 fits:t.fits n=true
 up:t.place.toList.Pairwise (· < ·)
 no:t.dummies= #v[]
 led:t.led=led
 plain:t.plain=true
 pow:∃m,t.mask+1=2 ^ m
def TabG.size{t:SetTable}{n:Nat}{a:Bool}(h:TabG t n a):t.place.size=n:=by
 have z:=h.fits;unfold SetTable.fits at z;rw[lW]at z;exact eq_of_beq z.1
def TabG.mask{t:SetTable}{n:Nat}{a:Bool}(h:TabG t n a):n<=t.mask:=by
 have z:=h.fits;have s:=h.size;unfold SetTable.fits SetTable.fill at z;rw[lW,h.no]at z;have y:=fG z.2;rw[s]at y;exact y
def Ip{t:SetTable}{n:Nat}{a:Bool}(h:TabG t n a)(b:t.tooFull=false):n * 5<t.mask * 3:=by
 unfold SetTable.tooFull SetTable.fill at b;rw[h.no,h.size]at b;have z:=D0 b;have e:(#v[]:Array Nat).size=0:=rfl;rw[e]at z;lia
def zV{t:SetTable}{n:Nat}(no:t.dummies= #v[])(sz:t.place.size=n)(l:n<=t.mask):t.fits n=true:=by
 unfold SetTable.fits SetTable.fill;rw[no,sz];have e:(#v[]:Array Nat).size=0:=rfl;rw[e,c9 (show n+0<=t.mask from l)];simp
def nC(e:Int×Vl):Int:=match e.2 with
 |.int k _=>k
 |_=>0
def vv(e:Int×Vl):Prop:=∃k t,e=(hashInt k,.int k t)
def IsSetG(h:Heap)(a:Ad)(d:Bool)(b:Zs):Prop:=∃c f t,h.get? a=some (jd c f t)/\(∀e∈c,vv e)/\(c.map nC).Perm b/\TabG t c.length d/\t.tooFull=false/\b.Nodup
def ku(a:Zs)(x:Int):Zs:=if x∈a then a else a++[x]
def IsSetG.ext{h c:Heap}{S:Ad}{a:Bool}{b:Zs}(d:IsSetG h S a b)(k:∀o,h.get? S=some o->c.get? S=some o):IsSetG c S a b:=by
 obtain⟨f,g,t,e,r⟩:=d;exact#[f,g,t,k _ e,r]
def L3{t:SetTable}{c:List (Int×Vl)}{g:Bool}{i:Zs}{k:Int}{tk:Tok}(n:∀e∈c,vv e)(r:(c.map nC).Perm i)(b:TabG t c.length g)(s:t.tooFull=false):
  ∃(f:List (Int×Vl)) (o:SetTable),layNew t c.toArray (hashInt k) (.int k tk)=(f.toArray,o,false,false)/\(∀e∈f,vv e)/\(f.map nC).Perm (i++[k])/\TabG o f.length g/\f.length=c.length+1:=by
 have few:=Ip b s;have new:vv (hashInt k,Value.int k tk):=#[k,tk,rZ];obtain⟨m,u⟩:=b.pow;obtain⟨D,v,w⟩:=Hk (place:=t.place) (mask:=t.mask) (by rw[b.size];exact b.mask);obtain⟨j,d,p⟩:=Nf (h:=hashInt k) b.no u v (BC b.no w);obtain⟨rfl,x⟩:=KJ b.no p;have up:=Bi b.up x;have y:SetTable.insertAt c.toArray (SetTable.below t.place j) (hashInt k,Value.int k tk)=(c.take (SetTable.below t.place j)++(hashInt k,Value.int k tk)::c.drop (SetTable.below t.place j)).toArray:=t7 ..;have l:(c.take (SetTable.below t.place j)++(hashInt k,Value.int k tk)::c.drop (SetTable.below t.place j)).length=c.length+1:=by
  rw[dA,gC,<-wj,<-dA,iM]
 have A:SetTable.has #v[] j=false:=by unfold SetTable.has;simp
 have sz:(SetTable.insertAt t.place (SetTable.below t.place j) j).size=c.length+1:=by
  have z:=t7 t.place.toList (SetTable.below t.place j) j;rw[yx]at z;rw[z,dS,dA,gC,<-wj,<-dA,iM,de,b.size]
 have q:({t with place:=SetTable.insertAt t.place (SetTable.below t.place j) j}:SetTable).fits (c.length+1)=true:=zV b.no sz (by show _<=t.mask;lia);refine#[c.take (SetTable.below t.place j)++(hashInt k,Value.int k tk)::c.drop (SetTable.below t.place j),{t with place:=SetTable.insertAt t.place (SetTable.below t.place j) j},?_,λe B=>?_,?_,?_,l]
 .unfold layNew;rw[p];dsimp only[SetTable.put];rw[y,b.no,A];rw[wA (by decide),dS,l];have C:({t with place:=SetTable.insertAt t.place (SetTable.below t.place j) j,dummies:= #v[]}:SetTable)={t with place:=SetTable.insertAt t.place (SetTable.below t.place j) j}:=by rw[<-b.no]
  rw[C];unfold SetTable.orStandIn;rw[q,wB rZ];rfl
 .rcases cM.mp B with z|z
  .exact n e (qc z)
  .rcases dq.mp z with rfl|z
   .exact new
   .exact n e (x4 z)
 .refine(List.Perm.map nC (yl (a:=(hashInt k,Value.int k tk)))).trans ?_;rw[iM,eZ];exact(r.cons _).trans (BL _ _).symm
 .rw[l];exact#[q,up,b.no,b.led,b.plain,b.pow]
def Do{b:Type}{a:List b}:(List.range a.length).filterMap (a[·]?)=a:=by
 refine lR λi=>?_;have e:∀n,n<=a.length->(List.range n).filterMap (a[·]?)=a.take n:=λn=>by
  induction n with
  |zero=>intro _;simp
  |succ n c=>
   intro h;rw[ve,Dv,c (),g9,b8 ()];simp[List.getElem?_eq_getElem (show n<a.length by lia)]
 rw[e _ (cm _),fN]
def Kx{t:SetTable}{a:List (Int×Vl)}{d:Bool}(j:TabG t a.length d)(v:0<a.length)(w:a.length<=4000):∃(b:List (Int×Vl)) (c:SetTable),relayAll t a.toArray (SetTable.grown a.toArray.size)=(b.toArray,c,false)/\b.Perm a/\TabG c b.length d/\c.tooFull=false:=by
 have m:SetTable.grown a.toArray.size=a.length * 4:=by
  unfold SetTable.grown;rw[dS,wA ()]
 rw[m];have o:(a.toArray.map (·.1)).size=a.length:=by simp
 obtain⟨c,f,k,g,sz,pw,x,_,p⟩:=Fm (t:=t) (hs:=a.toArray.map (·.1)) (n:=a.length * 4) () ();rw[o]at g sz;obtain⟨q,h,r⟩:=BV k;have s:f.filterMap (a.toArray[·]?)=(f.toList.filterMap (a[·]?)).toArray:=by
  apply zz.mp;rw[Array.toList_filterMap];simp
 have i:(f.toList.filterMap (a[·]?)).Perm a:=by
  have z:=g.filterMap (a[·]?);rw[Do]at z;exact z
 have l:c.fits a.length=true:=zV h sz ();have u:coversAll f a.toArray.size=true:=by
  unfold coversAll;rw[dS];exact List.isPerm_iff.mpr g
 refine#[_,c,?_,i,?_,?_]
 .unfold relayAll;rw[k];dsimp only;rw[u,s,dS,i.length_eq,l,wB (by decide)]
 .rw[i.length_eq];exact#[l,q,h,r.trans j.led,p.trans j.plain,pw]
 .unfold SetTable.tooFull SetTable.fill;rw[h,sz];have e:(#v[]:Array Nat).size=0:=rfl;rw[e];exact eQ ()
section
variable{P:Pg}{w:World}{A:Ar}{E:VP}{s:Sh}{a:Ad}{d:Bool}{c:Zs}{k:Int}{t:Tok}
def Iy{a:Type}{R:a->Sh->Prop}{rest:Bool->Sem a}{b:Bool}(h:wpAny (model P w) A (rest true) R E s):wpAny (model P w) A (if b=true then hashByValue 8 (Value.int k t) >>= rest else pure true >>= rest) R E s:=by
 cases b
 .exact bW (b9 h)
 .exact bW (show wpAny _ _ (pure true) _ _ _ from b9 h)
def MV{Q:Sh->Prop}(hS:IsSetG s.heap a d c)(few:c.length<4000)(q:∀M,IsSetG M a d (ku c k)->Heap.SameBut a s.heap M->Q {s with heap:=M}):
  wpAny (model P w) A (setAddHashed a (.int k t) (hashInt k)) (λ_ s'=>Q s') E s:=by
 obtain⟨o,ep,t0,e,L,N,tb,nf,nd⟩:=id hS;have ln:o.length=c.length:=by rw[<-N.length_eq,bZ]
 have p:t0.fits o.toArray.size=true:=by rw[dS];exact tb.fits
 have el:ElemsOf (intKind P w) o.toArray.toList:=λx b=>by
  obtain⟨n,O,rfl⟩:=L x (by simpa using b);exact#[#[n,u9 _ _ _ _,rZ],rZ]
 have sc:byScan (.int k t) o.toArray=true:=by
  unfold byScan;have e3:o.toArray.all (·.2.scannable)=true:=by
   rw[Array.all_eq_true_iff_forall_mem];exact λx b=>(el x (by simpa using b)).2
  rw[e3,c9 (show o.toArray.size<scanBound by rw[dS];unfold scanBound;lia)];rfl
 have mem:k∈c↔ ∃x∈o,(intKind P w).is k x.2=true:=by
  rw[<-N.mem_iff,cq];constructor
  .rintro⟨x,b,rfl⟩;obtain⟨n,O,rfl⟩:=L x b;exact#[_,b,u9 _ _ _ _]
  .rintro⟨x,b,h⟩;obtain⟨n,O,rfl⟩:=L x b;exact#[_,b,((intKind P w).inj _ _ _ h (u9 _ _ _ O)).symm]
 unfold setAddHashed setAddHashedIn;refine gf (bW (mv e rZ p ?_));dsimp only;rw[sc,wB rZ];unfold setAddByScan;refine bW (bW (oY (bW (wpAny_setScan_of (knd:=intKind P w) (k:=k) (adding:=true) (u9 _ _ _ _) e rZ p el ?_))));rw[qe];cases hf:o.findIdx? λe=>(intKind P w).is k e.2 with
 |some j=>
  obtain⟨hj,T,_⟩:=List.findIdx?_eq_some_iff_getElem.mp hf;have i:k∈c:=mem.mpr #[_,iw hj,T];refine b9 (b9 ?_);have z:=q s.heap (by unfold ku;rw[wB i];exact hS) (Heap.SameBut.refl a s.heap);cases s;exact z
 | none=>
  have i:k∉c:=λz=>by
   obtain⟨x,b,h⟩:=mem.mp z;have y:=List.findIdx?_eq_none_iff.mp hf x b;rw[h]at y;cases y
  obtain⟨l,r,p0,D,G,H,og⟩:=L3 (k:=k) (tk:=t) L N tb nf;dsimp only;rw[p0];dsimp only;have f:ku c k=c++[k]:=by unfold ku;rw[wA i]
  have I:(ku c k).Nodup:=by
   rw[f];exact oQ.mpr #[nd,gP.mpr #[zD,pU],λx b y hy=>by rw[cE.mp hy];exact λz=>i (z▸b)]
  refine bW (m:=(pure Unit.unit:Sem Unit)) (b9 ?_);refine Iy ?_;simp only[if_true];refine bW (yr e rZ ?_ (by rw[dS,cS];lia));have U:=AF (h:=s.heap) (fs:=l) (u:=r) e;have g:Heap.SameBut a s.heap (s.heap.update a (Obj.putSet l.toArray r)):=zF ..;show wpAny _ _ (if(!false&&r.tooFull)=true then _ else _) _ _ _;by_cases tf:r.tooFull=true
  .rw[tf,wB (by decide)];obtain⟨v,Y,aa,B,ab,ae⟩:=Kx H () ();rw[aa];dsimp only;refine bW (m:=(pure Unit.unit:Sem Unit)) (b9 ?_);refine bW (yr U rZ ?_ (by rw[dS,B.length_eq,cS];lia));have e2:=AF (fs:=v) (u:=Y) U;have C:=Heap.SameBut.trans g (zF (s.heap.update a (Obj.putSet l.toArray r)) a (Obj.putSet v.toArray Y));exact b9 (b9 (q _ #[v,ep+1+1,Y,e2,λx b=>D x (B.mem_iff.mp b),by rw[f];exact(B.map nC).trans G,ab,ae,I] C))
  .have J:r.tooFull=false:=by simpa using tf
   rw[J,wA (by decide)];exact b9 (b9 (q _ #[l,ep+1,r,U,D,by rw[f];exact G,H,J,I] g))
end
def mj(a:Zs):Zs:=a.foldl ku []
section
variable{P:Pg}{w:World}{A:Ar}{E:VP}{S it l:Ad}{a:Bool}{m:Zs}{j:Vs}
theorem HZ{J:Nat->Heap->Prop}{U:Prop}{R:Result->Sh->Prop}(u:A.handled=none)(y:U->A.in1.units<cLine)(z:S≠it)(B:S≠l)(C:it≠l)(m:∀i h a,J i h->h.IsListIter it l i->(∀b o,b≠it->h.get? b=some o->a.get? b=some o)->J i a)(f:∀(A:Ar) (E:VP) i v (s:Sh) (Q:Sh->Prop),(U->A.units<cLine)->j[i]?=some v->J i s.heap->(∀a g,J (i+1) a->Heap.SameBut S s.heap a->Q {s with heap:=a,toks:=g})->wpAny (model P w) A (setAdd S v) (λ_ M=>Q M) E s):
  ∀(r i:Nat) (s:Sh),i+r=j.length->s.heap.IsListIter it l i->s.heap.IsList l j.toArray->J i s.heap->
   (∀a g,J j.length a->(∀b o,b≠S->b≠it->s.heap.get? b=some o->a.get? b=some o)->R (.ok (.ret .none)) {s with heap:=a,toks:=g})->
   codeAny (model P w) A (.builtin "set.update.loop" #[[.ref S,.ref it],[]]) R s
 | r,i,s,N,k,n,D,q=>by
  refine mX BE ?_;rw[oW xG _];show wpAny _ A.in1 (pyNext (.ref it) >>= _) _ _ s;cases r with
  |zero=>
   cases(show i=j.length from N);exact bW (Bk (by simpa using u) k n (by simp) λa keep=>wpAny_pure (q a s.toks (m _ _ _ D k keep) λb o _ G e=>keep b o G e))
  |succ r=>
   obtain⟨v,H⟩:∃v,j[i]?=some v:=#[_,b8 ()];refine bW (Br k n (x:=v) (by simpa using H) λT mB c=>?_);show wpAny _ A.in1 (holding [v] (setAdd S v) >>= _) _ _ _
   refine bW (gf (f _ _ i v _ _ y H (m _ _ _ D k c.extBut) λG O p d=>?_));refine b9 #[mI xG _,HZ u y z B C m f r (i+1) _ () (mB.extBut d.extBut z.symm) ((n.extBut c.extBut C.symm).extBut d.extBut B.symm) p λa g t keep=>?_];exact q a g t λb o I L e=>keep b o I L (d.extBut _ _ I (c.extBut _ _ L e))
set_option maxHeartbeats 4000000 in
def Jh{J:Nat->Heap->Prop}{U:Prop}{a:Bool}{h:Heap}{r:Array GenState}{t:Drawn}{k:Nat}{os:OsState}{R:PySem.Fin->Sh->Prop}(H:A.handled=none)(I:U->A.units+20<cLine)(x:h.IsList l j.toArray)(L:∀it i d n,it≠h.objs.size->J i d->d.IsListIter it l i->(∀b o,b≠it->d.get? b=some o->n.get? b=some o)->J i n)(p:∀(A:Ar) (E:VP) i v (s:Sh) (Q:Sh->Prop),(U->A.units<cLine)->j[i]?=some v->J i s.heap->(∀c f,J (i+1) c->Heap.SameBut h.objs.size s.heap c->Q {s with heap:=c,toks:=f})->wpAny (model P w) A (setAdd h.objs.size v) (λ_ M=>Q M) E s)
  (start:∀c,(∀b o,h.get? b=some o->c.get? b=some o)->c.get? h.objs.size=some (pN a)->J 0 c) (q:∀c f,J j.length c->(∀b o,h.get? b=some o->c.get? b=some o)->R (.done (.ret .none)) #[c,r,t,f,os]):
  wpAny (model P w) A (Builtin.«set.__init__» #[[.ref h.objs.size,.ref l],[]]) R E #[h.push (pN a),r,t,k,os]:=by
 obtain⟨⟨cl,dl,N,sl⟩,y,z,O,B⟩:=id x;simp only at z B;subst z B;have e3:(h.push (pN a)).get? l=some #[.type "list",dl,.seq j.toArray O,sl]:=cV _ y;have T:(h.push (pN a)).get? h.objs.size=some {cls:= .type "set",dict:=none,data:= .set #v[] 0 (.fresh 0 0 a)}:=dW _ rfl;have s1:=F.sub_list_set;have s2:=F.sub_list_frozenset;have ne:(Value.type "list"==Value.type "dict")=false:=by decide
 unfold Builtin.«set.__init__» noKeywords Builtin.Frozenset.updateFrom;generalize g:pyIter=C
 wp_walk
 subst g;have m:(h.push (pN a)).IsList l j.toArray:=x.push _;refine vZ m (bW (wpAny_runValue ?_));have lt:l<h.objs.size:=cQ y;have sz:(h.push (pN a)).objs.size=h.objs.size+1:=vq ..;have D:h.objs.size≠(h.push (pN a)).objs.size:=by rw[sz];exact dP (iW _)
 refine HZ (U:=U) (by simpa using H) (λu=>tupleKind_room_in1 (knd:=dN P w) (by have:=I u;lia)) D (Nat.ne_of_gt lt) (by rw[sz];exact Nat.ne_of_gt (Nat.lt_succ_of_lt lt)) (λi d n=>L _ i d n D.symm) p j.length 0 _ (Nat.zero_add _) #[_,Heap.get?_push_size _ rZ,rZ,rZ] (m.push _) (start _ (λb o e=>Heap.get?_push_of_some _ (Heap.get?_push_of_some _ e)) (Heap.get?_push_of_some _ T)) λc f Y z2=>?_;refine b9 (b9 (q c f Y λb o e=>?_));have G:=cQ e;exact z2 b o (dP G) (by rw[sz];exact dP (yo G)) (cV _ (cV _ e))
def Fy{J:Nat->Heap->Prop}{U:Prop}{s:Sh}{Q:VP}(G:A.handled=none)(H:U->A.units+40<cLine)(B:s.heap.IsList l j.toArray)(I:∀it i m C,it≠s.heap.objs.size->J i m->m.IsListIter it l i->(∀b o,b≠it->m.get? b=some o->C.get? b=some o)->J i C)(n:∀(A:Ar) (E:VP) i v (s1:Sh) (Q:Sh->Prop),(U->A.units<cLine)->j[i]?=some v->J i s1.heap->(∀a d,J (i+1) a->Heap.SameBut s.heap.objs.size s1.heap a->Q {s1 with heap:=a,toks:=d})->wpAny (model P w) A (setAdd s.heap.objs.size v) (λ_ L=>Q L) E s1)
  (start:∀a,(∀b o,s.heap.get? b=some o->a.get? b=some o)->a.get? s.heap.objs.size=some (pN (!w.params.followText "set-order"))->J 0 a) (q:∀a d,J j.length a->(∀b o,s.heap.get? b=some o->a.get? b=some o)->Q (.ref s.heap.objs.size) {s with heap:=a,toks:=d}):
  wpAny (model P w) A (call (.type "set") [.ref l]) Q E s:=by
 have lt:l<s.heap.objs.size:=let⟨_,e,_⟩:=B;cQ e
 obtain⟨c,tl,M⟩:=jb.mro;have made:=jb.made;have sub:=jb.sub;have g:=jb.notType;have N:=jb.canCreate;have args:=F.typeCall_set_1 (.ref l);have look:=jb.init.lookup;have O:=jb.init.bind (.ref s.heap.objs.size);generalize h:jd [] 0 (wX (!w.params.followText "set-order") [])=k;have T:(s.heap.push k).get? s.heap.objs.size=some k:=dW _ (by rw[<-h];rfl);have ty:Shared.TypeIs {s with heap:=s.heap.push k} (.ref s.heap.objs.size) "set":=#[_,T,by rw[<-h];rfl];refine td (Bu (show wpAny _ _ (callAny (.type "set") _) _ _ _ from b9 #[Code.quiet_builtin _ (by decide+kernel),mX F.entry_type_call ?_]));rw[Around.under_plain (weight_type_call_type "set" [.ref l] []) rZ]
 repeat (any_goals (first|assumption|wp_step))
 refine mD (NO (w:=w) (E:=E) (Q:=λv s1=>v=.ref s.heap.objs.size/\s1={s with heap:=s.heap.push k}) (by rw[h];exact#[rZ,rZ])) λr s1 z=>?_;cases r with
 |error _=>exact z
 | ok f=>
  cases f<;>first|exact z.elim|skip
  obtain⟨p,t⟩:=z;subst p t
  repeat (any_goals (first|assumption|wp_step))
  refine mD (codeAny_call_builtin (R:=wants (λv D=>v=.none/\∃a d,D={s with heap:=a,toks:=d}/\J j.length a/\∀b o,s.heap.get? b=some o->a.get? b=some o) E)
   jb.init.plain F.entry_set_init (check_set_init_1 ty ?_)) λr D z=>?_
  .subst h;exact Jh (A:=A.in1.in1) (U:=U) (by simpa using G) (λu=>by have:=H u;simp;lia) B I n start λa d x y=>#[rZ,a,d,rZ,x,y]
  .cases r with
   |error _=>exact z
   |ok f=>
    cases f<;>first|exact z.elim|skip
    obtain⟨p,a,d,t,x,y⟩:=z;subst p t
    repeat (any_goals (first|assumption|wp_step))
    exact q a d x y
def Jj{m:Zs}{i:Nat}{x:Int}(e:m[i]?=some x):mj (m.take (i+1))=ku (mj (m.take i)) x:=by
 rw[g9,e];exact kg ..
def Gg{s:Sh}{Q:VP}(z:A.handled=none)(B:s.heap.IsList l j.toArray)(p:Vals (m.map V.int) j)(few:∀i,i<m.length->(mj (m.take i)).length<4000)(q:∀a c,IsSetG a s.heap.objs.size (!w.params.followText "set-order") (mj m)->(∀b o,s.heap.get? b=some o->a.get? b=some o)->Q (.ref s.heap.objs.size) {s with heap:=a,toks:=c}):
  wpAny (model P w) A (call (.type "set") [.ref l]) Q E s:=by
 have r:j.length=m.length:=by simpa using p.length.symm
 refine Fy (J:=λi h=>IsSetG h s.heap.objs.size (!w.params.followText "set-order") (mj (m.take i))) (U:=False) z (λu=>u.elim) B (λit i H I d f _ k=>f.ext λo e=>k _ o d.symm e) (λA E i v L Q _ g f q=>?_) (λa _ e=>#[[],0,_,e,(λe C=>nomatch C),List.Perm.refl _,#[by cases(!w.params.followText "set-order")<;>rfl,.nil,rZ,rZ,rZ,3,rZ],rZ,.nil]) λa c y D=>q a c (by rw[r,fN]at y;exact y) D;obtain⟨x,n⟩:∃x,m[i]?=some x:=#[_,b8 (by rw[<-r];exact(cg.mp g).1)];obtain⟨u,G,t,rfl⟩:=p.get (i:=i) (x:=V.int x) (by rw[cr,n];rfl);rw[G]at g;cases g;unfold setAdd;refine gf (bW ((intKind P w).pyHash (k:=x) (u9 _ _ _ _) ?_));rw[Jj n]at q;exact MV f (few i (cg.mp n).1) λa=>q a _
end
open PySem PySem.Spec PySem.W PyProof.Rows
def l7(a:Bool)(b:Array Nat):Nat->Nat
 |0=>0
 |i+1=>if a then 0 else b.getD i 0+1
section
variable{P:Pg}{w:World}{A:Ar}{E:VP}{a it:Ad}{d i:Nat}{es:List (Int×Vl)}{t:SetTable}{b:Bool}
def Lk(a:TabG t es.length b)(c:i<=es.length):SetTable.below t.place (l7 false t.place i)=i:=by
 cases i with
 |zero=>exact Nk a.up
 | succ i=>
  have sz:=a.size;have e:t.place[i]?=some (t.place.getD i 0):=by
   rw[fX ()];simp[Array.getD,show i<t.place.size by lia]
  exact Ol a.up e
def G'{s:Sh}{Q:Option (Vl×Nat)->Sh->Prop}(f:s.heap.get? a=some (jd es d t))(b:TabG t es.length (!w.params.followText "set-order"))(h:i<=es.length)(q:Q (((j4 w a d es)[i]?).map λe=>(e.2,l7 (w.params.followText "set-order") t.place (i+1))) s):wpAny (model P w) A (setNext a (l7 (w.params.followText "set-order") t.place i) i d) Q E s:=by
 have c:t.fits es.toArray.size=true:=by rw[dS];exact b.fits
 have sz:=b.size;unfold setNext setsByText;refine bW (mv f rZ c ?_);refine bW (bW (wH (b9 ?_)));show wpAny _ _ (if w.params.followText "set-order"=true then _ else _) _ _ _;unfold j4 at q;have g:=b.led;generalize k:w.params.followText "set-order"=l at q g|-;cases l with
 |true=>
  rw[wB rZ];rw[wB rZ]at q;rw[wA (by simp)];unfold setWalk setsByText;refine bW (bW (mv f rZ c (bW (bW (wH (b9 ?_))))));show wpAny _ _ (if w.params.followText "set-order"=true then _ else _) _ _ _;rw[k,wB rZ];refine bW (wH (b9 (b9 ?_)));rw[fh]at q;cases i<;>exact q
 | false=>
  rw[wA (by decide)];rw[wA (by decide)]at q;rw[wA (by show ¬((!t.plain&&_)=true);rw[b.plain];simp)];have m:(!t.led&& !es.toArray.isEmpty)=false:=by rw[g];rfl
  refine bW ?_;show wpAny _ _ (if(!t.led&& !es.toArray.isEmpty)=true then _ else _) _ _ _;rw[m,wA (by decide)];refine b9 (b9 ?_);show Q (match es.toArray[SetTable.below t.place (l7 false t.place i)]?,t.place[SetTable.below t.place (l7 false t.place i)]? with|some (_,x),some j=>some (x,j+1)|_,_=>none) s;rw[Lk (es:=es) b h]
  rcases Nat.lt_or_ge i es.length with z|z
  .rw[b8 z]at q;have e:l7 false t.place (i+1)=t.place[i]'()+1:=by
    show(if false=true then 0 else t.place.getD i 0+1)=_;rw[wA (by decide)];simp[Array.getD,show i<t.place.size by lia]
   simp only[List.getElem?_toArray,List.getElem?_eq_getElem z,Array.getElem?_eq_getElem (show i<t.place.size by lia)];rw[e]at q;exact q
  .rw[ie z]at q;simp only[List.getElem?_toArray,List.getElem?_eq_none z];exact q
def Lr{s:Sh}{e:Int×Vl}{Q:Option Vl->Sh->Prop}(l:a≠it)(j:TabG t es.length (!w.params.followText "set-order"))(b:s.heap.get? it=some (sv (l7 (w.params.followText "set-order") t.place i) i es.length d a))(k:s.heap.get? a=some (jd es d t))(n:i<es.length) (o:(j4 w a d es)[i]?=some e)(q:∀c,c.get? it=some (sv (l7 (w.params.followText "set-order") t.place (i+1)) (i+1) es.length d a)->Heap.SameBut it s.heap c->Q (some e.2) {s with heap:=c}):wpAny (model P w) A (pyNext (.ref it)) Q E s:=by
 have ty:s.TypeIs (.ref it) "set_iterator":=#[_,b,rZ];have f:t.fits es.toArray.size=true:=by rw[dS];exact j.fits
 unfold pyNext;refine bW (nI (oB (name:=Str.ofString "__next__") ty eK (iG eK ty EN ?_ (FF _))));unfold sv at b;unfold Builtin.«set_iterator.__next__»;refine bW (m:=slotArgs _ _ _) (b9 ?_);refine bW (pQ b rZ ?_);show wpAny _ _ (setEntries a >>= _) _ _ _;unfold setEntries;refine bW (bW (mv k rZ f (b9 ?_)));have p:((((es.toArray.size:Nat):Int) != ((es.length:Nat):Int)))=false:=by simp
 show wpAny _ _ (if((((es.toArray.size:Nat):Int) != ((es.length:Nat):Int)))=true then _ else _) _ _ _;rw[p,wA (by decide)];show wpAny _ _ (setNext a ((l7 (w.params.followText "set-order") t.place i:Nat):Int).toNat ((i:Nat):Int).toNat ((d:Nat):Int).toNat >>= _) _ _ _;simp only[Int.toNat_natCast];refine bW (G' k j (jc n) ?_);rw[o];show wpAny _ _ (setField (.ref it) 0 (rawInt _) >>= _) _ _ _;refine bW (mC b (by simp) λx r g=>?_);refine bW (mC r (by simp) λu v h=>?_);exact b9 #[_,rZ,b9 (q u v (g.trans h))]
def Mw{s:Sh}{Q:Option Vl->Sh->Prop}(k:A.handled=none)(h:TabG t es.length (!w.params.followText "set-order"))(c:s.heap.get? it=some (sv (l7 (w.params.followText "set-order") t.place es.length) es.length es.length d a))(i:s.heap.get? a=some (jd es d t))(q:∀j,Heap.ExtBut it s.heap j->Q none {s with heap:=j}):wpAny (model P w) A (pyNext (.ref it)) Q E s:=by
 have ty:s.TypeIs (.ref it) "set_iterator":=#[_,c,rZ];have f:t.fits es.toArray.size=true:=by rw[dS];exact h.fits
 have l:(j4 w a d es)[es.length]?=none:=ie (by rw[(wF w a d es).length_eq];exact cm _);unfold pyNext;refine bW (nI (oB (name:=Str.ofString "__next__") ty eK (iG eK ty EN ?_ (FF _))));unfold sv at c;unfold Builtin.«set_iterator.__next__»;refine bW (m:=slotArgs _ _ _) (b9 ?_);refine bW (pQ c rZ ?_);show wpAny _ _ (setEntries a >>= _) _ _ _;unfold setEntries;refine bW (bW (mv i rZ f (b9 ?_)));have n:((((es.toArray.size:Nat):Int) != ((es.length:Nat):Int)))=false:=by simp
 show wpAny _ _ (if((((es.toArray.size:Nat):Int) != ((es.length:Nat):Int)))=true then _ else _) _ _ _;rw[n,wA (by decide)];show wpAny _ _ (setNext a ((l7 (w.params.followText "set-order") t.place es.length:Nat):Int).toNat ((es.length:Nat):Int).toNat ((d:Nat):Int).toNat >>= _) _ _ _;simp only[Int.toNat_natCast];refine bW (G' i h (cm _) ?_);rw[l];show wpAny _ _ (setField (.ref it) 2 .none >>= _) _ _ _;refine bW (mC c (by simp) λr u g=>?_);refine bW (m:=newExc _ _) ?_;simp only[newExc,newTuple];refine bW (mw ?_ (by size_fits));refine bW (m:=firstArgMember _ _) (uh (a:=Value.none) (by first|rfl|(unfold firstArgMember;rfl)) (wpAny_newObj_type ?_ (by size_fits)));refine AE (by simpa using k) (wpAny_bind (wpAny_isInstance (T:="StopIteration") (b:=true) #[_,Heap.get?_push_size _ rZ,rZ] isSubtype_stop (wpAny_pure ?_)));exact q _ λb o p e=>cV _ (cV _ (g.extBut b o p e))
def L8(n:A.handled=none)(c:a≠it)(j:TabG t es.length (!w.params.followText "set-order")):Walks P w A it [it,a] [it] es.length (λi v=>∃e,(j4 w a d es)[i]?=some e/\v=e.2) (λi h=>h.get? it=some (sv (l7 (w.params.followText "set-order") t.place i) i es.length d a)/\h.get? a=some (jd es d t)) where
 sub:=λb p=>dq.mpr (.inl (cE.mp p))
 frame:=λi h f st k=>#[k it (dh ..) _ st.1,k a (dR _ (cE.mpr rZ)) _ st.2]
 item:=λi s Q E r st q=>by
  have y:(j4 w a d es).length=es.length:=by rw[(wF w a d es).length_eq]
  obtain⟨e,l⟩:∃e,(j4 w a d es)[i]?=some e:=#[_,b8 ()];refine Lr c j st.1 st.2 r l λf u m=>q e.2 f s.toks #[e,l,rZ] #[u,m.extBut _ _ c st.2] λb o g e=>m.extBut _ _ (λz=>g (cE.mpr z)) e
 done:=λs Q E st q=>Mw n j st.1 st.2 λf x=>q f s.toks λb o g e=>x b o (λz=>g (cE.mpr z)) e
 self:=λi s Q E st q=>by
  have ty:s.TypeIs (.ref it) "set_iterator":=#[_,st.1,rZ];refine pJ ty Gm (iG Gm ty NA ?_ (MU _));exact show wpAny _ _ (ret (.ref it)) _ _ s from b9 #[_,rZ,"set_iterator",_,ty,eK.lookup,q]
def wR{s:Sh}{Q:VP}(e:TabG t es.length (!w.params.followText "set-order"))(c:s.heap.get? a=some (jd es d t))(q:Q (.ref s.heap.objs.size) {s with heap:=s.heap.push (sv 0 0 es.length d a)}):wpAny (model P w) A (pyIter (.ref a)) Q E s:=by
 have ty:s.TypeIs (.ref a) "set":=#[_,c,rZ];have b:t.fits es.toArray.size=true:=by rw[dS];exact e.fits
 refine pJ ty F.slot_set_iter (iG F.slot_set_iter ty Iw ?_ (F.args_set_iter_1 _));unfold Builtin.«frozenset.__iter__»;refine bW (m:=Builtin.Frozenset.slot0 _ _) (b9 ?_);unfold Builtin.Frozenset.sizeOf setEntries;refine bW (bW (bW (mv c rZ b (b9 (b9 ?_)))));unfold setDrawn setsByText;refine bW (bW (mv c rZ b (bW (bW (wH (b9 (b9 ?_)))))));have nd:(!w.params.followText "set-order"&&(!t.plain&&decide (es.toArray.size>1)))=false:=by rw[e.plain];simp
 show wpAny _ _ (if(!w.params.followText "set-order"&&(!t.plain&&decide (es.toArray.size>1)))=true then _ else _) _ _ _;rw[nd,wA (by decide)];refine bW (b9 (bW (wpAny_setEpoch_of c rZ b ?_)));refine bW (m:=newFields _ _) ?_;unfold newFields;refine mw ?_ (by size_fits);exact b9 #[_,rZ,"set_iterator",_,#[_,dW _ rZ,rZ],eK.lookup,q]
def xb(b:TabG t es.length (!w.params.followText "set-order")):PySem.W.KdlSrc P w "set" a a es.length (λi v=>∃e,(j4 w a d es)[i]?=some e/\v=e.2) (λh=>h.get? a=some (jd es d t)) where
 type:=λ_ e=>#[_,e,rZ]
 there:=λ_ e=>#[cQ e,cQ e]
 keep:=λ_ _ e k=>k a (.inl rZ) _ e
 notList:=by decide
 notTuple:=by decide
 hint:=λ_ _ _ _ e q=>xf #[_,e,rZ] q
 iter:=λ_ _ c e=>#[_,_,λ_ _ q=>wR b e q,L8 c (dP (cQ e)) b,dW _ rZ,cV _ e]
theorem Ij:∀{a:List (Int×Vl)},(∀e∈a,vv e)->IntsAre (a.map (·.2)) (a.map nC)
 | [],_=> .nil
 |e::a,h=>by
  obtain⟨k,t,rfl⟩:=h e (dh ..);rw[eZ,eZ];exact .cons k t (Ij λx b=>h x (dR _ b))
def Jw{s:Sh}{d:Vs}{c:Zs}(k:IntsAre d c)(m:2<=d.length):xu P w A d (λi j=>decide (c.getD i 0<c.getD j 0)) s:=by
 unfold xu;obtain⟨g,h,rest,rfl⟩:∃g h rest,d=g::h::rest:=by
  cases d with
  |nil=>exact wC m (Nat.not_succ_le_zero 1)
  |cons a r=>cases r with
   |nil=>exact wC m (Nat.not_succ_le_self 1)
   |cons b r=>exact#[a,b,r,rZ]
 rw[keyKind_ints k];refine b9 #[rZ,λi j C n o q=>?_];have f:∀{i:Nat},i<(g::h::rest).length->∃l,(g::h::rest).getD i Value.none=.int (c.getD i 0) l:=λ{i} y=>by
  have z:=k.length;obtain⟨u,p,l,e⟩:=(ut k).get (i:=i) (x:=V.int (c.getD i 0)) (by rw[cr,b8 (show i<c.length by lia),cP,b8 (show i<c.length by lia)];rfl);subst e;exact#[l,by rw[cP,p];rfl]
 obtain⟨B,t⟩:=f n;obtain⟨D,v⟩:=f o;show wpAny (model P w) A (keyLt' _ _ _) C _ s;rw[t,v,keyLt'_oneType];exact oneLt_int q
theorem Fe:∀{d:Vs} {f:Zs},IntsAre d f->f.Nodup->d.Nodup
 |_,_,.nil,_=> .nil
 |_,_,.cons n t h,nd=>by
  obtain⟨a,b⟩:=gP.mp nd;refine gP.mpr #[λz=>a ?_,Fe h b];obtain⟨i,c⟩:=dU.mp z;have j:=h.length;obtain⟨u,g,k,e⟩:=(ut h).get (i:=i) (x:=V.int (_:Int)) (by rw[cr,b8 (show i<_ by have:=(cg.mp c).1;lia)];rfl);rw[g]at c;subst e;injection c with c
  injection c with c
  rw[<-c];exact iw _
def Ku{b:Vs}{a:Zs}(c:IntsAre b a){p:Array Nat}(f:Arr a.length p):IntsAre (f8 b p) (p.toList.map λi=>a.getD i 0):=by
 have r:=c.length;have all:∀l:bV,(∀i∈l,i<a.length)->IntsAre (l.map λi=>b.getD i Value.none) (l.map λi=>a.getD i 0):=λl=>by
  induction l with
  |nil=>intro _;exact .nil
  |cons i l g=>
   intro h;have d:=h i (dh ..);obtain⟨u,k,n,e⟩:=(ut c).get (i:=i) (x:=V.int (a.getD i 0)) (by rw[cr,b8 d,cP,b8 d];rfl);subst e;rw[eZ,eZ,show b.getD i Value.none=.int (a.getD i 0) n by rw[cP,k];rfl];exact .cons _ _ (g λj o=>h j (dR _ o))
 refine all _ λi q=>?_;have m:=(lM.mp f).mem_iff.mp q;simpa using m
def OB{a:Zs}{p:Array Nat}(d:Arr a.length p)(up:pf (λi=>a.getD i 0) p a.length):(p.toList.map λi=>a.getD i 0).Pairwise (· < ·):=by
 rw[sw,ke];intro i j b c lt;have sz:=d.size;rw[de]at b c;have z:=up i j lt ();simp only[Array.getD,b,c,dif_pos]at z;simpa using z
def Fx{s:Sh}{g:Zs}{Q:VP}(hh:A.handled=none)(hS:IsSetG s.heap a (!w.params.followText "set-order") g)(few:g.length<=4000)(q:∀(r v:Heap) G B L n,IntsAre B L->L.Perm g->L.Pairwise (· < ·)->(∀b o,s.heap.get? b=some o->r.get? b=some o)->(∀b o,r.get? b=some o->v.get? b=some o)->v.get? r.objs.size=some {cls:= .type "list",data:= .seq B.toArray n}->Q (.ref r.objs.size) {s with heap:=v,toks:=G}):
  wpAny (model P w) A (call (.builtin "sorted") [.ref a]) Q E s:=by
 obtain⟨es,d,t,eS,en,N,tb,nf,nd⟩:=hS;have ln:es.length=g.length:=by rw[<-N.length_eq,bZ]
 have f:=wF w a d es;refine Ag zS x8 zW (args_sorted1 _) ?_;unfold Builtin.«sorted»;refine bW (m:=checkCount "sorted" 1 1 _) (b9 ?_);refine bW (PySem.W.kdu_collect (A:=A.in1) (xb tb) (by simpa using hh) eS (by rw[sizeLine_eq];lia) λr G ac keep C=>?_);have h:ac.toList=(j4 w a d es).map (·.2):=by
  refine vf (by rw[de,C.1,bZ,f.length_eq]) λi x y hx O=>?_;obtain⟨e,e1,e2⟩:=C.2 i x (by rw[<-fh];exact hx);rw[cr,e1]at O;cases O;exact e2
 have l:IntsAre ac.toList ((j4 w a d es).map nC):=by
  rw[h];exact Ij λe he=>en e (f.mem_iff.mp he)
 have T:ac.toList.length=es.length:=by rw[h,bZ,f.length_eq]
 have H:((j4 w a d es).map nC).Perm g:=(f.map nC).trans N;generalize(j4 w a d es).map nC=u at l H;have nl:u.length=g.length:=H.length_eq;have D:u.Nodup:=H.nodup_iff.mpr nd;generalize ac.toList=I at l T;refine bW (qq ?_ (by rw[T,cS];lia));have U:(r.push (seqObj "list" I.toArray 0)).get? r.objs.size=some (seqObj "list" I.toArray 0):=dW _ rfl;have vn:I.length=u.length:=by lia
 refine bW (gf (iG AC #[_,U,rZ] Ax (B4 (s:={s with heap:=r.push (seqObj "list" I.toArray 0),toks:=G}) (k:=λi=>u.getD i 0) U () (Fe l D) (λi j hi hj e=>?_) (λv Y M=>Jw l M) λp v c J up e Y=>#[_,rfl,?_]) (args_list_sort _)))
 .rw[cP,cP,b8 (show i<u.length by lia),b8 (show j<u.length by lia)]at e;exact(Cb D).mp e
 .rw[vn]at J up;refine b9 #[_,rZ,q r v G _ _ c (Ku l J) (.trans ?_ H) (OB J up) keep (λb o z=>Y b o (dP (cQ z)) (cV _ z)) e];have z:=(lM.mp J).map λi=>u.getD i 0;refine z.trans (List.Perm.of_eq ?_);refine qp (by simp) λi r M=>?_;simp[show i<u.length from M]
end
section
variable{X:Cx}
def Jr{a:Zs}{x y:Int}:y∈ku a x↔y∈a\/y=x:=by
 unfold ku;split
 .exact#[.inl,λz=>z.elim id λe=>by rw[e];assumption]
 .rw[cM,cE]
def fJ{b:Zs}{y:Int}:y∈mj b↔y∈b:=by
 have all:∀(b a:Zs),y∈b.foldl ku a↔y∈a\/y∈b:=λb=>by
  induction b with
  |nil=>intro a;simp
  |cons x b c=>
   intro a;rw[jw,c,Jr,dq,or_assoc]
 rw[mj,all];simp
def G5(b:Zs):(mj b).length<=b.length:=by
 have all:∀(b a:Zs),(b.foldl ku a).length<=a.length+b.length:=λb=>by
  induction b with
  |nil=>intro a;simp
  | cons x b c=>
   intro a;rw[jw,gC];refine cW (c _) ?_;unfold ku;split
   .lia
   .rw[dA];show a.length+1+_<=_;lia
 have z:=all b [];rw[Bb,ot]at z;exact z
def Ab(w:World)(a:Ad)(b:Zs):HO:= .ext λh=>IsSetG h a (!w.params.followText "set-order") b
def IsSetG.ok{w:World}{h:Heap}{a:Ad}{b:Zs}{P:Pg}{f:World}{H:Hp}(x:IsSetG h a (!w.params.followText "set-order") b):ObjOk P f H h a (Ab w a b):=by
 obtain⟨j,l,t,e,r⟩:=id x;exact#[x,#[_,e],λm n ⟨c,d,t',g,i⟩ k=>#[c,d,t',k _ g,i]]
inductive pM(K:O2)(w:World)(c:List V)(H:Hp)(Q:VK):Prop|mk:∀(p:Ad) (b:Zs),c=[.ref p]->SqL K H p (b.map V.int)->b.length<=4000->(∀a,H a=none->Q (.ref a) (bX H a (Ab w a (mj b))))->pM K w c H Q
def N1(a:X.calm=true):hG X (.type "set") (pM X.K X.w):=by
 intro b s c H n o Q I r h;obtain⟨p,t,rfl,d,few,q⟩:=h;obtain⟨u,rfl,e⟩:=gD r;cases e;obtain⟨f,g,j,_⟩:=I.list d;refine Gg (I.ok.hd a) j.isList g (λi v=>rX (G5 _) (by rw[e9];lia)) λk l z keep=>?_;have m:Inv X b c H {s with heap:=k,toks:=l}:=I.kept keep;exact#[.ref s.heap.objs.size,_,Inv.trackNew I m z.ok,rZ,q _ I.fresh]
inductive mZ(w:World)(d:List V)(H:Hp)(Q:VK):Prop|mk:∀(a:Ad) (b:Zs),d=[.ref a]->H a=some (Ab w a b)->b.length<=4000->(∀(l:Ad) (c:Zs),H l=none->c.Perm b->c.Pairwise (· < ·)->Q (.ref l) (bX H l (.lst (c.map V.int))))->mZ w d H Q
def Kg(m:X.calm=true):hG X (.builtin "sorted") (mZ X.w):=by
 intro g s i H B C Q I r h;obtain⟨a,o,rfl,p,few,q⟩:=h;obtain⟨u,rfl,t⟩:=gD r;cases t;obtain⟨z,_,_⟩:=I.hok a _ p;refine Fx (I.ok.hd m) z few λb j k c d n v l w x y e=>?_;have f:Inv X g i H {s with heap:=b,toks:=k}:=I.kept x;have A:Inv X g i H {s with heap:=j,toks:=k}:=f.kept y;have D:=l.length_eq;have ok:ObjOk X.prog X.w (bX H b.objs.size (.lst (d.map V.int))) j b.objs.size (.lst (d.map V.int)):=#[by rw[bZ,cS];lia,c,n,ut v,e];exact#[.ref b.objs.size,_,Inv.trackNew f A ok,rZ,q _ d f.fresh l w]
end
end L2
namespace L2
open PySem PySem.Spec PyProof.Rows
def Gi{d:Zs}{c:bV}(f:d.Pairwise (· < ·))(i:c.Pairwise (· < ·))(h:∀x:Int,x∈d↔ ∃k∈c,x=(k:Int)):d=c.map λ(n:Nat)=>(n:Int):=by
 have g:(c.map λ(n:Nat)=>(n:Int)).Pairwise (· < ·):=sw.mpr (i.imp λz=>by lia);have nd:∀{l:Zs},l.Pairwise (· < ·)->l.Nodup:=λh=>h.imp λz e=>by lia
 refine List.Perm.eq_of_pairwise (le:=(· <= ·)) (λx y _ _=>Int.le_antisymm) (f.imp λz=>by lia) (g.imp λz=>by lia) ((List.perm_ext_iff_of_nodup (nd f) (nd g)).mpr λx=>?_);rw[h,cq];exact#[λ⟨k,a,b⟩=>#[k,a,b.symm],λ⟨k,a,b⟩=>#[k,a,b.symm]]
section
variable{X:Cx}
def oE(w:World)(a:Ad)(m:Nat):HO:= .ext λh=>∃b,IsSetG h a (!w.params.followText "set-order") b/\∀k:Int,k∈b↔ ∃i∈nV m,k=(i:Int)
def wq{a:Zs}{ns:bV}(nd:a.Nodup)(h:∀k∈a,∃i∈ns,k=((i:Nat):Int))(b:∀n∈ns,n<5):a.length<=5:=
 rY (l₂:=(List.range 5).map λ(n:Nat)=>(n:Int)) nd λk c=>let⟨i,d,e⟩:=h k c;cq.mpr #[i,eU.mpr (b i d),e.symm]
def MP(d:Zs):(mj d).Nodup:=by
 have all:∀(d c:Zs),c.Nodup->(d.foldl ku c).Nodup:=λd=>by
  induction d with
  |nil=>intro c h;exact h
  | cons x d e=>
   intro c h;rw[jw];refine e _ ?_;unfold ku;split
   .exact h
   .rename_i f
    exact oQ.mpr #[h,gP.mpr #[zD,pU],λa g b i=>by rw[cE.mp i];exact λz=>f (z▸g)]
 exact all d [] pU
inductive pT(K:O2)(w:World)(c:List V)(H:Hp)(Q:VK):Prop|mk:∀p b,c=[.ref p]->SqL K H p (b.map nv)->(∀n∈b,n<5)->(∀a,H a=none->Q (.ref a) (bX H a (oE w a (lB 0 b))))->pT K w c H Q
def AR(m:X.calm=true):hG X (.type "set") (pT X.K X.w):=by
 intro o s v H M N Q I r h;obtain⟨p,b,rfl,g,j,q⟩:=h;obtain⟨u,rfl,w⟩:=gD r;cases w;rw[rh]at g;obtain⟨x,y,A,_⟩:=I.list g;refine Gg (I.ok.hd m) A.isList y (λi O=>rX (wq (ns:=b) (MP _) (λk B=>?_) j) (by decide)) λl C z keep=>?_
 .obtain⟨n,a,e⟩:=cq.mp (qc (fJ.mp B));exact#[n,a,e.symm]
 have D:Inv X o v H {s with heap:=l,toks:=C}:=I.kept keep;have ok:ObjOk X.prog X.w (bX H s.heap.objs.size (oE X.w s.heap.objs.size (lB 0 b))) l s.heap.objs.size (oE X.w s.heap.objs.size (lB 0 b)):=by
  obtain⟨T,U,t,e,r⟩:=id z;refine#[#[_,z,λk=>?_],#[_,e],λY h2 ⟨c,⟨d,f,E,G,J⟩,L⟩ k=>#[c,#[d,f,E,k _ G,J],L]];rw[fJ,cq,xi];unfold dM;constructor
  .rintro⟨n,a,e⟩;exact#[n,dv.mpr #[eU.mpr (j n a),f7.mpr a],e.symm]
  .rintro⟨n,a,e⟩;exact#[n,f7.mp (dv.mp a).2,e.symm]
 exact#[.ref s.heap.objs.size,_,Inv.trackNew I D ok,rZ,q _ I.fresh]
inductive mV(w:World)(b:List V)(H:Hp)(Q:VK):Prop|mk:∀a m,b=[.ref a]->H a=some (oE w a m)->(∀l,H l=none->Q (.ref l) (bX H l (.lst ((nV m).map nv))))->mV w b H Q
def Df(t:X.calm=true):hG X (.builtin "sorted") (mV X.w):=by
 intro i s j H L M Q I r h;obtain⟨a,m,rfl,v,q⟩:=h;obtain⟨u,rfl,w⟩:=gD r;cases w;obtain⟨⟨c,z,mem⟩,_,_⟩:=I.hok a _ v;have up:(nV m).Pairwise (· < ·):=vy.filter _;have nd:c.Nodup:=let⟨_,_,_,_,_,_,_,_,nd⟩:=z;nd
 have N:=wq (ns:=nV m) nd (λk y=>(mem k).mp y) λn A=>eU.mp (dv.mp A).1;refine Fx (I.ok.hd t) z () λb l o d f n B p C D E e=>?_;have g:Inv X i j H {s with heap:=b,toks:=o}:=I.kept D;have G:Inv X i j H {s with heap:=l,toks:=o}:=g.kept E;have O:=p.length_eq;have J:f=(nV m).map λ(n:Nat)=>(n:Int):=Gi C up λx=>p.mem_iff.trans (mem x);have ok:ObjOk X.prog X.w (bX H b.objs.size (.lst (f.map V.int))) l b.objs.size (.lst (f.map V.int)):=#[by rw[bZ,cS];lia,d,n,ut B,e];rw[J,<-rh]at ok;exact#[.ref b.objs.size,_,Inv.trackNew g G ok,rZ,q _ g.fresh]
end
open PySem PySem.Spec PySem.W PyProof.Rows
inductive hX(P:bV->Prop)(g:bV->Int)(c:List V)(H:Hp)(Q:VK)(b:XK):Prop|mk:∀(a:Ad) (t:bV),c=[.ref a]->H a=some (.tup (t.map nv))->P t->(∀d,Same H d->Q (.int (g t)) d)->hX P g c H Q b
def pG(g:bV->Int)(a:Option (Ad×bV))(x:Ad×bV):Option (Ad×bV):=match a with
 |none=>some x
 |some y=>if g x.2<g y.2 then some x else some y
def Bz(g:bV->Int)(a:Tok):Option (Ad×bV)->Array Vl
 |none=> #v[]
 |some y=> #v[.ref y.1,.int (g y.2) a]
section
variable{X:Cx}{m:AO}{B:St}{D:Nat}{f:Ad}{E:Fd}{C:Ss}{g:bV->Int}{P:bV->Prop}
def Kd{c:Sp}{H:Hp}{s:Sh}{Q:VK}{us:Vs}{vs:List V}(F:FnOk X.prog X.w X.K X.mg X.base cL D f E C c)(d:Room D X.A.in1)(g:Binds X.K E C [])(I:Inv X m B H s)(r:Vals vs us)(h:c vs H Q E0):
  wpAny (model X.prog X.w) X.A.in1 (call (.ref f) us) (EP X m B Q) (λ_ _=>False) s:=by
 have i:(us++[]).length=C.length:=by rw[gL,<-r.length];exact F.len _ _ _ _ h
 have b:=g s us I.kIn i;rw[gL]at b;refine td (mD (F.run X.A.in1 X.stack s H #[us,[]] us vs Q E0 d I.env0.in1 b r h) λr k a=>?_);cases r with
 |error e=>exact a.elim
 |ok j=>
  cases j with
  |ret u=>exact I.after a
  |next=>exact wE a
  |brk=>exact wE a
  |cont=>exact wE a
theorem B0{I S l:Ad}{as:As}{R:Result->Sh->Prop}(F:FnOk X.prog X.w X.K X.mg X.base cL D f E C (hX P g))(hr:Room D X.A.in1)(hb:Binds X.K E C [])(hh:X.A.handled=none)(ne:S≠I):
  ∀(r:As) (G:LN) (i:Nat) (H:Hp) (L:Option (Ad×bV)) (O:Tok) (c:Nat) (s:Sh),as.drop i=r->Inv X m B H s->s.heap.IsListIter I l i->SqL X.K H l (as.map V.ref)->TupsAt H r G->(∀t∈G,P t)->
   s.heap.get? S=some (seqObj "list" (Bz g O L) c)->FpOk X m H S->FpOk X m H I->(L=none->r≠[])->
   (∀H2 s2 b u,Inv X m B H2 s2->Same H H2->(r.zip G).foldl (pG g) L=some (b,u)->R (.ok (.ret (.ref b))) s2)->
   codeAny (model X.prog X.w) X.A (.builtin "min.loop" #[[.ref I,.ref f,.ref S],[]]) R s
 | [],G,i,H,L,O,c,s,hd,J,N,hl,T,hP,eS,U,Y,d,q=>by
  obtain⟨ab,rv,pl,_⟩:=J.list hl;have ei:=vI rv;subst ei;cases L with
  |none=>exact wC rZ (d rZ)
  |some y=>
   refine mX PySem.F.entry_min_loop ?_;rw[oW vb _];show wpAny _ X.A.in1 (seqItems? (.ref S) >>= _) _ _ s
   refine bW (vr eS rZ ?_);show wpAny _ X.A.in1 (tryCatch (pyNext (.ref I)) _ >>= _) _ _ s
   refine bW (yK (Bk (by simpa using hh) N pl.isList (by have:=List.drop_eq_nil_iff.mp hd;simpa using this) λh' keep=>?_));have ae:=keep S _ ne eS;show wpAny _ X.A.in1 (updateSeq S (λ_=> #v[]) >>= _) _ _ _
   refine bW (si ae rZ (bW (rj (b9 ?_))) (hz:=(show 2<=sizeLine by rw[cS];decide)));obtain⟨w0,w1,w2,w3,w4,w5⟩:=U;obtain⟨v0,v1,v2,v3,v4,v5⟩:=Y;have J1:Inv X m B H {s with heap:=h'}:=J.turned (t':=s.toks) keep v0 v1 v3 v4 v5;have J2:Inv X m B H {s with heap:=h'.update S (Obj.mapSeq λ_=>(#v[]:AV))}:=J1.turned (t':=s.toks) (λb o nb e=>(iQ _ _ (eC nb)).trans e) w0 w1 w3 w4 w5;exact q H _ y.1 y.2 J2 (Same.refl _) (by rw[C4];rfl)
 |a::r,[],i,H,L,O,c,s,hd,J,N,hl,T,hP,eS,U,Y,d,q=>by have:=T.len;simp at this
 | a::r,t::G,i,H,L,O,c,s,hd,J,N,hl,T,hP,eS,U,Y,d,q=>by
  obtain⟨ab,rv,pl,_⟩:=J.list hl;have ei:=vI rv;subst ei;have af:as[i]?=some a:=by rw[<-List.head?_drop,hd];rfl
  have next:as.drop (i+1)=r:=by rw[<-List.tail_drop,hd];rfl
  have ha:H a=some (.tup (t.map nv)):=T.is 0 a t rZ rfl;have p:(toString "min"++toString ".loop":String)="min.loop":=by decide
  refine mX PySem.F.entry_min_loop ?_;rw[oW vb _];show wpAny _ X.A.in1 (seqItems? (.ref S) >>= _) _ _ s;refine bW (vr eS rZ ?_);show wpAny _ X.A.in1 (tryCatch (pyNext (.ref I)) _ >>= _) _ _ s;refine bW (yK (Br N pl.isList (x:= .ref a) (by simpa using af) λh1 mB aa=>?_));obtain⟨w0,w1,w2,w3,w4,w5⟩:=id U;obtain⟨v0,v1,v2,v3,v4,v5⟩:=id Y;have J1:Inv X m B H {s with heap:=h1}:=J.turned (t':=s.toks) aa.extBut v0 v1 v3 v4 v5;have ag:h1.get? S=some (seqObj "list" (Bz g O L) c):=aa.extBut _ _ ne eS;obtain⟨oI,eI,cI,dI⟩:=id mB;have Jp:=J1.pin2 U Y ag eI (λ_ z=>nomatch z) (λv z=>by rw[dI]at z;cases z);have go:=Kd (Q:=λv H'=>v=.int (g t)/\Same H H') F hr hb Jp (us:=[.ref a]) (vs:=[.ref a]) (.cons rZ .nil) #[a,t,rZ,ha,hP t (dh ..),λH' gg=>#[rZ,gg]];show wpAny _ X.A.in1 (tryCatch (holding [Value.ref a] (call (.ref f) [Value.ref a])) _ >>= _) _ _ _;refine bW (yK (gf (gJ go (λk s2 hk=>?_) λ_ _ z=>z.elim)));obtain⟨v,H',I',ah,rfl,gg⟩:=hk;obtain⟨M,rfl⟩:=ah;obtain⟨p1,p2,p3,p4,_⟩:=I'.pin (S,_) (ft _ (dh ..));obtain⟨d1,d2,d3,d4,_⟩:=I'.pin (I,_) (ft _ (dR _ (dh ..)));have I2:=I'.unpin2;have T':TupsAt H' r G:=#[by simpa using T.len,λj b u e1 e2=>gg _ _ (T.is (j+1) b u (by simpa using e1) (by simpa using e2))];have put:(r.zip G).foldl (pG g) (some (a,t))=((a::r).zip (t::G)).foldl (pG g) L->codeAny (model X.prog X.w) X.A (.builtin "min.loop" #[[.ref I,.ref f,.ref S],[]]) R {s2 with heap:=s2.heap.update S (Obj.mapSeq λ_=> #v[.ref a,.int (g t) M])}:=λef=>by
   obtain⟨c',ai⟩:∃c',(s2.heap.update S (Obj.mapSeq λ_=> #v[.ref a,.int (g t) M])).get? S=some (seqObj "list" (Bz g M (some (a,t))) c'):=#[_,uz p1 λ_=> #v[.ref a,.int (g t) M]];have I3:Inv X m B H' {s2 with heap:=s2.heap.update S (Obj.mapSeq λ_=> #v[.ref a,.int (g t) M])}:=I2.turned (t':=s2.toks) (λb o nb e=>(iQ _ _ (eC nb)).trans e) p2 w1 w3 w4 w5;refine B0 F hr hb hh ne r G (i+1) H' (some (a,t)) M c' _ next I3 #[oI,(iQ _ _ ne).trans d1,cI,dI] (gg.seq hl) T' (λu hu=>hP u (dR _ hu)) ai (U.to p2) (Y.to d2) (λz=>nomatch z) λH2 s3 b u I4 g4 e4=>?_
   exact q H2 s3 b u I4 (gg.trans g4) (by rw[<-ef];exact e4)
  cases L with
  |none=>
   show wpAny _ X.A.in1 (updateSeq S (λ_=> #v[Value.ref a,Value.int (g t) M]) >>= _) _ _ _;refine bW (si p1 rZ ?_ (hz:=gc _));rw[p];exact b9 #[mI vb _,put rZ]
  | some y=>
   show wpAny _ X.A.in1 (tryCatch (holding [Value.ref a,Value.int (g t) M] (richCompare .Lt (.int (g t) M) (.int (g y.2) O) >>= _)) _ >>= _) _ _ _;refine bW (yK (gf (bW (CmpOf.ints_lt (prog:=X.prog) (w:=X.w) (A:=X.A.in1) (P:=λn v=>∃t',v=.int (if n=0 then g t else g y.2) t') (λn=>if n=0 then g t else g y.2) (λ_ _ h=>h) 0 1 _ _ _ _ _ #[M,rZ] #[O,rZ] ?_))));refine bW (gf (pV ?_));refine bW (rj (b9 ?_));show wpAny _ X.A.in1 (if decide (g t<g y.2)=true then _ else _) _ _ _
   by_cases lt:g t<g y.2
   .rw[c9 lt,wB rZ];refine bW (si p1 rZ (bW (rj ?_)) (hz:=(show 2<=sizeLine by rw[cS];decide)));rw[p];exact b9 #[mI vb _,put (by rw[zq,jw];show _=(r.zip G).foldl (pG g) (if g t<g y.2 then _ else _);rw[wB lt])]
   .rw[eQ lt,wA (by decide)];refine bW (rj ?_);rw[p];refine b9 #[mI vb _,B0 F hr hb hh ne r G (i+1) H' (some y) O c _ next I2 #[oI,d1,cI,dI] (gg.seq hl) T' (λu hu=>hP u (dR _ hu)) p1 (U.to p2) (Y.to d2) (λz=>nomatch z) λH2 s3 b u I4 g4 e4=>?_];exact q H2 s3 b u I4 (gg.trans g4) (by rw[zq,jw];show(r.zip G).foldl (pG g) (if g t<g y.2 then _ else _)=_;rw[wA lt];exact e4)
inductive j7(K:O2)(P:bV->Prop)(g:bV->Int)(d:List V)(H:Hp)(Q:VK):Prop|mk:∀(l:Ad) (a:As) (c:LN),d=[V.ref l]->SqL K H l (a.map V.ref)->TupsAt H a c->(∀t∈c,P t)->a≠[]->(∀b u e,Same H e->(a.zip c).foldl (pG g) none=some (b,u)->Q (.ref b) e)->j7 K P g d H Q
def Kf{H:Hp}{s:Sh}{Q:VK}{l:Ad}(F:FnOk X.prog X.w X.K X.mg X.base cL D f E C (hX P g))(k:Room D X.A.in1)(n:Binds X.K E C [])(p:X.A.handled=none)(J:Inv X m B H s)(h:j7 X.K P g [.ref l] H Q):
  wpAny (model X.prog X.w) X.A (call (.builtin "min") [.ref l] [(Str.ofString "key",.ref f)]) (EP X m B Q) X.xe s:=by
 obtain⟨U,r,t,v,i,T,w,ne,q⟩:=h;cases v;obtain⟨x,y,z,_⟩:=J.list i;have A:=vI y;subst A;have a:(toString "min"++toString ".loop":String)="min.loop":=by decide
 refine kmk_tree PySem.F.kind_min PySem.F.plain_min PySem.F.entry_min (kmk_min_key _ _) ?_;show wpAny _ X.A.in1 (Builtin.Builtins.bindParams "min" ["key","default"] 0 #[[],[(Str.ofString "key",.ref f)]] >>= _) _ _ s;refine bW (uh (show Builtin.Builtins.bindParams "min" ["key","default"] 0 #[[],[(Str.ofString "key",.ref f)]]=pure [some (.ref f),none]from rfl) (bW (b9 ?_)));refine bW (vZ z.isList (bW (qq ?_ (gc _))));rw[a];refine b9 #[mI vb _,?_];generalize d:({cls:= .type "list_iterator",data:= .fields #v[.ref l,.int 0 0]}:Obj)=c;have sz:(s.heap.push c).objs.size=s.heap.objs.size+1:=size_push' ..;have G:Inv X m B H {s with heap:=(s.heap.push c).push (seqObj "list" #v[] 0)}:=J.kept (t':=s.toks) λb o e=>xh e _ _;have I:FpOk X m H s.heap.objs.size:=J.fpOk (cm _) (J.hok.fresh (cm _));have L:FpOk X m H (s.heap.push c).objs.size:=J.fpOk (by rw[sz];exact pE _) (J.hok.fresh (by rw[sz];exact pE _));refine B0 F k n p (by rw[sz];exact mS (iW _)) r t 0 H none 0 0 _ rZ G #[c,cV _ (dW _ (by rw[<-d];rfl)),by rw[<-d],by rw[<-d];rfl] i T w (dW _ rZ) L I (λ_=>ne) λj Y b u M N O=>?_;exact#[.ref b,j,M,rZ,q b u j N O]
def vO(K:O2)(P:bV->Prop)(g:bV->Int)(a:TE):TE:=λB H Q=>a B H λx b=>∃d,x=.ref d/\j7 K P g [.ref d] b Q
def LQ{b:Str}{e:Expr}{c:TE}{p v w a:Pos}(y:cT X.prog X.w X.K X.mg X.base b D C (hX P g))(z:Room (D+1) X.A)(A:X.calm=true)(G:Gl X "min")(J:X.mg "min"=none)(i:Gl X b)(L:PE X e c)(j:(b==("__debug__":Str))=false:=by decide) (k:starEach [e] X.env=[(false,eval e X.env)]:=by rfl):PE X (.Call (.Name "min" p) [e] [#[some "key",.Name b v,w]] a) (vO X.K P g c):=by
 intro m s B H Q I h;obtain⟨f,E,F,l,T,M⟩:=y;refine pA (uk I G J PyProof.Rows.Boot.«min» ?_);refine callWith_kw ?_ (by rw[k];rfl) (by rw[k];rfl);have N:PA X [e] (i5 c i9):=cu L cj k;refine cB (N a m s B H (λn t=>match n with| [x]=>∃d,x=.ref d/\j7 X.K P g [.ref d] t Q|_=>False) I h) λU Y ⟨n,t,o,r,q⟩=>?_
 match n,r,q with
 | [x],r,q=>
  obtain⟨d,rfl,q⟩:=q;obtain⟨u,rfl,O⟩:=gD r;cases O;refine kws_cons (wL o i l (kws_nil ?_) j);exact Kf F z.in1 M (o.ok.hd A) o q
end
end L2
namespace L2
open PySem PySem.Spec PyProof.Rows
section
variable{P:Pg}{w:World}{A:Ar}{E:VP}{s:Sh}{it d:Ad}{i f:Nat}{c:Array DictEntry}
abbrev qv(d:Ad)(i n f:Nat):Obj:={cls:= .type "dict_valueiterator",data:= .fields #v[.ref d,.int i 0,.int n 0,.int f 0]}
def Mf{h:DictEntry}{Q:Option Vl->Sh->Prop}(G:s.heap.get? it=some (qv d i c.size f))(L:Lies s.heap d c f)(p:c[i]?=some h)(q:∀k,k.get? it=some (qv d (i+1) c.size f)->Heap.SameBut it s.heap k->Q (some h.val) {s with heap:=k}):wpAny (model P w) A (pyNext (.ref it)) Q E s:=by
 obtain⟨o,m,_,n⟩:=L;have ty:s.TypeIs (.ref it) "dict_valueiterator":=#[_,G,rZ];unfold pyNext;refine bW (nI (oB (name:=Str.ofString "__next__") ty tD (iG tD ty Eb ?_ (Gs _))));refine bW (b9 (bW (bW ?_)));refine bW (An ty (b9 (bW (pQ G rZ ?_))));have a:Builtin.Dict_items.ownsTuple "dict_valueiterator"=false:=by decide
 simp only[a,Bool.false_eq_true,if_false];refine show wpAny _ _ (if(Value.ref d==Value.none)=true then _ else _) _ _ s from(wA (show ¬((Value.ref d==Value.none)=true)from gN))▸bW (b9 (bW (nH m n ?_)))
 rw[wA (by simp)];refine bW (b9 (bW (oX m n ?_)));rw[wA (by simp)];refine b9 ?_;have l:(if((i:Nat):Int)<0 then none else c[((i:Nat):Int).toNat]?)=some h:=by
  rw[wA (),iI];exact p
 show wpAny _ _ (match (if((i:Nat):Int)<0 then none else c[((i:Nat):Int).toNat]?)with|some e=>_|none=>_) _ _ s;rw[l];refine bW (bW (An ty (b9 (bW (D4 ty ?_)))));refine show wpAny _ _ (setField (.ref it) 1 (rawInt ((i:Int)+1)) >>= _) _ _ s from bW (mC G (by simp) λj r t=>wpAny_bind (wpAny_holding ?_))
 have b:j.get? it=some (qv d (i+1) c.size f):=by
  have z:((i+1:Nat):Int)=(i:Int)+1:=by lia
  unfold qv;rw[z];simpa[rawInt]using r
 have g:Shared.TypeIs {s with heap:=j} (.ref it) "dict_valueiterator":=#[_,b,rfl];refine bW (D4 g (bW (D4 g ?_)));exact show wpAny _ _ (pure h.val) _ _ {s with heap:=j}from b9 (b9 #[_,rfl,b9 (q j b t)])
def Kt{Q:Option Vl->Sh->Prop}(n:A.handled=none)(G:s.heap.get? it=some (qv d i c.size f))(L:Lies s.heap d c f)(p:c[i]?=none)(q:∀j,Heap.ExtBut it s.heap j->Q none {s with heap:=j}):wpAny (model P w) A (pyNext (.ref it)) Q E s:=by
 obtain⟨o,k,_,l⟩:=L;have ty:s.TypeIs (.ref it) "dict_valueiterator":=#[_,G,rZ];unfold pyNext;refine bW (nI (oB (name:=Str.ofString "__next__") ty tD (iG tD ty Eb ?_ (Gs _))));refine bW (b9 (bW (bW ?_)));refine bW (An ty (b9 (bW (pQ G rZ ?_))));have g:Builtin.Dict_items.ownsTuple "dict_valueiterator"=false:=by decide
 simp only[g,Bool.false_eq_true,if_false];refine show wpAny _ _ (if(Value.ref d==Value.none)=true then _ else _) _ _ s from(wA (show ¬((Value.ref d==Value.none)=true)from gN))▸bW (b9 (bW (nH k l ?_)))
 rw[wA (by simp)];refine bW (b9 (bW (oX k l ?_)));rw[wA (by simp)];refine b9 ?_;have h:(if((i:Nat):Int)<0 then none else c[((i:Nat):Int).toNat]?)=none:=by
  rw[wA (),iI];exact p
 show wpAny _ _ (match (if((i:Nat):Int)<0 then none else c[((i:Nat):Int).toNat]?)with|some e=>_|none=>_) _ _ s;rw[h];refine bW (bW (An ty (b9 ?_)));refine show wpAny _ _ (setField (.ref it) 0 .none >>= _) _ _ s from bW (mC G (by simp) λu v r=>?_)
 refine bW (m:=newExc _ _) ?_;simp only[newExc,newTuple];refine bW (mw ?_ (by size_fits));refine bW (m:=firstArgMember _ _) (uh (a:=Value.none) (by first|rfl|(unfold firstArgMember;rfl)) (wpAny_newObj_type ?_ (by size_fits)));refine AE (by simpa using n) (wpAny_bind (wpAny_isInstance (T:="StopIteration") (b:=true) #[_,Heap.get?_push_size _ rZ,rZ] isSubtype_stop (wpAny_pure ?_)));exact q _ λb o t z=>cV _ (cV _ (r.extBut b o t z))
abbrev rg(d:Ad):Obj:={cls:= .type "dict_values",data:= .fields #v[.ref d]}
def Jk{Q:VP}(nd:(d==sysModules)=false)(L:Lies s.heap d c f)(q:Q (.ref s.heap.objs.size) {s with heap:=s.heap.push (rg d)}):wpAny (model P w) A (call (.builtin "dict.values") [.ref d]) Q E s:=by
 refine call_meetsIn (S:=λ_ R s=>Lies s.heap d c f/\R (.ok (.ret (.ref s.heap.objs.size))) {s with heap:=s.heap.push (rg d)}) F.slot_dict_values L.typeIs F.entry_dict_values (F.args_dict_values_1 _) (.of_wp λA R s ⟨L,r⟩=>?_) #[L,q];refine bW ?_;unfold Builtin.Dict.noArgs;refine bW (Bd L.typeIs ?_);refine show wpAny _ _ (pure d) _ _ s from b9 (show wpAny _ _ (Builtin.Dict.showsAll d >>= _) _ _ s from ?_)
 have all:Builtin.Dict.showsAll d=pure Unit.unit:=by
  unfold Builtin.Dict.showsAll;rw[nd];rfl
 rw[all];exact bW (b9 (bW (mw (b9 #[_,rZ,r]))))
def IV{v:Ad}{Q:VP}(b:s.heap.get? v=some (rg d))(L:Lies s.heap d c f)(q:Q (.ref s.heap.objs.size) {s with heap:=s.heap.push (qv d 0 c.size f)}):wpAny (model P w) A (pyIter (.ref v)) Q E s:=by
 have ty:s.TypeIs (.ref v) "dict_values":=#[_,b,rZ];obtain⟨o,e,_,g⟩:=L;refine pJ ty F.slot_dict_values_iter (iG F.slot_dict_values_iter ty F.entry_dict_values_iter ?_ (F.args_dict_values_iter_1 _));unfold Builtin.«dict_values.__iter__» Builtin.Dict_items.dictOf Builtin.Dict_items.newIterator;refine bW (b9 (bW (bW (rz b rZ (x:= .ref d) rZ (b9 (bW (bW (nH e g (bW (oX e g ?_))))))))));have a:Builtin.Dict_items.ownsTuple "dict_valueiterator"=false:=by decide
 simp only[a,Bool.false_eq_true,if_false];refine mw (b9 #[_,rZ,"dict_valueiterator",_,#[_,dW _ rZ,rZ],tD.lookup,?_]) (by size_fits);exact q
def L'(p:A.handled=none)(j:d≠it):Walks P w A it [it,d] [it] c.size (λi v=>∃a,c[i]?=some a/\v=a.val) (λi h=>h.get? it=some (qv d i c.size f)/\Lies h d c f) where
 sub:=λb r=>dq.mpr (.inl (cE.mp r))
 frame:=λi h g st k=>#[k it (dh ..) _ st.1,let⟨o,e,x⟩:=st.2;#[o,k d (dR _ (cE.mpr rZ)) _ e,x]]
 item:=λi s Q E t st q=>by
  obtain⟨a,m⟩:∃a,c[i]?=some a:=#[_,fX t];refine Mf st.1 st.2 m λg u n=>q a.val g s.toks #[a,m,rZ] #[u,let⟨o,e,x⟩:=st.2;#[o,n.extBut _ _ j e,x]] λb o l e=>n.extBut _ _ (λz=>l (cE.mpr z)) e
 done:=λs Q E st q=>Kt p st.1 st.2 (zo (cm _)) λg x=>q g s.toks λb o l e=>x b o (λz=>l (cE.mpr z)) e
 self:=λi s Q E st q=>by
  have ty:s.TypeIs (.ref it) "dict_valueiterator":=#[_,st.1,rZ];refine pJ ty Il (iG Il ty entry_dict_valueiterator_iter ?_ (F.args_dict_valueiterator_iter_1 _));exact show wpAny _ _ (ret (.ref it)) _ _ s from b9 #[_,rZ,"dict_valueiterator",_,ty,tD.lookup,q]
def BM{v:Ad}:PySem.W.KdlSrc P w "dict_values" v d c.size (λi u=>∃b,c[i]?=some b/\u=b.val) (λh=>h.get? v=some (rg d)/\Lies h d c f) where
 type:=λ_ e=>#[_,e.1,rZ]
 there:=λ_ ⟨a,_,e,_⟩=>#[cQ a,cQ e]
 keep:=λ_ _ ⟨a,o,e,x⟩ k=>#[k v (.inl rZ) _ a,o,k d (.inr rZ) _ e,x]
 notList:=by decide
 notTuple:=by decide
 hint:=λ_ _ _ _ e q=>PySem.W.kdl_hint_values #[_,e.1,rZ] q
 iter:=λ_ _ g e=>#[_,_,λ_ _ q=>IV e.1 e.2 q,L' g (dP (let⟨_,z,_⟩:=e.2;cQ z)),dW _ rZ,let⟨o,z,x⟩:=e.2;#[o,cV _ z,x]]
end
def BJ(v d:Ad):HO:= .ext λh=>h.get? v=some (rg d)
section
variable{X:Cx}
def OK:V->List V->Hp->VK->Prop:=λx c H Q=>c=[]/\∃a b,x=.ref a/\H a=some (.dT b)/\∀v,H v=none->Q (.ref v) (bX H v (BJ v a))
def Kv:vD X "dict.values" OK:=by
 intro n s p H x r u t Q I b c h;obtain⟨rfl,a,d,rfl,f,q⟩:=h;cases b;cases c;obtain⟨z,g,v,i,o,w,A,j,l,m,_⟩:=I.hok a _ f;refine Jk g #[o,j,l,m] #[.ref s.heap.objs.size,_,I.laid (a:=s.heap.objs.size) (o:=BJ s.heap.objs.size a) (t':=s.toks) (λ_ _ q=>cV _ q) (cm _) ?_,rZ,q _ I.fresh];have e:(s.heap.push (rg a)).get? s.heap.objs.size=some (rg a):=dW _ rfl;exact#[e,#[_,e],λB C y k=>k _ y]
inductive mR(c:List V)(H:Hp)(Q:VK):Prop|mk:∀v a b,c=[.ref v]->H v=some (BJ v a)->H a=some (.dT b)->(∀l,H l=none->Q (.ref l) (bX H l (.lst (b.map (·.2)))))->mR c H Q
def Ja(C:X.calm=true):hG X (.type "list") mR:=by
 intro D s E H xs us Q I r h;obtain⟨v,a,d,rfl,G,J,q⟩:=h;obtain⟨u,rfl,L⟩:=gD r;cases L;obtain⟨M,_,_⟩:=I.hok v _ G;obtain⟨z,na,ys,f,o,N,ep,O,T,U,n,_⟩:=I.hok a _ J;have Y:N.size=d.length:=by rw[wN n,<-oG f]
 refine PySem.W.kdl_call (BM (v:=v)) (I.ok.hd C) #[M,o,O,T,U] () λh' tk e c keep eD it=>?_;have I1:Inv X D E H {s with heap:=h',toks:=tk}:=I.kept keep;refine#[.ref s.heap.objs.size,_,Inv.trackNew I I1 (o:= .lst (d.map (·.2))) #[by rw[bZ];lia,e.toList,c,?_,?_],rZ,q _ I.fresh]
 .have ln:e.toList.length=(d.map (·.2)).length:=by rw[bZ,<-Y,de,it.1]
  have g:∀(j:Nat) (x:V) (y:Vl),(d.map (·.2))[j]?=some x->e.toList[j]?=some y->RelV x y:=λj x y p t=>by
   rw[cr]at p;obtain⟨⟨k,w⟩,ek,rfl⟩:=da.mp p;rw[fh]at t;obtain⟨en,A,rfl⟩:=it.2 j y t;obtain⟨⟨k',b,u⟩,e5,p1,p2,p3⟩:=wu f ek;rw[entry_at n,e5]at A;cases A;exact p3
  have mk:∀(l:List V) (m:Vs),m.length=l.length->(∀(j:Nat) (x:V) (y:Vl),l[j]?=some x->m[j]?=some y->RelV x y)->Vals l m:=by
   intro l
   induction l with
   |nil=>
    intro m i _;cases oo.mp i;exact .nil
   |cons x l ih=>
    intro m i B;cases m with
    |nil=>cases i
    |cons y m=>exact .cons (B 0 x y rZ rZ) (ih m (by simpa using i) λj w y' h1 h2=>B (j+1) w y' (by simpa using h1) (by simpa using h2))
  exact mk _ _ ln g
 .simpa using eD
end
abbrev rQ(mask:Nat)(p:SetTable.Probe):SetTable.Probe:=SetTable.advance #[mask,#v[],#v[],0,false,0,false] p
abbrev cR(mask:Nat)(h:Int):SetTable.Probe:=SetTable.probeStart #[mask,#v[],#v[],0,false,0,false] h
inductive Way (mask:Nat) (occ:Nat->Prop):SetTable.Probe->SetTable.Probe->Prop
 |here {p:SetTable.Probe}:Way mask occ p p
 |next {p q:SetTable.Probe}:occ p.j->Way mask occ (rQ mask p) q->Way mask occ p q
def Way1(mask:Nat)(a:Nat->Prop)(p:SetTable.Probe)(j:Nat):Prop:=∃q,Way mask a p q/\q.j=j
section
variable{mask:Nat}{occ c:Nat->Prop}{p q r:SetTable.Probe}{j:Nat}
def Way.mono(h:∀j,occ j->c j)(w:Way mask occ p q):Way mask c p q:=by
 induction w with
 |here=>exact .here
 |next o _ a=>exact .next (h _ o) a
def Way1.mono(h:∀j,occ j->c j)(w:Way1 mask occ p j):Way1 mask c p j:=let⟨q,a,b⟩:=w;#[q,a.mono h,b]
def Way.trans(a:Way mask occ p q)(b:Way mask occ q r):Way mask occ p r:=by
 induction a with
 |here=>exact b
 |next o _ c=>exact .next o (c b)
def Way.snoc(a:Way mask occ p q)(o:occ q.j):Way mask occ p (rQ mask q):=a.trans (.next o .here)
end
section
variable{t:SetTable}{h:Int}{f:Nat->Int}
abbrev iN(t:SetTable)(j:Nat):Prop:=t.slot j≠ .empty
theorem FJ(no:t.dummies= #v[]):∀(fuel:Nat) (p:SetTable.Probe) (j:Nat) (d:Option Nat),SetTable.probe.go t f h fuel p=some (.empty j d)->d=p.dummy/\t.slot j=.empty/\Way1 t.mask (iN t) p j
 |0,_,_,_,e=>by cases e
 | fuel+1,p,j,d,e=>by
  unfold SetTable.probe.go at e;cases g:t.slot p.j with
  |empty=>
   rw[g]at e;injection e with e
   injection e with k l
   subst k;exact#[l.symm,g,p,.here,rZ]
  |dummy=>exact wC g (qw no _)
  | live i=>
   rw[g]at e;dsimp only at e;split at e
   .cases e
   .obtain⟨a,b,q,c,m⟩:=FJ no fuel _ j d e;refine#[a.trans ?_,b,q,.next (by show t.slot p.j≠_;rw[g];intro z;cases z) c,m];unfold SetTable.advance;split<;>rfl
theorem G3(no:t.dummies= #v[]):∀(fuel:Nat) (p:SetTable.Probe) (j i:Nat) (g:SetTable.Probe),SetTable.probe.go t f h fuel p=some (.candidate j i g)->t.slot j=.live i/\f i=h/\∃q,Way t.mask (iN t) p q/\q.j=j/\g=rQ t.mask q
 |0,_,_,_,_,e=>by cases e
 | fuel+1,p,j,i,g,e=>by
  unfold SetTable.probe.go at e;cases d:t.slot p.j with
  |empty=>
   rw[d]at e;injection e with e
   cases e
  |dummy=>exact wC d (qw no _)
  | live r=>
   rw[d]at e;dsimp only at e;split at e
   .rename_i k
    injection e with e
    injection e with l m n
    subst l m n;exact#[d,by simpa using k,p,.here,rZ,rZ]
   .obtain⟨a,b,q,c,o,c3⟩:=G3 no fuel _ j i g e;exact#[a,b,q,.next (by show t.slot p.j≠_;rw[d];intro z;cases z) c,o,c3]
def FH{p q:SetTable.Probe}{i:Nat}(no:t.dummies= #v[])(w:Way t.mask (iN t) p q)(d:t.slot q.j=.live i)(k:f i=h):∀(a:Nat) (m:SetTable.Met),SetTable.probe.go t f h a p=some m->∃g b j,m=.candidate g b j/\((g=q.j/\b=i)\/Way t.mask (iN t) j q):=by
 induction w with
 | @here p=>
  intro a m e;cases a with
  |zero=>cases e
  |succ a=>
   unfold SetTable.probe.go at e;rw[d]at e;dsimp only at e;rw[wB (by simpa using k)]at e;injection e with e
   exact#[_,_,_,e.symm,.inl #[rZ,rZ]]
 | @next p q o w l=>
  intro a m e;cases a with
  |zero=>cases e
  | succ a=>
   unfold SetTable.probe.go at e;cases c:t.slot p.j with
   |empty=>exact wC c o
   |dummy=>exact wC c (qw no _)
   | live b=>
    rw[c]at e;dsimp only at e;split at e
    .injection e with e
     exact#[_,_,_,e.symm,.inr w]
    .exact l d a m e
theorem Hl(no:t.dummies= #v[]):∀(fuel:Nat) (p:SetTable.Probe),lU (SetTable.probe.go t (λ_=>h+1) h fuel p)->∃m,SetTable.probe.go t f h fuel p=some m
 |0,_,⟨_,_,e⟩=>by cases e
 | fuel+1,p,k=>by
  unfold SetTable.probe.go at k|-;cases a:t.slot p.j with
  |empty=>exact#[_,rZ]
  |dummy=>exact wC a (qw no _)
  |live i=>
   rw[a]at k;dsimp only at k|-;rw[show((h+1==h)=false)from by simp;lia]at k;split
   .exact#[_,rZ]
   .exact Hl no fuel _ k
def N2(no:t.dummies= #v[]){p q:SetTable.Probe}(w:Way t.mask (iN t) p q):∀(n:Nat),lU (SetTable.probe.go t (λ_=>h+1) h n p)->iN t q.j->∃m,m<n/\lU (SetTable.probe.go t (λ_=>h+1) h m (rQ t.mask q)):=by
 have one:∀(n:Nat) (p:SetTable.Probe),lU (SetTable.probe.go t (λ_=>h+1) h n p)->iN t p.j->∃m,m<n/\lU (SetTable.probe.go t (λ_=>h+1) h m (rQ t.mask p)):=λn p k o=>by
  cases n with
  |zero=>
   obtain⟨_,_,e⟩:=k;cases e
  | succ n=>
   unfold SetTable.probe.go at k;cases a:t.slot p.j with
   |empty=>exact wC a o
   |dummy=>exact wC a (qw no _)
   |live i=>
    rw[a]at k;dsimp only at k;rw[show((h+1==h)=false)from by simp;lia]at k;exact#[n,iW _,k]
 induction w with
 |here=>exact λn k o=>one n _ k o
 |next o w b=>
  intro n k c;obtain⟨m,j,d⟩:=one n _ k o;obtain⟨f,g,k3⟩:=b m d c;exact#[f,(),k3]
end
def y9{t:SetTable}{i j:Nat}(up:t.place.toList.Pairwise (· < ·))(e:t.place[i]?=some j):t.slot j=.live i:=by
 have b:SetTable.below t.place j=i:=by
  obtain⟨c,d,g⟩:=ua up j;obtain⟨f,h⟩:=io.mp e
  rcases DN (SetTable.below t.place j) i with z|z|z
  .have a:SetTable.below t.place j<t.place.size:=by lia
   have y:=ke.mp up (SetTable.below t.place j) i (by simpa using a) (by simpa using f) z;have k:t.place[SetTable.below t.place j]<t.place[i]:=by simpa using y
   have:=d _ _ (fX a) (cm _);lia
  .exact z
  .have:=c i j e z;lia
 unfold SetTable.slot;dsimp only;rw[b,e];simp
def vA{t:SetTable}{j:Nat}(up:t.place.toList.Pairwise (· < ·))(no:t.dummies= #v[]):iN t j↔j∈t.place.toList:=by
 constructor
 .exact λo=>qo λz=>o (BC no z)
 .intro h;obtain⟨i,e⟩:=dU.mp h;rw[fh]at e;show t.slot j≠_;rw[y9 up e];intro z;cases z
def ya(t:SetTable)(a:Zs):Prop:=∀(k:Nat) (h:Int) (j:Nat),a[k]?=some h->t.place[k]?=some j->Way1 t.mask (iN t) (cR t.mask h) j
def KP{t:SetTable}{c:Zs}{h:Int}{j:Nat}(up:t.place.toList.Pairwise (· < ·))(no:t.dummies= #v[])(s:c.length=t.place.size)(i:ya t c)(r:t.slot j=.empty)(w:Way1 t.mask (iN t) (cR t.mask h) j):
  ya (t.put j).1 (c.take (t.put j).2++h::c.drop (t.put j).2):=by
 have e:=Bi up r;have f:(t.put j).1.dummies= #v[]:=by
  show(if SetTable.has t.dummies j=true then _ else t.dummies)= #v[];rw[no,show SetTable.has #v[] j=false by unfold SetTable.has;simp];rfl
 have l:(t.put j).1.place.toList=t.place.toList.take (t.put j).2++j::t.place.toList.drop (t.put j).2:=by
  have z:=t7 t.place.toList (SetTable.below t.place j) j;rw[yx]at z;show(SetTable.insertAt t.place (SetTable.below t.place j) j).toList=_;rw[z];rfl
 have g:∀x,iN t x->iN (t.put j).1 x:=λx o=>(vA e f).mpr (by
  rw[l];have z:=(vA up no).mp o;rw[<-iM (t.put j).2 t.place.toList]at z
  rcases cM.mp z with y|y
  .exact cM.mpr (.inl y)
  .exact cM.mpr (.inr (dR _ y)))
 have lp:(t.put j).2<=t.place.size:=(ua up j).2.2;intro k m n b a;rw[<-fh,l]at a;have p:(t.place.toList.take (t.put j).2).length=(t.put j).2:=by rw[e9,de];lia
 have q:(c.take (t.put j).2).length=(t.put j).2:=by rw[e9];lia
 rcases DN k (t.put j).2 with z|z|z
 .rw[eA (),xA z]at b a;rw[fh]at a;exact(i k m n b a).mono g
 .subst z;rw[dZ (),q,jg]at b;rw[dZ (),p,jg]at a;cases b;cases a;exact w.mono g
 .obtain⟨d,rfl⟩:∃d,k=(t.put j).2+(d+1):=#[k-(t.put j).2-1,()];rw[dZ (),q,pD,uc,nO]at b;rw[dZ (),p,pD,uc,nO,fh]at a;exact(i _ m n b a).mono g
def oJ(a:Array (Option Nat))(j:Nat):Prop:=∃x,a[j]?=some (some x)
theorem CM{mask:Nat}{occ:Nat->Prop}{i pt:Nat}{d:Option Nat}:∀(k j more:Nat),k<=more->(∀x,x<k->occ (j+x))->Way mask occ #[j,more,i,pt,d] #[j+k,more-k,i,pt,d]
 |0,j,more,_,_=> .here
 | k+1,j,more,l,o=>by
  have w:=CM (mask:=mask) (occ:=occ) (i:=i) (pt:=pt) (d:=d) k (j+1) (more-1) () λx a=>by
   have:=o (x+1) ();rwa[show j+(x+1)=j+1+x by lia]at this
  rw[show j+1+k=j+(k+1) by lia,show more-1-k=more-(k+1) by lia]at w;refine .next (o 0 ()) ?_;show Way mask occ (SetTable.advance _ _) _;unfold SetTable.advance;rw[wB (show more>0 by lia)];exact w
def MN{mask i:Nat}(a:i<=mask):i<=SetTable.runEnd mask i/\SetTable.runEnd mask i<=mask:=by
 unfold SetTable.runEnd;split<;>lia
theorem Fk{mask:Nat}{a:Array (Option Nat)}(sz:a.size=mask+1):∀(fuel i pt j:Nat),i<=mask->SetTable.layClean.free mask a fuel i pt=some j->Way1 mask (oJ a) #[i,SetTable.runEnd mask i-i,i,pt,none] j
 |0,_,_,_,_,e=>by cases e
 | fuel+1,i,pt,j,l,e=>by
  obtain⟨r,s⟩:=MN l;have b:∀x,i+x<=mask-> ¬(a.getD (i+x) (some 0)).isNone=true->oJ a (i+x):=λx t z=>by
   have lt:i+x<a.size:=by lia
   simp only[Array.getD,lt,dif_pos]at z;rw[show a.getInternal (i+x) lt=a[i+x]from rfl]at z;cases f:a[i+x]with
   |none=>rw[f]at z;exact wC rZ z
   |some y=>exact#[y,by rw[fX lt,f]]
  unfold SetTable.layClean.free at e;split at e
  .rename_i k m
   injection e with e
   subst e;obtain⟨_,g,n⟩:=List.find?_range_eq_some.mp m;have g:=eU.mp g;exact#[_,CM k i _ () λx c=>b x () λy=>by
    have z:=n x c;rw[y]at z;exact wC z (by decide),rZ]
  .rename_i o
   have all:∀x,x<SetTable.runEnd mask i+1-i->oJ a (i+x):=λx c=>b x () (List.find?_eq_none.mp o x (eU.mpr c));obtain⟨q,w,p⟩:=Fk sz fuel _ _ j (by show(i * 5+1+pt/32)%(mask+1)<=mask;have:=lZ (i * 5+1+pt/32) (show 0<mask+1 by lia);lia) e;have h:=CM (mask:=mask) (occ:=oJ a) (i:=i) (pt:=pt) (d:=none) (SetTable.runEnd mask i-i) i _ (cm _) λx c=>all x ()
   rw[jg]at h;refine#[q,h.trans (.next (all _ ()) ?_),p];show Way mask _ (SetTable.advance _ _) _
   unfold SetTable.advance;rw[wA (kS 0)];exact w
theorem Gn{mask:Nat}(f:Option (Array (Option Nat)×Nat)->Int->Option (Array (Option Nat)×Nat))(o:∀h,f none h=none)(p:∀b k h,f (some (b,k)) h=(SetTable.layClean.free mask b (SetTable.turns mask) (SetTable.bits h%(mask+1)) (SetTable.bits h)).map λj=>(b.setIfInBounds j (some k),k+1)) (all:Zs):
  ∀(d:Zs) (b:Array (Option Nat)) (k:Nat) (c:Array (Option Nat)) (n:Nat),all.drop k=d->b.size=mask+1->(∀j x,b[j]?=some (some x)->∃h,all[x]?=some h/\Way1 mask (oJ b) (cR mask h) j)->d.foldl f (some (b,k))=some (c,n)->
   c.size=mask+1/\∀(j x:Nat),c[j]?=some (some x)->∃h,all[x]?=some h/\Way1 mask (oJ c) (cR mask h) j
 | [],b,k,c,n,_,sz,i,e=>by
  have e:some (b,k)=some (c,n):=e;cases e;exact#[sz,i]
 | h::d,b,k,c,n,q,sz,i,e=>by
  rw[jw,p]at e;have u:all[k]?=some h:=by
   have z:(all.drop k)[0]?=some h:=by rw[q];rfl
   rw[nO]at z;exact z
  have v:SetTable.bits h%(mask+1)<=mask:=by have:=lZ (SetTable.bits h) (show 0<mask+1 by lia);lia
  cases m:SetTable.layClean.free mask b (SetTable.turns mask) (SetTable.bits h%(mask+1)) (SetTable.bits h)with
  | none=>
   rw[m]at e;have no:∀l:Zs,l.foldl f none=none:=λl=>by
    induction l with
    |nil=>rfl
    |cons a l w=>rw[jw,o];exact w
   have e:d.foldl f none=_:=e;rw[no]at e;cases e
  | some j=>
   rw[m]at e;have r:∀x,oJ b x->oJ (b.setIfInBounds j (some k)) x:=λx ⟨y,s⟩=>by
    unfold oJ;by_cases z:j=x
    .subst z;exact#[k,by rw[Ff (io.mp s).1]]
    .exact#[y,by rw[Hx z];exact s]
   refine Gn f o p all d _ (k+1) c n ?_ (by rw[yp];exact sz) (λt x g=>?_) e
   .have z:=dw List.tail q;rw[List.tail_drop]at z;exact z
   .by_cases z:j=t
    .subst z;have lt:j<b.size:=by
      have:=(io.mp g).1;rwa[yp]at this
     rw[Ff lt]at g;cases g;exact#[h,u,(Fk sz _ _ _ _ v m).mono r]
    .rw[Hx z]at g;obtain⟨A,B,C⟩:=i t x g;exact#[A,B,C.mono r]
def NQ{mask A B:Nat}{o C:Bool}{i:Array Int}{t:SetTable}{s:Array Nat}(e:SetTable.laid mask A B o C i=some (t,s))(k x j:Nat)(u:s[k]?=some x)(l:t.place[k]?=some j):
  ∃h,i[x]?=some h/\Way1 t.mask (iN t) (cR t.mask h) j:=by
 obtain⟨up,no,_⟩:=BV e;unfold SetTable.laid at e;cases m:SetTable.layClean mask i with
 |none=>rw[m]at e;cases e
 | some J=>
  rw[m]at e;injection e with e
  injection e with v w
  unfold SetTable.layClean at m;rw[<-Array.foldl_toList]at m;obtain⟨⟨c,n⟩,D,rfl⟩:=da.mp m;obtain⟨sz,E⟩:=Gn _ (λh=>rfl) (λd k h=>by
   show(Option.bind (some (d,k)) _)=_;dsimp only[Option.bind];cases SetTable.layClean.free mask d (SetTable.turns mask) (SetTable.bits h%(mask+1)) (SetTable.bits h)<;>rfl) i.toList i.toList _ 0 c n rZ (Array.size_replicate) (λj x f=>by
    rw[Array.getElem?_replicate]at f;split at f
    .cases f
    .cases f) D
  dsimp only at v w;subst v w;rw[Ay,cr]at u l;obtain⟨y,g,rfl⟩:=da.mp u;rw[g]at l;have l:some y.1=some j:=l;cases l;have p:∀{j x:Nat},(c.getD j none=some x)->c[j]?=some (some x):=λ{j x} z=>by
   by_cases lt:j<c.size
   .rw[fX lt];simp only[Array.getD,lt,dif_pos]at z;exact dw some z
   .simp only[Array.getD,lt,dif_neg,not_false_eq_true]at z;cases z
  obtain⟨G,H,f⟩:=wK.mp (cH g);obtain⟨I,q,rfl⟩:=da.mp f;obtain⟨h,a,b⟩:=E G I (p q);rw[fh]at a;refine#[h,a,b.mono λx ⟨y,g⟩=>(vA up no).mpr ?_];show x∈(List.map _ _).toArray.toList;rw[qe];have r:=(io.mp g).1;refine cq.mpr #[(x,y),wK.mpr #[x,eU.mpr (),?_],rZ];rw[fX r]at g;simp only[Array.getD,r,dif_pos];rw[show c.getInternal x r=c[x]from rfl,fL g];rfl
open PySem PySem.Spec PySem.W PyProof.Rows
section
variable{P:Pg}{w:World}{A:Ar}{E:VP}{s:Sh}
def IntsAll(h:Heap)(b:Ad):Prop:=∃o a n,h.get? b=some o/\o.cls=.type "tuple"/\o.data=.seq a n/\∀v∈a.toList,∃k t,v=Value.int k t
def IntsAll.ext{h a:Heap}{b:Ad}(x:IntsAll h b)(k:∀o,h.get? b=some o->a.get? b=some o):IntsAll a b:=let⟨o,i,n,e,z⟩:=x;#[o,i,n,k o e,z]
def D'{b:Ad}{Q:Bool->Sh->Prop}(x:IntsAll s.heap b)(q:Q false s):wpAny (model P w) A (ofAClassStatement 8 (.ref b)) Q E s:=by
 obtain⟨o,a,n,e,c,d,it⟩:=x;unfold ofAClassStatement;refine bW (yU (T:="tuple") #[o,e,c] ?_);refine bW (b9 ?_);refine bW (vr e d ?_);dsimp only;rw[<-Array.forIn_toList];refine bW (yf _ (λrest b f=>f=s/\b=(none,Unit.unit)/\∀v∈rest,v∈a.toList) _ ?_ ?_ _ _ #[rZ,rZ,λ_ h=>h])
 .rintro v rest b f ⟨rfl,rfl,g⟩;obtain⟨k,t,rfl⟩:=it v (g v dh);refine bW (show wpAny _ _ (ofAClassStatement 7 (Value.int k t)) _ _ _ from b9 ?_);exact b9 #[rZ,rZ,λj i=>g j (dR _ i)]
 .rintro b f ⟨rfl,rfl,_⟩;exact b9 q
def IX{b:Ad}{Q:Bool->Sh->Prop}(x:IntsAll s.heap b)(q:Q true s):wpAny (model P w) A (hashByValue 8 (.ref b)) Q E s:=by
 obtain⟨o,a,n,e,c,d,it⟩:=x;unfold hashByValue;refine bW (BO (T:="tuple") #[o,e,c] F.slot_tuple_hash.lookup ?_);refine bW (vr e d ?_);dsimp only[Option.getD];rw[<-Array.forIn_toList];refine bW (yf _ (λrest b f=>f=s/\b=(none,Unit.unit)/\∀v∈rest,v∈a.toList) _ ?_ ?_ _ _ #[rZ,rZ,λ_ h=>h])
 .rintro v rest b f ⟨rfl,rfl,g⟩;obtain⟨k,t,rfl⟩:=it v (g v dh);refine bW (show wpAny _ _ (hashByValue 7 (Value.int k t)) _ _ _ from b9 ?_);exact b9 #[rZ,rZ,λj i=>g j (dR _ i)]
 .rintro b f ⟨rfl,rfl,_⟩;exact b9 q
structure TupK(P:Pg)(w:World)(h:Heap)(b:Ad)(ks:List cy):Prop where
 key:(tupleKind (dN P w)).is h ks b
 all:IntsAll h b
def TupK.ext{h a:Heap}{b:Ad}{c:List cy}(x:TupK P w h b c)(k:∀o,h.get? b=some o->a.get? b=some o):TupK P w a b c:=#[let⟨o,i,n,e,z⟩:=x.key;#[o,i,n,k o e,z],x.all.ext k]
def LV{b:Ad}{f:List cy}{Q:Bool->Sh->Prop}(x:TupK P w s.heap b f){st:Vs}(g:∀v∈st,∃c d,v=.ref c/\TupK P w s.heap c d)(q:Q false s):wpAny (model P w) A (searchCouldBeSeen (.ref b) st) Q E s:=by
 unfold searchCouldBeSeen;refine bW (yf _ (λrest b a=>a=s/\b=(none,Unit.unit)/\∀v∈rest,v∈st) _ ?_ ?_ _ _ #[rZ,rZ,λ_ h=>h])
 .rintro v rest k a ⟨rfl,rfl,e⟩;obtain⟨c,d,rfl,y⟩:=g v (e v dh);dsimp only;have next:∀j∈rest,j∈st:=λj i=>e j (dR _ i);split
  .exact b9 #[rZ,rZ,next]
  .refine bW ((tupleKind (dN P w)).quiet x.key ?_);simp only[Bool.not_true,Bool.false_eq_true,if_false];refine bW ((tupleKind (dN P w)).quiet y.key ?_);simp only[Bool.not_true,Bool.false_eq_true,if_false];refine bW (D' x.all ?_);simp only[Bool.false_eq_true,if_false];refine bW (D' y.all ?_);simp only[Bool.false_eq_true,if_false];exact b9 #[rZ,rZ,next]
 .rintro b a ⟨rfl,rfl,_⟩;exact b9 q
def OM{c:Type}{b:Bool}{m:Sem Bool}{u a:Sem c}{Q:c->Sh->Prop}(e:∀R:Bool->Sh->Prop,R false s->wpAny (model P w) A m R E s)(d:wpAny (model P w) A a Q E s):wpAny (model P w) A (if b=true then m >>= λr=>if r=true then u else a else a) Q E s:=by
 split
 .exact bW (e _ d)
 .exact d
def Way.dum{mask:Nat}{occ:Nat->Prop}{p q:SetTable.Probe}(w:Way mask occ p q):q.dummy=p.dummy:=by
 induction w with
 |here=>rfl
 |next _ _ a=>
  rw[a];show(SetTable.advance _ _).dummy=_;unfold SetTable.advance;split<;>rfl
def EntsK(P:Pg)(w:World)(B:Ad->List cy->Prop)(h:Heap)(d:List (Int×Vl))(a:List (List cy)):Prop:=d.length=a.length/\∀(i:Nat) (e:Int×Vl) (c:List cy),d[i]?=some e->a[i]?=some c->∃b,e=((tupleKind (dN P w)).hash c,.ref b)/\TupK P w h b c/\B b c
def LZ{B:Ad->List cy->Prop}{a b:Ad}{u:List cy}{G:List (Int×Vl)}{D:List (List cy)}{ep:Nat}{t:SetTable}{af:Bool}{Q:SetFound->Sh->Prop}(hu:A.units<cLine)(x:TupK P w s.heap b u)(hS:s.heap.get? a=some (jd G ep t))(C:TabG t G.length af)(m1:1<=t.mask)(en:EntsK P w B s.heap G D) (q1:u∈D->Q (.there none) s) (q2:∀j,u∉D->t.slot j=.empty->Way1 t.mask (iN t) (cR t.mask ((tupleKind (dN P w)).hash u)) j->Q (.free j false) s):
  ∀(n l:Nat) (g:Option SetTable.Probe),lU (SetTable.probe.go t (λ_=>(tupleKind (dN P w)).hash u+1) ((tupleKind (dN P w)).hash u) n (g.getD (t.probeStart ((tupleKind (dN P w)).hash u))))->n<l->n<=10 * SetTable.turns t.mask->
   Way t.mask (iN t) (cR t.mask ((tupleKind (dN P w)).hash u)) (g.getD (t.probeStart ((tupleKind (dN P w)).hash u)))->(g.getD (t.probeStart ((tupleKind (dN P w)).hash u))).dummy=none->
   (∀(i j:Nat),D[i]?=some u->t.place[i]?=some j->Way1 t.mask (iN t) (g.getD (t.probeStart ((tupleKind (dN P w)).hash u))) j)->
   wpAny (model P w) A (setSearchFrom a (.ref b) ((tupleKind (dN P w)).hash u) true l g) Q E s:=by
 generalize hh:(tupleKind (dN P w)).hash u=h at q2|-;have aa:t.fits G.toArray.size=true:=by rw[dS];exact C.fits
 have ag:t.gaveWay=false:=by
  obtain⟨m,hm⟩:=C.pow;unfold SetTable.gaveWay;cases m with
  |zero=>lia
  |succ m=>
   rw[mH];lia
 intro n
 induction n using Nat.strongRecOn with
 | _ n ih=>
  intro l g J lf lt I dum ab;obtain⟨l,rfl⟩:=nr (show l≠0 by lia);generalize hp:g.getD (t.probeStart h)=p at J I dum ab;unfold setSearchFrom;refine bW (mv hS rZ aa ?_);dsimp only;rw[ag,wA (by decide),hp];unfold SetTable.probe;obtain⟨m,em⟩:=Hl (f:=λi=>(Option.map (λx=>x.fst) G.toArray[i]?).getD 0) C.no _ p (Ah n _ p J lt);have ak:=em;show wpAny _ _ (match SetTable.probe.go t (λi=>(Option.map (λx=>x.fst) G.toArray[i]?).getD 0) h (10 * SetTable.turns t.mask) p with|some al=>_|x=>_) _ _ _;rw[em];have H:∀i:Nat,D[i]?=some u->∃q,Way t.mask (iN t) p q/\t.slot q.j=.live i/\(Option.map (λx=>x.fst) G.toArray[i]?).getD 0=h:=λi L=>by
   have li:i<G.length:=by rw[en.1];exact(cg.mp L).1
   have sz:=C.size;obtain⟨q,M,eq⟩:=ab i _ L (fX ());obtain⟨b',e1,_⟩:=en.2 i _ u (b8 li) L;refine#[q,M,by rw[eq];exact y9 C.up (fX ()),?_];rw[Ay,b8 li,e1];exact hh
  cases m with
  |empty j d=>
   obtain⟨ed,ej,q,M,eq⟩:=FJ C.no _ p j d em;rw[dum]at ed;subst ed;refine b9 (q2 j (λz=>?_) ej #[q,I.trans M,eq]);obtain⟨i,L⟩:=dU.mp z;obtain⟨q',w1,w2,w3⟩:=H i L;obtain⟨_,_,_,e,_⟩:=FH C.no w1 w2 w3 _ _ em;cases e
  | candidate j i nx=>
   obtain⟨sj,fi,q,M,eq,N⟩:=G3 C.no _ p j i nx em;dsimp only;have L:∃e,G[i]?=some e:=by
    have sz:=C.size;have o:j∈t.place.toList:=(vA C.up C.no).mp (by show t.slot j≠_;rw[sj];intro z;cases z);obtain⟨i',e'⟩:=dU.mp o;rw[fh]at e';have z:=y9 C.up e';rw[sj]at z;cases z;have:=(io.mp e').1
    exact#[_,b8 ()]
   obtain⟨e,ee⟩:=L;obtain⟨ls,O⟩:∃ls,D[i]?=some ls:=#[_,b8 (by rw[<-en.1];exact(cg.mp ee).1)];obtain⟨c,rfl,y,_⟩:=en.2 i e ls ee O;have ae:G.toArray[i]?=some ((tupleKind (dN P w)).hash ls,Value.ref c):=by rw[Ay];exact ee
   rw[ae];dsimp only;refine OM (λR r=>LV x (λv hv=>?_) r) ?_
   .obtain⟨e',T,rfl⟩:=cq.mp hv;have T:=Array.mem_filter.mp (zf.mp T);obtain⟨k,ek⟩:=dU.mp (show e'∈G by simpa using T.1);obtain⟨ms,ah⟩:∃ms,D[k]?=some ms:=#[_,b8 (by rw[<-en.1];exact(cg.mp ek).1)];obtain⟨c',rfl,y',_⟩:=en.2 k e' ms ek ah;exact#[c',ms,rZ,y']
   refine bW (gf ((tupleKind (dN P w)).eqBool hu y.key x.key ?_));refine bW (mv hS rZ aa ?_);dsimp only;by_cases U:ls=u
   .subst U;rw[c9 rZ];exact b9 (q1 (cH O))
   .rw[eQ U,wA (by decide),show t.sameMemory t.moves t.mask=some true by unfold SetTable.sameMemory;simp];dsimp only;rw[wB rZ,sj];dsimp only;rw[ae];dsimp only;refine bW (show wpAny _ _ (if(c==c)=true then pure true else _) _ _ _ from ?_);rw[wB (xH c)];refine b9 (bW (b9 ?_));rw[wB rZ];dsimp only;rw[wA (by decide)];have oq:iN t q.j:=by show t.slot q.j≠_;rw[eq,sj];intro z;cases z
    obtain⟨m,lm,fm⟩:=N2 C.no M n J oq;rw[<-N]at fm;refine ih m lm l (some nx) fm () () ?_ ?_ λi' j' Y ai=>?_
    .show Way _ _ _ nx;rw[N];exact(I.trans M).snoc oq
    .show nx.dummy=none;rw[N,((I.trans M).snoc oq).dum];rfl
    .obtain⟨q',w1,w2,w3⟩:=H i' Y;have aj:q'.j=j':=by
      have o:q'.j∈t.place.toList:=(vA C.up C.no).mp (by show t.slot q'.j≠_;rw[w2];intro z;cases z);obtain⟨i2,e2⟩:=dU.mp o;rw[fh]at e2;have z:=y9 C.up e2;rw[w2]at z;cases z;rw[ai]at e2;exact(fL e2).symm
     obtain⟨_,_,_,e,h3⟩:=FH C.no w1 w2 w3 _ _ em;cases e
     rcases h3 with⟨_,rfl⟩|h3
     .rw[O]at Y;exact wC (fL Y) U
     .exact#[q',h3,aj]
end
theorem Ct(n:Nat):∀(fuel s:Nat),SetTable.sizeAbove.go n fuel s<=max s (2 * n)
 |0,s=>Nat.le_max_left _ _
 | fuel+1,s=>by
  unfold SetTable.sizeAbove.go;split
  .have:=Ct n fuel (s * 2);lia
  .exact Nat.le_max_left _ _
def JX{t a:SetTable}{b:Array Int}{n:Nat}{d:Array Nat}(e:t.relaid b n=some (a,d)):a.mask<=max 8 (2 * n):=by
 have z:a.mask=SetTable.sizeAbove n-1:=by
  unfold SetTable.relaid SetTable.laid at e;cases c:SetTable.layClean (SetTable.sizeAbove n-1) b with
  |none=>rw[c]at e;cases e
  |some g=>
   rw[c]at e;injection e with e
   injection e with f _
   rw[<-f]
 have y:SetTable.sizeAbove n<=max 8 (2 * n):=Ct n _ _;lia
theorem Ak{c:Type}{b:List c}:∀{a:bV},(∀x∈a,x<b.length)->∀i:Nat,(a.filterMap (b[·]?))[i]?=(a[i]?).bind (b[·]?)
 | [],_,i=>by simp
 | x::a,h,i=>by
  rw[List.filterMap_cons,b8 (h x (dh ..))];dsimp only;cases i with
  |zero=>simp[List.getElem?_eq_getElem (h x (List.mem_cons_self ..))]
  |succ i=>
   rw[uc,uc];exact Ak (λy d=>h y (dR _ d)) i
section
variable{P:Pg}{w:World}{A:Ar}{E:VP}{s:Sh}{a b:Ad}{g:Bool}{c:List (List cy)}{f:List cy}{B:Ad->List cy->Prop}
def IsSetH(P:Pg)(w:World)(B:Ad->List cy->Prop)(h:Heap)(a:Ad)(g:Bool)(c:List (List cy)):Prop:=∃d e t b,h.get? a=some (jd d e t)/\EntsK P w B h d b/\b.Perm c/\TabG t d.length g/\t.tooFull=false/\(1<=t.mask/\t.mask<=4010)/\ya t (d.map (·.1))/\c.Nodup
open Classical in
noncomputable def ge (c:List (List cy)) (x:List cy):List (List cy):=if x∈c then c else c++[x]
def TupK.ne{h:Heap}{d:List (Int×Vl)}{g:Nat}{t:SetTable}(x:TupK P w h b f)(e:h.get? a=some (jd d g t)):b≠a:=λz=>by
 obtain⟨o,i,n,c,k,j,_⟩:=x.all;subst z;rw[e]at c;cases c;cases j
def EntsK.same{h d:Heap}{j fs:List (Int×Vl)}{k:Nat}{t:SetTable}{c:List (List cy)}(x:EntsK P w B h fs c)(e:h.get? a=some (jd j k t))(l:Heap.SameBut a h d):EntsK P w B d fs c:=#[x.1,λi m f n p=>by
 obtain⟨b,q,g,r⟩:=x.2 i m f n p;exact#[b,q,g.ext λo s=>l.extBut _ _ (g.ne e) s,r]]
def LA{h:Heap}{j:List (Int×Vl)}{a:List (List cy)}(k:EntsK P w B h j a)(x:TupK P w h b f)(o:B b f){p:Nat}(q:p<=j.length):EntsK P w B h (j.take p++((tupleKind (dN P w)).hash f,.ref b)::j.drop p) (a.take p++f::a.drop p):=by
 have l:(j.take p).length=p:=by rw[e9];lia
 have m:(a.take p).length=p:=by rw[e9,<-k.1];lia
 refine#[by simp[k.1],λi e n c g=>?_]
 rcases DN i p with z|z|z
 .rw[eA (),xA z]at c g;exact k.2 i e n c g
 .subst z;rw[dZ (),l,jg]at c;rw[dZ (),m,jg]at g;cases c;cases g;exact#[b,rZ,x,o]
 .obtain⟨d,rfl⟩:∃d,i=p+(d+1):=#[i-p-1,()];rw[dZ (),l,pD,uc,nO]at c;rw[dZ (),m,pD,uc,nO]at g;exact k.2 _ e n c g
def Jn{t:SetTable}{n j:Nat}(a:TabG t n g)(b:t.tooFull=false)(c:t.slot j=.empty):TabG (t.put j).1 (n+1) g:=by
 have few:=Ip a b;have d:SetTable.has #v[] j=false:=by unfold SetTable.has;simp
 have no:(t.put j).1.dummies= #v[]:=by
  show(if SetTable.has t.dummies j=true then _ else t.dummies)= #v[];rw[a.no,d];rfl
 have sz:(t.put j).1.place.size=n+1:=by
  have z:=t7 t.place.toList (SetTable.below t.place j) j;rw[yx]at z;show(SetTable.insertAt t.place (SetTable.below t.place j) j).size=_;rw[z,dS,dA,gC,<-wj,<-dA,iM,de,a.size]
 exact#[zV no sz (by show _<=t.mask;lia),Bi a.up c,no,a.led,a.plain,a.pow]
def Lh{Q:Sh->Prop}(hu:A.units<cLine)(x:TupK P w s.heap b f)(hB:B b f)(hS:IsSetH P w B s.heap a g c)(few:c.length<500)(q:∀h',IsSetH P w B h' a g (ge c f)->Heap.SameBut a s.heap h'->Q {s with heap:=h'}):
  wpAny (model P w) A (setAddHashed a (.ref b) ((tupleKind (dN P w)).hash f)) (λ_ s'=>Q s') E s:=by
 obtain⟨o,ep,t,J,e,en,pm,v,nf,⟨m1,m2⟩,on,nd⟩:=id hS;have ln:o.length=c.length:=by rw[en.1,pm.length_eq]
 have ab:t.fits o.toArray.size=true:=by rw[dS];exact v.fits
 unfold setAddHashed setAddHashedIn;refine gf (bW (mv e rZ ab ?_));dsimp only;rw[show byScan (.ref b) o.toArray=false from rfl,wA (by decide)];unfold setSearch;obtain⟨m,hm⟩:=v.pow;obtain⟨j0,l0,n0⟩:=Hk (place:=t.place) (mask:=t.mask) (by rw[v.size];exact v.mask);have i0:SetTable.bits ((tupleKind (dN P w)).hash f)%(t.mask+1)<=t.mask:=by have:=lZ (SetTable.bits ((tupleKind (dN P w)).hash f)) (show 0<t.mask+1 by lia);lia
 obtain⟨n,hn,al⟩:=Au hm l0 13 _ _ i0 (Cj ((tupleKind (dN P w)).hash f));have am:=BS (h:=(tupleKind (dN P w)).hash f) v.no n (t.probeStart ((tupleKind (dN P w)).hash f)) (10 * SetTable.turns t.mask) rZ (by show SetTable.runEnd _ _-_<=9;unfold SetTable.runEnd;split<;>lia) (by unfold SetTable.turns;lia) (by
  have z:=BC v.no n0;rw[<-al]at z;exact z)
 have tl:10 * SetTable.turns t.mask<100000:=by unfold SetTable.turns;lia
 refine bW (LZ hu x e v m1 en (λL=>?_) (λj L ej an=>?_) (10 * SetTable.turns t.mask) 100000 none am tl (cm _) .here rZ λi j ei ej=>?_)
 .refine b9 ?_;have z:=q s.heap (by unfold ge;rw[wB (pm.mem_iff.mp L)];exact hS) (Heap.SameBut.refl a s.heap);cases s;exact z
 .refine bW (mv e rZ ab ?_);have N:ge c f=c++[f]:=by unfold ge;rw[wA λz=>L (pm.mem_iff.mpr z)]
  have ae:(ge c f).Nodup:=by
   rw[N];exact oQ.mpr #[nd,gP.mpr #[zD,pU],λx hx y hy=>by rw[cE.mp hy];exact λz=>L (pm.mem_iff.mpr (z▸hx))]
  rw[wB (show(t.put j).1.plain=true from v.plain)];refine bW (IX x.all ?_);simp only[if_true];have lp:(t.put j).2<=o.length:=by rw[<-v.size];exact(ua v.up j).2.2
  have ee:SetTable.insertAt o.toArray (t.put j).2 ((tupleKind (dN P w)).hash f,Value.ref b)=(o.take (t.put j).2++((tupleKind (dN P w)).hash f,Value.ref b)::o.drop (t.put j).2).toArray:=t7 ..;rw[ee];have C:=Jn v nf ej;have D:=LA en x hB lp;have O:ya (t.put j).1 ((o.take (t.put j).2++((tupleKind (dN P w)).hash f,Value.ref b)::o.drop (t.put j).2).map (·.1)):=by
   have z:=KP v.up v.no (by rw[bZ,v.size]) on ej an;rw[dX,eZ,List.map_take,List.map_drop];exact z
  have og:(o.take (t.put j).2++((tupleKind (dN P w)).hash f,Value.ref b)::o.drop (t.put j).2).length=o.length+1:=by
   rw[dA,gC,<-wj,<-dA,iM]
  have T:(J.take (t.put j).2++f::J.drop (t.put j).2).Perm (ge c f):=by
   rw[N];refine yl.trans ?_;rw[iM];exact(pm.cons _).trans (BL _ _).symm
  have mk:(t.put j).1.mask=t.mask:=rfl;generalize(o.take (t.put j).2++((tupleKind (dN P w)).hash f,Value.ref b)::o.drop (t.put j).2)=d at D O og|-;generalize(J.take (t.put j).2++f::J.drop (t.put j).2)=p at D T;generalize(t.put j).1=I at C O mk|-;rw[<-og]at C;refine bW (yr e rZ ?_ (by rw[dS,cS];lia));have U:=AF (h:=s.heap) (fs:=d) (u:=I) e;have r:Heap.SameBut a s.heap (s.heap.update a (Obj.putSet d.toArray I)):=zF ..;have af:=D.same e r;show wpAny _ _ (if(!false&&I.tooFull)=true then _ else _) _ _ _;by_cases tf:I.tooFull=true
  .rw[tf,wB (by decide)];have eg:SetTable.grown (o.toArray.size+1)=d.length * 4:=by
    unfold SetTable.grown;rw[dS,<-og,wA ()]
   rw[eg];have hz:(d.toArray.map (·.1)).size=d.length:=by simp
   obtain⟨t2,l,er,M,Y,ao,as,_,ap⟩:=Fm (t:=I) (hs:=d.toArray.map (·.1)) (n:=d.length * 4) () ();rw[hz]at M Y;obtain⟨u1,u2,u3⟩:=BV er;have mx:=JX er;have aa:∀x∈l.toList,x<d.length:=λx hx=>eU.mp (M.mem_iff.mp hx)
   have ez:l.filterMap (d.toArray[·]?)=(l.toList.filterMap (d[·]?)).toArray:=by
    apply zz.mp;rw[Array.toList_filterMap];simp
   have p2:(l.toList.filterMap (d[·]?)).Perm d:=by
    have z:=M.filterMap (d[·]?);rw[Do]at z;exact z
   have l2:=p2.length_eq;have k2:(l.toList.filterMap (p[·]?)).Perm p:=by
    have z:=M.filterMap (p[·]?);rw[D.1,Do]at z;exact z
   have ag:I.fits d.toArray.size=true:=by rw[dS];exact C.fits
   have big: ¬SetTable.sizeAbove (d.length * 4)>sizeLine:=by
    have y:SetTable.sizeAbove (d.length * 4)<=max 8 (2 * (d.length * 4)):=Ct _ _ _;rw[cS];lia
   have ah:∀(i x:Nat),l.toList[i]?=some x->(l.toList.filterMap (d[·]?))[i]?=d[x]? /\(l.toList.filterMap (p[·]?))[i]?=p[x]? :=λi x ex=>by
    rw[Ak aa,Ak (by rw[<-D.1];exact aa),ex];exact#[rZ,rZ]
   have ai:∀{i:Nat} {y:Int×Vl},(l.toList.filterMap (d[·]?))[i]?=some y->∃x,l.toList[i]?=some x:=λ{i y} G=>by
    rw[Ak aa]at G;cases eo:l.toList[i]? with
    |none=>rw[eo]at G;cases G
    |some x=>exact#[x,rZ]
   unfold setRelay;refine bW (bW (mv U rZ ag ?_));dsimp only;rw[wA big,er];refine bW (show wpAny _ _ (if((l.filterMap (λx=>d.toArray[x]?)).size != d.toArray.size)=true then _ else pure (l.filterMap (λx=>d.toArray[x]?),t2)) _ _ _ from ?_);rw[ez,wA (by rw[dS,dS,l2];simp)];refine b9 (yr U rZ ?_ (by rw[dS,l2,cS];lia));have e2:=AF (fs:=l.toList.filterMap (d[·]?)) (u:=t2) U;have H:=zF (s.heap.update a (Obj.putSet d.toArray I)) a (Obj.putSet (l.toList.filterMap (d[·]?)).toArray t2);have aq:EntsK P w B (s.heap.update a (Obj.putSet d.toArray I)) (l.toList.filterMap (d[·]?)) (l.toList.filterMap (p[·]?)):=#[by rw[l2,k2.length_eq];exact D.1,λi y ls G el=>by
    obtain⟨x,ex⟩:=ai G;obtain⟨a1,a2⟩:=ah i x ex;rw[a1]at G;rw[a2]at el;exact af.2 x y ls G el]
   refine b9 (q _ #[_,ep+1+1,t2,_,e2,aq.same U H,k2.trans T,?_,?_,#[(),()],λk h j eh ar=>?_,ae] (r.trans H))
   .rw[l2];exact#[zV u2 Y (),u1,u2,u3.trans C.led,ap.trans C.plain,ao]
   .unfold SetTable.tooFull SetTable.fill;rw[u2,Y];have e:(#v[]:Array Nat).size=0:=rfl;rw[e];exact eQ ()
   .rw[cr]at eh;obtain⟨y,G,rfl⟩:=da.mp eh;obtain⟨x,ex⟩:=ai G;obtain⟨a1,_⟩:=ah k x ex;rw[a1]at G;obtain⟨h',aj,wy⟩:=NQ er k x j (by rw[<-fh];exact ex) ar;rw[Array.getElem?_map,Ay,G]at aj;cases aj;exact wy
  .have ak:I.tooFull=false:=by simpa using tf
   rw[ak,wA (by decide)];exact b9 (q _ #[d,ep+1,I,p,U,af,T,C,ak,#[(),()],O,ae] r)
 .have li:i<o.length:=by rw[en.1];exact(cg.mp ei).1
  obtain⟨b',U,_⟩:=en.2 i _ f (b8 li) ei;exact on i _ j (by rw[cr,b8 li,U];rfl) ej
end
noncomputable def gB (a:List (List cy)):List (List cy):=a.foldl ge []
section
variable{P:Pg}{w:World}{A:Ar}{E:VP}{S it l:Ad}{a:Bool}{xs:List (List cy)}{bs:As}{B:Ad->List cy->Prop}
def IsSetH.ext{h g:Heap}{c:List (List cy)}(l:IsSetH P w B h S a c)(k:∀b o,b≠it->h.get? b=some o->g.get? b=some o)(ne:S≠it)(no:∀{b d},TupK P w h b d->b≠it):IsSetH P w B g S a c:=by
 obtain⟨m,n,t,f,e,⟨p,q⟩,r⟩:=l;refine#[m,n,t,f,k _ _ ne e,#[p,λi y d s u=>?_],r];obtain⟨b,v,j,x⟩:=q i y d s u;exact#[b,v,j.ext λo z=>k b o (no j) z,x]
def E2{i:Nat}{x:List cy}(e:xs[i]?=some x):gB (xs.take (i+1))=ge (gB (xs.take i)) x:=by
 rw[g9,e];exact kg ..
theorem FA:∀(i:Nat),(gB (xs.take i)).length<=i
 |0=>cm _
 | i+1=>by
  have z:=FA i;cases e:xs[i]? with
  |none=>rw[u6 (by have:=xl.mp e;lia),<-u6 (xl.mp e)];lia
  | some x=>
   rw[E2 e];unfold ge;split
   .lia
   .rw[dA];exact Nat.succ_le_succ z
def MR{s:Sh}{Q:VP}(Y:A.handled=none)(n:A.units+40<cLine)(hl:s.heap.IsList l (bs.map Value.ref).toArray)(lb:bs.length=xs.length)(few:xs.length<500)(hB:∀(k:Nat) b a,bs[k]?=some b->xs[k]?=some a->B b a)(hT:∀(k:Nat) b a,bs[k]?=some b->xs[k]?=some a->TupK P w s.heap b a)(q:∀m u,IsSetH P w B m s.heap.objs.size (!w.params.followText "set-order") (gB xs)->(∀b o,s.heap.get? b=some o->m.get? b=some o)->Q (.ref s.heap.objs.size) {s with heap:=m,toks:=u}):
  wpAny (model P w) A (call (.type "set") [.ref l]) Q E s:=by
 have G:(bs.map Value.ref).length=xs.length:=by rw[bZ,lb]
 have no:∀{it b:Ad} {a:List cy} {i:Nat} {h:Heap},h.IsListIter it l i->TupK P w h b a->b≠it:=λ⟨o,e,c,r⟩ x z=>by
  obtain⟨o',i',n',H,_,I,_⟩:=x.all;subst z;rw[e]at H;cases H;rw[r]at I;cases I
 refine Fy (J:=λi h=>(∀(k:Nat) b a,bs[k]?=some b->xs[k]?=some a->TupK P w h b a)/\IsSetH P w B h s.heap.objs.size (!w.params.followText "set-order") (gB (xs.take i))) (U:=True) Y (λ_=>n) hl (λit i h1 h2 d ⟨hT,p⟩ L k=>#[λj b a f g=>(hT j b a f g).ext λo e=>k b o (no L (hT j b a f g)) e,p.ext k d.symm (no L)]) (λA E i v s1 Q n y ⟨hT,p⟩ q=>?_) (λm k e=>#[λj b a f g=>(hT j b a f g).ext λo e=>k b o e,[],0,_,[],e,#[rZ,λi e a z=>by simp at z],List.Perm.refl _,#[by cases(!w.params.followText "set-order")<;>rfl,.nil,rZ,rZ,rZ,3,rZ],rZ,#[by show 1<=7;decide,by show 7<=4010;decide],λk h j z=>by simp at z,.nil]) λm u f g=>q m u (by rw[G,List.take_length]at f;exact f.2) g;have M:=(cg.mp y).1;rw[G]at M;rw[cr]at y;obtain⟨b,N,rfl⟩:=da.mp y;obtain⟨x,C⟩:∃x,xs[i]?=some x:=#[_,b8 M];have O:=hT i b x N C;unfold setAdd;refine gf (bW ((tupleKind (dN P w)).pyHash (k:=x) (n True.intro) O.key ?_));have lo:=FA (xs:=xs) i;refine Lh (n True.intro) O (hB i b x N C) p () λm D T=>q m _ #[λj b a f g=>?_,by rw[E2 C];exact D] T;obtain⟨es,ep,t,aa,e,_⟩:=p;exact(hT j b a f g).ext λo ho=>T.extBut _ _ ((hT j b a f g).ne e) ho
end
section
variable{X:Cx}{H:Hp}{ts:LN}
def OA{a:List (List cy)}{x y:List cy}:y∈ge a x↔y∈a\/y=x:=by
 unfold ge;split
 .exact#[.inl,λz=>z.elim id λe=>by rw[e];assumption]
 .rw[cM,cE]
def lQ{b:List (List cy)}{y:List cy}:y∈gB b↔y∈b:=by
 have all:∀(b a:List (List cy)),y∈b.foldl ge a↔y∈a\/y∈b:=λb=>by
  induction b with
  |nil=>intro a;simp
  |cons x b c=>
   intro a;rw[jw,c,OA,dq,or_assoc]
 rw[gB,all];simp
def zh(w:World)(a:Ad)(bs:As):HO:= .ext λh=>∃(b:Zs) (c:Nat) (t:SetTable),b.length=bs.length/\h.get? a=some (jd (b.zip (bs.map Value.ref)) c t)/\TabG t bs.length (!w.params.followText "set-order")
theorem vt:∀(c:List (Int×Vl)) (a:List (List cy)),c.length=a.length->(∀(i:Nat) (e:Int×Vl) (f:List cy),c[i]?=some e->a[i]?=some f->∃b u,e.2=.ref b/\f=nk u/\H b=some (.tup (u.map nv))/\u∈ts)->
  ∃(bs:As) (d:LN),c=(c.map (·.1)).zip (bs.map Value.ref)/\bs.length=c.length/\TupsAt H bs d/\a=d.map nk/\∀u∈d,u∈ts
 | [],[],_,_=>#[[],[],rZ,rZ,#[rZ,λi b u e=>by simp at e],rZ,λ_ h=>nomatch h]
 | e::c,f::a,l,h=>by
  obtain⟨bs,d,m,n,a3,o,p⟩:=vt c a (by simpa using l) λi q k g j=>h (i+1) q k g j;obtain⟨b,u,r,s,t,w⟩:=h 0 e f rZ rfl;refine#[b::bs,u::d,?_,by simp[n],#[by simp[a3.len],λi x y g j=>?_],by rw[s,o];rfl,λv A=>?_]
  .rw[eZ,eZ,zq,<-m,<-r]
  .cases i with
   |zero=>
    cases g;cases j;exact t
   |succ i=>exact a3.is i x y g j
  .rcases dq.mp A with rfl|z
   .exact w
   .exact p v z
def KZ{P:Pg}{w:World}{h:Heap}{b:Ad}{u:bV}(ok:HOk P w H h)(e:H b=some (.tup (u.map nv))):TupK P w h b (nk u):=by
 refine#[sn ok (by rw[gO];exact e),?_];obtain⟨a,o,g,c,j,l,m,n,p⟩:=CI ok e;cases j;refine#[o,g,c,l,m,n,?_];have all:∀{d:bV} {f:Vs},Vals (d.map nv) f->∀v∈f,∃k t,v=Value.int k t:=λ{d}=>by
  induction d with
  |nil=>
   intro f h v i;cases h;cases i
  | cons x d q=>
   intro f h v i;cases h with
   | cons r s=>
    rcases dq.mp i with rfl|z
    .obtain⟨y,rfl⟩:=r;exact#[_,y,rZ]
    .exact q s v z
 exact all p
inductive pP(K:O2)(w:World)(xs:List V)(H:Hp)(Q:VK):Prop|mk:∀(p:Ad) (b:As) (ts:LN),xs=[.ref p]->SqL K H p (b.map .ref)->TupsAt H b ts->b.length<500->(∀(a:Ad) (bs:As) (c:LN),H a=none->TupsAt H bs c->c.Nodup->(∀u,u∈c↔u∈ts)->Q (.ref a) (bX H a (zh w a bs)))->pP K w xs H Q
def IH(M:X.calm=true)(A:X.A.units+64<cLine):hG X (.type "set") (pP X.K X.w):=by
 intro N s O H xs C Q I r h;obtain⟨p,T,ts,rfl,U,d,few,q⟩:=h;obtain⟨u,rfl,Y⟩:=gD r;cases Y;obtain⟨aa,rv,pl,_⟩:=I.list U;have ei:=vI rv;subst ei;have g:∀(k:Nat) b c,T[k]?=some b->(ts.map nk)[k]?=some c->∃u,c=nk u/\H b=some (.tup (u.map nv))/\u∈ts:=λk b c j f=>by
  rw[cr]at f;obtain⟨u,n,rfl⟩:=da.mp f;exact#[u,rZ,d.is k b u j n,cH n]
 refine MR (B:=λb c=>∃u,c=nk u/\H b=some (.tup (u.map nv))/\u∈ts) (xs:=ts.map nk) (I.ok.hd M) () pl.isList (by rw[bZ,d.len]) (by rw[bZ,<-d.len];exact few) g (λk b c j f=>?_) λh' tk z keep=>?_
 .obtain⟨u,rfl,n,_⟩:=g k b c j f;exact KZ I.hok n
 .have I1:Inv X N O H {s with heap:=h',toks:=tk}:=I.kept keep;obtain⟨D,ep,t,l,e,E,G,tb,nf,_,_,nd⟩:=z;obtain⟨bs,C,a1,J,a3,L,a5⟩:=vt (H:=H) (ts:=ts) D l E.1 λi e' c j f=>by
   obtain⟨b,w,_,u,x,y4,y5⟩:=E.2 i e' c j f;exact#[b,u,by rw[w],x,y4,y5]
  refine#[.ref s.heap.objs.size,_,Inv.trackNew I I1 (o:=zh X.w s.heap.objs.size bs) ?_,rZ,q _ bs C I.fresh a3 ?_ λu=>#[a5 u,λA=>?_]]
  .refine#[#[D.map (·.1),ep,t,by rw[bZ,J],by rw[<-a1];exact e,by rw[J];exact tb],#[_,e],λh1 h2 ⟨hs,y,t',w,y2,x⟩ k=>#[hs,y,t',w,k _ y2,x]]
  .have m:=G.nodup_iff.mpr nd;rw[L]at m;exact List.Pairwise.of_map nk (λa b h e=>h (by rw[e])) m
  .have z:nk u∈l:=G.mem_iff.mpr (lQ.mpr (cq.mpr #[u,A,rZ]));rw[L]at z;obtain⟨v,hv,ev⟩:=cq.mp z;rw[<-sh ev];exact hv
def ME{g o:Type}{f:g->o}{p q:List o}(h:p.Perm q):∀l:List g,q=l.map f->∃c:List g,c.Perm l/\p=c.map f:=by
 induction h with
 |nil=>exact λl e=>#[l,.refl _,e]
 | cons x _ s=>
  intro l e;cases l with
  |nil=>cases e
  |cons a l=>
   rw[eZ]at e;injection e with i d
   obtain⟨c,j,k⟩:=s l d;exact#[a::c,j.cons a,by rw[eZ,<-i,<-k]]
 | swap x y r=>
  intro l e
  match l,e with
  |a::b::l,e=>
   rw[eZ,eZ]at e;injection e with i d
   injection d with d t
   exact#[b::a::l,.swap a b l,by rw[eZ,eZ,<-i,<-d,<-t]]
 |trans _ _ m n=>
  intro l e;obtain⟨c,j,k⟩:=n l e;obtain⟨u,v,w⟩:=m c k;exact#[u,v.trans j,w]
def IS{w:World}{a:Ad}{ep:Nat}{b:Zs}{bs:As}{d:LN}(l:b.length=bs.length)(T:TupsAt H bs d):∃(e:As) (h:LN),(j4 w a ep (b.zip (bs.map Value.ref))).map (·.2)=e.map Value.ref/\TupsAt H e h/\h.Perm d/\e.length=bs.length:=by
 have j:=(wF w a ep (b.zip (bs.map Value.ref))).map (·.2);rw[Aw (by rw[bZ,l];exact cm _)]at j;have p:bs.map Value.ref=(bs.zip d).map λx=>Value.ref x.1:=by
  rw[show(λx:Ad×bV=>Value.ref x.1)=Value.ref∘Prod.fst from rfl,<-eY,List.map_fst_zip (by rw[T.len];exact cm _)]
 obtain⟨m,f,q⟩:=ME j _ p;refine#[m.map (·.1),m.map (·.2),by rw[q,eY];rfl,#[by simp,λi c v n g=>?_],?_,?_]
 .rw[cr]at n g;obtain⟨x,o,rfl⟩:=da.mp n;rw[o]at g;cases g;obtain⟨k,r⟩:=dU.mp (f.mem_iff.mp (cH o));obtain⟨s,t⟩:=Dd.mp r;exact T.is k _ _ s t
 .have:=f.map (·.2);rwa[Aw (by rw[T.len];exact cm _)]at this
 .rw[bZ,f.length_eq,List.length_zip,T.len,Nat.min_self]
inductive mM(w:World)(d:List V)(H:Hp)(Q:VK):Prop|mk:∀(a:Ad) (bs:As) (b:LN),d=[.ref a]->H a=some (zh w a bs)->TupsAt H bs b->b.Nodup->(∀u∈b,u≠[])->b.length<=4000->(∀D e c,H D=none->TupsAt H e c->c.Perm b->c.Pairwise (λx y=>d8 x y=true)->Q (.ref D) (bX H D (.lst (e.map V.ref))))->mM w d H Q
def JD(hc:X.calm=true):hG X (.builtin "sorted") (mM X.w):=by
 intro za s σ H xs af Q I r h;obtain⟨a,bs,us,rfl,ha,T,nd,ne,few,q⟩:=h;obtain⟨u,rfl,ru⟩:=gD r;cases ru;obtain⟨⟨hs,ep,t,lh,eS,tb⟩,_,_⟩:=I.hok a _ ha;have lz:(hs.zip (bs.map Value.ref)).length=bs.length:=by rw[List.length_zip,bZ,lh,Nat.min_self]
 rw[<-lz]at tb;have ag:=T.len;obtain⟨f,g,ew,G,pv,lc⟩:=IS (w:=X.w) (a:=a) (ep:=ep) lh T;have lv:=pv.length_eq;have J:=wF X.w a ep (hs.zip (bs.map Value.ref));refine Ag zS x8 zW (args_sorted1 _) ?_;unfold Builtin.«sorted»;refine bW (m:=checkCount "sorted" 1 1 _) (b9 ?_);refine bW (PySem.W.kdu_collect (A:=X.A.in1) (xb tb) (by simpa using I.ok.hd hc) eS (by rw[lz,sizeLine_eq];lia) λn B ac keep L=>?_);have D:ac.toList=f.map Value.ref:=by
  rw[<-ew];refine vf (by rw[de,L.1,bZ,J.length_eq]) λi x y hx hy=>?_;obtain⟨e,O,U⟩:=L.2 i x (by rw[<-fh];exact hx);rw[cr,O]at hy;cases hy;exact U
 have Y:Inv X za σ H {s with heap:=n,toks:=B}:=I.kept keep;rw[D];refine bW (qq ?_ (by rw[bZ,cS];lia));have eD:(n.push (seqObj "list" (f.map Value.ref).toArray 0)).get? n.objs.size=some (seqObj "list" (f.map Value.ref).toArray 0):=dW _ rfl;have M:g.Nodup:=pv.nodup_iff.mpr nd;have TT:=Hg g;have inj:=CV (d:=([]:bV)) TT M;have ln:(f.map Value.ref).length=g.length:=by rw[bZ,G.len]
 refine bW (gf (iG AC #[_,eD,rZ] Ax (B4 (s:={s with heap:=n.push (seqObj "list" (f.map Value.ref).toArray 0),toks:=B}) (k:=λi=>ja d8 g (g.getD i [])) eD () (Ev G M) (λi j hi hj e=>inj i j () () e) (λN kp h2=>?_) λp N c E up e kp=>#[_,rfl,?_]) (args_list_sort _)))
 .have I2:Inv X za σ H {s with heap:=N,toks:=B}:=Y.kept (t':=B) λb o z=>kp b o (dP (cQ z)) (cV _ z);have z:=Fc (P:=X.prog) (w:=X.w) (A:=X.A.in1.in1) (s:={s with heap:=N,toks:=B}) ln () (λi v t O U=>by
   rw[cr]at O;obtain⟨a,ea,rfl⟩:=da.mp O;exact#[CI I2.hok (G.is i a t ea U),ne t (pv.mem_iff.mp (cH U))])
  refine gJ z (λκ s' hk=>#[hk.1,λi j C li lj hC=>hk.2 i j C li lj ?_]) λ_ _ x=>x;have e:=TT.asks (nj (d:=([]:bV)) (show i<g.length by lia)).2 (nj (d:=([]:bV)) (show j<g.length by lia)).2;show C (d8 (g.getD i []) (g.getD j [])) _;rw[<-e];exact hC
 .rw[ln]at E up;have I2:Inv X za σ H {s with heap:=N,toks:=B}:=Y.kept (t':=B) λb o z=>kp b o (dP (cQ z)) (cV _ z);have hD:H n.objs.size=none:=Y.fresh;have aa:=G.pick E;have ab:f8 (f.map Value.ref) p=(p.toList.map λi=>f.getD i 0).map Value.ref:=by
   unfold f8;rw[eY];refine hK λi hi=>?_;have li:i<f.length:=by
    have m:=(lM.mp E).mem_iff.mp hi;have m2:i<g.length:=by simpa using m
    rw[G.len];exact m2
   show(f.map Value.ref).getD i Value.none=Value.ref (f.getD i 0);rw[cP,cP,cr,b8 li];rfl
  have ae:∀l:As,Vals (l.map V.ref) (l.map Value.ref):=λl=>by
   induction l with
   |nil=>exact .nil
   |cons x l ih=>exact .cons rZ ih
  rw[ab]at e;have ok:ObjOk X.prog X.w (bX H n.objs.size (.lst ((p.toList.map λi=>f.getD i 0).map V.ref))) N n.objs.size (.lst ((p.toList.map λi=>f.getD i 0).map V.ref)):=#[by rw[bZ,bZ,de,E.size,cS];lia,_,c,ae _,e];exact b9 #[_,rZ,.ref n.objs.size,_,Inv.trackNew Y I2 ok,rZ,q _ _ _ hD aa ((CJ E).trans pv) (Bh TT E up)]
end
end L2
namespace My
open PySem L2 PyProof.Rows
abbrev sA:Str:="machine"
abbrev sB:Str:="rooms"
abbrev sC:Str:="sets_reached.<locals>.<lambda>"
abbrev sD:Str:="level_group.<locals>.<lambda>"
abbrev sE:Str:="level"
abbrev sF:Str:="_law_turn_here"
abbrev sG:Str:="_law_script"
abbrev sH:Str:="_law_machine_here"
abbrev sI:Str:="group"
abbrev sJ:Str:="tiles"
abbrev sK:Str:="words"
abbrev sL:Str:="turn"
abbrev sM:Str:="turns"
abbrev sN:Str:="sets_reached"
abbrev sO:Str:="_law_level_here"
abbrev sP:Str:="letter"
abbrev sQ:Str:="_law_number"
abbrev sS:Str:="level_group"
abbrev sT:Str:="other"
abbrev sU:Str:="most"
abbrev sV:Str:="all_turns"
abbrev sW:Str:="own_turns"
abbrev sX:Str:="_law_other"
abbrev sY:Str:="reached"
abbrev sZ:Str:="sets"
abbrev tE:Str:="_law_parts"
abbrev tG:Str:="self"
abbrev tH:Str:="word"
abbrev tI:Str:="_law_one"
abbrev tJ:Str:="waiting"
abbrev tK:Str:="_law_some"
abbrev tL:Str:="tile_count"
abbrev tM:Str:="keepers"
abbrev tN:Str:="all_turns.<locals>.<lambda>"
abbrev tO:Str:="one"
abbrev tQ:Str:="_law_rooms"
abbrev tR:Str:="_law_found"
abbrev tS:Str:="behind"
abbrev tT:Str:="_law_cell"
abbrev tV:Str:="_law_k"
abbrev tW:Str:="_law_inner"
abbrev tX:Str:="carried"
abbrev tY:Str:="all_tiles_turned"
abbrev tZ:Str:="tiles_of_set"
abbrev uA:Str:="tiles_turned"
abbrev uB:Str:="__init__"
abbrev uC:Str:="levels_in_order"
abbrev uD:Str:="_law_behind"
abbrev uE:Str:="sets_of_levels"
abbrev uF:Str:="_law_cells"
abbrev uG:Str:="words_between"
abbrev uH:Str:="is_own_double"
abbrev uI:Str:="_law_tiles"
abbrev uJ:Str:="makers"
abbrev uK:Str:="_law_cell_at"
abbrev uL:Str:="_law_machine"
abbrev uM:Str:="letters"
abbrev uN:Str:="refuse_more"
abbrev uO:Str:="start"
abbrev uP:Str:="still"
abbrev uQ:Str:="steps"
abbrev uR:Str:="is_covered"
abbrev uS:Str:="alike_sets"
abbrev uT:Str:="room_count"
abbrev uV:Str:="still_like"
abbrev uW:Str:="_law_level"
def top(i:Nat):Stmt:=PySem.Challenge.pw_cascade_k93_whole_own_turns_turn_the_til.main.body.getD i (.Pass #[0,0,0,0])
abbrev CC:Stmt:=top 5
abbrev pe:Stmt:=top 6
abbrev DG:Stmt:=top 8
abbrev zR:Stmt:=top 9
abbrev nc:Stmt:=top 11
abbrev BW:Stmt:=top 13
abbrev rq:Stmt:=top 15
abbrev DH:Stmt:=top 17
abbrev DB:Stmt:=top 18
abbrev yY:Stmt:=top 19
abbrev yd:Stmt:=top 20
abbrev nB:Stmt:=top 21
abbrev Db:Stmt:=top 23
abbrev AL:Stmt:=top 24
abbrev zC:Stmt:=top 25
abbrev lO:Stmt:=top 26
abbrev Ca:Stmt:=top 28
abbrev uo:Stmt:=top 29
abbrev yC:Stmt:=top 30
abbrev vG:Stmt:=top 31
abbrev Bp:Stmt:=top 33
abbrev yL:Stmt:=top 34
abbrev CY:Stmt:=top 35
abbrev zX:Stmt:=top 36
abbrev vY:Stmt:=top 37
abbrev yG:Stmt:=top 38
abbrev CS:Stmt:=top 39
abbrev Al:Stmt:=top 40
abbrev zm:Stmt:=top 42
abbrev Dm:Stmt:=top 43
abbrev nR:Stmt:=top 44
abbrev Bv:Stmt:=top 49
abbrev yS:Stmt:=top 50
abbrev zO:Stmt:=top 51
abbrev y7:Stmt:=top 52
abbrev Bg:Stmt:=top 53
abbrev zw:Stmt:=top 54
abbrev zN:Stmt:=top 55
abbrev x5:Stmt:=top 56
abbrev om:Stmt:=top 57
def y3:Stmt->List Stmt
 | .ClassDef _ _ _ b _ _ _ _ _ _ _=>b
 |_=>[]
abbrev Af:Stmt:=(y3 (top 46)).getD 0 (.Pass #[0,0,0,0])
abbrev A2:Stmt:=(y3 (top 46)).getD 1 (.Pass #[0,0,0,0])
abbrev AJ:Stmt:=(y3 (top 47)).getD 0 (.Pass #[0,0,0,0])
abbrev DC:Stmt:=(y3 (top 47)).getD 1 (.Pass #[0,0,0,0])
def Nz:FnScope ["things",sU] ["things",sU] (cz CC):={}
def jV:FnScope [uO,uM,"step",sU,sK,"wave","following","thing",sP,"found"] [uO,uM,"step",sU] (cz pe):={}
def JI:FnScope [sB] [sB] (cz DG):={}
def J5:FnScope [tO,sT] [tO,sT] (cz zR):={}
def qL:FnScope [sA,sU,uO,sK] [sA,sU] (cz nc):={}
def IC:FnScope [sL] [sL] (cz BW):={}
def rF:FnScope [sA,"room",tH,sP] [sA,"room",tH] (cz rq):={}
def JS:FnScope [sB] [sB] (cz DH):={}
def qR:FnScope [sZ,"once",sB] [sZ] (cz DB):={}
def LS:FnScope [tO,sT] [tO,sT] (cz yY):={}
def LW:FnScope [sA,sB,tH] [sA,sB,tH] (cz yd):={}
def Me:FnScope [sA,sB] [sA,sB] (cz nB):={}
def Jm:FnScope [sL,sB] [sL,sB] (cz Db):={}
def NP:FnScope [sL] [sL] (cz AL):={}
def Oc:FnScope [tM] [tM] (cz zC):={}
def kR:FnScope [sA,sE,sU,sM,tM,"e"] [sA,sE,sU] (cz lO):={}
def qT:FnScope [sA,sK] [sA] (cz Ca):={}
def rB:FnScope [sA,"singles"] [sA] (cz uo):={}
def Nv:FnScope ["part",sZ] ["part",sZ] (cz yC):={}
def rE:FnScope [sA,sB,"within"] [sA,sB] (cz vG):={}
def kK:FnScope [sA,sK,sB] [sA] (cz Bp):={}
def JK:FnScope [sK,sB] [sK,sB] (cz yL):={}
def jX:FnScope [sK,"found",sB,sZ] [sK] (cz CY):={}
def Ju:FnScope [sK,sZ,tJ] [sK,sZ,tJ] (cz zX):={}
def jS:FnScope [sK,tJ,"told","free"] [sK,tJ] (cz vY):={}
def kN:FnScope [sA,sK,"told",sZ,"face","ways"] [sA] (cz yG):={}
def Lp:FnScope [sA,sE,"k","j"] [sA,sE,"k","j"] (cz CS):={}
def II:FnScope [sA,sE,"k"] [sA,sE,"k"] (cz Al):={}
def kM:FnScope [sA,sE,"k",sP,"there","ends"] [sA,sE,"k",sP] (cz zm):={}
def jJ:FnScope [sA,sE,"found","k",sP,sL] [sA,sE] (cz Dm):={}
def qQ:FnScope [sA,sE,uJ] [sA,sE] (cz nR):={}
def Kr:FnScope [sG,tV] [sG,tV] (cz Bv):={}
def jW:FnScope [tT,tQ,sQ,sF,tV,sX] [tT,tQ] (cz yS):={}
def kU:FnScope [sG,tQ,"_law_many_here"] [sG] (cz zO):={}
def ND:FnScope [tI,sX] [tI,sX] (cz y7):={}
def jY:FnScope [sH,"_law_most",tR,"_law_known","_law_at",sF,"_law_word","_law_letter","_law_there"] [sH,"_law_most"] (cz Bg):={}
def kW:FnScope [sF,tW,tR,tI,"_law_there"] [sF,tW] (cz zw):={}
def Lj:FnScope [tE,sQ] [tE,sQ] (cz zN):={}
def jO:FnScope [sH,sO,tK,uF,"_law_own","_law_turned",sF,tT,tI,sX,"_law_both"] [sH,sO,tK,uF] (cz x5):={}
def qF:FnScope [sG,sH,tK,tE,sQ,sO,tR,"_law_due","_law_face",sF] [sG] (cz om):={}
def kB:FnScope [tG,sA,sE,"k",sB] [tG,sA,sE] (cz Af):={}
def Ld:FnScope [tG] [tG] (cz A2):={}
def Mc:FnScope [tG,sA] [tG,sA] (cz AJ):={}
def kX:FnScope [tG,"found","number","step"] [tG] (cz DC):={}
inductive iz(K:O2)(c:List V)(H:Hp)(Q:VK)(b:XK):Prop|mk:∀(a:Ad) (d:Zs) (k:Int),c=[.ref a,.int k]->0<=k->SqL K H a (d.map V.int)->Q (.int (d.getD k.toNat 0)) H->iz K c H Q b
variable{P:Pg}{w:World}{K:O2}{mg:SV}{base:Heap}{f:Ad}{fd:Fd}
def Nj(F:Fun K uK uK Bv f fd)(j:mg "len"=none):FnOk P w K mg base cL 1 f fd [sG,tV] (iz K):=by
 refine F.ok Kr (λl A d s H n Q E o h=>?_)
 obtain⟨a,b,k,rfl,p,i,q⟩:=h;refine#[_,(cD (gM (fM Dr (pv 1) (dY fF rZ j fe (cu (pv 0) cj)) (fj _)) (cG (dF (dE h9 (pv 0) (pv 1) (λ_ _=>rfl)))) gV) (cG (dF cU))),?_];refine#[_,rZ,_,rZ,a,_,rZ,.inl i,_,_,rZ,rZ,_,rZ,?_];have e:k=((k.toNat:Nat):Int):=by lia
 refine lJ (λc=>?_) (λc=>?_)
 .have g:k<((b.map V.int).length:Nat):=fG c;rw[bZ]at g;have m:k.toNat<b.length:=by lia
  refine#[_,rZ,_,rZ,a,_,_,.int (b.getD k.toNat 0),rZ,rZ,i,?_,q];rw[e];exact N9 m
 .have g: ¬k<((b.map V.int).length:Nat):=λz=>c (c9 z);rw[bZ]at g;have:b.getD k.toNat 0=0:=by
   rw[cP,ie ()];rfl
  rw[this]at q;exact q
structure Mach(H:Hp)(m:Ad)(ts:LN)(n:Nat):Prop where
 refs:∃rs:As,H m=some (.tup (rs.map V.ref))/\rs.length=ts.length/\∀(i:Nat) r t,rs[i]?=some r->ts[i]?=some t->H r=some (.tup (t.map nv))
 some1:1<=ts.length
 few:ts.length<=4
 n1:1<=n
 n5:n<=5
 each:∀t∈ts,t.length=n/\∀x∈t,x<n
def Mach.same{H a:Hp}{m:Ad}{b:LN}{n:Nat}(M:Mach H m b n)(g:Same H a):Mach a m b n:=
 #[let⟨c,d,e,f⟩:=M.refs;#[c,g _ _ d,e,λi r t h j=>g _ _ (f i r t h j)],M.some1,M.few,M.n1,M.n5,M.each]
def Mach.at{H:Hp}{m:Ad}{ts:LN}{n:Nat}(M:Mach H m ts n){l:Nat}(b:l<ts.length):
  ∃(a:As) (r:Ad),H m=some (.tup (a.map V.ref))/\a.length=ts.length/\jx (a.map V.ref) (l:Int)=some (.ref r)/\H r=some (.tup ((ts.getD l []).map nv))/\(ts.getD l []).length=n/\∀x∈ts.getD l [],x<n:=by
 obtain⟨a,d,f,g⟩:=M.refs;have c:l<a.length:=by lia
 have e:ts.getD l []=ts[l]:=by rw[cP,b8 b];rfl
 rw[e];obtain⟨h,i⟩:=M.each ts[l] (iw b);exact#[a,a[l],d,f,j6 (by rw[cr,b8 c];rfl),g l _ _ (by simp[c]) (by simp[b]),h,i]
def d9(a:LN)(r:Nat)(word:bV):Nat:=word.foldl (λr l=>(a.getD l []).getD r 0) r
def Ka(a:LN)(r:Nat)(word:bV)(l:Nat):d9 a r (word++[l])=(a.getD l []).getD (d9 a r word) 0:=by
 unfold d9;rw[kg];rfl
theorem oh{H:Hp}{m:Ad}{a:LN}{n:Nat}(M:Mach H m a n):∀(word:bV) (r:Nat),r<n->(∀l∈word,l<a.length)->d9 a r word<n
 | [],_,b,_=>b
 |l::word,r,b,h=>by
  obtain⟨_,_,_,_,_,_,e,c⟩:=M.at (h l (dh ..));exact oh M word _ (dt c ()) λx d=>h x (dR _ d)
def u4(a:LN)(n:Nat)(word:bV):bV:=(List.range n).map λr=>d9 a r word
def K4(a:LN)(n:Nat)(word:bV):(u4 a n word).length=n:=by simp[u4]
def xB(c:Int)(n:Nat)(st:Int×bV)(k:Nat):Int×bV:=
 if c%5=0 then(st.1/ (n:Int),st.2.set k (st.1%(n:Int)).toNat)else if c%5<3 then(st.1/ ((k:Int)+1),(st.2.set k (st.2.getD (st.1%((k:Int)+1)).toNat 0)).set (st.1%((k:Int)+1)).toNat (st.2.getD k 0))else st
def nq(c:Int)(n i:Nat):Int×bV:=(List.range i).foldl (xB c n) (c/5,List.range n)
def Ap(c:Int)(n:Nat)(st:Int×bV):bV:=if c%5=3 then st.2.set (st.1%(n:Int)).toNat (st.1/ (n:Int)%(n:Int)).toNat else st.2
def mP(c:Int)(n:Nat):bV:=if c%5=4 then(List.range n).map λ(i:Nat)=>(((nq c n n).1%(n:Int)+(0+(i:Int)) * ((nq c n n).1/ (n:Int)%2))%(n:Int)).toNat else Ap c n (nq c n n)
def C7(c:Int)(n i:Nat):nq c n (i+1)=xB c n (nq c n i) i:=by
 unfold nq;rw[ve,kg];rfl
inductive jf(d:List V)(H:Hp)(Q:VK)(a:XK):Prop|mk:∀(c:Int) (n:Nat),d=[.int c,nv n]->1<=n->n<=5->(∀r b,Same H b->b r=some (.tup ((mP c n).map nv))->(mP c n).length=n->(∀y∈mP c n,y<n)->Q (.ref r) b)->jf d H Q a
def Ae(a:Zs):LN:=(List.range (1+a.getD 1 0%4).toNat).map λi=>mP (a.getD (2+i) 0) (1+a.getD 0 0%5).toNat
inductive fR(K:O2)(e:List V)(H:Hp)(Q:VK)(b:XK):Prop|mk:∀(a:Ad) (c:Zs),e=[.ref a]->SqL K H a (c.map V.int)->(∀m d,Same H d->Mach d m (Ae c) (1+c.getD 0 0%5).toNat->Q (.ref m) d)->fR K e H Q b
def zt(H:Hp)(c:Int)(n:Nat)(st:Int×bV)(d:L2.St)(b:Hp):Prop:=Same H b/\∃(l:Ad) (a:bV) (num:Int) (e f:Option V),d=[some (.int c),some (nv n),some (.int num),some (.ref l),e,f]/\
 b l=some (.lst (a.map nv))/\H l=none/\a.length=n/\(∀y∈a,y<n)/\(num,a)=st
def LX(F:Fun K "_law_turn" "_law_turn" yS f fd)(jB:mg "range"=none)(jC:mg "tuple"=none)(kG:mg "list"=none):FnOk P w K mg base cL 1 f fd [tT,tQ] jf:=by
 refine F.ok jW (λam A aa s H vs Q E hr h=>?_)
 obtain⟨c,n,rfl,C,h5,q⟩:=h;refine#[_,(cD (dC (i:=2) jW.nd rZ Z0 (eR va (pv 0) cU)) (cD (dC (i:=3) jW.nd rZ Z' (gk (MB rZ) rZ kG boot_list (cu (gk C9 rZ jB boot_range (cu (pv 1) cj)) cj))) (cD (iL gY rZ (nJ rZ jB (cu (pv 1) cj)) (fV (i:=4) jW.nd rZ Z') (cG (gM (fM tF (eR je (pv 0) cU) cU (fj _)) (cD (yJ (eR je (pv 2) (pv 1)) (yO (pv 3) (pv 4) zy)) (cG (dC (i:=2) jW.nd rZ Z0 (eR va (pv 2) (pv 1))))) (cG (gM (fM Dr (eR je (pv 0) cU) cU (fj _)) (cD (dC (i:=5) jW.nd rZ Z' (eR je (pv 2) (eR rl (pv 4) cU))) (cD (dC (i:=2) jW.nd rZ Z0 (eR va (pv 2) (eR rl (pv 4) cU))) (cG (yJ (nY (c7 (ci (dE h9 (pv 3) (pv 5) (λ_ _=>rfl)) (ci (dE h9 (pv 3) (pv 4) (λ_ _=>rfl)) cZ rZ) rZ))) (ui rZ (mF (yO (pv 3) (pv 4) zy) (mF (yO (pv 3) (pv 5) zy) u0))))))) gV))))) (cD (yq (gM (fM tF (eR je (pv 0) cU) cU (fj _)) (cG (yJ (eR je (eR va (pv 2) (pv 1)) (pv 1)) (yO (pv 3) (eR je (pv 2) (pv 1)) zy))) gV)) (cD (yq (gM (fM tF (eR je (pv 0) cU) cU (fj _)) (cG (xL (CompSc.to (N:=[tT,tQ,sQ,sF,tV,sX]) (osc:=cz yS) (vs:=[tV]) {}) rZ rZ jW.nd (j:=3) rZ rZ (nJ rZ jB (cu (pv 1) cj)) (λ_ _ _ _=>gQ) (λ_ _ _ _=>(eR je (eR rl (eR je (pv 3) (pv 2)) (eR Nl (pv 0) (eR je (eR va (pv 3) (pv 2)) cU))) (pv 2))))) gV)) (cG (dF (gk n9 rZ jC mW (cu (pv 3) cj))))))))),?_];have D:(0:Int)<(n:Int):=by lia
 refine#[_,rZ,_,_,rZ,rZ,#[by decide,by decide],?_];refine#[_,rZ,(n:Int),rZ,λp1 G=>#[p1,(n:Int),rZ,cb,(),(),λl d=>?_]];have g1:=(cn G (.rng 0 (n:Int))).trans (cn d (.lst (i4 (n:Int).toNat)));have s1:zt H c n (nq c n 0) [some (.int c),some (nv n),some (.int (c/5)),some (.ref l),none,none] (bX (bX H p1 (.rng 0 (n:Int))) l (.lst (i4 (n:Int).toNat))):=
  #[g1,l,List.range n,c/5,none,none,rZ,by rw[cb];rfl,(cn G _).free d,by simp,λy m=>List.mem_range.mp m,rZ]
 refine#[_,rZ,(n:Int),rZ,(),(),vQ (λi σ H'=>zt H c n (nq c n i) σ H') s1 (λi σ H' hi p=>?_) (λσ H' p=>?_)]
 .obtain⟨g,l,u,num,I,J,rfl,v,d,b,m,st⟩:=p;have an:i<n:=by lia
  have e0:(0+(i:Int))=((i:Nat):Int):=by lia
  obtain⟨m1,Y⟩:=xM num C;have ab:decide (V.int (c%5)=V.int 0)=true->c%5=0:=λz=>by injection fG z
  have L: ¬decide (V.int (c%5)=V.int 0)=true-> ¬c%5=0:=λz e=>z (c9 (by rw[e]));refine#[_,rZ,_,_,rZ,rZ,(by decide:(0:Int)<5),rZ,_,rZ,lJ (λc1=>?_) (λc1=>?_)]
  .refine#[_,rZ,_,rZ,_,_,rZ,rZ,D,?_]
   try dsimp only
   rw[m1];obtain⟨k,o⟩:∃k,(num%(n:Int)).toNat=k:=#[_,rZ];rw[o]at Y|-;refine#[_,rZ,_,rZ,l,_,_,i,rZ,rZ,v,(by rw[e0,bZ];exact zx ()),?_];try dsimp only
   rw[yi];refine#[_,rZ,_,rZ,_,_,rZ,rZ,#[(),()],?_];refine#[iq g d,l,_,_,_,_,rZ,cb,d,by rw[sm,b],yw m Y,?_];rw[C7,<-st];unfold xB;rw[wB (ab c1),o]
  refine#[_,rZ,_,_,rZ,rZ,(by decide:(0:Int)<5),_,_,rZ,rZ,_,rZ,lJ (λc2=>?_) (λc2=>#[g,l,u,num,_,_,rZ,v,d,b,m,by rw[C7,<-st];unfold xB;rw[wA (L c1),wA λz=>c2 (decide_eq_true z)]])];have ip:(0:Int)<0+(i:Int)+1:=by lia
  refine#[_,rZ,_,rZ,_,_,rZ,rZ,_,_,rZ,rZ,ip,?_];obtain⟨k,ek,hk⟩:∃k:Nat,num%(0+(i:Int)+1)=(k:Int)/\k<=i:=#[(num%(0+(i:Int)+1)).toNat,by have:=AG num (Int.ne_of_gt ip);lia,by have:=yP num ip;lia]
  try dsimp only
  rw[ek];refine#[_,rZ,_,rZ,_,_,rZ,rZ,_,_,rZ,rZ,#[(),()],?_];refine#[_,rZ,_,rZ,l,_,_,_,rZ,rZ,O0 v,rR (),_,rZ,_,rZ,l,_,_,_,rZ,rZ,O0 v,(by rw[e0];exact rR ()),by show 2<=sizeLine;decide,λt nt=>?_];have kt:=cn nt (.tup [nv (u.getD k 0),nv (u.getD i 0)]);refine#[t,_,rZ,O1 cb,rZ,_,_,rZ,_,rZ,_,rZ,l,_,_,i,rZ,rZ,kt _ _ v,(by rw[e0,bZ];exact zx ()),?_]
  try dsimp only
  rw[yi];refine#[_,_,rZ,_,rZ,_,rZ,l,_,_,k,rZ,rZ,cb,(by rw[bZ,sm];exact zx ()),?_]
  try dsimp only
  rw[yi,A9];refine#[rZ,iq (g.trans kt) d,l,_,_,_,_,rZ,cb,d,by rw[sm,sm,b],yw (yw m (dt m ())) (dt m ()),?_];rw[C7,<-st];unfold xB;have ae:num%((i:Int)+1)=(k:Int):=by rw[<-ek,pZ]
  rw[wA (L c1),wB (fG c2),ae,iI,pZ]
 .obtain⟨g,l,u,num,I,J,rfl,v,d,b,m,st⟩:=p;have st:(num,u)=nq c n n:=st;have s1:(nq c n n).1=num:=by rw[<-st]
  have s2:(nq c n n).2=u:=by rw[<-st]
  refine#[zt H c n (num,Ap c n (num,u)),?_,λao H4 p4=>?_]
  .refine#[_,rZ,_,_,rZ,rZ,(by decide:(0:Int)<5),rZ,_,rZ,lJ (λc5=>?_) (λc5=>#[g,l,u,num,I,J,rZ,v,d,b,m,by unfold Ap;rw[wA λe=>c5 (decide_eq_true (congrArg V.int e))]])];obtain⟨m1,Y⟩:=xM num C;obtain⟨m3,m4⟩:=xM (num/ (n:Int)) C;refine#[_,rZ,_,rZ,_,_,rZ,rZ,#[(),()],_,rZ,_,_,rZ,rZ,D,?_];try dsimp only
   rw[m3];refine#[_,rZ,_,rZ,_,rZ,_,_,rZ,rZ,D,?_];try dsimp only
   rw[m1];have af:c%5=3:=by injection fG c5
   obtain⟨k,o⟩:∃k,(num%(n:Int)).toNat=k:=#[_,rZ];rw[o]at Y|-;refine#[l,_,_,k,rZ,rZ,v,(by rw[bZ];exact zx ()),?_];try dsimp only
   rw[yi];refine#[iq g d,l,_,_,_,_,rZ,cb,d,by rw[sm,b],yw m m4,?_];unfold Ap;rw[wB af,o]
  .obtain⟨M,l4,O,a,I,J,rfl,x,T,r,B,ag⟩:=p4;injection ag with ah ai
   subst ah;refine#[zt H c n (a,mP c n),?_,λap H5 p5=>?_]
   .refine#[_,rZ,_,_,rZ,rZ,(by decide:(0:Int)<5),rZ,_,rZ,lJ (λc6=>?_) (λc6=>#[M,l4,O,a,I,J,rZ,x,T,r,B,by unfold mP;rw[wA λe=>c6 (decide_eq_true (congrArg V.int e)),<-st,ai]])];have e1:(n:Int).toNat=n:=iI n;have aj:c%5=4:=by injection fG c6
    refine#[_,rZ,(n:Int),rZ,(),(),K9 (f:=λ(i:Nat)=>nv ((a%(n:Int)+(0+(i:Int)) * (a/ (n:Int)%2))%(n:Int)).toNat) (small ()) (λi Q hi q=>?_) (λl5 U=>?_)]
    .refine#[_,rZ,_,rZ,_,_,rZ,rZ,D,_,rZ,_,rZ,_,rZ,_,_,rZ,rZ,#[(),()],_,_,rZ,rZ,(by decide:(0:Int)<2),_,_,rZ,rZ,.inl #[(),()],_,_,rZ,rZ,_,rZ,_,_,rZ,rZ,D,?_]
     try dsimp only
     rw[(xM _ C).1];exact q
    .refine#[M.trans (cn U _),l5,(List.range n).map λ(i:Nat)=>((a%(n:Int)+(0+(i:Int)) * (a/ (n:Int)%2))%(n:Int)).toNat,a,_,_,rZ,?_,M.free U,by simp,λy m=>?_,?_]
     .rw[cb,e1,eY];rfl
     .obtain⟨i,_,rfl⟩:=cq.mp m;exact(xM _ C).2
     .unfold mP;rw[wB aj,s1]
   .obtain⟨M,l4,O,num,I,J,rfl,x,T,r,B,ak⟩:=p5;injection ak with _ al
    subst al;exact#[_,rZ,l4,_,rZ,.inl #[O0 x,λt ht=>q t _ (M.trans (cn ht _)) cb r B]]
def MO(F:Fun K uL uL zO f fd)(T:cT P w K mg base uK 1 [sG,tV] (iz K))(qG:cT P w K mg base "_law_turn" 1 [tT,tQ] jf)(jB:mg "range"=none) (jC:mg "tuple"=none):FnOk P w K mg base cL 3 f fd [sG] (fR K):=by
 refine F.ok kU (λaf A U s H vs Q E L h=>?_)
 obtain⟨a,b,rfl,Y,q⟩:=h;refine#[_,(cD (dC (i:=1) kU.nd rZ Z0 (eR rl cU (eR je (cX T L.m rZ (c7 (ci (pv 0) (ci cU cZ rZ) rZ))) cU))) (cD (dC (i:=2) kU.nd rZ Z' (eR rl cU (eR je (cX T L.m rZ (c7 (ci (pv 0) (ci cU cZ rZ) rZ))) cU))) (cG (dF (gk n9 rZ jC mW (cu (gX (CompSc.to (N:=[sG,tQ,"_law_many_here"]) (osc:=cz zO) (vs:=[tV]) {}) rZ rZ (nJ rZ jB (cu (pv 2) cj)) (λ_ _ _ _=>gQ) (λ_ _ _ _=>(cX qG L.m rZ (c7 (ci (cX T L.m rZ (c7 (ci (pv 1) (ci (eR rl cU (pv 0)) cZ rZ) rZ))) (ci (pv 2) cZ rZ) rZ))))) cj)))))),?_];refine#[_,rZ,a,b,0,rZ,Int.le_refl 0,Y,#[_,_,rZ,rZ,(by decide:(0:Int)<5),_,_,rZ,rZ,?_]];obtain⟨n,en,n1,n5,C⟩:∃n:Nat,(1+b.getD (0:Int).toNat 0%5:Int)=(n:Int)/\1<=n/\n<=5/\(1+b.getD 0 0%5:Int).toNat=n:=#[(1+b.getD 0 0%5).toNat,by show(1+b.getD 0 0%5:Int)=_;lia,(),(),rZ]
 try dsimp only
 rw[en];refine#[_,rZ,a,b,1,rZ,by decide,Y,#[_,_,rZ,rZ,(by decide:(0:Int)<4),_,_,rZ,rZ,?_]];obtain⟨k,ek,k1,k4,aa⟩:∃n:Nat,(1+b.getD (1:Int).toNat 0%4:Int)=(n:Int)/\1<=n/\n<=4/\(1+b.getD 1 0%4:Int).toNat=n:=#[(1+b.getD 1 0%4).toNat,by show(1+b.getD 1 0%4:Int)=_;lia,(),(),rZ]
 try dsimp only
 rw[ek];have em:Ae b=(List.range k).map λi=>mP (b.getD (2+i) 0) n:=by unfold Ae;rw[aa,C]
 rw[C]at q;refine#[_,rZ,(k:Int),rZ,(),(),xT (λi M D=>Same H D/\∃(c:As) (u:LN),u=((List.range i).map λi=>mP (b.getD (2+i) 0) n)/\M=c.map V.ref/\c.length=i/\u.length=i/\(∀(j:Nat) r t,c[j]?=some r->u[j]?=some t->D r=some (.tup (t.map nv)))/\∀t∈u,t.length=n/\∀x∈t,x<n)
  (small ()) #[Same.refl _,[],[],rZ,rZ,rZ,rZ,(λj r t e=>wC e (by simp)),(λt ht=>wC ht (by simp))] (λi M D _ p=>?_) (λi M D hi p=>?_) (λM D p l hl=>?_)]
 .obtain⟨_,c,u,_,rfl,e,_⟩:=p;rw[bZ];lia
 .obtain⟨g,c,u,d,rfl,o,v,y,ht⟩:=p;refine#[hE,i8 ?_];refine#[_,rZ,_,rZ,_,_,rZ,rZ,a,b,_,rZ,(),g.seq Y,#[_,rZ,_,n,rZ,n1,n5,λr H2 G I B hy=>?_]];have ei:(2+(0+(i:Int)):Int).toNat=2+i:=by lia
  rw[ei]at I B hy;generalize ey:mP (b.getD (2+i) 0) n=ys at I B hy;refine#[g.trans G,c++[r],u++[ys],by rw[d,ve,dX];show _++[ys]=_++[mP (b.getD (2+i) 0) n];rw[ey],by simp,by simp[o],by simp[v],λj r' t' J O=>?_,λt ab=>?_]
  .by_cases hj:j<i
   .rw[eA ()]at J O;exact G _ _ (y j r' t' J O)
   .have ae:j=i:=by
     have:=(cg.mp J).1;rw[dA,o]at this;have:j<i+1:=this
     lia
    subst ae;rw[dZ (),o,jg]at J;rw[dZ (),v,jg]at O;cases J;cases O;exact I
  .rcases cM.mp ab with z|z
   .exact ht t z
   .have e:t=ys:=by simpa using z
    rw[e];exact#[B,hy]
 .obtain⟨g,c,u,d,rfl,o,v,y,ht⟩:=p;have g1:=cn hl (.lst (c.map V.ref));refine#[l,_,rZ,.inl #[O0 cb,λm hm=>?_]];have G:=g1.trans (cn hm (.tup (c.map V.ref)));have hk:(k:Int).toNat=k:=iI k;rw[hk,<-em]at d;rw[<-d]at q;exact q m _ (g.trans G) #[#[c,cb,(),λi r t e1 I=>G _ _ (y i r t e1 I)],(),(),n1,n5,ht]
inductive nh(K:O2)(d:List V)(H:Hp)(Q:VK)(a:XK):Prop|mk:∀(m b:Ad) (c:LN) (n r:Nat) (word:bV),d=[.ref m,nv r,.ref b]->Mach H m c n->r<n->SqL K H b (word.map nv)->(∀l∈word,l<c.length)->Q (nv (d9 c r word)) H->nh K d H Q a
def NX(F:Fun K "led" "led" rq f fd):FnOk P w K mg base cL 1 f fd [sA,"room",tH] (nh K):=by
 refine F.ok rF (λu A g s H D Q E G h=>?_)
 obtain⟨m,b,k,n,r,word,rfl,M,j,t,hw,q⟩:=h;refine#[_,(cD (iL gY rZ (fZ (pv 2)) (fV (i:=3) rF.nd rZ Z') (cG (dC (i:=1) rF.nd rZ Z' (dE fb (dE fb (pv 0) (pv 3) (λ_ _=>rfl)) (pv 1) (λ_ _=>rfl))))) (cG (dF (pv 1)))),?_];refine#[_,rZ,b,rZ,#[_,t],oN (xs:=word.map nv) (λi c d=>d=H/\∃o,c=[some (.ref m),some (nv (d9 k r (word.take i))),some (.ref b),o]) #[rZ,none,rZ] (λi c d _ p=>by obtain⟨rfl,_⟩:=p;exact t) (λi x c d a p=>?_) (λc d p=>?_)]
 .obtain⟨rfl,o,rfl⟩:=p;rw[cr]at a;cases e:word[i]? with
  |none=>rw[e]at a;cases a
  | some l=>
   rw[e]at a;cases a;obtain⟨I,v,y,J,z,B,C,L⟩:=M.at (hw l (cH e));refine#[_,rZ,_,rZ,m,_,_,_,rZ,rZ,O1 y,z,_,rZ,v,_,_,_,rZ,rZ,O1 B,rR ?_,rZ,some (nv l),?_]
   .rw[C];exact oh M _ _ j λx a=>hw x (qc a)
   .rw[g9,e];show _=[some (.ref m),some (nv (d9 k r (word.take i++[l]))),some (.ref b),some (nv l)];rw[Ka];rfl
 .obtain⟨rfl,o,rfl⟩:=p;refine#[_,rZ,?_];rw[bZ,fN];exact q
def pX(b:LN)(a word:bV):bV:=a.map λr=>d9 b r word
def KE{n:Nat}{a:bV}(c:n<=5)(h:∀x∈a,x<n):dM a=(List.range n).filter λi=>a.contains i:=by
 unfold dM;have e:List.range 5=List.range n++(List.range (5-n)).map (n+ ·):=by rw[<-List.range_add];congr 1;lia
 rw[e,rn];have no:((List.range (5-n)).map (n+ ·)).filter (λi=>a.contains i)=[]:=by
  rw[List.filter_eq_nil_iff];intro y b z;obtain⟨k,_,rfl⟩:=cq.mp b;have:=h _ (f7.mp z);lia
 rw[no,gL]
def yE{a:bV}{x:Nat}(h:x∈dM a):x∈a:=f7.mp (dv.mp h).2
def Ik{a:bV}{x:Nat}(h:x∈a)(b:x<5):x∈dM a:=dv.mpr #[eU.mpr b,f7.mpr h]
def Bc(a:bV):(dM a).length<=5:=cW (hJ _ _) (by simp)
def wG(i:Nat)(a:bV):zp (nv i) (a.map nv)=a.contains i:=by
 unfold zp;rw[yM]
 induction a with
 |nil=>rfl
 | cons x a b=>
  rw[ux,List.contains_cons,b]
  congr 1
  show m5 (.int (x:Int)) (.int (i:Int))=(i==x);by_cases h:x=i
  .subst h;show((x:Int)==(x:Int))=(x==x);simp
  .have c: ¬(x:Int)=(i:Int):=by lia
   have d: ¬i=x:=by lia
   show((x:Int)==(i:Int))=(i==x);rw[mH.mpr c,mH.mpr d]
def Mz(a:bV):(a.map nv).all iT=true:=by
 rw[List.all_map,tu];intro x _;rfl
inductive dm(K:O2)(e:List V)(H:Hp)(Q:VK)(c:XK):Prop|mk:∀(m p b:Ad) (d:LN) (n:Nat) (a word:bV),e=[.ref m,.ref p,.ref b]->Mach H m d n->SqT K H p (a.map nv)->a.length<=5->(∀r∈a,r<n)->SqL K H b (word.map nv)->(∀l∈word,l<d.length)->xt H ((dM (pX d a word)).map nv) Q->dm K e H Q c
def JE(F:Fun K tX tX yd f fd)(y:cT P w K mg base "led" 1 [sA,"room",tH] (nh K))(z:mg "tuple"=none)(B:mg "sorted"=none)(C:mg "set"=none):FnOk P w K mg base cL 3 f fd [sA,sB,tH] (dm K):=by
 refine F.ok LW (λD A j s H vs Q E G h=>?_)
 obtain⟨m,p,b,d,n,c,word,rfl,M,u,I,g,J,hw,q⟩:=h;refine#[_,(cG (dF (gk n9 rZ z mW (cu (dY (Df rZ) rZ B rW (cu (gk (AR rZ) rZ C uZ (cu (gX (CompSc.to (N:=[sA,sB,tH]) (osc:=cz yd) (vs:=["room"]) {}) rZ rZ (uu (pv 1)) (λ_ _ _ _=>gQ) (λ_ _ _ _=>(cX y G.m rZ (c7 (ci (pv 1) (ci (pv 0) (ci (pv 3) cZ rZ) rZ) rZ))))) cj)) cj)) cj)))),?_];have n5:=M.n5;refine#[_,rZ,p,rZ,#[_,u],vj (f:=λv=>match v with|.int i=>nv (d9 d i.toNat word)|v=>v) (by rw[bZ];exact small ()) u (λv Q L q=>?_) (λl O=>?_)]
 .obtain⟨r,k,rfl⟩:=cq.mp L;exact#[_,rZ,_,rZ,_,rZ,m,b,d,n,r,word,rZ,M,g r k,J,hw,q]
 .have e:(c.map nv).map (λv=>match v with|.int i=>nv (d9 d i.toNat word)|v=>v)=(pX d c word).map nv:=by
   unfold pX;rw[eY,eY];rfl
  try dsimp only
  rw[e];have T:=cn O (.lst ((pX d c word).map nv));refine#[l,_,rZ,O0 cb,λx U=>?_,λa Y=>#[a,_,rZ,cb,λo ho=>?_]]
  .obtain⟨r,k,rfl⟩:=cq.mp U;have:=oh M word r (g r k) hw;lia
  .try dsimp only
   rw[xi];exact#[o,_,rZ,.inl #[O0 cb,λt ht=>q t _ (T.trans ((cn Y _).trans ((cn ho _).trans (cn ht _)))) cb]]
def Ll{f:bV->Nat->List Nat}{L:Nat}{c:bV}{a b:TW}(T:Told f L c b)(e:(a.map (·.1)).Nodup)(run:∀p∈a,(∀l∈p.2,l<L)/\cw f c p.2=p.1):a.length<=b.length:=by
 rw[<-bZ (f:=(·.1)) (as:=a),<-bZ (f:=(·.1)) (as:=b)];refine lL e λx g=>?_;obtain⟨p,h,rfl⟩:=cq.mp g;obtain⟨i,j⟩:=run p h;obtain⟨u,d,_⟩:=T.least _ p.2 rZ i;rw[j]at d;exact cq.mpr #[_,d,rZ]
inductive eG(e:List V)(H:Hp)(Q:VK)(b:XK):Prop|mk:∀(d:Ad) (c:V),e=[.ref d,c]->Q .non H->((c=.non\/∃(a:List (List cy×V)) (n:Nat),c=nv n/\H d=some (.dT a)/\a.length<=n))->eG e H Q b
inductive dj(P:Pg)(w:World)(K:O2)(mg:SV)(base:Heap)(i:List V)(H:Hp)(Q:VK)(e:XK):Prop|mk:∀(a st:Ad) (fd:Fd) (j:Ss) (d:bV) (L:Nat) (U:LN) (g:bV->Nat->List Nat) (f:V),i=[.ref a,nv L,.ref st,f]->H a=some (.tup (d.map nv))->H st=some (gF st fd)->d∈U->((∀x∈U,∀l,l<L->g x l∈U))->U.length<=4000->L<=4000->FnOk P w K mg base cL 5 st fd j (dD (Same H) U L g)->Binds K fd j []->((f=.non\/∃(n:Nat) (c:TW),f=nv n/\Told g L d c/\c.length<=n))->(∀D c k h,Same H h->WordsAt h D c k->(∀b∈D::k,H b=none)->Told g L d c->Q (.ref D) h)->dj P w K mg base i H Q e
inductive dG(P:Pg)(w:World)(K:O2)(mg:SV)(base:Heap)(f:List V)(H:Hp)(Q:VK)(c:XK):Prop|mk:∀(a st:Ad) (fd:Fd) (h:Ss) (d:bV) (L:Nat) (U:LN) (g:bV->Nat->List Nat),f=[.ref a,nv L,.ref st,.non]->H a=some (.tup (d.map nv))->H st=some (gF st fd)->d∈U->((∀x∈U,∀l,l<L->g x l∈U))->U.length<=4000->L<=4000->FnOk P w K mg base cL 5 st fd h (dD (Same H) U L g)->Binds K fd h []->(∀D i j e,Same H e->WordsAt e D i j->(∀b∈D::j,H b=none)->Told g L d i->Q (.ref D) e)->dG P w K mg base f H Q c
def GD{P:Pg}{w:World}{K:O2}{mg:SV}{base:Heap}:∀s H Q E,dG P w K mg base s H Q E->dj P w K mg base s H Q E:=λ_ _ _ _ ⟨a,b,c,d,e,f,g,h,i,j,k,l,m,n,o,p,q,r⟩=>#[a,b,c,d,e,f,g,h,.non,i,j,k,l,m,n,o,p,q,.inl rZ,r]
def Of(F:Fun K uN uN CC f fd)(e:mg "len"=none):FnOk P w K mg base cL 1 f fd ["things",sU] eG:=by
 refine F.ok Nz (λg A a s H j Q E k h=>?_)
 obtain⟨d,l,rfl,q,h⟩:=h;refine#[_,(cG (gM (PW.pt (vM (fM Gb (pv 1) qb (fj _)) (wV (fM AA (dY MQ rZ e fe (cu (pv 0) cj)) (pv 1) (fj _))))) (cG Mr) gV)),?_]
 rcases h with rfl|⟨b,n,rfl,i,m⟩
 .exact#[_,rZ,rZ,_,rZ,q]
 refine#[_,rZ,rZ,_,rZ,gA #[_,rZ,d,b,rZ,i,_,rZ,_,_,rZ,rZ,_,rZ,lJ (λc=>?_) (λc=>q)]];have:=fG c;lia
def LB{j v:Vl}(F:DefAt K sY pe f fd j v)(p:cT P w K mg base uN 1 ["things",sU] eG)(x:mg "range"=none):FnOk P w K mg base cL 8 f fd [uO,uM,"step",sU] (dj P w K mg base):=by
 refine F.fnOk jV (λr H Q E h=>?_) (λA l s H r Q E h d=>?_)
 .obtain⟨a,st,fd,y,z,L,U,g,m,rfl,_⟩:=h;rfl
 have b:=ky d;obtain⟨a,st,sd,y,z,L,U,g,m,rfl,B,o,C,I,few,c,J,M,N,q⟩:=h;exact#[_,N6 (G:=λ_=>True) (sR:=eG) (mo:=m) (EE:=E0) (λH1 D t u Q1 g1 W O run k=>#[D,m,rZ,k True.intro,N.imp id λ⟨n,r,e,T,Y⟩=>#[_,n,e,W.dict,by rw[vS W.len];exact cW (Ll T O run) Y]]) d.m B o C I few c J M (λD t u H' g W nw TT _=>q D t u H' g W nw TT),(cD (dC (i:=4) jV.nd rZ Z' (GO b (pv 0) (iA cj))) (cD (m6 (cX p d.m rZ (c7 (ci (pv 4) (ci (pv 3) cZ rZ) rZ)))) (cD (dC (i:=5) jV.nd rZ Z' (iA (cu (pv 0) cj))) (cD (Cr gY (GL (pv 5) (λ_=>rfl)) (cD (dC (i:=6) jV.nd rZ Z' (iA cj)) (cD (iL gY rZ (fZ (pv 5)) (fV (i:=7) jV.nd rZ Z') (cG (iL gY rZ (nJ rZ x (cu (pv 1) cj)) (fV (i:=8) jV.nd rZ Z') (cD (dC (i:=9) jV.nd rZ Z' (OI 2 (pv 2) (c7 (ci (pv 7) (ci (pv 8) cZ rZ) rZ)))) (cG (gM (vL (AS b (pv 9) (pv 4))) (cD (q0 b (pv 4) (pv 9) (eR Dp (nN b (pv 4) (pv 7) (λ_ _=>rfl)) (iA (cu (pv 8) cj))) rZ) (cD (m6 (cX p d.m rZ (c7 (ci (pv 4) (ci (pv 3) cZ rZ) rZ)))) (cG (m6 (lK lX oK pc ph (pv 6) (cu (pv 9) cj)))))) gV)))))) (cG (dC (i:=5) jV.nd rZ Z' (pv 6)))))) (cG (dF (pv 4)))))))]
def dQ:List (Str×Pos×Ad):=[(sC,(#[62,40,62,93]:Pos),128),(sD,(#[141,61,141,110]:Pos),240),(tN,(#[39,41,39,91]:Pos),83)]
def Jb:(dQ.map (·.2.2)).Nodup:=by decide
def Tabs(H:Hp):Prop:=∀q∈dQ,TabOk q.1 q.2.1 H q.2.2
def _root_.L2.TabOk.most{a:Str}{c:Pos}{H f:Hp}{T:Ad}(t:TabOk a c H T)(g:∀b u,(∀d,u≠HO.dT d)->(∀h,u≠HO.lst h)->H b=some u->f b=some u):TabOk a c f T:=by
 rcases t with t|⟨i,j,k⟩
 .exact .inl (g _ _ (λ_ e=>nomatch e) (λ_ e=>nomatch e) t)
 .exact .inr #[i,g _ _ (λ_ e=>nomatch e) (λ_ e=>nomatch e) j,g _ _ (λ_ e=>nomatch e) (λ_ e=>nomatch e) k]
def Tabs.same{H a:Hp}(t:Tabs H)(g:Same H a):Tabs a:=λq b=>(t q b).same g
def Tabs.most{H c:Hp}(t:Tabs H)(g:∀b u,(∀a,u≠HO.dT a)->(∀d,u≠HO.lst d)->H b=some u->c b=some u):Tabs c:=λq e=>(t q e).most g
def KeepsBut(T:Ad)(H a:Hp):Prop:=∀b o,b≠T->H b=some o->a b=some o
def KeepsBut.keeps{T:Ad}{H a:Hp}{c:AV}(g:KeepsBut T H a)(hT:H T=some (.tbl c)):Keeps H a:=λb o d=>by
 obtain⟨z,f⟩:=vC d;exact g b o (jm z hT λe=>f _ e) z
theorem GR:∀{l:List (Str×Pos×Ad)} {p q:Str×Pos×Ad},(l.map (·.2.2)).Nodup->p∈l->q∈l->p.2.2=q.2.2->p=q
 | [],_,_,_,hp,_,_=>nomatch hp
 | r::l,p,q,nd,hp,hq,e=>by
  obtain⟨b,d⟩:=gP.mp nd
  rcases dq.mp hp with c|hp
  .rcases dq.mp hq with a|hq
   .rw[c,a]
   .exact wC (cq.mpr #[q,hq,by rw[<-c];exact e.symm]) b
  .rcases dq.mp hq with a|hq
   .exact wC (cq.mpr #[p,hp,by rw[<-a];exact e]) b
   .exact GR d hp hq e
def Tabs.but{a:Str}{b:Pos}{T:Ad}{H d:Hp}{i:AV}(j:(a,b,T)∈dQ)(t:Tabs H)(hT:H T=some (.tbl i))(g:KeepsBut T H d)(k:TabOk a b d T):Tabs d:=λf c=>by
 by_cases e:f.2.2=T
 .have:=GR Jb c j e;subst this;exact k
 .rcases t f c with t|⟨l,m,h⟩
  .exact .inl (g _ _ e t)
  .exact .inr #[l,g _ _ e m,g _ _ (nE h hT) h]
def Di{H:Hp}{T e a:Ad}(d:Pos)(c:Str)(hT:H T=some (.tbl #v[]))(f:H e=none)(g:H a=none)(ne:e≠a)(lo:HO):KeepsBut T H (bX (bX (bX H T (.tbl (i6 d a))) a (iV a c)) e lo)/\
  (bX (bX (bX H T (.tbl (i6 d a))) a (iV a c)) e lo) T=some (.tbl (i6 d a))/\(bX (bX (bX H T (.tbl (i6 d a))) a (iV a c)) e lo) a=some (iV a c):=by
 refine#[λb o h z=>?_,?_,?_]
 .rw[cf (di z f),cf (di z g),cf h];exact z
 .rw[cf (di hT f),cf (di hT g),cb]
 .rw[cf (eC ne),cb]
def ck(a:LN)(x:bV)(l:Nat):bV:=dM (pX a x [l])
def db(n:Nat):LN:=((List.range 32).map nV).filter λx=>x.all λr=>decide (r<n)
inductive dr(T:Ad)(d:Pos)(g:List V)(H:Hp)(Q:VK)(e:XK):Prop|mk:∀(m p:Ad) (f:LN) (n:Nat) (a:bV),g=[.ref m,.ref p]->Mach H m f n->H p=some (.tup (a.map nv))->a∈db n->Tabs H->(∀D h i c,Keeps H c->Tabs c->WordsAt c D h i->(∀b∈D::i,noT H b=none)->Told (ck f) f.length a h->Q (.ref D) c)->dr T d g H Q e
def b7{n:Nat}{x:bV}:x∈db n↔dM x=x/\∀r∈x,r<n:=by
 unfold db;rw[dv,cq,tu];constructor
 .rintro⟨⟨k,a,rfl⟩,h⟩;refine#[?_,λr c=>fG (h r c)];have z:∀k:Fin 32,dM (nV k)=nV k:=by decide+kernel
  exact z #[k,eU.mp a]
 .rintro⟨d,e⟩;refine#[#[lB 0 (dM x),eU.mpr ?_,by rw[xi,d];exact d],λr c=>c9 (e r c)];have z:∀(b:bV) (k:Nat),(∀n∈b,n<5)->k<32->lB k b<32:=by
   intro b
   induction b with
   |nil=>intro k _ a;exact a
   |cons n b f=>intro k h a;exact f _ (λy g=>h y (dR _ g)) (JO #[k,a] #[n,h n (dh ..)])
  exact z _ 0 (λn i=>eU.mp (dv.mp i).1) (by decide)
def Ea(a:bV):dM (dM a)=dM a:=by
 unfold dM;refine u8 λi b=>?_;rw[jt,f7,f7,dv,f7];exact#[λh=>h.2,λh=>#[b,h]]
def Mach.noT{H:Hp}{m:Ad}{a:LN}{n:Nat}(M:Mach H m a n):Mach (L2.noT H) m a n:=
 #[let⟨b,c,d,e⟩:=M.refs;#[b,nU c,d,λi r t f g=>nU (e i r t f g)],M.some1,M.few,M.n1,M.n5,M.each]
def Mach.keeps{H a:Hp}{m:Ad}{b:LN}{n:Nat}(M:Mach H m b n)(g:Keeps H a):Mach a m b n:=M.noT.same g
def Mach.drop{H:Hp}{m c:Ad}{a:LN}{n:Nat}{e:Heap->Prop}(M:Mach H m a n)(b:H c=some (.ext e)):Mach (L2.drop H c) m a n:=by
 obtain⟨f,d,g,h⟩:=M.refs;refine#[#[f,?_,g,λi r t j k=>?_],M.some1,M.few,M.n1,M.n5,M.each]
 .rw[eB (nE d b)];exact d
 .have z:=h i r t j k;rw[eB (nE z b)];exact z
def Et{u c m i:Ad}{O:Obj}{p:LN}{n:Nat}{j:Hp}{v B:Vl}{a:Arguments}{f:Expr}{d:Scope}{fx a1 a2:Expr}{kw:List Keyword}{lp cp rp:Pos}(e:gh nB=[.Return (some (.Call fx [a1,a2,.Lambda a f d lp] kw cp)) rp])(jF:cT P w K mg base tX 3 [sA,sB,tH] (dm K)) (M:Mach j m p n) (h1:j u=some (gF u (fq sC a f d sA c v (.ref i) B))) (T:j c=some (eJ c m O)) (h3:j i=some (iV i sC)):
  FnOk P w K mg base cL 5 u (fq sC a f d sA c v (.ref i) B) ["here",sP] (dD (Same j) (db n) p.length (ck p))/\Binds K (fq sC a f d sA c v (.ref i) B) ["here",sP] []:=by
 cases e;refine#[Cp (k:=4) (m:=m) (oc:=O) #[rZ,rZ,rZ,by decide+kernel,by decide+kernel,rZ,by decide+kernel] (λU H Q E h=>?_) (λU H Q E h=>?_) (λA C s H U Q E hr h=>?_),.all λus D=>match us,D with| [_,_],_=>rfl]
 .obtain⟨t,x,l,rfl,_⟩:=h;rfl
 .obtain⟨t,x,l,rfl,g,_⟩:=h;exact#[g _ _ h1,g _ _ T,g _ _ h3]
 .obtain⟨t,x,l,rfl,g,ht,hx,D,q⟩:=h;refine#[_,(cX jF hr.m rZ (c7 (ci (pv 2) (ci (pv 0) (ci (iA (cu (pv 1) cj)) cZ rZ) rZ) rZ))),?_];obtain⟨x1,x2⟩:=b7.mp hx;have G:=g _ _ T;refine#[_,rZ,_,rZ,_,rZ,by show 1<=sizeLine;decide,λb hb=>?_];have I:=cn hb (.lst [nv l]);have M1:=((M.same g).drop G).same I;have J:(bX (L2.drop H c) b (.lst [nv l])) t=some (.tup (x.map nv)):=I _ _ (by rw[eB (nE ht G)];exact ht);refine#[m,t,b,p,n,x,[l],rZ,M1,O1 J,by rw[<-x1];exact Bc x,x2,O0 cb,λz hz=>by rw[cE.mp hz];exact D,λr H3 g3 Y free=>q r _ (λy o L=>?_) ?_]
  .by_cases N:y=c
   .subst N;rw[G]at L;cases L;exact cb
   .rw[cf N];exact g3 _ _ (I _ _ (by rw[eB N];exact L))
  .rw[cf (di Y free)];exact Y
def Kw{cd T:Ad}(F:DefAt K sN nB f fd .none (.ref cd))(hC:PySem.W.CodeHd base cd T)(bm:nG mg base)(hq:((sC:Str),(#[62,40,62,93]:Pos),T)∈dQ)(jF:cT P w K mg base tX 3 [sA,sB,tH] (dm K))(kC:CalleeD P w K mg base sY 8 [uO,uM,"step",sU] (dG P w K mg base) [.non]) (jA:mg "len"=none):FnOk P w K mg base cL 10 f fd [sA,sB] (dr T (#[62,40,62,93]:Pos)):=by
 refine F.fnOk Me (λvs H Q E h=>?_) (λA af s H vs Q E h hr=>?_)
 .obtain⟨m,p,Y,n,v,rfl,_⟩:=h;rfl
 obtain⟨m,p,Y,n,v,rfl,M,hp,hU,hT,q⟩:=h;refine#[_,?_,(cG (dF (BR kC hr.m rZ (j:=0) rZ rZ rZ rZ (c7 (ci (pv 1) (ci (dY fF rZ jA fe (cu (pv 0) cj)) (ci (B9 (qual:=sC) rZ hC bm (λ_ _ _ _ _=>rfl) rZ rZ) cZ rZ) rZ) rZ)))))];obtain⟨rs,hm,ag,_⟩:=M.refs;refine#[_,rZ,_,rZ,m,_,rZ,.inr (O1 hm),?_]
 try dsimp only
 rw[bZ,ag];have go:∀(B t:Ad) (J:Vl) (L:Hp) (aa:AV),H T=some (.tbl aa)->KeepsBut T H L->L T=some (.tbl (i6 (#[62,40,62,93]:Pos) t))->L t=some (iV t sC)->∀(d:Arguments) (k:Expr) (e:Scope) (pm:Vl) (c:Ad),L B=some (gF B (fq sC d k e sA c pm (.ref t) J))->
   ∀C,L c=none->(FnOk P w K mg base cL 5 B (fq sC d k e sA c pm (.ref t) J) ["here",sP] (dD (Same (bX L c (eJ c m C))) (db n) Y.length (ck Y)))->Binds K (fq sC d k e sA c pm (.ref t) J) ["here",sP] []->
   dG P w K mg base [.ref p,nv Y.length,.ref B,.non] (bX L c (eJ c m C)) (λr H2=>H2 c=some (eJ c m C)/\Q r (L2.drop H2 c)) E0:=λB t J L aa ab kb h1 h2 d k e pm c h3 C G hF hB=>by
  have u:=kb.keeps ab;have i:=cn G (eJ c m C);have n5:=M.n5;refine#[p,B,_,_,v,Y.length,db n,ck Y,rZ,i _ _ (u _ _ (nU hp)),i _ _ h3,hU,λx hx l hl=>?_,?_,?_,hF,hB,λD ws as H2 N W nw TT=>#[N _ _ cb,q D ws as _ (λb o O=>?_) (hT.but hq ab (λb o nb O=>?_) (.inr #[t,?_,?_])) #[W.len,?_,λj a r e1 e2=>?_] (λb O=>?_) TT]]
  .obtain⟨x1,x2⟩:=b7.mp hx;refine b7.mpr #[Ea _,λr hr=>?_];obtain⟨y,h4,rfl⟩:=cq.mp (yE hr);exact oh M [l] y (x2 y h4) λz hz=>by rw[cE.mp hz];exact hl
  .exact cW (hJ _ _) (by rw[bZ,mz];decide)
  .have:=M.few;lia
  .have z:=u b o O;rw[eB (di z G)];exact N _ _ (i _ _ z)
  .have z:=kb b o nb O;rw[eB (di z G)];exact N _ _ (i _ _ z)
  .rw[eB (di h1 G)];exact N _ _ (i _ _ h1)
  .rw[eB (di h2 G)];exact N _ _ (i _ _ h2)
  .rw[eB (nE W.dict (N _ _ cb))];exact W.dict
  .have z:=W.list j a r e1 e2;rw[eB (nE z (N _ _ cb))];exact z
  .have z:=nw b O;cases y:L2.noT H b with
   |none=>rfl
   |some o=>
    have z2:=i _ _ (u _ _ y);rw[z]at z2;cases z2
 rcases hT _ hq with g|⟨t,g,I⟩
 .refine .inl #[g,λB t J U I ne=>#[m,rZ,λC G=>?_]];obtain⟨u,ah,ae⟩:=Di (#[62,40,62,93]:Pos) sC g U I ne _;have i:=cn G (eJ (s.heap.objs.size+1) m C);obtain⟨F1,F2⟩:=Et rZ jF ((M.keeps (u.keeps g)).same i) (i _ _ cb) cb (i _ _ ae);exact go B t J _ _ g u ah ae _ _ _ _ _ cb C G F1 F2
 .refine .inr #[t,g,I,λB J U=>#[m,rZ,λC G=>?_]];have u:∀lo,Same H (bX H B lo):=λlo=>cn U lo;have i:=cn G (eJ (s.heap.objs.size+1) m C);obtain⟨F1,F2⟩:=Et rZ jF ((M.same (u _)).same i) (i _ _ cb) cb (i _ _ (u _ _ _ I));exact go B t J _ _ g (λb o _ O=>u _ _ _ O) (u _ _ _ g) (u _ _ _ I) _ _ _ _ _ cb C G F1 F2
inductive eN(b:List V)(H:Hp)(Q:VK)(a:XK):Prop|mk:∀n:Nat,b=[nv n]->n<=1000->xt H ((List.range n).map nv) Q->eN b H Q a
def Nd(F:Fun K uP uP DG f fd)(b:mg "tuple"=none)(c:mg "range"=none):FnOk P w K mg base cL 1 f fd [sB] eN:=by
 refine F.ok JI (λd A a s H g Q E i h=>?_)
 obtain⟨n,rfl,j,q⟩:=h;refine#[_,(cG (dF (gk (Ec rZ) rZ b mW (cu (gk C9 rZ c boot_range (cu (pv 0) cj)) cj)))),?_];refine#[_,rZ,(n:Int),rZ,λp e=>#[p,(n:Int),rZ,cb,(),(),λt ht=>?_]];exact q t _ ((cn e _).trans (cn ht _)) cb
def beh(a b:bV):bV:=a.map λx=>b.getD x 0
inductive cN(f:List V)(H:Hp)(Q:VK)(d:XK):Prop|mk:∀(a b:Ad) (c e:bV),f=[.ref a,.ref b]->H a=some (.tup (c.map nv))->H b=some (.tup (e.map nv))->(∀x∈c,x<e.length)->c.length<=1000->xt H ((beh c e).map nv) Q->cN f H Q d
def MI(F:Fun K tS tS zR f fd)(l:mg "tuple"=none):FnOk P w K mg base cL 1 f fd [tO,sT] cN:=by
 refine F.ok J5 (λm A c s H z Q E B h=>?_)
 obtain⟨a,b,j,d,rfl,k,n,g,o,q⟩:=h;refine#[_,(cG (dF (gk n9 rZ l mW (cu (gX (CompSc.to (N:=[tO,sT]) (osc:=cz zR) (vs:=["room"]) {}) rZ rZ (uu (pv 0)) (λ_ _ _ _=>gQ) (λ_ _ _ _=>(dE (IxR.k (K:=K) gR fb rZ) (pv 2) (pv 0) (λ_ _=>rfl)))) cj)))),?_];have e:(j.map nv).map (λv=>match v with|.int i=>nv (d.getD i.toNat 0)|v=>v)=(beh j d).map nv:=by
  unfold beh;rw[eY,eY];rfl
 refine#[_,rZ,a,rZ,#[_,O1 k],vj (f:=λv=>match v with|.int i=>nv (d.getD i.toNat 0)|v=>v) (by rw[bZ];exact small o) (O1 k) (λv Q r q=>?_) (λp u=>?_)]
 .obtain⟨x,y,rfl⟩:=cq.mp r;exact#[_,rZ,_,rZ,b,_,_,_,rZ,rZ,O1 n,rR (g x y),q]
 .rw[e];exact#[p,_,rZ,.inl #[O0 cb,λt ht=>q t _ ((cn u _).trans (cn ht _)) cb]]
def dH(n:Nat):Nat->List bV
 |0=>[[]]
 |k+1=>(dH n k).flatMap λx=>(List.range n).map λr=>x++[r]
theorem bY{n:Nat}:∀{k:Nat} {x:bV},x∈dH n k↔x.length=k/\∀r∈x,r<n
 | 0,x=>by
  show x∈[[]]↔_;rw[cE];constructor
  .rintro rfl;exact#[rZ,λr a=>nomatch a]
  .rintro⟨h,_⟩;exact oo.mp h
 | k+1,x=>by
  show x∈(dH n k).flatMap _↔_;rw[List.mem_flatMap];constructor
  .rintro⟨y,d,e⟩;obtain⟨r,a,rfl⟩:=cq.mp e;obtain⟨b,c⟩:=bY.mp d;refine#[by simp[b],λz f=>?_]
   rcases cM.mp f with m|m
   .exact c z m
   .rw[cE.mp m];exact eU.mp a
  .rintro⟨b,c⟩;have ne:x≠[]:=λz=>by rw[z]at b;cases b
   refine#[x.dropLast,bY.mpr #[by rw[List.length_dropLast,b];rfl,λr a=>c r (List.dropLast_subset _ a)],cq.mpr #[x.getLast ne,eU.mpr (c _ (List.getLast_mem ne)),FQ ne]]
theorem EF{n:Nat}:∀k,(dH n k).length=n ^ k
 |0=>rfl
 | k+1=>by
  show((dH n k).flatMap _).length=_;rw[List.length_flatMap];have z:∀l:LN,(l.map λx=>((List.range n).map λr=>x++[r]).length).sum=l.length * n:=by
   intro l
   induction l with
   |nil=>simp
   |cons a l b=>rw[eZ,List.sum_cons,b,bZ,mz,gC,Nat.succ_mul,Nat.add_comm]
  rw[z,EF k,x6]
def CW{n:Nat}(h:n<=5):(dH n n).length<=4000:=by
 rw[EF];have z:∀k:Fin 6,(k:Nat) ^ (k:Nat)<=4000:=by decide
 exact z #[n,()]
def pK(n:Nat):List.range n∈dH n n:=bY.mpr #[mz,λr a=>eU.mp a]
def gl(t:bV):Int:= -((t.length:Nat):Int)
def lY(a:LN)(t:bV):LN:=if a.contains t then a else a++[t]
def uniq(a:LN):LN:=a.foldl lY []
def Oo(a:LN)(t:bV):uniq (a++[t])=lY (uniq a) t:=by
 unfold uniq;rw[kg];rfl
def JG{a:LN}{t x:bV}:x∈lY a t↔x∈a\/x=t:=by
 unfold lY;by_cases h:a.contains t=true
 .rw[wB h];constructor
  .exact .inl
  .rintro(b|rfl)
   .exact b
   .exact f7.mp h
 .rw[wA h,cM,cE]
def LY{a:LN}{t:bV}(nd:a.Nodup):(lY a t).Nodup:=by
 unfold lY;by_cases h:a.contains t=true
 .rw[wB h];exact nd
 .rw[wA h,oQ];refine#[nd,by simp,λx b y c z=>h (List.contains_iff_mem.mpr ?_)];rw[<-cE.mp c,<-z];exact b
def Dq(b:LN):(uniq b).Nodup/\∀x,x∈uniq b↔x∈b:=by
 have go:∀(b a:LN),a.Nodup->(b.foldl lY a).Nodup/\∀x,x∈b.foldl lY a↔x∈a\/x∈b:=by
  intro b
  induction b with
  |nil=>intro a nd;exact#[nd,λx=>by simp]
  |cons t b e=>
   intro a nd;obtain⟨c,d⟩:=e (lY a t) (LY nd);refine#[c,λx=>?_];rw[jw,d x,JG,dq,or_assoc]
 obtain⟨c,d⟩:=go b [] pU;exact#[c,λx=>by rw[show uniq b=b.foldl lY []from rfl,d x];simp]
def J7{b:List (List cy×V)}{d:LN}{t:bV}{v:V}(h:b.map (·.1)=d.map nk):(iS b (nk t) v).map (·.1)=(lY d t).map nk:=by
 have e:(b.any λa=>decide (a.1=nk t))=d.contains t:=by
  rw[jt,AI,f7];constructor
  .rintro⟨a,f,g⟩;have m:a.1∈d.map nk:=by rw[<-h];exact cq.mpr #[a,f,rZ]
   obtain⟨u,i,j⟩:=cq.mp m;have z:=sh (j.trans (fG g));rw[<-z];exact i
  .intro ht;have m:nk t∈b.map (·.1):=by rw[h];exact cq.mpr #[t,ht,rZ]
   obtain⟨a,f,g⟩:=cq.mp m;exact#[a,f,c9 g]
 unfold iS lY;rw[e];by_cases c:d.contains t=true
 .rw[wB c,wB c,<-h,eY];refine hK λa _=>?_;show(if a.1=nk t then(a.1,v)else a).1=a.1;split<;>rfl
 .rw[wA c,wA c,dX,dX,h];rfl
theorem Az{g:Type}{lt:g->g->Bool}(i:∀x,lt x x=false)(j:∀x y z,lt x y=true->lt y z=true->lt x z=true):∀{c d:List g},c.Pairwise (λx y=>lt x y=true)->d.Pairwise (λx y=>lt x y=true)->(∀x,x∈c↔x∈d)->c=d
 | [],[],_,_,_=>rfl
 | [],q::d,_,_,h=>wC ((h q).mpr (dh ..)) (by simp)
 |p::c,[],_,_,h=>wC ((h p).mp (dh ..)) (by simp)
 | p::c,q::d,m,n,h=>by
  obtain⟨k,o⟩:=vz.mp m;obtain⟨l,s⟩:=vz.mp n;have no:∀{x y:g},lt x y=true->lt y x=true->False:=λ{x y} a b=>by
   have:=j _ _ _ a b;rw[i]at this;cases this
  have t:p=q:=by
   rcases dq.mp ((h p).mp (dh ..))with e|e
   .exact e
   .rcases dq.mp ((h q).mpr (dh ..))with e'|e'
    .exact e'.symm
    .exact(no (l p e) (k q e')).elim
  subst t;have rest:c=d:=Az i j o s λr=>by
   constructor
   .intro f
    rcases dq.mp ((h r).mp (dR _ f))with e|e
    .subst e;have:=k r f;rw[i]at this;cases this
    .exact e
   .intro f
    rcases dq.mp ((h r).mpr (dR _ f))with e|e
    .subst e;have:=l r f;rw[i]at this;cases this
    .exact e
  rw[rest]
inductive fH(e:List V)(H:Hp)(Q:VK)(c:XK):Prop|mk:∀(l:Ad) (f:As) (a U:LN),e=[.ref l]->H l=some (.lst (f.map .ref))->TupsAt H f a->(∀t∈a,t∈U)->U.length<64->a.length<=4000->(∀D bs d b,Same H b->H D=none->b D=some (.lst (bs.map .ref))->TupsAt b bs d->(∀x,x∈d↔x∈a)->d.Pairwise (λx y=>iO gl x y=true)->Q (.ref D) b)->fH e H Q c
def Iu(F:Fun K "place_of" "place_of" DH f fd)(d:mg "len"=none):FnOk P w K mg base cL 1 f fd [sB] (gG gl):=by
 refine F.ok JS (λe A b s H j Q E k h=>?_)
 obtain⟨a,t,rfl,g,q⟩:=h;refine#[_,(cG (dF (nY (c7 (ci (ww ON (dY fF rZ d fe (cu (pv 0) cj))) (ci (pv 0) cZ rZ) rZ))))),?_];refine#[_,rZ,a,_,rZ,.inr (O1 g),_,rZ,_,rZ,by show 2<=sizeLine;decide,λi c=>?_];refine q i _ (cn c _) ?_;rw[cb,bZ];rfl
def NN(F:Fun K "in_order" "in_order" DB f fd)(M:cT P w K mg base "place_of" 1 [sB] (gG gl))(N:mg "sorted"=none):FnOk P w K mg base cL 5 f fd [sZ] fH:=by
 refine F.ok qR (λO A r s H vs Q E u h=>?_)
 obtain⟨l,Y,c,U,rfl,z,T,inU,few,B,q⟩:=h;have hu:=u.units;have v:=ky u;refine#[_,(cD (dC (i:=1) qR.nd rZ Z' wr) (cD (iL gY rZ (fZ (pv 0)) (fV (i:=2) qR.nd rZ Z') (cG (q0 v (pv 1) (pv 2) qg rZ))) (cG (dF (KU rZ hu M u.m rZ N rZ (pv 1)))))),?_];intro d C;have G:=cn C (.dT []);have la:=T.len;obtain⟨un,I⟩:=Dq c;refine#[_,rZ,l,rZ,#[_,O0 (G _ _ z)],oN (xs:=Y.map .ref) (λi n j=>Same H j/\∃b o,j d=some (.dT b)/\b.map (·.1)=(uniq (c.take i)).map nk/\n=[some (.ref l),some (.ref d),o]) #[G,[],none,cb,rZ,rZ] (λi n j _ p=>O0 (p.1 _ _ z)) (λi x n j e p=>?_) (λn j p=>?_)]
 .obtain⟨g,b,o,y,k,rfl⟩:=p;rw[cr]at e;obtain⟨a,J,rfl⟩:=da.mp e;have li:=(cg.mp J).1;obtain⟨t,L⟩:∃t,c[i]?=some t:=#[_,b8 ()];have ha:=g _ _ (T.is i a t J L);have lk:b.length<=c.length:=by
   rw[<-bZ (f:=(·.1)) (as:=b),k,bZ];refine cW (lL (Dq _).1 (U:=c) λx e=>?_) (cm _);exact qc (((Dq _).2 x).mp e)
  refine#[_,rZ,_,rZ,d,_,rZ,DPut.t y (by rw[gO];exact ha) (by rw[cS];lia),?_];refine#[iq g C,_,_,cb,?_,rZ];rw[J7 k,g9,L];show _=(uniq (c.take i++[t])).map nk;rw[Oo]
 .obtain⟨g,b,o,y,k,rfl⟩:=p;rw[bZ,la,fN]at k;have lu:(uniq c).length<64:=rX (lL un λx e=>inU x ((I x).mp e)) few;refine#[_,rZ,d,rZ,d,b,uniq c,rZ,y,k,lu,λD bs us H2 g2 hD eD T2 m pw=>?_];exact q D bs us H2 (g.trans g2) (g.free hD) eD T2 (λx=>(m.mem_iff).trans (I x)) pw
def PicsAt(H:Hp)(l:Ad)(d:As)(e:TW):Prop:=H l=some (.lst (d.map .ref))/\d.length=e.length/\∀(j:Nat) (a:Ad) (p:bV×bV),d[j]?=some a->e[j]?=some p->∃b c,c≠l/\H a=some (.tup [.ref b,.ref c])/\H b=some (.tup (p.1.map nv))/\H c=some (.lst (p.2.map nv))
inductive eV(T:Ad)(b:Pos)(e:List V)(H:Hp)(Q:VK)(c:XK):Prop|mk:∀(m:Ad) (d:LN) (n:Nat),e=[.ref m]->Mach H m d n->Tabs H->(∀l g f a,Keeps H a->Tabs a->PicsAt a l g f->Told (ck d) d.length (List.range n) f->Q (.ref l) a)->eV T b e H Q c
def fS(a:bV):List Dt:=(a.map λ(n:Nat)=>(n:Int)).map Dt.int
def CK{a b:bV}(h:fS a=fS b):a=b:=cJ.mp (dw Dt.tup h)
def Gv{n:Nat}(h:n<=5):List.range n∈db n:=by
 have z:∀k:Fin 6,dM (List.range k)=List.range k:=by decide+kernel
 exact b7.mpr #[z #[n,()],λr a=>eU.mp a]
def Nn{T:Ad}(F:Fun K "pictures" "pictures" Ca f fd)(U:cT P w K mg base uP 1 [sB] eN)(Y:cT P w K mg base sN 10 [sA,sB] (dr T (#[62,40,62,93]:Pos)))(jA:mg "len"=none)(kG:mg "list"=none):
  FnOk P w K mg base cL 12 f fd [sA] (eV T (#[62,40,62,93]:Pos)):=by
 refine F.ok qT (λaa A g s H vs Q E C h=>?_)
 obtain⟨m,ts,n,rfl,M,hT,q⟩:=h;have t1:=M.some1;have n5:=M.n5;obtain⟨_,r0,b1,b2,b3,b4,b5,b6⟩:=M.at (l:=0) ();refine#[_,(cD (dC (i:=1) qT.nd rZ Z' (cX Y C.m rZ (c7 (ci (pv 0) (ci (cX U C.m rZ (cu (dY fF rZ jA fe (cu (dE fb (pv 0) cU (λ_ _=>rfl)) cj)) cj)) cZ rZ) rZ)))) (cG (dF (gk (FZ rZ) rZ kG boot_list (cu (A4 Dw PySem.F.slot_dict_items PySem.F.type_dict_items GH (pv 1)) cj))))),?_];refine#[_,rZ,_,rZ,m,_,_,_,rZ,rZ,O1 b1,b3,r0,_,rZ,.inr (O1 b4),?_]
 try dsimp only
 rw[bZ,b5];refine#[n,rZ,(),λst H1 r t=>#[m,st,ts,n,List.range n,rZ,M.same r,t,Gv n5,hT.same r,λD ws as G k2 T2 W _ TT=>?_]];refine#[_,rZ,.inr (.inr (.inl #[rZ,.inr #[_,W.dict]])),rZ,D,_,rZ,W.dict,λv hv=>?_];have u:=cn hv (ss v D);refine#[v,D,_,rZ,cb,u _ _ W.dict,λl ps y d=>?_];have k3:Same (bX G v (ss v D)) y:=λb o e=>by
  rw[d.rest b (di e d.new) λz=>by rw[d.news b z]at e;cases e];exact e
 have I:Same G y:=u.trans k3;refine q l ps ws y ((r.keeps.trans k2).trans I.keeps) (T2.same I) #[d.lst,by rw[d.len,vS W.len],λj a p t B=>?_] TT;obtain⟨k,x,b,J,L,f3⟩:=d.is j a t;obtain⟨hj,_⟩:=cg.mp B;obtain⟨c,N⟩:∃c,as[j]?=some c:=#[_,b8 (by rw[W.len];exact hj)];rw[Ig B N]at J;cases J;have O:=u _ _ (W.list j c p N B);rw[gO]at L;exact#[b,c,di O d.new,f3,k3 _ _ L,k3 _ _ O]
def HK{a b:bV}(h:∀r,r∈a↔r∈b):dM a=dM b:=by
 unfold dM;refine u8 λi _=>?_;rw[jt,f7,f7];exact h i
def BY{H:Hp}{m:Ad}{a:LN}{n:Nat}(M:Mach H m a n){x:bV}{l:Nat}(b:x∈db n)(c:l<a.length):ck a x l∈db n:=by
 obtain⟨h,d⟩:=b7.mp b;refine b7.mpr #[Ea _,λr e=>?_];obtain⟨y,f,rfl⟩:=cq.mp (yE e);exact oh M [l] y (d y f) λz g=>by rw[cE.mp g];exact c
theorem zK{H:Hp}{m:Ad}{a:LN}{n:Nat}(M:Mach H m a n):∀(word:bV) (x:bV),x∈db n->(∀l∈word,l<a.length)->cw (ck a) x word=dM (pX a x word)
 | [],x,c,_=>by
  show x=dM (x.map λr=>d9 a r []);rw[show(λr=>d9 a r [])=id from rfl,oi];exact(b7.mp c).1.symm
 | l::word,x,c,h=>by
  have e:=h l (dh ..);have f:=M.n5;show cw (ck a) (ck a x l) word=_;rw[zK M word _ (BY M c e) λy b=>h y (dR _ b)];refine HK λr=>?_;unfold pX;rw[cq,cq];constructor
  .rintro⟨y,b,rfl⟩;obtain⟨z,d,rfl⟩:=cq.mp (yE b);exact#[z,d,rZ]
  .rintro⟨z,d,rfl⟩;have g:=oh M [l] z ((b7.mp c).2 z d) λy b=>by rw[cE.mp b];exact e
   exact#[d9 a z [l],Ik (cq.mpr #[z,d,rZ]) (),rZ]
theorem Co{b:Type}{P:Nat->b->Prop}:∀{n:Nat},(∀j,j<n->∃x,P j x)->∃a:List b,a.length=n/\∀(j:Nat) (x:b),a[j]?=some x->P j x
 |0,_=>#[[],rZ,λj x e=>by simp at e]
 | n+1,h=>by
  obtain⟨a,c,d⟩:=Co (n:=n) λj f=>h j ();obtain⟨x,g⟩:=h n ();refine#[a++[x],by simp[c],λj y e=>?_];by_cases f:j<n
  .rw[eA ()]at e;exact d j y e
  .rw[dZ ()]at e;have z:j-a.length=0:=by
    have:=(cg.mp e).1;simp at this;lia
   rw[z]at e;cases e;have i:j=n:=by lia
   subst i;exact g
structure Prs(H:Hp)(l:Ad)(as:As)(bc:List (Ad×Ad))(ws:TW):Prop where
 lst:H l=some (.lst (as.map .ref))
 la:as.length=ws.length
 lb:bc.length=ws.length
 is:∀(j:Nat) (a:Ad) (q:Ad×Ad) (p:bV×bV),as[j]?=some a->bc[j]?=some q->ws[j]?=some p->q.2≠l/\H a=some (.tup [.ref q.1,.ref q.2])/\H q.1=some (.tup (p.1.map nv))/\H q.2=some (.lst (p.2.map nv))
def PicsAt.prs{H:Hp}{l:Ad}{g:As}{d:TW}(h:PicsAt H l g d):∃m,Prs H l g m d:=by
 obtain⟨o,r,s⟩:=h;obtain⟨m,t,u⟩:=Co (n:=d.length) (P:=λj (q:Ad×Ad)=>∀a p,g[j]?=some a->d[j]?=some p->q.2≠l/\H a=some (.tup [.ref q.1,.ref q.2])/\H q.1=some (.tup (p.1.map nv))/\H q.2=some (.lst (p.2.map nv))) λj v=>by
  obtain⟨a,i⟩:∃a,g[j]?=some a:=#[_,b8 ()];obtain⟨p,k⟩:∃p,d[j]?=some p:=#[_,b8 v];obtain⟨b,c,w,x,y,z⟩:=s j a p i k;refine#[(b,c),λB C e f=>?_];rw[i]at e;rw[k]at f;cases e;cases f;exact#[w,x,y,z]
 exact#[m,o,r,t,λj a q p i A k=>u j q A a p i k]
def Prs.at{H:Hp}{l:Ad}{as:As}{c:List (Ad×Ad)}{b:TW}(h:Prs H l as c b){j:Nat}(f:j<b.length):∃a q p,as[j]?=some a/\c[j]?=some q/\b[j]?=some p/\q.2≠l/\H a=some (.tup [.ref q.1,.ref q.2])/\H q.1=some (.tup (p.1.map nv))/\H q.2=some (.lst (p.2.map nv)):=by
 have g:=h.la;have i:=h.lb;obtain⟨a,d⟩:∃a,as[j]?=some a:=#[_,b8 ()];obtain⟨q,e⟩:∃q,c[j]?=some q:=#[_,b8 ()];obtain⟨p,ep⟩:∃p,b[j]?=some p:=#[_,b8 f];exact#[a,q,p,d,e,ep,h.is j a q p d e ep]
def C2(a:LN)(n:Nat)(x:bV):Prop:=∃word:bV,(∀l∈word,l<a.length)/\cw (ck a) (List.range n) word=x
structure FamOf(ts:LN)(n:Nat)(us:LN):Prop where
 up:us.Pairwise λx y=>iO gl x y=true
 mem:∀x,x∈us↔(C2 ts n x\/∃r,r<n/\x=[r])
def FamOf.uniq{b:LN}{n:Nat}{a c:LN}(d:FamOf b n a)(e:FamOf b n c):a=c:=Az (qk gl a).irr (qk gl a).trans d.up e.up λx=>(d.mem x).trans (e.mem x).symm
def DP{a:LN}{n:Nat}{b:TW}(T:Told (ck a) a.length (List.range n) b)(x:bV):x∈b.map (·.1)↔C2 a n x:=by
 constructor
 .intro h;obtain⟨p,c,rfl⟩:=cq.mp h;obtain⟨d,e⟩:=T.run p c;exact#[p.2,d,e]
 .rintro⟨word,f,rfl⟩;obtain⟨u,g,_⟩:=T.least _ word rZ f;exact cq.mpr #[_,g,rZ]
def xS{n r:Nat}(b:n<=5)(h:r<n):[r]∈db n:=by
 have z:∀k:Fin 5,dM [(k:Nat)]=[(k:Nat)]:=by decide+kernel
 exact b7.mpr #[z #[r,()],λx a=>by rw[cE.mp a];exact h]
def A7{H:Hp}{m:Ad}{a:LN}{n:Nat}(M:Mach H m a n){x:bV}(h:C2 a n x):x∈db n:=by
 obtain⟨word,b,rfl⟩:=h;exact nS (Gv M.n5) (λy c l d=>BY M c d) word b
def Cv(n:Nat):(db n).length<=32:=cW (hJ _ _) (by rw[bZ,mz];decide)
def FamOf.inU{H:Hp}{m:Ad}{a:LN}{n:Nat}{b:LN}(M:Mach H m a n)(h:FamOf a n b){x:bV}(c:x∈b):x∈db n:=by
 rcases (h.mem x).mp c with z|⟨r,d,rfl⟩
 .exact A7 M z
 .exact xS M.n5 d
def FamOf.few{H:Hp}{m:Ad}{d:LN}{n:Nat}{c:LN}(M:Mach H m d n)(h:FamOf d n c):c.length<=32:=by
 refine cW (lL (U:=db n) ?_ λx f=>h.inU M f) (Cv n);exact h.up.imp λ{a b} z e=>by
  subst e;rw[(qk gl c).irr]at z;cases z
def sq{n:Nat}(a:n<=5){x:bV}(h:x∈db n):x.length<=n:=by
 obtain⟨b,c⟩:=b7.mp h;rw[<-b,KE a c];exact cW (hJ _ _) (by simp)
def pY{H:Hp}{d:Ad}{o c:HO}{bs:As}{a:LN}(T:TupsAt H bs a)(h:H d=some o)(no:∀f,o≠ .tup f):TupsAt (bX H d c) bs a:=#[T.len,λi b u g j=>by
 have z:=T.is i b u g j;rw[cf (jm z h λe=>no _ e.symm)];exact z]
def rf{H:Hp}{bs:As}{d:LN}{p:Ad}{u:bV}(h:TupsAt H bs d)(e:H p=some (.tup (u.map nv))):TupsAt H (bs++[p]) (d++[u]):=by
 refine#[by simp[h.len],λi b v c a=>?_];have l:=h.len;by_cases f:i<d.length
 .rw[eA ()]at c a;exact h.is i b v c a
 .rw[dZ ()]at c a;have z:i-d.length=0:=by
   have:=(cg.mp a).1;simp at this;lia
  rw[l,z]at c;rw[z]at a;cases c;cases a;exact e
def IW{H:Hp}{bs e:As}{d f:LN}(h:TupsAt H bs d)(g:TupsAt H e f):TupsAt H (bs++e) (d++f):=by
 refine#[by simp[h.len,g.len],λi b v a c=>?_];have l:=h.len;by_cases j:i<d.length
 .rw[eA ()]at a c;exact h.is i b v a c
 .rw[dZ ()]at a c;rw[l]at a;exact g.is _ b v a c
def GN{K:O2}{H:Hp}{l:Ad}{bs:As}{b:LN}(f:H l=some (.lst (bs.map .ref)))(T:TupsAt H bs b):Rep K H 2 (.lst (b.map λu=> .tup (fS u))) (.ref l):=by
 refine .lst (O0 f) (by rw[bZ,bZ,T.len]) λi d v c e=>?_;rw[cr]at c e;obtain⟨p,g,rfl⟩:=da.mp c;obtain⟨a,h,rfl⟩:=da.mp e;exact fQ (O1 (T.is i a p h g))
def ER{c d:LN}(h:(Dt.lst (c.map λu=> .tup (fS u)))=Dt.lst (d.map λu=> .tup (fS u))):c=d:=by
 injection h with h
 exact vh (λa b e=>by injection e with e;exact CK e) h
inductive fu(T:Ad)(b:Pos)(d:List V)(H:Hp)(Q:VK)(c:XK):Prop|mk:∀(m:Ad) (e:LN) (n:Nat),d=[.ref m]->Mach H m e n->Tabs H->(∀D bs f a,Keeps H a->Tabs a->L2.noT H D=none->a D=some (.lst (bs.map .ref))->TupsAt a bs f->FamOf e n f->Q (.ref D) a)->fu T b d H Q c
def Je{T:Ad}(F:Fun K "family" "family" uo f fd)(qN:cT P w K mg base "pictures" 12 [sA] (eV T (#[62,40,62,93]:Pos)))(qO:cT P w K mg base "in_order" 5 [sZ] fH)(jA:mg "len"=none)(jB:mg "range"=none):FnOk P w K mg base cL 14 f fd [sA] (fu T (#[62,40,62,93]:Pos)):=by
 refine F.ok rB (λak A aa s H vs Q E hr h=>?_)
 obtain⟨m,ts,n,rfl,M,hT,q⟩:=h;have t1:=M.some1;have n1:=M.n1;have n5:=M.n5;obtain⟨_,r0,b1,b2,b3,b4,b5,b6⟩:=M.at (l:=0) ();refine#[_,(cD (xL (CompSc.to (N:=[sA,"singles"]) (osc:=cz uo) (vs:=["room"]) {}) rZ rZ rB.nd (j:=1) rZ rZ (nJ rZ jB (cu (dY fF rZ jA fe (cu (dE fb (pv 0) cU (λ_ _=>rfl)) cj)) cj)) (λ_ _ _ _=>gQ) (λ_ _ _ _=>(nY (cu (pv 0) cj)))) (cG (dF (cX qO hr.m rZ (cu (eR Dp (Dx (CompSc.to (N:=[sA,"singles"]) (osc:=cz uo) (vs:=[sB,tH]) {}) rZ (fZ (cX qN hr.m rZ (cu (pv 0) cj))) (DK (CompSc.to (N:=[sA,"singles"]) (osc:=cz uo) (vs:=[sB,tH]) {}) rZ rZ rZ) (λ_ _ _ _=>gQ) (λ_ _ _ _=>(pv 0))) (pv 1)) cj))))),?_];refine#[_,rZ,m,_,_,_,rZ,rZ,O1 b1,b3,r0,_,rZ,.inr (O1 b4),(n:Int),by rw[bZ,b5],(),(),xT (λi d c=>Same H c/\∃a,d=a.map V.ref/\a.length=i/\TupsAt c a ((List.range i).map λr=>[r])) (by rw[iI];exact small ()) #[Same.refl _,[],rZ,rZ,rZ,λi b u e=>by simp at e] (λi d c _ p=>?_) (λi d c hi p=>?_) (λd H1 p U ab=>?_)]
 .obtain⟨_,a,rfl,e,_⟩:=p;rw[bZ];lia
 .obtain⟨g,a,rfl,e,Y⟩:=p;have e0:V.int (0+(i:Int))=nv i:=by show V.int (0+(i:Int))=V.int (i:Int);rw[pZ]
  refine#[hE,i8 #[_,rZ,by show 1<=sizeLine;decide,λp hp=>?_]];have k:=cn hp (.tup [V.int (0+(i:Int))]);refine#[g.trans k,a++[p],by simp,by simp[e],?_];rw[ve,dX];refine rf (Y.same k) ?_;rw[cb,e0];rfl
 obtain⟨g1,a,rfl,er,Y⟩:=p;rw[iI]at Y er;have k1:=cn ab (.lst (a.map V.ref));have I:bX H1 U (.lst (a.map V.ref)) U=some (.lst (a.map V.ref)):=cb;have T2:=Y.same k1;have B:=g1.trans k1;generalize bX H1 U (.lst (a.map V.ref))=H2 at k1 I T2 B|-;refine#[_,rZ,m,ts,n,rZ,M.same B,hT.same B,λl as ws H3 k3 T3 ae TT=>?_];obtain⟨bc,C⟩:=ae.prs;have aj:=(M.same B);have few:ws.length<=32:=by
  rw[<-bZ (f:=(·.1)) (as:=ws)];exact cW (lL TT.keys λx hx=>A7 M ((DP TT x).mp hx)) (Cv n)
 refine#[l,rZ,#[_,O0 C.lst],iX (xs:=as.map .ref) (λi d c=>c=H3/\∃bs,d=bs.map V.ref/\bs.length=i/\TupsAt H3 bs ((ws.take i).map (·.1))) (by rw[bZ,C.la,cS];lia) #[rZ,[],rZ,rZ,rZ,λi b u e=>by simp at e] (λi d c _ p=>?_) (λi v d c hv p=>?_) (λd c p c1 af=>?_)]
 .obtain⟨rfl,bs,rfl,e,_⟩:=p;exact#[O0 C.lst,by rw[bZ];lia]
 .obtain⟨rfl,bs,rfl,e,J⟩:=p;rw[cr]at hv;obtain⟨a1,ea,rfl⟩:=da.mp hv;obtain⟨a',q',p',L,al,ag,f0,f1,f2,f3⟩:=C.at (j:=i) (by have:=(cg.mp ea).1;rw[<-C.la];exact this);rw[ea]at L;cases L;refine#[a1,_,rZ,O1 f1,rZ,_,_,rZ,_,_,rZ,rZ,Dj,i8 #[_,rZ,rZ,bs++[q'.1],by simp,by simp[e],?_]];rw[g9,ag,dX];exact rf J f2
 obtain⟨rfl,bs,rfl,e,J⟩:=p;rw[bZ,C.la,fN]at J;have G:=cn af (.lst (bs.map V.ref));have O:=G _ _ (k3 _ _ (nU I));have T5:TupsAt (bX c c1 (.lst (bs.map V.ref))) a ((List.range n).map λr=>[r]):=#[T2.len,λi b u e1 e2=>G _ _ (k3 _ _ (nU (T2.is i b u e1 e2)))];have lb:bs.length=ws.length:=by rw[J.len,bZ]
 refine#[_,rZ,c1,U,_,_,rZ,rZ,O0 cb,O0 O,by rw[bZ,bZ,lb,er,cS];lia,λl2 ah=>?_];have k2:=cn ah (.lst (bs.map V.ref++a.map V.ref));have T6:=(IW (J.same G) T5).same k2;refine#[l2,bs++a,_,db n,rZ,by rw[cb,dX],T6,λt ht=>?_,rX (Cv n) (by decide),by rw[dA,bZ,bZ,mz];lia,λD ds us H5 g5 hD eD T7 mem up=>?_]
 .rcases cM.mp ht with z|z
  .exact A7 M ((DP TT t).mp z)
  .obtain⟨r,ai,rfl⟩:=cq.mp z;exact xS n5 (eU.mp ai)
 .have kk:Keeps H H5:=((B.keeps.trans k3).trans (G.trans k2).keeps).trans g5.keeps;refine q D ds us H5 kk (T3.same ((G.trans k2).trans g5)) ?_ eD T7 #[up,λx=>?_]
  .cases y:L2.noT H D with
   |none=>rfl
   |some o=>
    have z:=(G.trans k2) _ _ ((B.keeps.trans k3) _ _ y);rw[hD]at z;cases z
  .rw[mem x,cM,DP TT x];refine or_congr Iff.rfl ?_;rw[cq];constructor
   .rintro⟨r,h1,rfl⟩;exact#[r,eU.mp h1,rZ]
   .rintro⟨r,h1,rfl⟩;exact#[r,eU.mpr h1,rZ]
def sub(x y:bV):Bool:=x.all λr=>y.contains r
inductive lA(d:List V)(H:Hp)(Q:VK)(c:XK):Prop|mk:∀(a b:Ad) (x y:bV),d=[.ref a,.ref b]->H a=some (.tup (x.map nv))->H b=some (.tup (y.map nv))->x.length<=5->(∀e,Same H e->Q (.bl (sub x y)) e)->lA d H Q c
def hZ(a:LN)(x:bV):LN:=a.filter λu=>decide (u≠x)&&sub u x
def l9(a:LN)(u:bV):Bool:=a.any λv=>decide (v≠u)&&sub u v
def jp(a:LN)(x:bV):LN:=(hZ a x).filter λu=> !l9 (hZ a x) u
inductive m8(d:List V)(H:Hp)(Q:VK)(b:XK):Prop|mk:∀(a l:Ad) (x:bV) (bs:As) (c:LN),d=[.ref a,.ref l]->H a=some (.tup (x.map nv))->H l=some (.lst (bs.map .ref))->TupsAt H bs c->x.length<=5->c.length<=32->(∀e,Same H e->Q (.bl (l9 c x)) e)->m8 d H Q b
inductive iy(T:Ad)(c:Pos)(e:List V)(H:Hp)(Q:VK)(d:XK):Prop|mk:∀(m p:Ad) (f:LN) (n:Nat) (x:bV),e=[.ref m,.ref p]->Mach H m f n->H p=some (.tup (x.map nv))->Tabs H->(∀D bs g a b,Keeps H b->Tabs b->L2.noT H D=none->b D=some (.lst (bs.map .ref))->TupsAt b bs g->FamOf f n a->g=jp a x->Q (.ref D) b)->iy T c e H Q d
def um{H:Hp}{d:As}{b:LN}{f:bV->Bool}{i:Nat}{a:Ad}{t:bV}(T:TupsAt H d ((b.take i).filter f))(e:b[i]?=some t)(g:H a=some (.tup (t.map nv))):if f t=true then TupsAt H (d++[a]) ((b.take (i+1)).filter f)else TupsAt H d ((b.take (i+1)).filter f):=by
 have h:(b.take (i+1)).filter f=(b.take i).filter f++(if f t=true then[t]else[]):=by
  rw[g9,e,rn];cases c:f t with
  |true=>simp[c]
  |false=>simp[c]
 rw[h];cases c:f t with
 |true=>exact rf T g
 |false=>
  rw[wA (by decide),wA (by decide),gL];exact T
def JB(F:Fun K "lies_in" "lies_in" yY f fd)(g:mg "all"=none):FnOk P w K mg base cL 1 f fd [tO,sT] lA:=by
 refine F.ok LS (λj A c s H p Q E t h=>?_)
 obtain⟨a,b,x,y,rfl,d,k,u,q⟩:=h;refine#[_,(cG (dF (dY (Oa rZ) rZ g boot_all (cu (gX (CompSc.to (N:=[tO,sT]) (osc:=cz yY) (vs:=["room"]) {}) rZ rZ (uu (pv 0)) (λ_ _ _ _=>gQ) (λ_ _ _ _=>(ug (OpR.k (K:=K) (λK=>CF K false) Nq rZ) (pv 0) (pv 2) (by with_unfolding_all rfl)))) cj)))),?_];refine#[_,rZ,a,rZ,#[_,O1 d],vj (f:=λv=>match v with|.int i=> .bl (y.contains i.toNat)|v=>v) (by rw[bZ];exact small ()) (O1 d) (λv Q m q=>?_) (λl n=>?_)]
 .obtain⟨r,z,rfl⟩:=cq.mp m;refine#[_,rZ,_,rZ,b,_,rZ,.inr (O1 k),rZ,Mz _,?_]
  try dsimp only
  rw[wG];exact q
 .have e:(x.map nv).map (λv=>match v with|.int i=>V.bl (y.contains i.toNat)|v=>v)=(x.map λr=>y.contains r).map V.bl:=by
   rw[eY,eY];rfl
  try dsimp only
  rw[e];refine#[l,_,rZ,O0 cb,?_];have o:(x.map λr=>y.contains r).all id=sub x y:=by
   unfold sub;rw[List.all_map];rfl
  try dsimp only
  rw[o];exact q _ (cn n _)
def J4(F:Fun K uR uR yC f fd)(L:cT P w K mg base "lies_in" 1 [tO,sT] lA)(M:mg "any"=none):FnOk P w K mg base cL 3 f fd ["part",sZ] m8:=by
 refine F.ok Nv (λO A n s H vs Q E r h=>?_)
 obtain⟨a,l,x,bs,j,rfl,U,t,T,Y,few,q⟩:=h;have hu:=r.units;have lb:=T.len;refine#[_,(cG (dF (dY (HV rZ) rZ M boot_any (cu (gX (CompSc.to (N:=["part",sZ]) (osc:=cz yC) (vs:=[sT]) {}) rZ rZ (fZ (pv 1)) (λ_ _ _ _=>gQ) (λ_ _ _ _=>(Fi (ug (OpR.k (K:=K) (λK=>jv K true) (ra hu) rZ) (pv 0) (pv 1) (fj _)) (GX (cX L r.m rZ (c7 (ci (pv 1) (ci (pv 0) cZ rZ) rZ))))))) cj)))),?_];refine#[_,rZ,l,rZ,#[_,O0 t],iX (xs:=bs.map .ref) (λi k m=>Same H m/\k=((j.take i).map λv=>decide (v≠x)&&sub x v).map V.bl) (by rw[bZ,cS];lia) #[Same.refl _,rZ] (λi k m hi p=>?_) (λi v k m y p=>?_) (λk m p c1 o=>?_)]
 .obtain⟨g,rfl⟩:=p;exact#[O0 (g _ _ t),by simp;lia]
 .obtain⟨g,rfl⟩:=p;rw[cr]at y;obtain⟨b,B,rfl⟩:=da.mp y;have li:=(cg.mp B).1;obtain⟨u,C⟩:∃u,j[i]?=some u:=#[_,b8 ()];have D:=g _ _ (T.is i b u B C);have G:=g _ _ U;have I:((j.take (i+1)).map λv=>decide (v≠x)&&sub x v).map V.bl=((j.take i).map λv=>decide (v≠x)&&sub x v).map V.bl++[V.bl (decide (u≠x)&&sub x u)]:=by
   rw[g9,C,dX,dX];rfl
  refine#[hE,i8 ?_];refine#[_,rZ,_,rZ,b,a,0,_,_,rZ,rZ,fQ (O1 D),fQ (O1 G),by decide,λc J=>?_];by_cases e:u=x
  .have d:c=true:=J.mpr (cJ.mpr e);subst d;refine#[_,rZ,fv #[g,?_]];rw[I,eQ (λz=>z e)];rfl
  .have d:c=false:=by
    cases c with
    |false=>rfl
    |true=>exact wC (cJ.mp (J.mp rZ)) e
   subst d;refine#[_,rZ,gA #[_,rZ,_,rZ,a,b,x,u,rZ,G,D,Y,λH4 g4=>#[g.trans g4,?_]]];rw[I,c9 e,Av]
 .obtain⟨g,rfl⟩:=p;rw[bZ,lb,fN];have e2:(j.map λv=>decide (v≠x)&&sub x v).any id=l9 j x:=by
   unfold l9;rw[yM];rfl
  refine#[c1,_,rZ,O0 cb,?_]
  try dsimp only
  rw[e2];exact q _ (g.trans (cn o _))
def JR{T:Ad}(F:Fun K sJ sJ vG f fd)(kO:cT P w K mg base "family" 14 [sA] (fu T (#[62,40,62,93]:Pos)))(kJ:cT P w K mg base "lies_in" 1 [tO,sT] lA)(kY:cT P w K mg base uR 3 ["part",sZ] m8):FnOk P w K mg base cL 16 f fd [sA,sB] (iy T (#[62,40,62,93]:Pos)):=by
 refine F.ok rE (λag A ab s H vs Q E hr h=>?_)
 obtain⟨m,p,ts,n,x,rfl,M,hp,hT,q⟩:=h;have hu:=hr.units;have n5:=M.n5;refine#[_,(cD (dC (i:=2) rE.nd rZ Z0 (gX (CompSc.to (N:=[sA,sB,"within"]) (osc:=cz vG) (vs:=["part"]) {}) rZ rZ (fZ (cX kO hr.m rZ (cu (pv 0) cj))) (λ_ _ _ _=>pB (PW.pt (vM (fM (OpR.k (K:=K) (λK=>jv K true) (ra hu) rZ) (pv 0) (pv 2) (fj _)) (wV (tx (cX kJ hr.m rZ (c7 (ci (pv 0) (ci (pv 2) cZ rZ) rZ)))))))) (λ_ _ _ _=>(pv 0)))) (cG (dF (gX (CompSc.to (N:=[sA,sB,"within"]) (osc:=cz vG) (vs:=["part"]) {}) rZ rZ (fZ (pv 2)) (λ_ _ _ _=>pB (Ed (tx (cX kY hr.m rZ (c7 (ci (pv 0) (ci (pv 3) cZ rZ) rZ)))))) (λ_ _ _ _=>(pv 0)))))),?_];refine#[_,rZ,m,ts,n,rZ,M,hT,λl bs a H1 k1 T1 nl el Tf ff=>?_];have few:=ff.few M;have lb:=Tf.len;have ae:=k1 _ _ (nU hp);have l5:∀u∈a,u.length<=5:=λu h=>cW (sq n5 (ff.inU M h)) n5;refine#[l,rZ,#[_,O0 el],iX (xs:=bs.map .ref) (λi k r=>Same H1 r/\∃d,k=d.map V.ref/\d.length<=i/\TupsAt r d ((a.take i).filter λu=>decide (u≠x)&&sub u x)) (by rw[bZ,cS];lia) #[Same.refl _,[],rZ,cm _,rZ,λi b u e=>by simp at e] (λi k r hi p=>?_) (λi v k r L p=>?_) (λk H2 p O af=>?_)]
 .obtain⟨g,d,rfl,e,_⟩:=p;exact#[O0 (g _ _ el),by rw[bZ];exact e]
 .obtain⟨g,d,rfl,e,U⟩:=p;rw[cr]at L;obtain⟨b,Y,rfl⟩:=da.mp L;have li:=(cg.mp Y).1;obtain⟨u,B⟩:∃u,a[i]?=some u:=#[_,b8 ()];have C:=g _ _ (Tf.is i b u Y B);have hx:=g _ _ ae;refine#[hE,_,rZ,_,rZ,b,_,0,_,_,rZ,rZ,fQ (O1 C),fQ (O1 hx),by decide,λc hc=>#[_,rZ,?_]];by_cases ex:u=x
  .have G:c=true:=hc.mpr (cJ.mpr ex);subst G;have z:=um U B C;rw[eQ (λz=>z ex),Bool.false_and,wA (by decide)]at z;refine fv (fv #[g,d,rZ,(),z])
  .have G:c=false:=by
    cases c with
    |false=>rfl
    |true=>exact wC (cJ.mp (hc.mp rZ)) ex
   subst G;refine gA #[_,rZ,_,rZ,b,_,u,x,rZ,C,hx,l5 u (cH B),λH4 I=>#[_,rZ,?_]];have z:=um (U.same I) B (I _ _ C);rw[c9 ex,Av]at z;cases c2:sub u x with
   |true=>
    rw[c2,wB rZ]at z;exact gA #[_,rZ,g.trans I,d++[b],by simp,by simp;exact e,z]
   |false=>
    rw[c2,wA (by decide)]at z;exact fv #[g.trans I,d,rZ,(),z]
 obtain⟨g2,d,rfl,_,U⟩:=p;rw[bZ,lb,fN]at U;have Tw:TupsAt H2 d (hZ a x):=U;have kw:=cn af (.lst (d.map V.ref));have t:bX H2 O (.lst (d.map V.ref)) O=some (.lst (d.map V.ref)):=cb;have J:=Tw.same kw;have g3:=g2.trans kw;generalize bX H2 O (.lst (d.map V.ref))=H3 at kw t J g3|-;have lw:(hZ a x).length<=32:=cW (hJ _ _) few;have lc:=Tw.len;have aa:∀u∈hZ a x,u∈a:=λu h=>(dv.mp h).1;refine#[_,rZ,O,rZ,#[_,O0 t],iX (xs:=d.map .ref) (λi k r=>Same H3 r/\∃j,k=j.map V.ref/\j.length<=i/\TupsAt r j (((hZ a x).take i).filter λu=> !l9 (hZ a x) u)) (by rw[bZ,cS];lia) #[Same.refl _,[],rZ,cm _,rZ,λi b u e=>by simp at e] (λi k r hi p=>?_) (λi v k r L p=>?_) (λk H4 p D hD=>?_)]
 .obtain⟨g,j,rfl,e,_⟩:=p;exact#[O0 (g _ _ t),by rw[bZ];exact e]
 .obtain⟨g,j,rfl,e,Td⟩:=p;rw[cr]at L;obtain⟨b,Y,rfl⟩:=da.mp L;have li:=(cg.mp Y).1;obtain⟨u,B⟩:∃u,(hZ a x)[i]?=some u:=#[_,b8 ()];have C:=g _ _ (J.is i b u Y B);refine#[hE,_,rZ,_,rZ,b,O,u,d,hZ a x,rZ,C,g _ _ t,J.same g,l5 u (aa u (cH B)),lw,λH5 g5=>#[_,rZ,?_]];have z:=um (Td.same g5) B (g5 _ _ C);cases c2:l9 (hZ a x) u with
  |true=>
   rw[c2,wA (by decide)]at z;exact fv #[g.trans g5,j,rZ,(),z]
  |false=>
   rw[c2,wB (by decide)]at z;exact gA #[_,rZ,g.trans g5,j++[b],by simp,by simp;exact e,z]
 obtain⟨I,j,rfl,_,Td⟩:=p;rw[bZ,lc,fN]at Td;have kD:=cn hD (.lst (j.map V.ref));have gg:=g3.trans (I.trans kD);refine q D j _ a _ (k1.trans gg.keeps) (T1.same gg) ?_ cb (Td.same kD) ff rfl;cases y:L2.noT H D with
 |none=>rfl
 |some o=>
  have z:=(g3.trans I) _ _ (k1 _ _ y);rw[hD]at z;cases z
def Rch(ts:LN)(x y:bV):Prop:=∃word:bV,(∀l∈word,l<ts.length)/\cw (ck ts) x word=y
open Classical in
noncomputable def eX (a:LN) (x y:bV):Bool:=decide (Rch a x y)
def cC{a:LN}{x y:bV}:eX a x y=true↔Rch a x y:=by
 unfold eX;exact @decide_eq_true_iff _ (Classical.propDecidable _)
def Rch.refl(ts:LN)(x:bV):Rch ts x x:=#[[],λ_ h=>(nomatch h),rZ]
def Rch.trans{ts:LN}{x y z:bV}(a:Rch ts x y)(b:Rch ts y z):Rch ts x z:=by
 obtain⟨u,c,rfl⟩:=a;obtain⟨v,d,rfl⟩:=b;refine#[u++v,λl e=>(cM.mp e).elim (c l) (d l),?_];unfold cw;rw[kg]
def Cy{a:LN}{x:bV}{b:TW}(T:Told (ck a) a.length x b)(y:bV):y∈b.map (·.1)↔Rch a x y:=by
 constructor
 .intro h;obtain⟨p,c,rfl⟩:=cq.mp h;obtain⟨d,e⟩:=T.run p c;exact#[p.2,d,e]
 .rintro⟨word,f,rfl⟩;obtain⟨u,g,_⟩:=T.least _ word rZ f;exact cq.mpr #[_,g,rZ]
abbrev WE:=Ad×TW×As
def fO(a:LN)(ys:List WE):List (List cy×V):=a2j (a.map λx=>(x,[])) (ys.map (·.1))
structure WB(H:Hp)(D:Ad)(ts:LN)(xs:LN)(ys:List WE):Prop where
 len:ys.length=xs.length
 each:∀(i:Nat) (x:bV) (y:WE),xs[i]?=some x->ys[i]?=some y->WordsAt H y.1 y.2.1 y.2.2/\Told (ck ts) ts.length x y.2.1/\y.1≠D
 nd:xs.Nodup
def WB.same{H c:Hp}{D:Ad}{d e:LN}{ys:List WE}(h:WB H D d e ys)(g:Same H c):WB c D d e ys:=#[h.len,λi x y f j=>let⟨a,b⟩:=h.each i x y f j;#[a.same g,b],h.nd]
def Ir{H b:Hp}{D:Ad}{c:TW}{d:As}(W:WordsAt H D c d)(g:Keeps H b):WordsAt b D c d:=#[W.len,g _ _ (nU W.dict),λj a p e f=>g _ _ (nU (W.list j a p e f))]
def WB.keeps{H c:Hp}{D:Ad}{d e:LN}{ys:List WE}(h:WB H D d e ys)(g:Keeps H c):WB c D d e ys:=#[h.len,λi x y f j=>let⟨a,b⟩:=h.each i x y f j;#[Ir a g,b],h.nd]
def vp{a:LN}{ys:List WE}(h:ys.length=a.length):(fO a ys).map (·.1)=a.map nk:=by
 unfold fO L2.a2j
 induction a generalizing ys with
 |nil=>rfl
 | cons x a b=>
  cases ys with
  |nil=>simp at h
  |cons y ys=>
   have z:=b (ys:=ys) (by simpa using h);simp only[List.map_cons,List.zipWith_cons_cons];rw[z]
def WB.off{H:Hp}{D:Ad}{e f:LN}{ys:List WE}{d:List (List cy×V)}{o:HO}(h:WB H D e f ys)(g:H D=some (.dT d)):WB (bX H D o) D e f ys:=by
 refine#[h.len,λi x y k m=>?_,h.nd];obtain⟨a,b,c⟩:=h.each i x y k m;refine#[#[a.len,by rw[cf c];exact a.dict,λj l p n q=>?_],b,c];have z:=a.list j l p n q;rw[cf (nE z g)];exact z
def BN(a:LN):((a.map λx=>((x,[]):bV×bV)).map (·.1))=a:=by
 rw[eY];exact List.map_id' a
def WB.get{H:Hp}{D b:Ad}{e c:LN}{ys:List WE}{x:bV}(h:WB H D e c ys)(k:Rd H D (.dT (fO c ys)))(l:x∈c)(m:H b=some (.tup (x.map nv))):∃W f j,DGet H D (.ref b) (some (.ref W))/\WordsAt H W f j/\Told (ck e) e.length x f/\∃i:Nat,c[i]?=some x/\ys[i]?=some (W,f,j):=by
 obtain⟨i,d⟩:=dU.mp l;have n:=(cg.mp d).1;have o:=h.len;obtain⟨y,g⟩:∃y,ys[i]?=some y:=#[_,b8 ()];obtain⟨a,t,_⟩:=h.each i x y d g;have v:gW (fO c ys) (nk x)=some (.ref y.1):=wp (p:=(x,[])) (by rw[BN];exact h.nd) (by rw[cr,d];rfl) (by rw[cr,g];rfl);exact#[y.1,y.2.1,y.2.2,.inr #[_,_,b,k,rZ,by rw[gO];exact m,v.symm],a,t,i,d,g]
def C1{H:Hp}{W c:Ad}{b:LN}{d:TW}{f:As}{x y:bV}(a:WordsAt H W d f)(t:Told (ck b) b.length x d)(g:H c=some (.tup (y.map nv))):∃o,DGet H W (.ref c) o/\o.isSome=eX b x y:=by
 refine#[_,.inr #[_,nk y,c,.inl a.dict,rZ,by rw[gO];exact g,rZ],?_];by_cases m:y∈d.map (·.1)
 .rw[cC.mpr ((Cy t y).mp m)];obtain⟨p,h,rfl⟩:=cq.mp m;obtain⟨l,e,_⟩:=a.word t.keys h;rw[e];rfl
 .rw[rT m];cases z:eX b x y with
  |false=>rfl
  |true=>exact wC ((Cy t y).mpr (cC.mp z)) m
noncomputable def df (ts a:LN) (x:bV):LN:=a.filter λy=>eX ts x y&&eX ts y x
noncomputable def cY (b a:LN):i7:=(a.filter λx=>(df b a x).head? ==some x).map (df b a)
def big(a:LN):LN:=a.filter λx=>decide (1<x.length)
inductive dJ(T:Ad)(e:Pos)(h:List V)(H:Hp)(Q:VK)(f:XK):Prop|mk:∀(m:Ad) (g:LN) (n:Nat),h=[.ref m]->Mach H m g n->Tabs H->(∀D a d c,Keeps H c->Tabs c->L2.noT H D=none->FamOf g n a->c D=some (.dT (fO (big a) d))->WB c D g (big a) d->(∀y∈d,∀b∈y.2.2,L2.noT H b=none)->d.Pairwise (λp q=>∀b∈p.2.2,b∉q.2.2)->Q (.ref D) c)->dJ T e h H Q f
inductive ir(d:List V)(H:Hp)(Q:VK)(c:XK):Prop|mk:∀(D p:Ad) (o:Obj) (e a:LN) (f:List WE) (x:bV),d=[.ref D,.ref p]->H D=some (.frz o (.dT (fO a f)))->WB H D e a f->H p=some (.tup (x.map nv))->x∈a->a.length<=32->(∀l bs b,Same H b->H l=none->b l=some (.lst (bs.map .ref))->TupsAt b bs (df e a x)->Q (.ref l) b)->ir d H Q c
def LP{T:Ad}(F:Fun K uG uG Bp f fd)(kO:cT P w K mg base "family" 14 [sA] (fu T (#[62,40,62,93]:Pos)))(jK:cT P w K mg base sN 10 [sA,sB] (dr T (#[62,40,62,93]:Pos)))(jA:mg "len"=none):FnOk P w K mg base cL 16 f fd [sA] (dJ T (#[62,40,62,93]:Pos)):=by
 refine F.ok kK (λau A ah s H vs Q E hr h=>?_)
 obtain⟨m,ts,n,rfl,M,hT,q⟩:=h;have hu:=hr.units;have ai:=ky hr;refine#[_,(cD (dC (i:=1) kK.nd rZ Z' wr) (cD (iL gY rZ (fZ (cX kO hr.m rZ (cu (pv 0) cj))) (fV (i:=2) kK.nd rZ Z') (cG (gM (fM AA (dY fF rZ jA fe (cu (pv 2) cj)) cU (fj _)) (cG (q0 ai (pv 1) (pv 2) (cX jK hr.m rZ (c7 (ci (pv 0) (ci (pv 2) cZ rZ) rZ))) rZ)) gV))) (cG (dF (pv 1))))),?_];intro D hD;have kD:=cn hD (.dT []);refine#[_,rZ,m,ts,n,rZ,M.same kD,hT.same kD,λso fs d H1 k1 T1 av aa Tf ff=>?_];have aj:=k1 _ _ (nU (cb:bX H D (.dT []) D=_));have ak:=kD.keeps.trans k1;have lf:=Tf.len;have few:=ff.few M;have al:d.Nodup:=ff.up.imp λ{a b} z e=>by
  subst e;rw[(qk gl d).irr]at z;cases z
 have ab:=Eo hD
 let Pv:Nat->L2.St->Hp->Prop:=λi σ N=>Keeps H N/\Tabs N/\N so=some (.lst (fs.map .ref))/\TupsAt N fs d/\∃k o2,N D=some (.dT (fO (big (d.take i)) k))/\WB N D ts (big (d.take i)) k/\(∀y∈k,∀b∈y.2.2,L2.noT H b=none)/\k.Pairwise (λp q=>∀b∈p.2.2,b∉q.2.2)/\σ=[some (.ref m),some (.ref D),o2]
 refine#[so,rZ,#[_,O0 aa],oN (xs:=fs.map .ref) Pv #[ak,T1,aa,Tf,[],none,aj,#[rZ,λi x y e=>by simp[big]at e,List.nodup_nil],λ_ h=>(nomatch h),.nil,rZ] (λi σ N _ p=>O0 p.2.2.1) (λi v σ H2 hv p=>?_) (λσ H2 p=>?_)]
 .obtain⟨Y,T2,O,C,k,o2,r,B,nw,ap,rfl⟩:=p;rw[cr]at hv;obtain⟨b,eb,rfl⟩:=da.mp hv;have li:=(cg.mp eb).1;obtain⟨x,ex⟩:∃x,d[i]?=some x:=#[_,b8 ()];have hb:=C.is i b x eb ex;have mx:=cH ex;have G:big (d.take (i+1))=big (d.take i)++(if 1<x.length then[x]else[]):=by
   unfold big;rw[g9,ex,rn];by_cases c:1<x.length
   .rw[wB c];simp[c]
   .rw[wA c];simp[c]
  refine#[_,rZ,b,_,rZ,.inr (O1 hb),_,_,rZ,rZ,_,rZ,lJ (λc=>?_) (λc=>?_)]
  .have c1:1<x.length:=by
    have z:=fG c;rw[bZ]at z;lia
   rw[wB c1]at G;refine#[_,rZ,_,rZ,m,b,ts,n,x,rZ,M.keeps Y,hb,ff.inU M mx,T2,λW ws as H3 k3 T3 Wd U TT=>?_];have t:=k3 _ _ (nU r);have am:=k3 _ _ (nU hb);have an:=B.keeps k3;have WD:W≠D:=λz=>by
    subst z;have z2:=U W (dh ..);rw[nU r]at z2;cases z2
   have xn:x∉big (d.take i):=λh=>by
    have h1:=(dv.mp h).1;obtain⟨j,ej⟩:=dU.mp h1;have lj:=(cg.mp ej).1;rw[e9]at lj;rw[xA ()]at ej;have:=(jk () al).mp (ej.trans ex.symm)
    lia
   have vn:gW (fO (big (d.take i)) k) (nk x)=none:=rT (by rw[BN];exact xn);have lk:(fO (big (d.take i)) k).length<sizeLine:=by
    rw[<-bZ (f:=(·.1)),vp B.len,bZ,cS];have z1:(big (d.take i)).length<=(d.take i).length:=hJ _ _;rw[e9]at z1;lia
   refine#[_,rZ,_,rZ,D,_,rZ,DPut.t t (by rw[gO];exact am) lk,?_];have ae:=k3 _ _ (nU O);have ao:TupsAt H3 fs d:=#[C.len,λi b u I J=>k3 _ _ (nU (C.is i b u I J))];have ek:iS (fO (big (d.take i)) k) (nk x) (.ref W)=fO (big (d.take (i+1))) (k++[(W,ws,as)]):=by
    rw[xQ _ vn,G];unfold fO;rw[dX,dX];exact(yb (ws:=(big (d.take i)).map λx=>(x,[])) (as:=k.map (·.1)) (p:=(x,[])) (a:=W) (by simp[B.len])).symm
   have wo:=an.off (o:= .dT (fO (big (d.take (i+1))) (k++[(W,ws,as)]))) t;have Wo:WordsAt (bX H3 D (.dT (fO (big (d.take (i+1))) (k++[(W,ws,as)])))) W ws as:=#[Wd.len,by rw[cf WD];exact Wd.dict,λj l p h1 h2=>by
    have z:=Wd.list j l p h1 h2;rw[cf (nE z t)];exact z]
   rw[ek];refine#[λL o g=>?_,?_,?_,?_,k++[(W,ws,as)],_,cb,#[?_,λj x' y' I J=>?_,?_],?_,?_,rZ]
   .rw[cf λz=>?_]
    .exact(Y.trans k3) _ _ g
    .subst z;rw[ab]at g;cases g
   .exact T3.most λL u nd _ g=>by rw[cf (jm g t λe=>nd _ e)];exact g
   .rw[cf (nE ae t)];exact ae
   .exact pY ao t λ_ e=>nomatch e
   .rw[G,dA,dA,B.len];rfl
   .rw[G]at I;have hl:=B.len;by_cases hj:j<k.length
    .rw[eA ()]at I;rw[eA hj]at J;exact wo.each j x' y' I J
    .rw[dZ ()]at I J;have z:j-k.length=0:=by
      have:=(cg.mp J).1;simp at this;lia
     rw[<-hl,z]at I;rw[z]at J;cases I;cases J;exact#[Wo,TT,WD]
   .rw[G,oQ];refine#[B.nd,by simp,λa ha c hc e=>xn ?_];rw[cE.mp hc]at e;rw[<-e];exact ha
   .intro y hy L g
    rcases cM.mp hy with h|h
    .exact nw y h L g
    .rw[cE.mp h]at g;have z:=U L (.tail _ g);cases y2:L2.noT H L with
     |none=>rfl
     |some o=>
      have z3:=Y _ _ y2;rw[r6 z3 (vC y2).2]at z;cases z
   .rw[ik];refine#[ap,oF _ _,λp hp q' hq L g af=>?_];rw[cE.mp hq]at af;have z:=U L (.tail _ af);obtain⟨j,ej⟩:=dU.mp hp;have lj:=(cg.mp ej).1;have hl:=B.len;obtain⟨x',aq⟩:∃x',(big (d.take i))[j]?=some x':=#[_,b8 ()];obtain⟨a',_⟩:=B.each j x' p aq ej;obtain⟨j2,ag⟩:=dU.mp g;have ar:=(cg.mp ag).1;have z2:=a'.list j2 L _ ag (b8 (by rw[<-a'.len];exact ar));rw[nU z2]at z;cases z
  .have c1: ¬1<x.length:=by
    have z:=D0 (Bool.eq_false_iff.mpr c);rw[bZ]at z;lia
   rw[wA c1,gL]at G;refine#[Y,T2,O,C,k,_,?_,?_,nw,ap,rZ]
   .rw[G];exact r
   .rw[G];exact B
 .obtain⟨Y,T2,O,C,k,o2,r,B,nw,ap,rfl⟩:=p;rw[bZ,lf,fN]at r B;exact#[_,rZ,q D d k H2 Y T2 ab ff r B nw ap]
def JU(F:Fun K uS uS yL f fd):FnOk P w K mg base cL 1 f fd [sK,sB] ir:=by
 refine F.ok JK (λaa A G s H vs Q E T h=>?_)
 obtain⟨D,p,o,j,I,ys,x,rfl,k,n,U,hx,few,q⟩:=h;have hu:=T.units;have d:=ky T;refine#[_,(cG (dF (gX (CompSc.to (N:=[sK,sB]) (osc:=cz yL) (vs:=[sT]) {}) rZ rZ (EI (pv 0)) (λ_ _ _ _=>pB (PW.pt (vM (vL (CG d (pv 0) (nN d (pv 1) (pv 2) (λ_ _=>rfl)))) (wV (vL (CG d (pv 2) (nN d (pv 1) (pv 0) (λ_ _=>rfl)))))))) (λ_ _ _ _=>(pv 0))))),?_];refine#[_,rZ,D,_,I,rZ,vp n.len,.inr #[o,k],λo' r fz=>?_];have e2:o'=o/\r=H:=by
  rcases fz with⟨e,rfl⟩|⟨e,_⟩
  .rw[k]at e;injection e with e
   injection e with e _
   exact#[e.symm,rZ]
  .rw[k]at e;cases e
 obtain⟨rfl,rfl⟩:=e2;have Y:Rd r D (.dT (fO I ys)):= .inr #[_,k];refine KW (vp n.len) (λi g v=>v=r/\∃c,g=c.map V.ref/\c.length<=i/\TupsAt r c ((I.take i).filter λy=>eX j x y&&eX j y x)) (by rw[cS];lia) #[rZ,[],rZ,cm _,rZ,λi b u e=>by simp at e] (λi g v _ l=>?_) (λi a t g v et J l=>?_) (λg v l B m=>?_)
 .obtain⟨rfl,c,rfl,e,_⟩:=l;exact#[k,by rw[bZ];exact e]
 .obtain⟨rfl,c,rfl,e,C⟩:=l;have z:=um (f:=λy=>eX j x y&&eX j y x) C et J;obtain⟨W,ws,as,dg,wa,tt,_⟩:=n.get Y hx U;obtain⟨o1,d1,s1⟩:=C1 wa tt J;have ht:=cH et;obtain⟨W2,ab,ae,L,M,O,_⟩:=n.get Y ht J;obtain⟨o2,d2,s2⟩:=C1 M O U;refine#[hE,_,rZ,_,rZ,_,rZ,D,_,rZ,dg,W,o1,rZ,d1,_,rZ,?_];rw[s1];cases B:eX j x t with
  |false=>
   rw[B,Bool.false_and,wA (by decide)]at z;exact fv (fv #[rZ,c,rZ,(),z])
  | true=>
   rw[B,Av]at z;refine gA #[_,rZ,_,rZ,_,rZ,D,_,rZ,L,W2,o2,rZ,d2,_,rZ,?_];rw[s2];cases c2:eX j t x with
   |true=>
    rw[c2,wB rZ]at z;exact gA #[_,rZ,rZ,c++[a],by simp,by simp;exact e,z]
   |false=>
    rw[c2,wA (by decide)]at z;exact fv #[rZ,c,rZ,(),z]
 .obtain⟨rfl,c,rfl,_,C⟩:=l;rw[fN]at C;have kc:=cn m (.lst (c.map V.ref));exact q B c _ kc m cb (C.same kc)
structure LsAt(H:Hp)(as:As)(cs:i7):Prop where
 len:as.length=cs.length
 is:∀(i:Nat) (a:Ad) (c:LN),as[i]?=some a->cs[i]?=some c->∃bs:As,H a=some (.lst (bs.map .ref))/\TupsAt H bs c
def LsAt.same{H b:Hp}{d:As}{e:i7}(h:LsAt H d e)(g:Same H b):LsAt b d e:=#[h.len,λi a c f j=>let⟨bs,k,l⟩:=h.is i a c f j;#[bs,g _ _ k,l.same g]]
def LsAt.off{H:Hp}{l:Ad}{g:List V}{o:HO}{b:As}{d:i7}(h:LsAt H b d)(j:H l=some (.lst g))(no:l∉b):LsAt (bX H l o) b d:=#[h.len,λi a c f k=>by
 obtain⟨bs,m,n⟩:=h.is i a c f k;refine#[bs,?_,pY n j λ_ e=>nomatch e];rw[cf λ(z:a=l)=>no (by rw[<-z];exact cH f)];exact m]
def LsAt.snoc{H:Hp}{g:As}{f:i7}{a:Ad}{c:LN}{bs:As}(h:LsAt H g f)(j:H a=some (.lst (bs.map .ref)))(T:TupsAt H bs c):LsAt H (g++[a]) (f++[c]):=by
 refine#[by simp[h.len],λi b v e d=>?_];have l:=h.len;by_cases k:i<f.length
 .rw[eA ()]at e d;exact h.is i b v e d
 .rw[dZ ()]at e d;have z:i-f.length=0:=by
   have:=(cg.mp d).1;simp at this;lia
  rw[l,z]at e;rw[z]at d;cases e;cases d;exact#[bs,j,T]
def HP{ts a:LN}{x:bV}(b:x∈a):x∈df ts a x:=dv.mpr #[b,by rw[cC.mpr (Rch.refl ts x)];rfl]
inductive gu(g:List V)(H:Hp)(Q:VK)(d:XK):Prop|mk:∀(D:Ad) (h b:LN) (e:List WE),g=[.ref D]->H D=some (.dT (fO b e))->WB H D h b e->b.length<=32->(∀l o f c,Same (bX H D (.frz o (.dT (fO b e)))) c->H l=none->c l=some (.lst (f.map .ref))->LsAt c f (cY h b)->(∀a∈f,H a=none)->Q (.ref l) c)->gu g H Q d
def Ny(F:Fun K uE uE CY f fd)(kZ:cT P w K mg base uS 1 [sK,sB] ir):FnOk P w K mg base cL 3 f fd [sK] gu:=by
 refine F.ok jX (λaj A aa s H vs Q E hr h=>?_)
 obtain⟨D,g,d,v,rfl,hD,wb,few,q⟩:=h;have hu:=hr.units;have ak:=ky hr;refine#[_,(cD (dC (i:=1) jX.nd rZ Z' (iA cj)) (cD (iL gY rZ (EI (pv 0)) (fV (i:=2) jX.nd rZ Z') (cD (dC (i:=3) jX.nd rZ Z' (cX kZ hr.m rZ (c7 (ci (pv 0) (ci (pv 2) cZ rZ) rZ)))) (cG (gM (fM (z8 hu) (dE h9 (pv 3) cU (λ_ _=>rfl)) (pv 2) (fj _)) (cG (m6 (lK lX oK pc ph (pv 1) (cu (pv 3) cj)))) gV)))) (cG (dF (pv 1))))),?_];refine#[by show 0<=sizeLine;decide,λj m=>?_];have kf:=cn m (.lst []);have L:=kf _ _ hD;have M:j≠D:=(di hD m).symm;refine#[_,rZ,D,_,d,rZ,vp wb.len,.inl L,λo H2 fz=>?_];have e2:H2=bX (bX H j (.lst [])) D (.frz o (.dT (fO d v))):=by
  rcases fz with⟨e,_⟩|⟨_,e⟩
  .rw[L]at e;cases e
  .exact e
 have gz:Same (bX H D (.frz o (.dT (fO d v)))) H2:=λb u I=>by
  rw[e2];by_cases z:b=D
  .subst z;rw[cb]at I|-;exact I
  .rw[cf z]at I|-;exact kf _ _ I
 have wz:WB (bX H D (.frz o (.dT (fO d v)))) D g d v:=wb.off hD;have ab:H2 j=some (.lst []):=by rw[e2,cf M,cb]
 have ae:bX H D (.frz o (.dT (fO d v))) j=none:=by rw[cf M];exact m
 clear e2 fz
 let Pv:Nat->L2.St->Hp->Prop:=λi T U=>Same (bX H D (.frz o (.dT (fO d v)))) U/\∃k o2 o3,U j=some (.lst (k.map .ref))/\j∉k/\(∀a∈k,H a=none)/\k.length<=i/\LsAt U k (((d.take i).filter λx=>(df g d x).head? ==some x).map (df g d))/\T=[some (.ref D),some (.ref j),o2,o3]
 refine OC (vp wb.len) Pv #[gz,[],none,none,ab,by simp,(λ_ h=>nomatch h),Nat.le_refl _,#[rZ,λi a c e=>by simp at e],rZ] (λi T U _ p=>p.1 _ _ cb) (λi a x T H3 ex Y p=>?_) (λT H3 p=>?_)
 .obtain⟨B,k,o2,o3,n,C,r,af,N,rfl⟩:=p;have mx:=cH ex;refine#[_,rZ,_,rZ,D,a,o,g,d,v,x,rZ,B _ _ cb,wz.same B,Y,mx,few,λl bs H4 J nl el Tl=>?_];have lb:=Tl.len;have self:=HP (ts:=g) mx;obtain⟨y,rest,ea⟩:∃y rest,df g d x=y::rest:=by
   cases z:df g d x with
   |nil=>rw[z]at self;cases self
   |cons y rest=>exact#[y,rest,rZ]
  have b1:0<bs.length:=by
   rw[lb,ea];simp
  obtain⟨b,eb⟩:∃b,bs[0]?=some b:=#[_,b8 b1];have I:H4 b=some (.tup (y.map nv)):=Tl.is 0 b y eb (by rw[ea];rfl);have ag:jx (bs.map V.ref) ((0:Nat):Int)=some (.ref b):=j6 (by rw[cr,eb];rfl);have nx:((d.take (i+1)).filter λx=>(df g d x).head? ==some x).map (df g d)=((d.take i).filter λx=>(df g d x).head? ==some x).map (df g d)++(if y=x then[df g d x]else[]):=by
   rw[g9,ex,rn,dX];by_cases c:y=x
   .rw[wB c];simp[ea,c]
   .rw[wA c];simp[ea,c]
  refine#[_,rZ,l,_,_,_,rZ,rZ,O0 el,ag,_,rZ,b,a,0,_,_,rZ,rZ,fQ (O1 I),fQ (O1 (J _ _ Y)),by decide,λc hc=>#[_,rZ,?_]];have t:=J _ _ n;have ah:l≠j:=(di n nl).symm;have ai:H l=none:=by
   cases z:H l with
   |none=>rfl
   | some u=>
    by_cases e:l=D
    .have O:=B _ _ (cb (H:=H) (a:=D) (o:= .frz o (.dT (fO d v))));rw[<-e,nl]at O;cases O
    .have O:=B l u (by rw[cf e];exact z);rw[nl]at O;cases O
  by_cases e:y=x
  .have G:c=true:=hc.mpr (cJ.mpr e);subst G;rw[wB e]at nx;refine gA #[_,rZ,.inl #[rZ,_,O0 t],_,rZ,j,_,_,rZ,rZ,t,by rw[bZ,cS];have:=(cg.mp ex).1;lia,?_];have L4:=(N.same J).snoc el Tl;have na:j∉k++[l]:=λz=>(cM.mp z).elim C λz=>ah (cE.mp z).symm
   refine#[iq (B.trans J) ae,k++[l],_,_,by rw[cb,dX];rfl,na,(λa Y=>(cM.mp Y).elim (r a) λz=>by rw[cE.mp z];exact ai),by rw[dA];simp;lia,?_,rZ];rw[nx];exact L4.off t na
  .have G:c=false:=by
    cases c with
    |false=>rfl
    |true=>exact wC (cJ.mp (hc.mp rZ)) e
   subst G;rw[wA e,gL]at nx;refine fv #[B.trans J,k,_,_,t,C,r,(),?_,rZ];rw[nx];exact N.same J
 .obtain⟨B,k,o2,o3,n,C,r,af,N,rfl⟩:=p;rw[fN]at N;exact#[_,rZ,q j o k H3 B m n N r]
noncomputable def dO (a:LN) (b:i7) (c:LN):Bool:=b.any λd=>decide (d≠c)&&eX a (d.headD []) (c.headD [])
def zQ{K:O2}{H:Hp}{a:Ad}{bs:As}{c:LN}{n:Nat}(f:H a=some (.lst (bs.map .ref)))(T:TupsAt H bs c):Rep K H (n+2) (.lst (c.map λu=> .tup (fS u))) (.ref a):=by
 refine .lst (O0 f) (by rw[bZ,bZ,T.len]) λi d v b e=>?_;rw[cr]at b e;obtain⟨p,g,rfl⟩:=da.mp b;obtain⟨a,h,rfl⟩:=da.mp e;exact fQ (O1 (T.is i a p h g))
def yD{H:Hp}{bs:As}{c:LN}(T:TupsAt H bs c)(ne:c≠[]):∃b,jx (bs.map V.ref) 0=some (.ref b)/\H b=some (.tup ((c.headD []).map nv))/\c.headD []∈c:=by
 have d:=T.len;obtain⟨y,rest,e⟩:∃y rest,c=y::rest:=by
  cases c with
  |nil=>exact wC rZ ne
  |cons y rest=>exact#[y,rest,rZ]
 subst e;obtain⟨b,a⟩:∃b,bs[0]?=some b:=#[_,b8 (by rw[d];simp)];have z:jx (bs.map V.ref) ((0:Nat):Int)=some (.ref b):=j6 (by rw[cr,a];rfl);exact#[b,z,T.is 0 b y a rZ,dh ..]
inductive iB(g:List V)(H:Hp)(Q:VK)(e:XK):Prop|mk:∀(D a l:Ad) (h f:LN) (i:List WE) (c:LN) (b:i7) (bs j:As),g=[.ref D,.ref a,.ref l]->Rd H D (.dT (fO f i))->WB H D h f i->H a=some (.lst (bs.map .ref))->TupsAt H bs c->H l=some (.lst (j.map .ref))->LsAt H j b->c≠[]->(∀d∈b,d≠[]/\∀x∈d,x∈f)->b.length<=32->(∀k,Same H k->Q (.bl (dO h b c)) k)->iB g H Q e
def ID(F:Fun K "is_led_to" "is_led_to" zX f fd)(qW:mg "any"=none):FnOk P w K mg base cL 1 f fd [sK,sZ,tJ] iB:=by
 refine F.ok Ju (λaa A r s H vs Q E M h=>?_)
 obtain⟨D,a,l,j,xs,ys,c,k,bs,as,rfl,rd,wb,O,T,U,L,cne,t,few,q⟩:=h;have hu:=M.units;have m:=ky M;have la:=L.len;obtain⟨b0,u,x,_⟩:=yD T cne;refine#[_,(cG (dF (dY (HV rZ) rZ qW boot_any (cu (gX (CompSc.to (N:=[sK,sZ,tJ]) (osc:=cz zX) (vs:=[sT]) {}) rZ rZ (fZ (pv 2)) (λ_ _ _ _=>gQ) (λ_ _ _ _=>(Fi (ug (OpR.k (K:=K) (λK=>jv K true) (ra hu) rZ) (pv 0) (pv 2) (fj _)) (GX (JC (CG m (dE (IxR.k (K:=K) jh h9 rZ) (pv 2) cU (λ_ _=>rfl)) (nN m (pv 1) (dE (IxR.k (K:=K) jh h9 rZ) (pv 0) cU (λ_ _=>rfl)) (λ_ _=>rfl)))))))) cj)))),?_];refine#[_,rZ,l,rZ,#[_,O0 U],iX (xs:=as.map .ref) (λi b n=>n=H/\b=((k.take i).map λd=>decide (d≠c)&&eX j (d.headD []) (c.headD [])).map V.bl) (by rw[bZ,cS];lia) #[rZ,rZ] (λi b n hi p=>?_) (λi v b n Y p=>?_) (λb n p c1 y=>?_)]
 .obtain⟨rfl,rfl⟩:=p;exact#[O0 U,by simp;lia]
 .obtain⟨rfl,rfl⟩:=p;rw[cr]at Y;obtain⟨e,ee,rfl⟩:=da.mp Y;have li:=(cg.mp ee).1;obtain⟨d,B⟩:∃d,k[i]?=some d:=#[_,b8 ()];obtain⟨ds,he,Td⟩:=L.is i e d ee B;obtain⟨C,dx⟩:=t d (cH B);obtain⟨b1,G,I,m1⟩:=yD Td C;have nx:((k.take (i+1)).map λd=>decide (d≠c)&&eX j (d.headD []) (c.headD [])).map V.bl=((k.take i).map λd=>decide (d≠c)&&eX j (d.headD []) (c.headD [])).map V.bl++[V.bl (decide (d≠c)&&eX j (d.headD []) (c.headD []))]:=by
   rw[g9,B,dX,dX];rfl
  refine#[hE,i8 ?_];refine#[_,rZ,_,rZ,e,a,1,_,_,rZ,rZ,zQ he Td,zQ O T,by decide,λJ hc=>?_];by_cases o:d=c
  .have g:J=true:=hc.mpr (by rw[o]);subst g;refine#[_,rZ,fv #[rZ,?_]];rw[nx,eQ (λz=>z o)];rfl
  .have g:J=false:=by
    cases J with
    |false=>rfl
    |true=>exact wC (ER (hc.mp rZ)) o
   subst g;obtain⟨W,ws,wa,dg,wt,tt,_⟩:=wb.get rd (dx _ m1) I;obtain⟨o1,d1,s1⟩:=C1 wt tt x;refine#[_,rZ,gA #[_,rZ,a,_,_,_,rZ,rZ,O0 O,u,_,rZ,_,rZ,e,_,_,_,rZ,rZ,O0 he,G,D,_,rZ,dg,W,o1,rZ,d1,rZ,?_]];rw[nx,c9 o,Av,s1]
 .obtain⟨rfl,rfl⟩:=p;rw[bZ,la,fN];have e2:(k.map λd=>decide (d≠c)&&eX j (d.headD []) (c.headD [])).any id=dO j k c:=by
   unfold dO;rw[yM];rfl
  refine#[c1,_,rZ,O0 cb,?_]
  try dsimp only
  rw[e2];exact q _ (cn y _)
inductive Ord (ts:LN):i7->List LN->Prop
 |nil:Ord ts [] []
 |cons {cs told:i7} {s:LN} (h:(cs.filter λc=> !dO ts cs c).head?=some s) (r:Ord ts (cs.filter λc=>decide (c≠s)) told):Ord ts cs (s::told)
def zP(a:LN)(b:i7):Prop:=∀c∈b,∀d∈b,eX a (c.headD []) (d.headD [])=true->eX a (d.headD []) (c.headD [])=true->c=d
def GQ{a:Type}{xs:List a}{p q:a->Bool}(h:∀z∈xs,p z=true->q z=true)(e:∃z∈xs,q z=true/\p z=false):xs.countP p<xs.countP q:=by
 induction xs with
 |nil=>
  obtain⟨z,hz,_⟩:=e;cases hz
 | cons x xs d=>
  rw[zI,zI];have mono:xs.countP p<=xs.countP q:=List.countP_mono_left λz hz f=>h z (.tail _ hz) f;obtain⟨z,hz,b,c⟩:=e
  rcases dq.mp hz with rfl|hz
  .rw[b,c];simp;lia
  .have:=d (λz hz=>h z (.tail _ hz)) #[z,hz,b,c];have g:=h x (dh ..);cases i:p x with
   |true=>
    rw[g i];simp;lia
   |false=>
    simp;split<;>lia
theorem FK{a:LN}{b:i7}(un:zP a b):∀(k:Nat) (s:LN),s∈b->b.countP (λt=>eX a (t.headD []) (s.headD []))<=k->∃s∈b,dO a b s=false
 |0,s,e,h=>by
  have z:0<b.countP (λt=>eX a (t.headD []) (s.headD [])):=List.countP_pos_iff.mpr #[s,e,cC.mpr (Rch.refl a _)];lia
 | k+1,s,e,h=>by
  cases c:dO a b s with
  |false=>exact#[s,e,c]
  | true=>
   obtain⟨d,f,g⟩:=AI.mp c;rw[lW,qx]at g;obtain⟨ne,r⟩:=g;have lt:=GQ (xs:=b) (p:=λt=>eX a (t.headD []) (d.headD [])) (q:=λt=>eX a (t.headD []) (s.headD [])) (λz _ i=>cC.mpr ((cC.mp i).trans (cC.mp r))) #[s,e,cC.mpr (Rch.refl a _),by
    cases z:eX a (s.headD []) (d.headD [])with
    |false=>rfl
    |true=>exact wC (un d f s e r z) ne]
   exact FK un k d f ()
def EJ{H:Hp}{d as:As}{b:i7}{f:LN->Bool}{i:Nat}{a:Ad}{c:LN}(L:LsAt H d ((b.take i).filter f))(g:b[i]?=some c){bs:As}(h:H a=some (.lst (bs.map .ref)))(T:TupsAt H bs c):if f c=true then LsAt H (d++[a]) ((b.take (i+1)).filter f)else LsAt H d ((b.take (i+1)).filter f):=by
 have e:(b.take (i+1)).filter f=(b.take i).filter f++(if f c=true then[c]else[]):=by
  rw[g9,g,rn];cases z:f c with
  |true=>simp[z]
  |false=>simp[z]
 by_cases z:f c=true
 .rw[wB z,e,wB z];exact L.snoc h T
 .rw[wA z,e,wA z,gL];exact L
inductive eW(k:List V)(H:Hp)(Q:VK)(f:XK):Prop|mk:∀(D l:Ad) (g h:LN) (m:List WE) (c:i7) (i:As),k=[.ref D,.ref l]->Rd H D (.dT (fO h m))->WB H D g h m->H l=some (.lst (i.map .ref))->LsAt H i c->(∀d∈c,d≠[]/\∀x∈d,x∈h)->zP g c->c.length<=32->(∀j b told e,Same H e->H j=none->e j=some (.lst (b.map .ref))->LsAt e b told->Ord g c told->told.length<=32->(∀d∈told,d∈c)->(∀a∈b,a∈i)->Q (.ref j) e)->eW k H Q f
def Hu{H b:Hp}{a:Ad}{u:HO}(h:Rd H a u)(g:Same H b):Rd b a u:=h.elim (λe=> .inl (g _ _ e)) λ⟨o,e⟩=> .inr #[o,g _ _ e]
def JV(F:Fun K uC uC vY f fd)(qH:cT P w K mg base "is_led_to" 1 [sK,sZ,tJ] iB):FnOk P w K mg base cL 3 f fd [sK,tJ] eW:=by
 refine F.ok jS (λaT A aJ s H vs Q E hr h=>?_)
 obtain⟨D,l0,M,xs,ys,aa,ab,rfl,rd,wb,av,L0,aK,un,few,q⟩:=h;have hu:=hr.units;have aU:=ky hr;refine#[_,(cD (dC (i:=2) jS.nd rZ Z' (iA cj)) (cD (Cr gY (GL (pv 1) (λ_=>rfl)) (cD (dC (i:=3) jS.nd rZ Z0 (gX (CompSc.to (N:=[sK,tJ,"told","free"]) (osc:=cz vY) (vs:=[sZ]) {}) rZ rZ (fZ (pv 1)) (λ_ _ _ _=>pB (Ed (tx (cX qH hr.m rZ (c7 (ci (pv 1) (ci (pv 0) (ci (pv 2) cZ rZ) rZ) rZ)))))) (λ_ _ _ _=>(pv 0)))) (cD (m6 (lK lX oK pc ph (pv 2) (cu (dE h9 (pv 3) cU (λ_ _=>rfl)) cj))) (cG (dC (i:=1) jS.nd rZ Z0 (gX (CompSc.to (N:=[sK,tJ,"told","free"]) (osc:=cz vY) (vs:=[sZ]) {}) rZ rZ (fZ (pv 1)) (λ_ _ _ _=>pB (fM (OpR.k (K:=K) (λK=>jv K true) (ra hu) rZ) (pv 0) (dE (IxR.k (K:=K) jh h9 rZ) (pv 4) cU (λ_ _=>rfl)) (fj _))) (λ_ _ _ _=>(pv 0)))))))) (cG (dF (pv 2))))),?_];refine#[by show 0<=sizeLine;decide,λt O=>?_];have kf:=cn O (.lst []);have aw:t∉ab:=λz=>by
  obtain⟨j,ej⟩:=dU.mp z;have lj:=(cg.mp ej).1;obtain⟨bs,e,_⟩:=L0.is j t _ ej (b8 (by rw[<-L0.len];exact lj));rw[O]at e;cases e
 let Wv:Nat->L2.St->Hp->Prop:=λm σ C=>Same H C/\∃l B n k told o3,C l=some (.lst (B.map .ref))/\LsAt C B n/\l≠t/\t∉B/\(∀c∈n,c∈aa)/\C t=some (.lst (k.map .ref))/\LsAt C k told/\t∉k/\(∀c∈told,c∈aa)/\told.length+n.length<=32/\(∀a∈B,a∈ab)/\(∀a∈k,a∈ab)/\(∀rest,Ord M n rest->Ord M aa (told++rest))/\m=n.length/\σ=[some (.ref D),some (.ref l),some (.ref t),o3]
 refine#[Wv,#[_,kf,l0,ab,aa,[],[],none,kf _ _ av,L0.same kf,di av O,aw,λc h=>h,cb,#[rZ,λi a c e=>by simp at e],by simp,λc h=>(nomatch h),by simpa using few,(λ_ h=>h),(λ_ h=>nomatch h),λrest h=>h,rZ,rZ],λm σ H1 p=>?_];obtain⟨g1,l,B,n,k,told,o3,el,L,aL,ak,G,al,am,aM,ag,aV,ia,ax,ah,hm,rfl⟩:=p;have la:=L.len;have aW:=am.len;refine#[_,rZ,!(B.map V.ref).isEmpty,.inl #[_,O0 el,rZ],?_];by_cases an:n=[]
 .subst an;have e:B=[]:=oo.mp la;subst e;rw[wA (by simp)];have od:=ah [] .nil;rw[gL]at od;exact#[_,rZ,q t k told H1 g1 O al am od () ag ax]
 have ne:B≠[]:=λz=>an (oo.mp (by rw[<-la,z];rfl));have c1:(!(B.map V.ref).isEmpty)=true:=by
  cases B with
  |nil=>exact wC rZ ne
  |cons=>rfl
 rw[c1];refine gA ?_;refine#[λay C=>∃m',m'<m/\Wv m' ay C,λay C h=>h,?_];have ai:∀d∈n,d≠[]/\∀x∈d,x∈xs:=λd hd=>aK d (G d hd);have aN:zP M n:=λc hc d hd=>un c (G c hc) d (G d hd);have aO:=wb.same g1;have aP:=Hu rd g1;refine#[_,rZ,l,rZ,#[_,O0 el],iX (xs:=B.map .ref) (λi u C=>Same H1 C/\∃r,u=r.map V.ref/\r.length<=i/\(∀e∈r,e∈B)/\LsAt C r ((n.take i).filter λc=> !dO M n c)) (by rw[bZ,cS];lia) #[Same.refl _,[],rZ,cm _,λ_ h=>(nomatch h),#[rZ,λi a c e=>by simp at e]] (λi u C hi p=>?_) (λi v u C hv p=>?_) (λu H2 p fr ao=>?_)]
 .obtain⟨g,r,rfl,e,_⟩:=p;exact#[O0 (g _ _ el),by rw[bZ];exact e]
 .obtain⟨g,r,rfl,e,sb,Le⟩:=p;rw[cr]at hv;obtain⟨a,ea,rfl⟩:=da.mp hv;have li:=(cg.mp ea).1;obtain⟨c,ec⟩:∃c,n[i]?=some c:=#[_,b8 ()];obtain⟨bs,ha,Ta⟩:=(L.same g).is i a c ea ec;have mc:=cH ec;refine#[hE,_,rZ,_,rZ,_,rZ,D,a,l,M,xs,ys,c,n,bs,B,rZ,Hu aP g,aO.same g,ha,Ta,g _ _ el,L.same g,(ai c mc).1,ai,(),λH4 g4=>#[_,rZ,?_]];have z:=EJ (as:=B) (f:=λc=> !dO M n c) (Le.same g4) ec (g4 _ _ ha) (Ta.same g4);cases c2:dO M n c with
  |false=>
   rw[c2,wB (show(!false)=true from rfl)]at z;refine gA #[_,rZ,g.trans g4,r++[a],by simp,by simp;exact e,λe' he=>?_,z];exact(cM.mp he).elim (sb e') λh=>by rw[cE.mp h];exact cH ea
  |true=>
   rw[c2,wA (by decide)]at z;exact fv #[g.trans g4,r,rZ,(),sb,z]
 obtain⟨g2,r,rfl,_,sb,Le⟩:=p;rw[bZ,la,fN]at Le;have k3:=cn ao (.lst (r.map V.ref));have ap:bX H2 fr (.lst (r.map V.ref)) fr=some (.lst (r.map V.ref)):=cb;have az:fr≠t:=(di (g2 _ _ al) ao).symm;have aX:fr≠l:=(di (g2 _ _ el) ao).symm;have J:=g2.trans k3;have aq:=Le.same k3;generalize bX H2 fr (.lst (r.map V.ref))=H3 at k3 ap J aq|-;obtain⟨s0,aQ,aR⟩:∃s∈n,dO M n s=false:=by
  cases n with
  |nil=>exact wC rZ an
  |cons c n=>exact FK aN _ c (dh ..) (cm _)
 have mf:s0∈n.filter λc=> !dO M n c:=dv.mpr #[aQ,by rw[aR];rfl];obtain⟨s,hs⟩:∃s,(n.filter λc=> !dO M n c).head?=some s:=by
  cases z:n.filter λc=> !dO M n c with
  |nil=>rw[z]at mf;cases mf
  |cons y ys=>exact#[y,rZ]
 have ms:s∈n:=(dv.mp (List.mem_of_mem_head? hs)).1;have aA:(n.filter λc=> !dO M n c)[0]?=some s:=by rw[<-List.head?_eq_getElem?];exact hs
 have le:=aq.len;obtain⟨a,ea⟩:∃a,r[0]?=some a:=#[_,b8 (by rw[le];exact(cg.mp aA).1)];have aB:jx (r.map V.ref) ((0:Nat):Int)=some (.ref a):=j6 (by rw[cr,ea];rfl);obtain⟨bs,ha,Ta⟩:=aq.is 0 a s ea aA;have aC:=sb a (cH ea);have aD:a≠t:=λz=>ak (z▸aC);have I:=J _ _ al;refine#[_,rZ,.inl #[rZ,_,O0 I],_,rZ,fr,_,_,_,rZ,rZ,O0 ap,aB,t,_,_,rZ,rZ,I,by rw[bZ,cS];lia,?_];have g4:Same H (bX H3 t (.lst (k.map V.ref++[.ref a]))):=iq (g1.trans J) O;have aE:t∉k++[a]:=λz=>(cM.mp z).elim aM λz=>aD (cE.mp z).symm;have L4:=((am.same J).snoc ha Ta).off (o:= .lst (k.map V.ref++[.ref a])) I aE;have aF:=(L.same J).off (o:= .lst (k.map V.ref++[.ref a])) I ak;have T:bX H3 t (.lst (k.map V.ref++[.ref a])) t=some (.lst ((k++[a]).map V.ref)):=by rw[cb,dX];rfl
 have ar:bX H3 t (.lst (k.map V.ref++[.ref a])) l=some (.lst (B.map V.ref)):=by
  rw[cf aL];exact J _ _ el
 have aj:bX H3 t (.lst (k.map V.ref++[.ref a])) fr=some (.lst (r.map V.ref)):=by
  rw[cf az];exact ap
 have aG:bX H3 t (.lst (k.map V.ref++[.ref a])) a=some (.lst (bs.map V.ref)):=by
  rw[cf aD];exact ha
 have aH:TupsAt (bX H3 t (.lst (k.map V.ref++[.ref a]))) bs s:=pY Ta I λ_ e=>nomatch e;generalize bX H3 t (.lst (k.map V.ref++[.ref a]))=H4 at g4 L4 aF T ar aj aG aH|-;refine#[_,rZ,l,rZ,#[_,O0 ar],iX (xs:=B.map .ref) (λi u C=>C=H4/\∃r,u=r.map V.ref/\r.length<=i/\(∀e∈r,e∈B)/\LsAt H4 r ((n.take i).filter λc=>decide (c≠s))) (by rw[bZ,cS];lia) #[rZ,[],rZ,cm _,λ_ h=>(nomatch h),#[rZ,λi a c e=>by simp at e]] (λi u C hi p=>?_) (λi v u C hv p=>?_) (λu H5 p wl aI=>?_)]
 .obtain⟨rfl,r,rfl,e,_⟩:=p;exact#[O0 ar,by rw[bZ];exact e]
 .obtain⟨rfl,U,rfl,e,Y,ae⟩:=p;rw[cr]at hv;obtain⟨b,eb,rfl⟩:=da.mp hv;have li:=(cg.mp eb).1;obtain⟨c,ec⟩:∃c,n[i]?=some c:=#[_,b8 ()];obtain⟨ds,hb,Tb⟩:=aF.is i b c eb ec;have z:=EJ (as:=B) (f:=λc=>decide (c≠s)) ae ec hb Tb;refine#[hE,_,rZ,_,rZ,fr,_,_,_,rZ,rZ,O0 aj,aB,b,a,1,_,_,rZ,rZ,zQ hb Tb,zQ aG aH,by decide,λcc hc=>#[_,rZ,?_]];by_cases af:c=s
  .have au:cc=true:=hc.mpr (by rw[af]);subst au;rw[eQ (λz=>z af),wA (by decide)]at z;exact fv #[rZ,U,rZ,(),Y,z]
  .have au:cc=false:=by
    cases cc with
    |false=>rfl
    |true=>exact wC (ER (hc.mp rZ)) af
   subst au;rw[c9 af,wB rZ]at z;refine gA #[_,rZ,rZ,U++[b],by simp,by simp;exact e,λe' he=>?_,z];exact(cM.mp he).elim (Y e') λh=>by rw[cE.mp h];exact cH eb
 obtain⟨rfl,U,rfl,_,Y,ae⟩:=p;rw[bZ,la,fN]at ae;have k5:=cn aI (.lst (U.map V.ref));have less:(n.filter λc=>decide (c≠s)).length<n.length:=by
  rw[<-CQ];have z:=GQ (xs:=n) (p:=λc=>decide (c≠s)) (q:=λ_=>true) (λ_ _ _=>rfl) #[s,ms,rZ,eQ λz=>z rZ];rw[List.countP_true]at z;exact z
 refine#[(n.filter λc=>decide (c≠s)).length,(),g4.trans k5,wl,U,n.filter λc=>decide (c≠s),k++[a],told++[s],_,cb,ae.same k5,(di T aI).symm,λz=>ak (Y _ z),λc hc=>G c (dv.mp hc).1,k5 _ _ T,L4.same k5,aE,λc hc=>(cM.mp hc).elim (ag c) λh=>by rw[cE.mp h];exact G s ms,by rw[dA];simp only[List.length_singleton];lia,(λb hb=>ia b (Y b hb)),(λb hb=>(List.mem_append.mp hb).elim (ax b) λz=>by rw[List.mem_singleton.mp z];exact ia a aC),λrest aS=>?_,rZ,rZ];rw[fY];exact ah _ (.cons hs aS)
def KG{H b:Hp}{a:Ad}{u:HO}(h:Rd H a u)(no:∀c,u≠ .tbl c)(g:Keeps H b):Rd b a u:=h.elim (λe=> .inl (g _ _ (r6 e no))) λ⟨o,e⟩=> .inr #[o,g _ _ (nU e)]
def lV{H a:Hp}{bs:As}{c:LN}(T:TupsAt H bs c)(g:Keeps H a):TupsAt a bs c:=#[T.len,λi b u d e=>g _ _ (nU (T.is i b u d e))]
def LsAt.keeps{H b:Hp}{d:As}{e:i7}(h:LsAt H d e)(g:Keeps H b):LsAt b d e:=#[h.len,λi a c f j=>let⟨bs,k,l⟩:=h.is i a c f j;#[bs,g _ _ (nU k),lV l g]]
def WB.off2{H:Hp}{D l:Ad}{d e:LN}{ys:List WE}{m:List V}{o:HO}(h:WB H D d e ys)(n:H l=some (.lst m))(no:∀y∈ys,l∉y.2.2):WB (bX H l o) D d e ys:=by
 refine#[h.len,λi x y q f=>?_,h.nd];obtain⟨a,b,c⟩:=h.each i x y q f;refine#[#[a.len,by rw[cf (nE a.dict n)];exact a.dict,λj g p k r=>?_],b,c];rw[cf λ(z:g=l)=>no y (cH f) (by rw[<-z];exact cH k)];exact a.list j g p k r
def gZ{ts b:LN}{c:LN}(h:c∈cY ts b):c≠[]/\c=df ts b (c.headD [])/\c.headD []∈b/\∀x∈c,x∈b/\Rch ts (c.headD []) x/\Rch ts x (c.headD []):=by
 obtain⟨x,g,rfl⟩:=cq.mp h;obtain⟨f,i⟩:=dv.mp g;have e:(df ts b x).headD []=x:=by
  have z:(df ts b x).head?=some x:=eq_of_beq i;cases y:df ts b x with
  |nil=>rw[y]at z;cases z
  |cons a l=>
   rw[y]at z;injection z with z
 refine#[λz=>?_,by rw[e],by rw[e];exact f,λy j=>?_]
 .have s:=HP (ts:=ts) f;rw[z]at s;cases s
 .obtain⟨k,d⟩:=dv.mp j;rw[lW]at d;rw[e];exact#[k,cC.mp d.1,cC.mp d.2]
def JP(e i:LN):zP e (cY e i):=λc j d k f g=>by
 obtain⟨_,l,_⟩:=gZ j;obtain⟨_,m,_⟩:=gZ k;rw[l,m];generalize c.headD []=x at f g;generalize d.headD []=y at f g;refine u8 λz _=>?_;have go:∀{x y:bV},eX e x y=true->eX e y x=true->(eX e x z&&eX e z x)=true->(eX e y z&&eX e z y)=true:=λ{x y} a b h=>by
  rw[lW]at h|-;exact#[cC.mpr ((cC.mp b).trans (cC.mp h.1)),cC.mpr ((cC.mp h.2).trans (cC.mp a))]
 rw[jt];exact#[go f g,go g f]
def LevAt(H:Hp)(l:Ad)(f e:LN)(h:LN)(j:List WE)(a:Ad)(c:LN):Prop:=∃(s t v:Ad) (bs g d:As) (i:Nat) (y:WE),H a=some (.tup [.ref s,.ref t,.ref v])/\s≠l/\t≠l/\v≠l/\l∉d/\H s=some (.lst (bs.map .ref))/\TupsAt H bs c/\H t=some (.lst (g.map .ref))/\TupsAt H g (jp e (c.headD []))/\H v=some (.lst (d.map .ref))/\d.length=c.length/\h[i]?=some (c.headD [])/\j[i]?=some y/\Told (ck f) f.length (c.headD []) y.2.1/\
 (∀b∈d,b∈y.2.2)/\∀(k:Nat) (x:bV) (b:Ad),c[k]?=some x->d[k]?=some b->∃word,(x,word)∈y.2.1/\H b=some (.lst (word.map nv))
def LevAt.keeps{H q:Hp}{l:Ad}{r d u:LN}{ys:List WE}{a:Ad}{c:LN}(h:LevAt H l r d u ys a c)(g:Keeps H q):LevAt q l r d u ys a c:=by
 obtain⟨s,t,v,bs,w,z,i,y,A,B,C,D,E,G,I,J,L,e,f,j,m,n,o,p⟩:=h;refine#[s,t,v,bs,w,z,i,y,g _ _ (nU A),B,C,D,E,g _ _ (nU G),lV I g,g _ _ (nU J),lV L g,g _ _ (nU e),f,j,m,n,o,λk x b M N=>?_];obtain⟨word,O,Q⟩:=p k x b M N;exact#[word,O,g _ _ (nU Q)]
def LevAt.off{H:Hp}{l:Ad}{u d w:LN}{A:List WE}{a:Ad}{c:LN}{J:List V}{o:HO}(h:LevAt H l u d w A a c)(f:H l=some (.lst J)):LevAt (bX H l o) l u d w A a c:=by
 obtain⟨s,t,v,bs,L,M,i,y,B,C,D,E,G,N,O,Q,T,g,j,m,n,p,q,r⟩:=h;refine#[s,t,v,bs,L,M,i,y,by rw[cf (nE B f)];exact B,C,D,E,G,by rw[cf C];exact N,pY O f (λ_ e=>nomatch e),by rw[cf D];exact Q,pY T f (λ_ e=>nomatch e),by rw[cf E];exact g,j,m,n,p,q,λk x b U I=>?_];obtain⟨word,Y,z2⟩:=r k x b U I;refine#[word,Y,?_];rw[cf λ(z:b=l)=>G (by rw[<-z];exact cH I)];exact z2
structure LevsAt(H:Hp)(l:Ad)(ts fam xs:LN)(ys:List WE)(as:As)(told:i7):Prop where
 len:as.length=told.length
 is:∀(i:Nat) (a:Ad) (c:LN),as[i]?=some a->told[i]?=some c->LevAt H l ts fam xs ys a c
def HX(H b:Hp)(a:Ad):Prop:=∃s t v,b a=some (.tup [.ref s,.ref t,.ref v])/\L2.noT H s=none/\L2.noT H t=none/\L2.noT H v=none
inductive fE(T:Ad)(g:Pos)(k:List V)(H:Hp)(Q:VK)(h:XK):Prop|mk:∀(m:Ad) (e:LN) (n:Nat),k=[.ref m]->Mach H m e n->Tabs H->(∀l i told d j f,Keeps H f->Tabs f->L2.noT H l=none->f l=some (.lst (i.map .ref))->FamOf e n d->Ord e (cY e (big d)) told->(∀c∈told,c∈cY e (big d))->told.length<=32->LevsAt f l e d (big d) j i told->(∀y∈j,∀b∈y.2.2,L2.noT H b=none)->j.Pairwise (λp q=>∀b∈p.2.2,b∉q.2.2)->(∀a∈i,HX H f a)->Q (.ref l) f)->fE T g k H Q h
def MD{T:Ad}(F:Fun K "levels" "levels" yG f fd)(kH:cT P w K mg base uG 16 [sA] (dJ T (#[62,40,62,93]:Pos)))(kE:cT P w K mg base uE 3 [sK] gu)(jZ:cT P w K mg base uC 3 [sK,tJ] eW)(qY:cT P w K mg base sJ 16 [sA,sB] (iy T (#[62,40,62,93]:Pos))):FnOk P w K mg base cL 18 f fd [sA] (fE T (#[62,40,62,93]:Pos)):=by
 refine F.ok kN (λbh A aT s H vs Q E hr h=>?_)
 obtain⟨m,ts,n,rfl,M,hT,q⟩:=h;have hu:=hr.units;have az:=ky hr;refine#[_,(cD (dC (i:=1) kN.nd rZ Z0 (cX kH hr.m rZ (cu (pv 0) cj))) (cD (dC (i:=2) kN.nd rZ Z' (iA cj)) (cD (iL gY rZ (fZ (cX jZ hr.m rZ (c7 (ci (pv 1) (ci (cX kE hr.m rZ (cu (pv 1) cj)) cZ rZ) rZ)))) (fV (i:=3) kN.nd rZ Z') (cD (dC (i:=4) kN.nd rZ Z0 (dE h9 (pv 3) cU (λ_ _=>rfl))) (cD (xL (CompSc.to (N:=[sA,sK,"told",sZ,"face","ways"]) (osc:=cz yG) (vs:=[sB]) {}) rZ rZ kN.nd (j:=5) rZ rZ (fZ (pv 3)) (λ_ _ _ _=>gQ) (λ_ _ _ _=>(nN az (nN az (pv 2) (pv 5) (λ_ _=>rfl)) (pv 0) (λ_ _=>rfl)))) (cG (m6 (lK lX oK pc ph (pv 2) (cu (nY (c7 (ci (pv 3) (ci (cX qY hr.m rZ (c7 (ci (pv 0) (ci (pv 4) cZ rZ) rZ))) (ci (pv 5) cZ rZ) rZ) rZ))) cj))))))) (cG (dF (pv 2)))))),?_];refine#[_,rZ,m,ts,n,rZ,M,hT,λD l ys H1 k1 T1 nD ff eD wb nw ap=>?_];have few:=ff.few M;have O:(big l).length<=32:=cW (hJ _ _) few;refine#[by show 0<=sizeLine;decide,λto af=>?_];have kt:=cn af (.lst []);have aA:∀y∈ys,to∉y.2.2:=λy hy r=>by
  obtain⟨j,ej⟩:=dU.mp hy;have lj:=(cg.mp ej).1;have hl:=wb.len;obtain⟨x',aU⟩:∃x',(big l)[j]?=some x':=#[_,b8 ()];obtain⟨a',_⟩:=wb.each j x' y aU ej;obtain⟨j2,aB⟩:=dU.mp r;have aV:=(cg.mp aB).1;have U:=a'.list j2 to _ aB (b8 (by rw[<-a'.len];exact aV));rw[af]at U;cases U
 have aW:to≠D:=(di eD af).symm;have ar:=kt _ _ eD;refine#[_,rZ,_,rZ,D,ts,big l,ys,rZ,ar,wb.same kt,O,λwl o as H3 g3 bi aX Lw aC=>?_];have aD:H3 D=some (.frz o (.dT (fO (big l) ys))):=g3 _ _ cb;have aE:WB H3 D ts (big l) ys:=((wb.same kt).off ar).same g3;have k13:∀{b:Ad} {u:HO},b≠D->bX H1 to (.lst []) b=some u->H3 b=some u:=λnb r=>g3 _ _ (by rw[cf nb];exact r);have Y:H3 to=some (.lst []):=k13 aW cb;have aY:∀{b:Ad} {u:HO},L2.noT H b=some u->b≠D:=λr z=>by
  subst z;rw[nD]at r;cases r
 have aZ:Keeps H H3:=λb u r=>k13 (aY r) (kt _ _ (k1 _ _ r));have T3:Tabs H3:=(T1.same kt).most λb u nd _ r=>k13 (jm r ar λe=>nd _ e) r;have a0:∀d∈cY ts (big l),d≠[]/\∀x∈d,x∈big l:=λd hd=>#[(gZ hd).1,λx hx=>((gZ hd).2.2.2 x hx).1];have aF:(cY ts (big l)).length<=32:=by
  unfold cY;rw[bZ];exact cW (hJ _ _) O
 refine#[D,wl,ts,big l,ys,_,as,rZ,.inr #[o,aD],aE,aX,Lw,a0,JP ts _,aF,λol ag told H4 g4 a1 aG Lo od a2 sub a3=>?_];have lo:=Lo.len;have aH:ol≠to:=(di Y a1).symm;have an:to∉ag:=λz=>by
  obtain⟨j,ej⟩:=dU.mp z;have lj:=(cg.mp ej).1;obtain⟨bs,e,_⟩:=Lo.is j to _ ej (b8 (by rw[<-lo];exact lj));have ec:=iw (show j<told.length by lia);have C:=g4 _ _ Y;rw[e]at C;injection C with C
  injection C with C
  have U:bs=[]:=List.map_eq_nil_iff.mp C;obtain⟨a4,e',a5⟩:=Lo.is j to _ ej (b8 ());rw[e]at e';injection e' with e'
  injection e' with e'
  rw[U]at e';have z3:a4=[]:=List.map_eq_nil_iff.mp e'.symm;have z4:=a5.len;rw[z3]at z4;exact(gZ (sub _ ec)).1 (oo.mp z4.symm)
 have a6:Keeps H H4:=aZ.trans g4.keeps;have T4:=T3.same g4;have aI:=g4 _ _ Y;have aJ:L2.noT H to=none:=by
  cases z:L2.noT H to with
  |none=>rfl
  |some u=>
   have U:=k1 _ _ z;rw[af]at U;cases U
 let Pv:Nat->L2.St->Hp->Prop:=λi σ t=>Keeps H t/\Tabs t/\t ol=some (.lst (ag.map .ref))/\LsAt t ag told/\Rd t D (.dT (fO (big l) ys))/\WB t D ts (big l) ys/\∃ls o3 o4 o5,t to=some (.lst (ls.map .ref))/\LevsAt t to ts l (big l) ys ls (told.take i)/\(∀a∈ls,HX H t a)/\σ=[some (.ref m),some (.ref D),some (.ref to),o3,o4,o5]
 refine#[ol,rZ,#[_,O0 aG],oN (xs:=ag.map .ref) Pv #[a6,T4,aG,Lo,.inr #[o,g4 _ _ aD],aE.same g4,[],none,none,none,aI,#[rZ,λi a c e=>by simp at e],(λ_ h=>nomatch h),rZ] (λi σ t _ p=>O0 p.2.2.1) (λi v σ H5 hv p=>?_) (λσ H5 p=>?_)]
 .obtain⟨k5,T5,ao,au,av,aw,ls,o3,o4,o5,I,aa,ax,rfl⟩:=p;rw[cr]at hv;obtain⟨a,ea,rfl⟩:=da.mp hv;have li:=(cg.mp ea).1;obtain⟨c,ec⟩:∃c,told[i]?=some c:=#[_,b8 ()];obtain⟨bs,ha,Ta⟩:=au.is i a c ea ec;obtain⟨cne,_,cx,call⟩:=gZ (sub c (cH ec));obtain⟨b0,a7,aK,m0⟩:=yD Ta cne;have bj:=Ta.len;have c32:c.length<=32:=by
   rw[(gZ (sub c (cH ec))).2.1];exact cW (hJ _ _) O
  have a8:a≠to:=λz=>an (z▸cH ea);obtain⟨W,ws,wa,dg,wt,tt,ix,ex,ey⟩:=aw.get av cx aK;refine#[_,rZ,a,_,_,_,rZ,rZ,O0 ha,a7,?_];refine#[_,rZ,a,rZ,#[_,O0 ha],iX (xs:=bs.map .ref) (λj ah t=>t=H5/\∃G:As,ah=G.map V.ref/\G.length=j/\(∀b∈G,b∈wa)/\∀(k:Nat) (x:bV) (b:Ad),c[k]?=some x->G[k]?=some b->∃word,(x,word)∈ws/\H5 b=some (.lst (word.map nv))) (by rw[bZ,cS];lia) #[rZ,[],rZ,rZ,λ_ h=>(nomatch h),λk x b _ e=>by simp at e] (λj ah t hi p=>?_) (λj v ah t hv p=>?_) (λah t p J ai=>?_)]
  .obtain⟨rfl,G,rfl,e,_⟩:=p;exact#[O0 ha,by rw[bZ];lia]
  .obtain⟨rfl,G,rfl,e,sb,al⟩:=p;rw[cr]at hv;obtain⟨b,eb,rfl⟩:=da.mp hv;have lj:=(cg.mp eb).1;obtain⟨x,ay⟩:∃x,c[j]?=some x:=#[_,b8 ()];have r:=Ta.is j b x eb ay;obtain⟨_,r1,_⟩:=call x (cH ay);obtain⟨⟨x',u⟩,hp,e'⟩:=cq.mp ((Cy tt x).mpr r1);have B:x'=x:=e';subst B;obtain⟨aL,v1,v2⟩:=wt.word tt.keys hp;have a9:DGet t W (.ref b) (some (.ref aL)):= .inr #[_,nk x',b,.inl wt.dict,rZ,by rw[gO];exact r,v1.symm];refine#[hE,i8 #[_,rZ,_,rZ,D,_,rZ,dg,_,rZ,W,_,rZ,a9,rZ,G++[aL],by simp,by simp[e],λb' aj=>?_,λk x b' L B=>?_]]
   .exact(cM.mp aj).elim (sb b') λh=>by rw[cE.mp h];exact Mp v1
   .by_cases hk:k<G.length
    .rw[eA hk]at B;exact al k x b' L B
    .rw[dZ ()]at B;have z:k-G.length=0:=by
      have:=(cg.mp B).1;simp at this;lia
     rw[z]at B;cases B;have kj:k=j:=by lia
     subst kj;rw[ay]at L;cases L;exact#[u,hp,v2]
  .obtain⟨rfl,G,rfl,ba,sb,al⟩:=p;rw[bZ]at ba;have kw:=cn ai (.lst (G.map V.ref));have aM:J≠to:=(di I ai).symm;have aN:bX t J (.lst (G.map V.ref)) J=some (.lst (G.map V.ref)):=cb;generalize bX t J (.lst (G.map V.ref))=H6 at kw aN|-;have ab:=kw _ _ I;refine#[_,rZ,.inl #[rZ,_,O0 ab],_,rZ,_,rZ,_,rZ,m,b0,ts,n,c.headD [],rZ,(M.keeps k5).same kw,kw _ _ aK,T5.same kw,λtl ds us aO H7 k7 T7 ak bb Td bc bd=>?_];have ef:aO=l:=bc.uniq ff;subst ef;subst bd;have aP:=k7 _ _ (nU ab);have aQ:tl≠to:=λz=>by
    subst z;rw[nU ab]at ak;cases ak
   refine#[_,rZ,by show 3<=sizeLine;decide,λlv be=>?_];have kl:=cn be (.tup [.ref a,.ref tl,.ref J]);have am:bX H7 lv (.tup [.ref a,.ref tl,.ref J]) lv=some (.tup [.ref a,.ref tl,.ref J]):=cb;have kk:Keeps t (bX H7 lv (.tup [.ref a,.ref tl,.ref J])):=(kw.keeps.trans k7).trans kl.keeps;have aR:Keeps H6 (bX H7 lv (.tup [.ref a,.ref tl,.ref J])):=k7.trans kl.keeps;have aq:=kl _ _ bb;have aS:=Td.same kl;have T8:=T7.same kl;have g:=kl _ _ aP;generalize bX H7 lv (.tup [.ref a,.ref tl,.ref J])=H8 at kl am kk aR aq aS T8 g|-;have bf:=aa.len;rw[e9]at bf;refine#[to,_,_,rZ,rZ,g,by rw[bZ,cS];lia,?_];have ae:∀{b:Ad} {u:HO},t b=some u->(∀ps,u≠ .tbl ps)->H8 b=some u:=λr no=>kk _ _ (r6 r no)
   refine#[λb u r=>?_,?_,?_,?_,?_,?_,ls++[lv],_,_,_,by rw[cb,dX];rfl,#[?_,λj a' c' L B=>?_],λa' bg=>?_,rZ]
   .rw[cf λ(z:b=to)=>by subst z;rw[aJ]at r;cases r];exact(k5.trans kk) _ _ r
   .exact T8.most λb' u _ nl aj=>by rw[cf (jm aj g λe=>nl _ e)];exact aj
   .rw[cf aH];exact ae ao λ_ e=>nomatch e
   .exact(au.keeps kk).off g an
   .rcases KG av (λ_ e=>nomatch e) kk with z|⟨o',z⟩
    .exact .inl (by rw[cf (nE z g)];exact z)
    .exact .inr #[o',by rw[cf (nE z g)];exact z]
   .exact(aw.keeps kk).off2 g aA
   .rw[dA,e9];simp only[List.length_singleton];lia
   .have lt':told.take (i+1)=told.take i++[c]:=by rw[g9,ec];rfl
    rw[lt']at B;by_cases hj:j<ls.length
    .rw[eA hj]at L;rw[eA (by rw[e9];lia)]at B;exact((aa.is j a' c' L B).keeps kk).off g
    .rw[dZ ()]at L;rw[dZ (by rw[e9];lia)]at B;have z:j-ls.length=0:=by
      have:=(cg.mp L).1;simp at this;lia
     have z':j-(told.take i).length=0:=by rw[e9];lia
     rw[z]at L;rw[z']at B;cases L;cases B;refine LevAt.off #[a,tl,J,bs,ds,G,ix,(W,ws,wa),am,a8,aQ,aM,λz=>aA _ (cH ey) (sb _ z),ae ha (λ_ e=>nomatch e),lV Ta kk,aq,aS,aR _ _ (nU aN),(),ex,ey,tt,sb,λk x b L B=>?_] g;obtain⟨word,C,U⟩:=al k x b L B;exact#[word,C,ae U λ_ e=>nomatch e]
   .rcases cM.mp bg with z|z
    .obtain⟨s',t',v',C,U⟩:=ax a' z;exact#[s',t',v',(by rw[cf (nE (ae C λ_ e=>nomatch e) g)];exact ae C λ_ e=>nomatch e),U]
    .rw[cE.mp z];refine#[a,tl,J,by rw[cf (nE am g)];exact am,?_,?_,?_]
     .have C:=aC a (a3 a (cH ea));cases y:L2.noT H a with
      |none=>rfl
      |some u=>
       rw[kt _ _ (k1 _ _ y)]at C;cases C
     .cases y:L2.noT H tl with
      |none=>rfl
      |some u=>
       have C:=kw _ _ (k5 _ _ y);rw[r6 C (vC y).2]at ak;cases ak
     .cases y:L2.noT H J with
      |none=>rfl
      |some u=>
       rw[k5 _ _ y]at ai;cases ai
 .obtain⟨k5,T5,ao,au,av,aw,ls,o3,o4,o5,I,aa,ax,rfl⟩:=p;rw[bZ,lo,fN]at aa;exact#[_,rZ,q to ls told l ys H5 k5 T5 aJ I ff od sub a2 aa nw ap ax]
def cF{x y:bV}:sub x y=true↔ ∀r∈x,r∈y:=by
 unfold sub;rw[tu];exact#[λh r a=>f7.mp (h r a),λh r a=>f7.mpr (h r a)]
def FL{n:Nat}{u v:bV}(d:u∈db n)(f:v∈db n)(h:sub u v=true)(ne:u≠v):u.length<v.length:=by
 obtain⟨a,_⟩:=b7.mp d;obtain⟨b,_⟩:=b7.mp f;have s:=cF.mp h;have e:∃z∈List.range 5,u.contains z=false/\v.contains z=true:=by
  refine qo λno=>ne ?_;rw[<-a,<-b];unfold dM;refine u8 λz g=>?_;rw[jt];constructor
  .exact λq=>f7.mpr (s z (f7.mp q))
  .intro q;cases c:u.contains z with
   |true=>rfl
   |false=>exact wC #[z,g,c,q] no
 have z:=DO (xs:=List.range 5) (p:=λi=>u.contains i) (q:=λi=>v.contains i) (λz _ q=>f7.mpr (s z (f7.mp q))) e;rw[CQ,CQ]at z;unfold dM at a b;rw[a,b]at z;exact z
structure TileFacts(fam:LN)(x:bV)(us:LN):Prop where
 mem:∀u∈us,u∈fam/\u≠x/\sub u x=true
 apart:∀u∈us,∀v∈us,u≠v->sub u v=false
 up:us.Pairwise λa b=>iO gl a b=true
 all:∀u∈fam,u≠x->sub u x=true->∃t∈us,sub u t=true
 few:us.length<=32
 few2:fam.length<=32
 l5:∀u∈fam,u.length<=5
def oV{H:Hp}{m:Ad}{q:LN}{n:Nat}{a:LN}(M:Mach H m q n)(i:FamOf q n a)(x:bV):TileFacts a x (jp a x):=by
 have few:=i.few M;have ins:∀u,u∈hZ a x↔u∈a/\u≠x/\sub u x=true:=λu=>by
  unfold hZ;rw[dv,lW,qx]
 have j:∀u,l9 (hZ a x) u=true↔ ∃v∈hZ a x,v≠u/\sub u v=true:=λu=>by
  unfold l9;rw[AI];constructor
  .rintro⟨v,f,b⟩;rw[lW,qx]at b;exact#[v,f,b]
  .rintro⟨v,f,b⟩;exact#[v,f,by rw[lW,qx];exact b]
 have e:∀u,u∈jp a x↔u∈hZ a x/\l9 (hZ a x) u=false:=λu=>by
  unfold jp;rw[dv];refine and_congr Iff.rfl ?_;cases l9 (hZ a x) u<;>simp
 have s:∀u∈a,u.length<=5:=λu h=>cW (sq M.n5 (i.inU M h)) M.n5;have k:∀(d:Nat) (u:bV),u∈hZ a x->5-u.length<=d->∃t∈jp a x,sub u t=true:=by
  intro d
  induction d with
  | zero=>
   intro u g w;cases c:l9 (hZ a x) u with
   |false=>exact#[u,(e u).mpr #[g,c],cF.mpr λr o=>o]
   |true=>
    obtain⟨v,l,f,b⟩:=(j u).mp c;have:=FL (i.inU M ((ins u).mp g).1) (i.inU M ((ins v).mp l).1) b (eC f)
    have:=s v ((ins v).mp l).1;lia
  | succ d y=>
   intro u g w;cases c:l9 (hZ a x) u with
   |false=>exact#[u,(e u).mpr #[g,c],cF.mpr λr o=>o]
   |true=>
    obtain⟨v,l,f,b⟩:=(j u).mp c;have:=FL (i.inU M ((ins u).mp g).1) (i.inU M ((ins v).mp l).1) b (eC f)
    obtain⟨t,ht,p⟩:=y v l ();exact#[t,ht,cF.mpr λr o=>cF.mp p r (cF.mp b r o)]
 refine#[λu g=>(ins u).mp ((e u).mp g).1,λu g v l ne=>?_,?_,λu f b p=>k 5 u ((ins u).mpr #[f,b,p]) (),?_,few,s]
 .cases c:sub u v with
  |false=>rfl
  |true=>
   have z:=(j u).mpr #[v,((e v).mp l).1,eC ne,c];rw[((e u).mp g).2]at z;cases z
 .exact(i.up.filter _).filter _
 .exact cW (hJ _ _) (cW (hJ _ _) few)
def Mm(x:bV):iO gl x x=false:=(qk gl [x]).irr x
def u7{K:O2}{H:Hp}{fs:As}{b:LN}{n:Nat}(T:TupsAt H fs b)(i:Nat)(d:Dt)(v:V)(c:(b.map λu=>Dt.tup (fS u))[i]?=some d)(e:(fs.map V.ref)[i]?=some v):Rep K H (n+1) d v:=by
 rw[cr]at c e;obtain⟨p,f,rfl⟩:=da.mp c;obtain⟨a,g,rfl⟩:=da.mp e;exact fQ (O1 (T.is i a p g f))
def IY{u:bV}{a:LN}:Dt.tup (fS u)∈a.map (λu=>Dt.tup (fS u))↔u∈a:=by
 rw[cq];constructor
 .rintro⟨v,c,b⟩;injection b with b
  rw[<-CK b];exact c
 .exact λh=>#[u,h,rZ]
def jq(f:Nat->Nat):Nat->Nat->Nat
 |0,r=>r
 |k+1,r=>jq f k (f r)
theorem CN(f:Nat->Nat):∀(a b r:Nat),jq f (a+b) r=jq f b (jq f a r)
 |0,b,r=>by rw[ot];rfl
 |a+1,b,r=>by
  rw[Nat.add_right_comm];exact CN f a b (f r)
theorem uX{f:Nat->Nat}{d r:Nat}(h:jq f d r=r):∀k,jq f (d * k) r=r
 |0=>rfl
 |k+1=>by rw[Nat.mul_succ,CN,uX h k,h]
def Bf(a:LN)(r:Nat)(u v:bV):d9 a r (u++v)=d9 a (d9 a r u) v:=by
 unfold d9;rw[kg]
def pI(u:bV):Nat->List Nat
 |0=>[]
 |k+1=>u++pI u k
theorem Ej(a:LN)(u:bV):∀(k r:Nat),d9 a r (pI u k)=jq (λr=>d9 a r u) k r
 |0,_=>rfl
 |k+1,r=>by
  show d9 a r (u++pI u k)=_;rw[Bf,Ej a u k];rfl
theorem Ii{u:bV}{l:Nat}:∀{k:Nat},l∈pI u k->l∈u
 |0,h=>nomatch h
 |k+1,h=>(cM.mp h).elim id Ii
def iK(a:LN)(x u v:bV):cw (ck a) x (u++v)=cw (ck a) (cw (ck a) x u) v:=by
 unfold cw;rw[kg]
def zB{n:Nat}{x y:bV}(a:x∈db n)(b:y∈db n)(h:∀r,r∈x↔r∈y):x=y:=by
 rw[<-(b7.mp a).1,<-(b7.mp b).1];exact HK h
def Fg{n:Nat}{x:bV}(a:x∈db n):x.Nodup:=by
 rw[<-(b7.mp a).1];unfold dM;exact List.Nodup.sublist CH List.nodup_range
def jj{H:Hp}{m:Ad}{b:LN}{n:Nat}(M:Mach H m b n){x word:bV}(d:x∈db n)(hw:∀l∈word,l<b.length){r:Nat}:r∈cw (ck b) x word↔ ∃a∈x,d9 b a word=r:=by
 have f:=M.n5;rw[zK M word x d hw];constructor
 .intro h;obtain⟨a,c,e⟩:=cq.mp (yE h);exact#[a,c,e]
 .rintro⟨a,c,rfl⟩;have:=oh M word a ((b7.mp d).2 a c) hw;exact Ik (cq.mpr #[a,c,rZ]) ()
def mO{H:Hp}{m:Ad}{a:LN}{n:Nat}(M:Mach H m a n){x word:bV}(b:x∈db n)(hw:∀l∈word,l<a.length):cw (ck a) x word∈db n:=nS b (λy c l d=>BY M c d) word hw
structure Bij(ts:LN)(x y w p:bV):Prop where
 to:cw (ck ts) x w=y
 fro:cw (ck ts) y p=x
 lw:∀l∈w,l<ts.length
 lp:∀l∈p,l<ts.length
 here:∀r∈x,d9 ts (d9 ts r w) p=r
 there:∀r∈y,d9 ts (d9 ts r p) w=r
def Bij.symm{a:LN}{x y w p:bV}(b:Bij a x y w p):Bij a y x p w:=#[b.fro,b.to,b.lp,b.lw,b.there,b.here]
def IF{x:bV}{f:Nat->Nat}(nd:x.Nodup)(i:∀r∈x,∃c∈x,f c=r):∀a∈x,∀b∈x,f a=f b->a=b:=λa d b j e=>by
 by_cases ne:a=b
 .exact ne
 have z:=rY (l₂:=(x.erase a).map f) nd λr k=>by
  obtain⟨c,l,g⟩:=i r k;by_cases h:c=a
  .exact cq.mpr #[b,(List.mem_erase_of_ne (eC ne)).mpr j,by rw[<-e,<-h,g]]
  .exact cq.mpr #[c,(List.mem_erase_of_ne h).mpr l,g]
 rw[bZ,List.length_erase_of_mem d]at z;have:=xr d;lia
theorem CB{x:bV}{f:Nat->Nat}(a:∀r∈x,f r∈x):∀(k r:Nat),r∈x->jq f k r∈x
 |0,_,h=>h
 |k+1,r,h=>CB a k (f r) (a r h)
theorem F0{x:bV}{f:Nat->Nat}(c:∀r∈x,f r∈x)(inj:∀a∈x,∀b∈x,f a=f b->a=b):∀(k:Nat),∀a∈x,∀b∈x,jq f k a=jq f k b->a=b
 |0,_,_,_,_,e=>e
 |k+1,a,d,b,g,e=>inj a d b g (F0 c inj k (f a) (c a d) (f b) (c b g) e)
def xw{x:bV}{f:Nat->Nat}(p:x.length<=5)(g:∀r∈x,f r∈x)(inj:∀a∈x,∀b∈x,f a=f b->a=b)(r:Nat)(k:r∈x):jq f 60 r=r:=by
 have:∃d,1<=d/\d<=5/\jq f d r=r:=by
  by_cases h:∃i j,i<j/\j<=5/\jq f i r=jq f j r
  .obtain⟨i,j,l,m,c⟩:=h;refine#[j-i,(),(),?_];have e:j=(j-i)+i:=by lia
   rw[e,CN]at c;exact(F0 g inj i r k _ (CB g (j-i) r k) c).symm
  .have nd:((List.range 6).map λi=>jq f i r).Nodup:=by
    rw[List.nodup_iff_pairwise_ne,sw];refine List.Pairwise.imp_of_mem ?_ vy;intro i j q n lt e;exact h #[i,j,lt,by have:=eU.mp n;lia,e]
   have z:=rY (l₂:=x) nd λy o=>by
    obtain⟨i,_,rfl⟩:=cq.mp o;exact CB g i r k
   rw[bZ,mz]at z;lia
 obtain⟨d,l,m,c⟩:=this;have:d=1\/d=2\/d=3\/d=4\/d=5:=by lia
 rcases this with rfl|rfl|rfl|rfl|rfl
 .exact uX c 60
 .exact uX c 30
 .exact uX c 20
 .exact uX c 15
 .exact uX c 12
def Bl{H:Hp}{m:Ad}{a:LN}{n:Nat}(M:Mach H m a n){x y w:bV}(b:x∈db n)(i:∀l∈w,l<a.length)(e:cw (ck a) x w=y)(back:Rch a y x):∃p,Bij a x y w p:=by
 obtain⟨v,q,A⟩:=back;have s:y∈db n:=by rw[<-e];exact mO M b i
 have d:∀l∈w++v,l<a.length:=λl o=>(cM.mp o).elim (i l) (q l);have t:cw (ck a) x (w++v)=x:=by rw[iK,e,A]
 have B:∀r∈x,d9 a r (w++v)∈x:=λr c=>by
  have z:=(jj M b d).mpr #[r,c,rZ];rw[t]at z;exact z
 have C:∀r∈x,∃j∈x,d9 a j (w++v)=r:=λr c=>(jj M b d).mp (by rw[t];exact c);have inj:=IF (Fg b) C;have D:=xw (f:=λr=>d9 a r (w++v)) (cW (sq M.n5 b) M.n5) B inj;have here:∀r∈x,d9 a (d9 a r w) (v++pI (w++v) 59)=r:=λr c=>by
  rw[<-Bf,<-fY,Bf,Ej];exact D r c
 have lp:∀l∈v++pI (w++v) 59,l<a.length:=λl o=>(cM.mp o).elim (q l) λh=>d l (Ii h);have g:∀r∈y,d9 a (d9 a r (v++pI (w++v) 59)) w=r:=λr c=>by
  rw[<-e]at c;obtain⟨j,k,rfl⟩:=(jj M b i).mp c;rw[here j k]
 refine#[v++pI (w++v) 59,e,zB (mO M s lp) b λr=>?_,i,lp,here,g];rw[jj M s lp];constructor
 .rintro⟨j,k,rfl⟩;rw[<-e]at k;obtain⟨E,u,rfl⟩:=(jj M b i).mp k;rw[here E u];exact u
 .intro h;exact#[d9 a r w,by rw[<-e];exact(jj M b i).mpr #[r,h,rZ],here r h]
def Bij.back{H:Hp}{m:Ad}{a:LN}{n:Nat}(M:Mach H m a n){x y w p u:bV}(b:Bij a x y w p)(c:u∈db n)(s:sub u x=true):cw (ck a) (cw (ck a) u w) p=u:=by
 have d:=cF.mp s;have e:=mO M c b.lw;refine zB (mO M e b.lp) c λr=>?_;rw[jj M e b.lp];constructor
 .rintro⟨i,h,rfl⟩;obtain⟨f,g,rfl⟩:=(jj M c b.lw).mp h;rw[b.here f (d f g)];exact g
 .intro z;exact#[d9 a r w,(jj M c b.lw).mpr #[r,z,rZ],b.here r (d r z)]
def DI{H:Hp}{m:Ad}{a:LN}{n:Nat}(M:Mach H m a n){u v w:bV}(d:u∈db n)(e:v∈db n)(b:∀l∈w,l<a.length)(s:sub u v=true):sub (cw (ck a) u w) (cw (ck a) v w)=true:=by
 refine cF.mpr λr f=>?_;obtain⟨c,g,rfl⟩:=(jj M d b).mp f;exact(jj M e b).mpr #[c,cF.mp s c g,rZ]
def AY{H:Hp}{m:Ad}{b:LN}{n:Nat}{a:LN}(M:Mach H m b n)(f:FamOf b n a){u w:bV}(g:u∈a)(c:∀l∈w,l<b.length):cw (ck b) u w∈a:=by
 have d:=M.n5;refine(f.mem _).mpr ?_
 rcases (f.mem u).mp g with⟨h,i,j⟩|⟨r,e,rfl⟩
 .refine .inl #[h++w,λl k=>(cM.mp k).elim (i l) (c l),?_];rw[iK,j]
 .have lt:=oh M w r e c;refine .inr #[d9 b r w,lt,zB (mO M (xS d e) c) (xS d lt) λp=>?_];rw[jj M (xS d e) c];constructor
  .rintro⟨q,o,rfl⟩;rw[cE.mp o];exact cE.mpr rfl
  .intro z;exact#[r,cE.mpr rZ,(cE.mp z).symm]
def Kh{n:Nat}{u v:bV}(c:u∈db n)(d:v∈db n)(a:sub u v=true)(b:sub v u=true):u=v:=zB c d λr=>#[cF.mp a r,cF.mp b r]
def Jg{u v w:bV}(a:sub u v=true)(b:sub v w=true):sub u w=true:=cF.mpr λr c=>cF.mp b r (cF.mp a r c)
def Ci{H:Hp}{m:Ad}{h:LN}{n:Nat}{a:LN}(M:Mach H m h n)(d:FamOf h n a){x u:bV}:u∈jp a x↔u∈a/\u≠x/\sub u x=true/\∀v∈a,v≠x->sub v x=true->sub u v=true->v=u:=by
 have b:=oV M d x;constructor
 .intro i;obtain⟨c,f,g⟩:=b.mem u i;refine#[c,f,g,λv j l o k=>?_];obtain⟨t,ht,st⟩:=b.all v j l o;have p:u=t:=by
   by_cases e:u=t
   .exact e
   .have z:=b.apart u i t ht e;rw[Jg k st]at z;cases z
  subst p;exact Kh (d.inU M j) (d.inU M c) st k
 .rintro⟨c,f,g,q⟩;obtain⟨t,ht,st⟩:=b.all u c f g;obtain⟨r,s,w⟩:=b.mem t ht;rw[<-q t r s w st];exact ht
def zG{H:Hp}{m:Ad}{a:LN}{n:Nat}{c:LN}(M:Mach H m a n)(d:FamOf a n c){x y w p u:bV}(j:x∈db n)(b:Bij a x y w p)(o:u∈jp c x):cw (ck a) u w∈jp c y:=by
 obtain⟨k,q,h,r⟩:=(Ci M d).mp o;have s:y∈db n:=by rw[<-b.to];exact mO M j b.lw
 have f:=d.inU M k;have gU:=mO M f b.lw;have t:sub (cw (ck a) u w) y=true:=by
  have z:=DI M f j b.lw h;rw[b.to]at z;exact z
 refine(Ci M d).mpr #[AY M d k b.lw,λe=>q ?_,t,λv l A i B=>?_]
 .rw[<-b.back M f h,e,b.fro]
 .have g:=d.inU M l;have bs:=b.symm;have C:=AY M d l b.lp;have D:cw (ck a) v p≠x:=λe=>A (by rw[<-bs.back M g i,e,b.to]);have E:sub (cw (ck a) v p) x=true:=by
   have z:=DI M g s b.lp i;rw[b.fro]at z;exact z
  have G:sub u (cw (ck a) v p)=true:=by
   have z:=DI M gU g b.lp B;rw[b.back M f h]at z;exact z
  rw[<-bs.back M g i,r _ C D E G]
def LvH(H:Hp)(a:Ad)(c g:LN)(d:LN):Prop:=∃(s t v:Ad) (bs ds e:As),H a=some (.tup [.ref s,.ref t,.ref v])/\H s=some (.lst (bs.map .ref))/\TupsAt H bs c/\H t=some (.lst (ds.map .ref))/\TupsAt H ds g/\H v=some (.lst (e.map .ref))/\e.length=d.length/\∀(k:Nat) (b:Ad) (f:bV),e[k]?=some b->d[k]?=some f->H b=some (.lst (f.map nv))
def LvH.same{H e:Hp}{a:Ad}{c f d:LN}(h:LvH H a c f d)(g:Same H e):LvH e a c f d:=by
 obtain⟨s,t,v,bs,ds,i,j,l,m,n,o,p,q,r⟩:=h;exact#[s,t,v,bs,ds,i,g _ _ j,g _ _ l,m.same g,g _ _ n,o.same g,g _ _ p,q,λk b u w x=>g _ _ (r k b u w x)]
structure LvP(ts fam:LN)(c us wds:LN):Prop where
 cls:c∈cY ts (big fam)
 tl:us=jp fam (c.headD [])
 len:wds.length=c.length
 go:∀(k:Nat) (x wd:bV),c[k]?=some x->wds[k]?=some wd->(∀l∈wd,l<ts.length)/\cw (ck ts) (c.headD []) wd=x
inductive jy(g:List V)(H:Hp)(Q:VK)(d:XK):Prop|mk:∀(m a:Ad) (k j:Nat) (e:LN) (n:Nat) (c h b:LN) (u f:bV),g=[.ref m,.ref a,nv k,nv j]->Mach H m e n->LvH H a c h b->h[j]?=some u->b[k]?=some f->u∈db n->(∀l∈f,l<e.length)->xt H ((cw (ck e) u f).map nv) Q->jy g H Q d
inductive eM(i:List V)(H:Hp)(Q:VK)(f:XK):Prop|mk:∀(m a:Ad) (k:Nat) (g:LN) (n:Nat) (c d b:LN) (h:bV),i=[.ref m,.ref a,nv k]->Mach H m g n->LvH H a c d b->b[k]?=some h->(∀u∈d,u∈db n)->d.length<=32->(∀l∈h,l<g.length)->(∀l j e,Same H e->e l=some (.lst (j.map .ref))->TupsAt e j (d.map λu=>cw (ck g) u h)->Q (.ref l) e)->eM i H Q f
def j8(a b:LN)(g c:bV)(l:Nat)(d:bV):Prop:=d.length=b.length/\∀(j:Nat) (u:bV) (e:Nat),b[j]?=some u->d[j]?=some e->∃f,b[e]?=some f/\cw (ck a) f c=ck a (cw (ck a) u g) l
inductive fy(j:List V)(H:Hp)(Q:VK)(h:XK):Prop|mk:∀(m a:Ad) (k l:Nat) (d:LN) (n:Nat) (f c i b:LN) (x o:bV),j=[.ref m,.ref a,nv k,nv l]->Mach H m d n->FamOf d n f->LvH H a c i b->LvP d f c i b->c[k]?=some x->b[k]?=some o->l<d.length->((ck d x l∉c->∀e,Same H e->Q .non e))->(∀(q:Nat) (g:bV),c[q]?=some (ck d x l)->b[q]?=some g->∀p r e,Same H e->e p=some (.tup (r.map nv))->j8 d i o g l r->Q (.ref p) e)->fy j H Q h
theorem Cq{b:Type}{d:b}:∀{ds:List b},d∈ds->∃j:Nat,ds[j]?=some d/\∀i:Nat,i<j->ds[i]? ≠some d
 | [],h=>nomatch h
 | e::ds,h=>by
  by_cases z:e=d
  .exact#[0,by rw[z];rfl,λi c=>wC c (mh i)]
  .obtain⟨j,f,g⟩:=Cq (ds:=ds) ((dq.mp h).resolve_left λa=>z a.symm);refine#[j+1,f,λi c=>?_];cases i with
   |zero=>exact λa=>z (by injection a)
   |succ i=>exact g i ()
def iD{u:bV}{a:LN}:Dt.tup (fS u)∈a.map (λu=>Dt.tup (fS u))↔u∈a:=IY
def fP{u:bV}{a:LN}{j:Nat}:(a.map λu=>Dt.tup (fS u))[j]?=some (Dt.tup (fS u))↔a[j]?=some u:=by
 rw[cr];constructor
 .intro h;obtain⟨v,c,b⟩:=da.mp h;injection b with b
  rw[<-CK b];exact c
 .intro h;rw[h];rfl
def LvP.bij{H:Hp}{m:Ad}{d:LN}{n:Nat}{a c g b:LN}(M:Mach H m d n)(h:FamOf d n a)(lp:LvP d a c g b){k:Nat}{x e:bV}(f:c[k]?=some x)(i:b[k]?=some e):∃p,Bij d (c.headD []) x e p:=by
 obtain⟨_,_,j,call⟩:=gZ lp.cls;obtain⟨l,o⟩:=lp.go k x e f i;exact Bl M (h.inU M (dv.mp j).1) l o (call x (cH f)).2.2
def KD{H:Hp}{m:Ad}{a:LN}{n:Nat}{d c h e:LN}(M:Mach H m a n)(b:FamOf a n d)(lp:LvP a d c h e){k r l:Nat}{x i f:bV}(s:c[k]?=some x)(C:e[k]?=some i)(D:l<a.length)(t:c[r]?=some (ck a x l))(j:e[r]?=some f){u:bV}(E:u∈h):ck a (cw (ck a) u i) l∈h.map λu=>cw (ck a) u f:=by
 obtain⟨_,_,G,call⟩:=gZ lp.cls;have I:=b.inU M (dv.mp G).1;obtain⟨p,J⟩:=lp.bij M b s C;obtain⟨p',v⟩:=lp.bij M b t j;obtain⟨L,o,N⟩:=call x (cH s);obtain⟨O,Q,q⟩:=call _ (cH t);have y:=b.inU M (dv.mp L).1;have T:=b.inU M (dv.mp O).1;obtain⟨p2,U⟩:=Bl M (w:=[l]) y (λz Y=>by rw[cE.mp Y];exact D) rZ (q.trans o);have g:=E;rw[lp.tl]at g;have t1:=zG M b I J g;have A:ck a (cw (ck a) u i) l∈jp d (ck a x l):=zG M b y U t1;obtain⟨f1,f2,f3,_⟩:=(Ci M b).mp A;have B:=zG M b T v.symm A;rw[<-lp.tl]at B;exact cq.mpr #[_,B,v.symm.back M (b.inU M f1) f3]
def LvP.nd{h:LN}{n:Nat}{d c i f:LN}(j:FamOf h n d)(lp:LvP h d c i f):c.Nodup:=by
 have g:d.Nodup:=j.up.imp λ{a b} z e=>by
  subst e;rw[(qk gl d).irr]at z;cases z
 rw[(gZ lp.cls).2.1];exact List.Nodup.sublist (CH.trans CH) g
def LvP.inU{H:Hp}{m:Ad}{b:LN}{n:Nat}{a c d e:LN}(M:Mach H m b n)(g:FamOf b n a)(lp:LvP b a c d e):(∀u∈d,u∈db n)/\d.length<=32:=by
 have f:=oV M g (c.headD []);rw[<-lp.tl]at f;exact#[λu h=>g.inU M (f.mem u h).1,f.few]
def Lq(F:Fun K "tile" "tile" CS f fd)(C:cT P w K mg base tX 3 [sA,sB,tH] (dm K)):FnOk P w K mg base cL 5 f fd [sA,sE,"k","j"] jy:=by
 refine F.ok Lp (λD A e s H vs Q E l h=>?_)
 obtain⟨m,a,k,j,G,n,c,us,I,u,g,rfl,M,J,o,r,i,t,q⟩:=h;have hu:=l.units;obtain⟨s',L,N,bs,O,T,v,h2,h3,U,x,Y,h7,h8⟩:=J;have l5:=x.len;have lj:=(cg.mp o).1;have lk:=(cg.mp r).1;obtain⟨d,y⟩:∃d,O[j]?=some d:=#[_,b8 ()];obtain⟨b,z⟩:∃b,T[k]?=some b:=#[_,b8 ()];have hd:=x.is j d u y o;have hb:=h8 k b g z r;refine#[_,(cG (dF (cX C l.m rZ (c7 (ci (pv 0) (ci (dE h9 (dE fb (pv 1) cU (λ_ _=>rfl)) (pv 3) (λ_ _=>rfl)) (ci (dE h9 (dE fb (pv 1) cU (λ_ _=>rfl)) (pv 2) (λ_ _=>rfl)) cZ rZ) rZ) rZ))))),?_];refine#[_,rZ,_,rZ,a,_,_,_,rZ,rZ,O1 v,rZ,_,rZ,L,_,_,_,rZ,rZ,O0 U,j6 (by rw[cr,y];rfl),_,rZ,a,_,_,_,rZ,rZ,O1 v,rZ,_,rZ,N,_,_,_,rZ,rZ,O0 Y,j6 (by rw[cr,z];rfl),m,d,b,G,n,u,g,rZ,M,O1 hd,cW (sq M.n5 i) M.n5,(b7.mp i).2,O0 hb,t,λp H2 g2 B=>?_];rw[<-zK M g u i t]at B;exact q p H2 g2 B
def K6(F:Fun K tZ tZ Al f fd)(L:cT P w K mg base "tile" 5 [sA,sE,"k","j"] jy)(O:mg "len"=none)(T:mg "range"=none):FnOk P w K mg base cL 7 f fd [sA,sE,"k"] eM:=by
 refine F.ok II (λU A t s H vs Q E B h=>?_)
 obtain⟨m,a,k,C,n,c,j,v,D,rfl,M,G,Y,uU,few,lw,q⟩:=h;have hu:=B.units;obtain⟨s',t',v',bs,ds,cs,h1,h2,h3,h4,h5,h6,h7,h8⟩:=id G;have l5:=h5.len;refine#[_,(cG (dF (gX (CompSc.to (N:=[sA,sE,"k"]) (osc:=cz Al) (vs:=["j"]) {}) rZ rZ (nJ rZ T (cu (dY fF rZ O fe (cu (dE fb (pv 1) cU (λ_ _=>rfl)) cj)) cj)) (λ_ _ _ _=>gQ) (λ_ _ _ _=>(cX L B.m rZ (c7 (ci (pv 1) (ci (pv 2) (ci (pv 3) (ci (pv 0) cZ rZ) rZ) rZ) rZ))))))),?_];refine#[_,rZ,a,_,_,_,rZ,rZ,O1 h1,rZ,t',_,rZ,.inl (O0 h4),(j.length:Int),by rw[bZ,l5],(),(),xT (λi l o=>Same H o/\∃d,l=d.map V.ref/\d.length=i/\TupsAt o d ((j.take i).map λu=>cw (ck C) u D)) (by rw[iI];exact small ()) #[Same.refl _,[],rZ,rZ,rZ,λi b u e=>by simp at e] (λi l o _ p=>?_) (λi l o hi p=>?_) (λl H1 p sg x=>?_)]
 .obtain⟨_,d,rfl,e,_⟩:=p;rw[bZ];lia
 .obtain⟨g,d,rfl,e,r⟩:=p;have e0:V.int (0+(i:Int))=nv i:=by show V.int (0+(i:Int))=V.int (i:Int);rw[pZ]
  have y:i<j.length:=by simpa using hi
  obtain⟨u,z⟩:∃u,j[i]?=some u:=#[_,b8 y];rw[e0];refine#[hE,i8 #[_,rZ,_,rZ,_,rZ,_,rZ,m,a,k,i,C,n,c,j,v,u,D,rZ,M.same g,G.same g,z,Y,uU u (cH z),lw,λp H2 I e2=>?_]];refine#[g.trans I,d++[p],by simp,by simp[e],?_];rw[g9,z,dX];exact rf (r.same I) e2
 obtain⟨g1,d,rfl,er,r⟩:=p;rw[iI,fN]at r;have J:=cn x (.lst (d.map V.ref));exact q sg d _ (g1.trans J) cb (r.same J)
def Jo(F:Fun K uA uA zm f fd)(jF:cT P w K mg base tX 3 [sA,sB,tH] (dm K))(jG:cT P w K mg base tZ 7 [sA,sE,"k"] eM)(jC:mg "tuple"=none):FnOk P w K mg base cL 9 f fd [sA,sE,"k",sP] fy:=by
 refine F.ok kM (λay A an s H vs Q E hr h=>?_)
 obtain⟨m,a,k,l,o,n,ao,c,us,J,x,wd,rfl,M,ff,lv,lp,ex,ew,ll,q1,q2⟩:=h;have hu:=hr.units;obtain⟨s',t',v',bs,ds,cs,h1,h2,h3,h4,h5,h6,h7,h8⟩:=id lv;obtain⟨cne,az,cx,call⟩:=gZ lp.cls;have lb:=h3.len;have lk:=(cg.mp ex).1;obtain⟨b,eb⟩:∃b,bs[k]?=some b:=#[_,b8 ()];have hb:=h3.is k b x eb ex;have ab:∀y∈big ao,y∈db n:=λy hy=>ff.inU M (dv.mp hy).1;have mx:=cH ex;have hU:=ab x (call x mx).1;refine#[_,(cD (dC (i:=4) kM.nd rZ Z' (cX jF hr.m rZ (c7 (ci (pv 0) (ci (dE h9 (dE fb (pv 1) cU (λ_ _=>rfl)) (pv 2) (λ_ _=>rfl)) (ci (iA (cu (pv 3) cj)) cZ rZ) rZ) rZ)))) (cD (gM (fM (D5 hu) (pv 4) (dE fb (pv 1) cU (λ_ _=>rfl)) (by with_unfolding_all rfl)) (cG (dF qb)) gV) (cD (dC (i:=5) kM.nd rZ Z0 (cX jG hr.m rZ (c7 (ci (pv 0) (ci (pv 1) (ci (lK lX ye Ao (yu hu) (dE fb (pv 1) cU (λ_ _=>rfl)) (cu (pv 4) cj)) cZ rZ) rZ) rZ)))) (cG (dF (gk n9 rZ jC mW (cu (gX (CompSc.to (N:=[sA,sE,"k",sP,"there","ends"]) (osc:=cz zm) (vs:=["part"]) {}) rZ rZ (fZ (cX jG hr.m rZ (c7 (ci (pv 0) (ci (pv 1) (ci (pv 2) cZ rZ) rZ) rZ)))) (λ_ _ _ _=>gQ) (λ_ _ _ _=>(Fo (K:=K) gj rZ (lK lX ye Ao (yu hu) (pv 6) (cu (cX jF hr.m rZ (c7 (ci (pv 1) (ci (pv 0) (ci (iA (cu (pv 4) cj)) cZ rZ) rZ) rZ))) cj))))) cj))))))),?_];obtain⟨uU,few⟩:=lp.inU M ff;have ae:=(lp.go k x wd ex ew).1;have l1:∀z∈[l],z<o.length:=λz hz=>by rw[cE.mp hz];exact ll
 refine#[_,rZ,_,rZ,a,_,_,_,rZ,rZ,O1 h1,rZ,_,rZ,s',_,_,_,rZ,rZ,O0 h2,j6 (by rw[cr,eb];rfl),_,rZ,by show 1<=sizeLine;decide,λp1 L=>?_];have G:=cn L (.lst [nv l]);refine#[m,b,p1,o,n,x,[l],rZ,M.same G,O1 (G _ _ hb),cW (sq M.n5 hU) M.n5,(b7.mp hU).2,O0 cb,l1,λth H2 ap I=>?_];have B:=G.trans ap;have O:H2 th=some (.tup ((ck o x l).map nv)):=I;generalize hy:ck o x l=y at O q1 q2;have T:=B _ _ h2;refine#[_,rZ,_,rZ,a,_,_,_,rZ,rZ,O1 (B _ _ h1),rZ,s',1,.tup (fS y),c.map λu=>Dt.tup (fS u),_,rZ,O0 T,by rw[bZ,bZ,lb],fQ (O1 O),u7 (h3.same B),by decide,λcc hc=>#[_,rZ,?_]];by_cases my:y∈c
 .have U:cc=true:=hc.mpr (iD.mpr my);subst U;refine fv ?_;obtain⟨k',ey,no⟩:=Cq my;have aq:=(cg.mp ey).1;obtain⟨q,C⟩:∃q,J[k']?=some q:=#[_,b8 (by rw[lp.len];exact aq)];have af:=(lp.go k' y q ey C).1;refine#[_,rZ,_,rZ,_,rZ,a,_,_,_,rZ,rZ,O1 (B _ _ h1),rZ,.inl #[rZ,_,O0 T],_,rZ,s',_,1,.tup (fS y),c.map λu=>Dt.tup (fS u),_,k',rZ,rZ,O0 T,by rw[bZ,bZ,lb],fQ (O1 O),u7 (h3.same B),by decide,fP.mpr ey,λi hi e=>no i hi (fP.mp e),?_];refine#[m,a,k',o,n,c,us,J,q,rZ,M.same B,lv.same B,C,uU,few,af,λen es H3 ar ag ah=>?_];have g3:=B.trans ar;have len:=ah.len;rw[bZ]at len;refine#[_,rZ,_,rZ,_,rZ,m,a,k,o,n,c,us,J,wd,rZ,M.same g3,lv.same g3,ew,uU,few,ae,λpl ps H4 Y ai aj=>?_];have g4:=g3.trans Y;have as:=aj.len;rw[bZ]at as;refine#[pl,rZ,#[_,O0 ai],iX (xs:=ps.map .ref) (λi D H'=>Same H4 H'/\∃t:bV,D=t.map nv/\t.length=i/\∀(j:Nat) (u:bV) (j':Nat),us[j]?=some u->t[j]?=some j'->∃u',us[j']?=some u'/\cw (ck o) u' q=ck o (cw (ck o) u wd) l) (by rw[bZ,cS];lia) #[Same.refl _,[],rZ,rZ,λj u j' _ e=>by simp at e] (λi D H' hi p=>?_) (λi v D H' hv p=>?_) (λD H5 p tl au=>?_)]
  .obtain⟨g,t,rfl,e,_⟩:=p;exact#[O0 (g _ _ ai),by rw[bZ];lia]
  .obtain⟨g,t,rfl,e,al⟩:=p;rw[cr]at hv;obtain⟨d,ed,rfl⟩:=da.mp hv;have li:=(cg.mp ed).1;obtain⟨u,eu⟩:∃u,us[i]?=some u:=#[_,b8 ()];have mu:=cH eu;have hd:=g _ _ (aj.is i d _ ed (by rw[cr,eu];rfl));have ak:=mO M (uU u mu) ae;have gH:=g4.trans g;refine#[hE,i8 #[_,rZ,.inl #[rZ,_,O0 ((Y.trans g) _ _ ag)],_,rZ,_,rZ,_,rZ,by show 1<=sizeLine;decide,λp1 L=>?_]];have G:=cn L (.lst [nv l]);refine#[m,d,p1,o,n,_,[l],rZ,M.same (gH.trans G),O1 (G _ _ hd),cW (sq M.n5 ak) M.n5,(b7.mp ak).2,O0 cb,l1,λca H6 am e6=>?_];have av:H6 ca=some (.tup ((ck o (cw (ck o) u wd) l).map nv)):=e6;have g6:=(Y.trans g).trans (G.trans am);have mi:=KD M ff lp ex ew ll (by rw[hy];exact ey) C mu;obtain⟨j0,aa,aw⟩:=Cq mi;refine#[en,_,1,.tup (fS (ck o (cw (ck o) u wd) l)),(us.map λu=>cw (ck o) u q).map λu=>Dt.tup (fS u),_,j0,rZ,rZ,O0 (g6 _ _ ag),by rw[bZ,bZ,bZ,len],fQ (O1 av),u7 (ah.same g6),by decide,fP.mpr aa,λi hi e=>aw i hi (fP.mp e),?_];refine#[g.trans (G.trans am),t++[j0],by simp,by simp[e],λj u2 j' e1 I=>?_];by_cases hj:j<t.length
   .rw[eA hj]at I;exact al j u2 j' e1 I
   .rw[dZ ()]at I;have z:j-t.length=0:=by
     have:=(cg.mp I).1;simp at this;lia
    rw[z]at I;cases I;have ji:j=i:=by lia
    subst ji;rw[eu]at e1;cases e1;rw[cr]at aa;obtain⟨u',f1,f2⟩:=da.mp aa;exact#[u',f1,f2]
  .obtain⟨g5,t,rfl,ej,al⟩:=p;rw[bZ]at ej;have kt:=cn au (.lst (t.map nv));refine#[tl,_,rZ,.inl #[O0 cb,λr ax=>?_]];have kr:=cn ax (.tup (t.map nv));exact q2 k' q ey C r t _ (((g4.trans g5).trans kt).trans kr) cb #[(),al]
 .have U:cc=false:=by
   cases cc with
   |false=>rfl
   |true=>exact wC (iD.mp (hc.mp rZ)) my
  subst U;exact gA (q1 my H2 B)
def C0:(dQ[0]'(by decide))∈dQ:=iw _
def DS:(dQ[1]'(by decide))∈dQ:=iw _
def dy(t u:bV):bV:=dM (u.map λr=>t.getD r 0)
def iC{a:bV}{r:Nat}:r∈dM a↔r<5/\r∈a:=by
 unfold dM;rw[dv,eU,f7]
def N5{a b:bV}(h:∀r,r∈a↔r∈b):dM a=dM b:=by
 unfold dM;refine u8 λi _=>?_;rw[jt,f7,f7];exact h i
def Mt{f:Nat->Nat}{n r:Nat}(h:r<n):((List.range n).map f).getD r 0=f r:=by
 rw[cP,cr,ko h];rfl
def Gu{H:Hp}{m:Ad}{a:LN}{n:Nat}(M:Mach H m a n){u w:bV}(b:u∈db n)(c:∀l∈w,l<a.length):cw (ck a) u w=dy (u4 a n w) u:=by
 rw[zK M w u b c];unfold dy pX u4
 congr 1
 refine hK λr d=>?_;rw[Mt ((b7.mp b).2 r d)]
def J9{H:Hp}{m:Ad}{a:LN}{n:Nat}(M:Mach H m a n){w:bV}(b:∀l∈w,l<a.length):u4 a n w∈dH n n:=by
 refine bY.mpr #[K4 a n w,λr c=>?_];obtain⟨x,d,rfl⟩:=cq.mp c;exact oh M w x (eU.mp d) b
def gK(a:LN)(x:bV):Nat:=a.findIdx λy=>decide (y=x)
def rS{a:LN}{x:bV}(h:x∈a):gK a x<a.length/\a[gK a x]?=some x:=by
 have l:gK a x<a.length:=List.findIdx_lt_length_of_exists #[x,h,c9 rZ];refine#[l,?_];rw[b8 l];have z:decide (a[gK a x]=x)=true:=List.findIdx_getElem (p:=λy=>decide (y=x)) (w:=l);rw[fG z]
def xc{a:LN}{x:bV}{j:Nat}(nd:a.Nodup)(h:a[j]?=some x):gK a x=j:=by
 obtain⟨l,e⟩:=rS (cH h);exact(jk l nd).mp (e.trans h.symm)
def fc(a:LN)(t:bV):bV:=a.map λu=>gK a (dy t u)
def gU(a:LN)(n:Nat):LN:=((dH n n).filter λt=>a.all λu=>a.contains (dy t u)).map (fc a)
def fI{a:LN}{n:Nat}{x:bV}:x∈gU a n↔ ∃t∈dH n n,(∀u∈a,dy t u∈a)/\x=fc a t:=by
 unfold gU;rw[cq];constructor
 .rintro⟨t,ht,rfl⟩;obtain⟨b,c⟩:=dv.mp ht;exact#[t,b,λu d=>f7.mp (tu.mp c u d),rZ]
 .rintro⟨t,b,c,rfl⟩;exact#[t,dv.mpr #[b,tu.mpr λu d=>f7.mpr (c u d)],rZ]
def Gj{a:LN}{n:Nat}(h:n<=5):(gU a n).length<=4000:=by
 unfold gU;rw[bZ];exact cW (hJ _ _) (CW h)
def DA{a:LN}{n:Nat}{x:bV}(h:x∈gU a n):x.length=a.length/\∀r∈x,r<a.length:=by
 obtain⟨t,_,g,rfl⟩:=fI.mp h;refine#[by simp[fc],λr b=>?_];obtain⟨u,c,rfl⟩:=cq.mp b;exact(rS (g u c)).1
def zu{a:LN}{n:Nat}(nd:a.Nodup)(d:∀u∈a,u∈db n):List.range a.length∈gU a n:=by
 have b:∀u∈a,dy (List.range n) u=u:=λu c=>by
  obtain⟨e,f⟩:=b7.mp (d u c);unfold dy;have:u.map (λr=>(List.range n).getD r 0)=u.map id:=hK λr g=>by
   rw[cP,ko (f r g)];rfl
  rw[this,oi,e]
 refine fI.mpr #[List.range n,pK n,λu c=>by rw[b u c];exact c,?_];refine lR λj=>?_;unfold fc;rw[cr];by_cases h:j<a.length
 .rw[ko h,b8 h];show some j=some (gK a (dy (List.range n) a[j]));rw[b _ (iw h),xc nd (b8 h)]
 .rw[ie (by simp;lia),List.getElem?_eq_none ()];rfl
def z6{n:Nat}{t b u:bV}(k:n<=5)(ht:t∈dH n n)(i:u∈db n):dy b (dy t u)=dy (beh t b) u:=by
 obtain⟨f,j⟩:=bY.mp ht;obtain⟨_,g⟩:=b7.mp i;unfold dy;refine N5 λr=>?_;have e:∀x∈u,(beh t b).getD x 0=b.getD (t.getD x 0) 0:=λx a=>by
  have h:x<t.length:=by rw[f];exact g x a
  unfold beh;rw[cP,cr,b8 h,cP (l:=t),b8 h];rfl
 have c:∀x∈u,t.getD x 0<5:=λx a=>by
  have:=dt j (by rw[f];exact g x a);lia
 rw[cq,cq];constructor
 .rintro⟨y,d,rfl⟩;obtain⟨_,d⟩:=iC.mp d;obtain⟨x,a,rfl⟩:=cq.mp d;exact#[x,a,e x a]
 .rintro⟨x,a,rfl⟩;exact#[t.getD x 0,iC.mpr #[c x a,cq.mpr #[x,a,rZ]],(e x a).symm]
def t9{n:Nat}{t a:bV}(h:t∈dH n n)(b:a∈dH n n):beh t a∈dH n n:=by
 obtain⟨c,d⟩:=bY.mp h;obtain⟨e,f⟩:=bY.mp b;refine bY.mpr #[by unfold beh;rw[List.length_map,c],λr g=>?_];obtain⟨x,i,rfl⟩:=cq.mp g;exact dt f (by rw[e];exact d x i)
def xY{a:LN}{n:Nat}{x y:bV}(g:n<=5)(h:∀u∈a,u∈db n)(i:x∈gU a n)(j:y∈gU a n):beh x y∈gU a n:=by
 obtain⟨t,d,f,rfl⟩:=fI.mp i;obtain⟨c,k,m,rfl⟩:=fI.mp j;have e:∀u∈a,dy (beh t c) u=dy c (dy t u):=λu b=>(z6 g d (h u b)).symm;refine fI.mpr #[beh t c,t9 d k,λu b=>by rw[e u b];exact m _ (f u b),?_];unfold fc;show(a.map λu=>gK a (dy t u)).map (λx=>(a.map λu=>gK a (dy c u)).getD x 0)=_;rw[eY];refine hK λu b=>?_;obtain⟨l,o⟩:=rS (f u b);show(a.map λu=>gK a (dy c u)).getD (gK a (dy t u)) 0=gK a (dy (beh t c) u);rw[cP,cr,o,e u b];rfl
def nQ{H:Hp}{m:Ad}{f:LN}{n:Nat}{d c h g:LN}(M:Mach H m f n)(j:FamOf f n d)(lp:LvP f d c h g):h.Nodup:=by
 have i:=oV M j (c.headD []);rw[<-lp.tl]at i;exact i.up.imp λ{a b} z e=>by
  subst e;rw[Mm]at z;cases z
def Ge{H:Hp}{m:Ad}{d:LN}{n:Nat}{q c g i:LN}(M:Mach H m d n)(w:FamOf d n q)(lp:LvP d q c g i){k B l:Nat}{x o r s:bV}(N:c[k]?=some x)(O:i[k]?=some o)(Q:l<d.length)(T:c[B]?=some (ck d x l))(y:i[B]?=some r)(C:j8 d g o r l s):
  s∈gU g n:=by
 obtain⟨D,_⟩:=lp.inU M w;have nd:=nQ M w lp;have A:=(lp.go k x o N O).1;obtain⟨p,b⟩:=lp.bij M w T y;have E:=oV M w (c.headD []);rw[<-lp.tl]at E;have G:∀z∈o++[l]++p,z<d.length:=λz U=>by
  rcases cM.mp U with h|h
  .rcases cM.mp h with h|h
   .exact A z h
   .rw[cE.mp h];exact Q
  .exact b.lp z h
 have t:∀(j:Nat) (u:bV) (a:Nat),g[j]?=some u->s[j]?=some a->g[a]?=some (dy (u4 d n (o++[l]++p)) u):=λj u a I f=>by
  obtain⟨J,L,Y⟩:=C.2 j u a I f;have v:=cH L;rw[<-Gu M (D u (cH I)) G,iK,iK];show g[a]?=some (cw (ck d) (ck d (cw (ck d) u o) l) p);rw[<-Y,b.back M (D J v) (E.mem J v).2.2];exact L
 have lj:=C.1;refine fI.mpr #[_,J9 M G,λu hu=>?_,?_]
 .obtain⟨j,f⟩:=pz hu;obtain⟨a,e⟩:∃a,s[j]?=some a:=#[_,b8 (by rw[lj];exact(cg.mp f).1)];exact cH (t j u a f e)
 .refine lR λj=>?_;unfold fc;rw[cr];cases f:g[j]? with
  |none=>
   have:=xl.mp f;rw[ie ()];rfl
  |some u=>
   have:=(cg.mp f).1;obtain⟨a,e⟩:∃a,s[j]?=some a:=#[_,b8 ()];rw[e];exact dw some (xc nd (t j u a f e)).symm
def Jf{H:Hp}{m:Ad}{f:LN}{n:Nat}{g c q h:LN}(M:Mach H m f n)(r:FamOf f n g)(lp:LvP f g c q h){A l:Nat}{y B d C i:bV}(L:c[A]?=some y)(s:h[A]?=some d)(t:j8 f q B d l C)(k:j8 f q B d l i):C=i:=by
 obtain⟨D,_⟩:=lp.inU M r;have nd:=nQ M r lp;obtain⟨p,b⟩:=lp.bij M r L s;have w:=oV M r (c.headD []);rw[<-lp.tl]at w;refine vf (by rw[t.1,k.1]) λj a N E O=>?_;obtain⟨u,G⟩:∃u,q[j]?=some u:=#[_,b8 (by rw[<-t.1];exact(cg.mp E).1)];obtain⟨v,x,Q⟩:=t.2 j u a G E;obtain⟨z,I,T⟩:=k.2 j u N G O;have J:=cH x;have o:=cH I;have e:v=z:=by
  rw[<-b.back M (D v J) (w.mem v J).2.2,<-b.back M (D z o) (w.mem z o).2.2,Q,T]
 subst e;exact(jk (cg.mp x).1 nd).mp (x.trans I.symm)
def Er{H:Hp}{m:Ad}{d:LN}{n:Nat}{b c i f:LN}(M:Mach H m d n)(g:FamOf d n b)(lp:LvP d b c i f):0<i.length:=by
 obtain⟨_,_,k,_⟩:=gZ lp.cls;obtain⟨l,a⟩:=dv.mp k;have h:=oV M g (c.headD []);rw[<-lp.tl]at h;obtain⟨_,j⟩:=b7.mp (g.inU M l);cases e:c.headD []with
 |nil=>
  rw[e]at a;cases a
 | cons r p=>
  rw[e]at h j a;obtain⟨t,ht,_⟩:=h.all [r] ((g.mem [r]).mpr (.inr #[r,j r (dh ..),rZ])) (λz=>by
   have o:=dw List.length z;have a:=fG a;rw[<-o]at a;simp at a) (by simp[sub])
  exact xr ht
structure Makers(ts c us wds mk:LN):Prop where
 mem:∀t∈mk,∃(k l k':Nat) (x wd wd':bV),c[k]?=some x/\wds[k]?=some wd/\l<ts.length/\c[k']?=some (ck ts x l)/\wds[k']?=some wd'/\j8 ts us wd wd' l t
 all:∀(k l:Nat) (x wd:bV),c[k]?=some x->wds[k]?=some wd->l<ts.length->ck ts x l∈c->∃(k':Nat) (wd' t:bV),t∈mk/\c[k']?=some (ck ts x l)/\wds[k']?=some wd'/\j8 ts us wd wd' l t
theorem Ex:∀{ws:TW} {as:As},as.length=ws.length->(a2j ws as).map (·.1)=(ws.map (·.1)).map nk
 | [],[],_=>rfl
 |p::ws,a::as,h=>dw (nk p.1:: ·) (Ex (ws:=ws) (as:=as) (Nat.succ.inj h))
def ig(a:LN)(x:bV)(i:Nat):bV:=beh x (a.getD i [])
inductive eE(i:List V)(H:Hp)(Q:VK)(g:XK):Prop|mk:∀(m a:Ad) (e:LN) (n:Nat) (d c h b:LN),i=[.ref m,.ref a]->Mach H m e n->FamOf e n d->LvH H a c h b->LvP e d c h b->(∀l j mk f,Same H f->f l=some (.lst (j.map .ref))->TupsAt f j mk->Makers e c h b mk->mk.length<=200->Q (.ref l) f)->eE i H Q g
inductive gn(j:List V)(H:Hp)(Q:VK)(h:XK):Prop|mk:∀(m a:Ad) (f:LN) (n:Nat) (d c g b:LN),j=[.ref m,.ref a]->Mach H m f n->FamOf f n d->LvH H a c g b->LvP f d c g b->Tabs H->(∀l bs i mk k e,Keeps H e->Tabs e->L2.noT H l=none->e l=some (.lst (bs.map .ref))->TupsAt e bs i->i.Perm (k.map (·.1))->i.Pairwise (λx y=>d8 x y=true)->Makers f c g b mk->Told (ig mk) mk.length (List.range g.length) k->Q (.ref l) e)->gn j H Q h
def KS(F:Fun K tY tY Dm f fd)(jL:cT P w K mg base uA 9 [sA,sE,"k",sP] fy)(jA:mg "len"=none)(jB:mg "range"=none):FnOk P w K mg base cL 11 f fd [sA,sE] eE:=by
 refine F.ok jJ (λam A ai s H vs Q E hr h=>?_)
 obtain⟨m,a,G,n,aj,c,us,B,rfl,M,ff,lv,lp,q⟩:=h;have hu:=hr.units;refine#[_,(cD (dC (i:=2) jJ.nd rZ Z' (iA cj)) (cD (iL gY rZ (nJ rZ jB (cu (dY fF rZ jA fe (cu (dE fb (pv 1) cU (λ_ _=>rfl)) cj)) cj)) (fV (i:=3) jJ.nd rZ Z') (cG (iL gY rZ (nJ rZ jB (cu (dY fF rZ jA fe (cu (pv 0) cj)) cj)) (fV (i:=4) jJ.nd rZ Z') (cD (dC (i:=5) jJ.nd rZ Z' (cX jL hr.m rZ (c7 (ci (pv 0) (ci (pv 1) (ci (pv 3) (ci (pv 4) cZ rZ) rZ) rZ) rZ)))) (cG (gM (fM Gb (pv 5) qb (fj _)) (cG (m6 (lK lX oK pc ph (pv 2) (cu (pv 5) cj)))) gV)))))) (cG (dF (pv 2))))),?_];obtain⟨s',t',v',bs,ds,cs,h1,h2,h3,h4,h5,h6,h7,h8⟩:=id lv;have lb:=h3.len;have t1:=M.some1;have t4:=M.few;obtain⟨rs,hm,ak,_⟩:=M.refs;have c32:c.length<=32:=by
  rw[(gZ lp.cls).2.1];exact cW (hJ _ _) (cW (hJ _ _) (ff.few M))
 refine#[by show 0<=sizeLine;decide,λfo ab=>?_];have k0:=cn ab (.lst [])
 let Mk:Nat->Nat->List bV->Prop:=λk l g=>g.length<=4 * k+l/\(∀t∈g,∃(k l J:Nat) (x C o:bV),c[k]?=some x/\B[k]?=some C/\l<G.length/\c[J]?=some (ck G x l)/\B[J]?=some o/\j8 G us C o l t)/\
  ∀(i j:Nat) (x C:bV),(i<k\/i=k/\j<l)->c[i]?=some x->B[i]?=some C->j<G.length->ck G x j∈c->∃(J:Nat) (o t:bV),t∈g/\c[J]?=some (ck G x j)/\B[J]?=some o/\j8 G us C o j t
 let Pk:Nat->L2.St->Hp->Prop:=λk T U=>Same H U/\∃(y:As) (g:LN) (o3 Y o5:Option V),U fo=some (.lst (y.map .ref))/\TupsAt U y g/\Mk k 0 g/\T=[some (.ref m),some (.ref a),some (.ref fo),o3,Y,o5]
 refine#[_,rZ,a,_,_,_,rZ,rZ,O1 (k0 _ _ h1),rZ,s',_,rZ,.inl (O0 (k0 _ _ h2)),(c.length:Int),by rw[bZ,lb],(),(),vQ Pk #[k0,[],[],none,none,none,cb,#[rZ,λi b u e=>by simp at e],#[Nat.zero_le _,(λt ht=>nomatch ht),λi j x C aa=>by lia],rZ] (λk T H1 hk p=>?_) (λT H1 p=>?_)]
 .obtain⟨g1,y,g,o3,Y,o5,L,T1,K1,rfl⟩:=p;have ae:k<c.length:=by simpa using hk
  have zk:V.int ((0:Int)+((k:Nat):Int))=nv k:=by show V.int (0+(k:Int))=V.int (k:Int);rw[pZ]
  rw[zk];obtain⟨C,ew⟩:∃C,B[k]?=some C:=#[_,b8 (by rw[lp.len];exact ae)];obtain⟨x,ex⟩:∃x,c[k]?=some x:=#[_,b8 ae]
  let Pl:Nat->L2.St->Hp->Prop:=λl T U=>Same H U/\∃(y:As) (g:LN) (Y o5:Option V),U fo=some (.lst (y.map .ref))/\TupsAt U y g/\Mk k l g/\T=[some (.ref m),some (.ref a),some (.ref fo),some (nv k),Y,o5]
  refine#[_,rZ,m,_,rZ,.inr (O1 (g1 _ _ hm)),(G.length:Int),by rw[bZ,ak],(),(),vQ Pl #[g1,y,g,_,_,L,T1,K1,rZ] (λl T H2 hl p=>?_) (λT H2 p=>?_)]
  .obtain⟨g2,y,g,Y,o5,N,T2,K2,rfl⟩:=p;have af:l<G.length:=by simpa using hl
   have zl:V.int ((0:Int)+((l:Nat):Int))=nv l:=by show V.int (0+(l:Int))=V.int (l:Int);rw[pZ]
   rw[zl];obtain⟨kz,km,O⟩:=K2;refine#[_,rZ,_,rZ,_,rZ,_,rZ,m,a,k,l,G,n,aj,c,us,B,x,C,rZ,M.same g2,ff,lv.same g2,lp,ex,ew,af,λmy H3 g3=>?_,λJ o ey ag tp js H3 g3 ah tb=>?_]
   .refine#[_,rZ,rZ,_,rZ,fv #[g2.trans g3,y,g,_,_,g3 _ _ N,T2.same g3,#[(),km,λi j x' r aa d v I D=>?_],rZ]];by_cases z:i=k/\j=l
    .obtain⟨rfl,rfl⟩:=z;rw[ex]at d;cases d;exact wC D my
    .exact O i j x' r () d v I D
   .refine#[_,rZ,rZ,_,rZ,gA ?_];have e3:=g3 _ _ N;have lq:=T2.len;refine#[_,rZ,.inl #[rZ,_,O0 e3],_,rZ,fo,_,_,rZ,rZ,e3,by rw[bZ,cS];lia,?_];refine#[iq (g2.trans g3) ab,y++[tp],g++[js],_,_,by rw[cb,dX];rfl,rf #[lq,λi b u L N=>?_] ?_,#[by rw[dA,wh];lia,λt ht=>?_,λi j x' r aa d v I D=>?_],rZ]
    .have z:=(T2.same g3).is i b u L N;rw[cf (nE z e3)];exact z
    .rw[cf (nE ah e3)];exact ah
    .rcases cM.mp ht with z|z
     .exact km t z
     .rw[cE.mp z];exact#[k,l,J,x,C,o,ex,ew,af,ey,ag,tb]
    .by_cases z:i=k/\j=l
     .obtain⟨rfl,rfl⟩:=z;rw[ex]at d;cases d;rw[ew]at v;cases v;exact#[J,o,js,cM.mpr (.inr (cE.mpr rZ)),ey,ag,tb]
     .obtain⟨k2,al,t,r1,r2⟩:=O i j x' r () d v I D;exact#[k2,al,t,cM.mpr (.inl r1),r2]
  .obtain⟨g2,y,g,Y,o5,N,T2,⟨kz,km,O⟩,rfl⟩:=p;have el:(G.length:Int).toNat=G.length:=iI _;rw[el]at kz O;exact#[g2,y,g,_,_,_,N,T2,#[(),km,λi j x' r aa d v I D=>O i j x' r () d v I D],rZ]
 .obtain⟨g1,y,g,o3,Y,o5,L,T1,⟨kz,km,O⟩,rfl⟩:=p;have el:(c.length:Int).toNat=c.length:=iI _;rw[el]at kz O;exact#[_,rZ,q fo y g H1 g1 L T1 #[km,λk l x C L N e3 e4=>O k l x C (.inl (cg.mp L).1) L N e3 e4] ()]
def GY{I c G B:Ad}{oc:Obj}{i C:LN}{n:Nat}{J:As}{z:Hp}{L M:Vl}{a:Arguments}{f:Expr}{d:Scope}{sx fx a1 a2:Expr}{kw N:List Keyword}{lp cp O rp:Pos}{s0:Stmt}(e:gh nR=[s0,.Return (some (.Call sx [.Call fx [a1,a2,.Lambda a f d lp] kw cp] N O)) rp])(jE:cT P w K mg base tS 1 [tO,sT] cN) (T:z G=some (.lst (J.map .ref))) (Tm:TupsAt z J i) (mU:∀t∈i,t∈gU C n) (few:C.length<=32) (h1:z I=some (gF I (fq sD a f d uJ c L (.ref B) M))) (h2:z c=some (eJ c G oc)) (h3:z B=some (iV B sD)):
  FnOk P w K mg base cL 5 I (fq sD a f d uJ c L (.ref B) M) [sL,"number"] (dD (Same z) (gU C n) i.length (ig i))/\Binds K (fq sD a f d uJ c L (.ref B) M) [sL,"number"] []:=by
 cases e;refine#[Cp (k:=4) (m:=G) (oc:=oc) #[rZ,rZ,rZ,by decide+kernel,by decide+kernel,rZ,by decide+kernel] (λvs H Q E h=>?_) (λvs H Q E h=>?_) (λA U s H vs Q E hr h=>?_),.all λC T=>match C,T with| [_,_],_=>rfl]
 .obtain⟨t,x,l,rfl,_⟩:=h;rfl
 .obtain⟨t,x,l,rfl,g,_⟩:=h;exact#[g _ _ h1,g _ _ h2,g _ _ h3]
 .obtain⟨t,x,l,rfl,g,ht,hx,Y,q⟩:=h;refine#[_,(cX jE hr.m rZ (c7 (ci (pv 0) (ci (dE h9 (pv 2) (pv 1) (λ_ _=>rfl)) cZ rZ) rZ))),?_];have hc:=g _ _ h2;have off:∀{b:Ad} {u:HO},(∀φ,u≠ .ext φ)->H b=some u->(L2.drop H c) b=some u:=λnu hb=>by
   rw[eB (jm hb hc λe=>nu _ e)];exact hb
  have ln:=Tm.len;obtain⟨r,er⟩:∃r,J[l]?=some r:=#[_,b8 ()];have et:i[l]?=some (i.getD l []):=by rw[cP,b8 Y];rfl
  have aa:=off (u:= .tup _) (λ_ e=>nomatch e) (g _ _ (Tm.is l r _ er et));have mt:=mU _ (cH et);obtain⟨x1,x2⟩:=DA hx;obtain⟨y1,y2⟩:=DA mt;refine#[_,rZ,_,rZ,_,rZ,G,_,_,_,rZ,rZ,O0 (off (u:= .lst _) (λ_ e=>nomatch e) (g _ _ T)),j6 (j:=l) (v:= .ref r) (by rw[cr,er];rfl),t,r,x,i.getD l [],rZ,off (u:= .tup _) (λ_ e=>nomatch e) ht,aa,λy D=>by rw[y1];exact x2 y D,(),λp H3 g3 e3 free=>q p _ (λy o ho=>?_) ?_]
  .by_cases D:y=c
   .subst D;rw[hc]at ho;cases ho;exact cb
   .rw[cf D];exact g3 _ _ (by rw[eB D];exact ho)
  .rw[cf (di e3 free)];exact e3
def Ow{cd T:Ad}(F:DefAt K sS nR f fd .none (.ref cd))(hC:PySem.W.CodeHd base cd T)(bm:nG mg base)(hq:((sD:Str),(#[141,61,141,110]:Pos),T)∈dQ)(jU:cT P w K mg base tY 11 [sA,sE] eE)(jT:cT P w K mg base uP 1 [sB] eN)(jE:cT P w K mg base tS 1 [tO,sT] cN)(kC:CalleeD P w K mg base sY 8 [uO,uM,"step",sU] (dG P w K mg base) [.non]) (jA:mg "len"=none) (jD:mg "sorted"=none):FnOk P w K mg base cL 13 f fd [sA,sE] gn:=by
 refine F.fnOk qQ (λvs H Q E h=>?_) (λA an s H vs Q E h hr=>?_)
 .obtain⟨m,a,ts,n,af,c,us,ag,rfl,_⟩:=h;rfl
 obtain⟨m,a,ts,n,af,c,us,ag,rfl,M,ff,lv,lp,hT,q⟩:=h;refine#[_,?_,(cD (dC (i:=2) qQ.nd rZ Z0 (cX jU hr.m rZ (c7 (ci (pv 0) (ci (pv 1) cZ rZ) rZ)))) (cG (dF (dY (LJ rZ) rZ jD rW (cu (BR kC hr.m rZ (j:=2) rZ rZ rZ rZ (c7 (ci (cX jT hr.m rZ (cu (dY fF rZ jA fe (cu (dE fb (pv 1) cU (λ_ _=>rfl)) cj)) cj)) (ci (dY fF rZ jA fe (cu (pv 2) cj)) (ci (B9 (qual:=sD) rZ hC bm (λ_ _ _ _ _=>rfl) rZ rZ) cZ rZ) rZ) rZ))) cj)))))];refine#[_,rZ,_,rZ,m,a,ts,n,af,c,us,ag,rZ,M,ff,lv,lp,λlm rs mk H1 g1 ao Tm Mk am=>?_];obtain⟨s',t',v',bs,ds,cs,h1,h2,h3,h4,h5,h6,h7,h8⟩:=id (lv.same g1);have l5:=h5.len;obtain⟨uU,few⟩:=lp.inU M ff;have n5:=M.n5;have nd:=nQ M ff lp;have mU:∀t∈mk,t∈gU us n:=λt ht=>by
  obtain⟨k,l,k',x,wd,aq,e1,e2,e3,e4,e5,e6⟩:=Mk.mem t ht;exact Ge M ff lp e1 e2 e3 e4 e5 e6
 refine#[_,rZ,a,_,_,_,rZ,rZ,O1 h1,rZ,t',_,rZ,.inl (O0 h4),?_]
 try dsimp only
 rw[bZ,l5];refine#[us.length,rZ,(),λst H2 g2 e2=>?_];have L:=g2 _ _ ao;have ab:=Tm.same g2;have T2:Tabs H2:=(hT.same g1).same g2;refine#[_,rZ,lm,_,rZ,.inl (O0 L),?_]
 try dsimp only
 rw[bZ,ab.len];have ah:∀(B:Hp) (D:Ad) (ws:TW) (as:As),Keeps H B->Tabs B->WordsAt B D ws as->Told (ig mk) mk.length (List.range us.length) ws->iJ [.ref D] B Q:=λB D ws as k3 t3 W TT=>by
  have inG:∀p∈ws,p.1∈gU us n:=λp hp=>by
   obtain⟨r1,r2⟩:=TT.run p hp;rw[<-r2];refine nS (zu nd uU) (λx hx l hl=>xY n5 uU hx ?_) p.2 r1;rw[cP,b8 hl];exact mU _ (iw hl)
  refine#[D,_,ws.map (·.1),rZ,W.dict,?_,λt ht e=>?_,?_,λl bs gs hl Tb pm up=>?_]
  .exact Ex W.len
  .obtain⟨p,hp,rfl⟩:=cq.mp ht;have z:=(DA (inG p hp)).1;rw[e]at z;have:=Er M ff lp
   simp at z;lia
  .refine cW (lL (U:=gU us n) TT.keys λx hx=>?_) (Gj n5);obtain⟨p,hp,rfl⟩:=cq.mp hx;exact inG p hp
  .have gl:=cn hl (.lst (bs.map V.ref));refine q l bs gs mk ws _ (k3.trans gl.keeps) (t3.same gl) ?_ cb (Tb.same gl) pm up Mk TT;cases y:L2.noT H l with
   |none=>rfl
   |some o=>
    have z:=k3 _ _ y;rw[hl]at z;cases z
 have go:∀(N G:Ad) (ct:Vl) (B:Hp) (ai:AV),H2 T=some (.tbl ai)->KeepsBut T H2 B->B T=some (.tbl (i6 (#[141,61,141,110]:Pos) G))->B G=some (iV G sD)->∀(d:Arguments) (C:Expr) (g:Scope) (pm:Vl) (I:Ad),B N=some (gF N (fq sD d C g uJ I pm (.ref G) ct))->
   ∀O,B I=none->(FnOk P w K mg base cL 5 N (fq sD d C g uJ I pm (.ref G) ct) [sL,"number"] (dD (Same (bX B I (eJ I lm O))) (gU us n) mk.length (ig mk)))->Binds K (fq sD d C g uJ I pm (.ref G) ct) [sL,"number"] []->
   dG P w K mg base [.ref st,nv mk.length,.ref N,.non] (bX B I (eJ I lm O)) (λr H4=>H4 I=some (eJ I lm O)/\iJ [r] (L2.drop H4 I) Q) E0:=λN G ct B ai aj kb h1 h2 d C g pm I h3 O Y hF hB=>by
  have J:=kb.keeps aj;have v:=cn Y (eJ I lm O);refine#[st,N,_,_,List.range us.length,mk.length,gU us n,ig mk,rZ,v _ _ (J _ _ (nU e2)),v _ _ h3,zu nd uU,λx hx l hl=>xY n5 uU hx ?_,Gj n5,(),hF,hB,λD ws as H4 g4 W nw TT=>#[g4 _ _ cb,ah _ D ws as (λb o hb=>?_) (T2.but hq aj (λb o nb hb=>?_) (.inr #[G,?_,?_])) #[W.len,?_,λj a r e1 e2=>?_] TT]]
  .rw[cP,b8 hl];exact mU _ (iw hl)
  .have z:=((g1.trans g2).keeps.trans J) b o hb;rw[eB (di z Y)];exact g4 _ _ (v _ _ z)
  .have z:=kb b o nb hb;rw[eB (di z Y)];exact g4 _ _ (v _ _ z)
  .rw[eB (di h1 Y)];exact g4 _ _ (v _ _ h1)
  .rw[eB (di h2 Y)];exact g4 _ _ (v _ _ h2)
  .rw[eB (nE W.dict (g4 _ _ cb))];exact W.dict
  .have z:=W.list j a r e1 e2;rw[eB (nE z (g4 _ _ cb))];exact z
 rcases T2 _ hq with u|⟨G,u,aa⟩
 .refine .inl #[u,λN G ct ae aa ne=>#[lm,rZ,λO Y=>?_]];obtain⟨J,ap,ak⟩:=Di (#[141,61,141,110]:Pos) sD u ae aa ne _;have v:=cn Y (eJ (s.heap.objs.size+1) lm O);have al:=J.keeps u;obtain⟨F1,F2⟩:=GY rZ jE (v _ _ (al _ _ (nU L))) ((lV ab al).same v) mU few (v _ _ cb) cb (v _ _ ak);exact go N G ct _ _ u J ap ak _ _ _ _ _ cb O Y F1 F2
 .refine .inr #[G,u,aa,λN ct ae=>#[lm,rZ,λO Y=>?_]];have J:∀lo,Same H2 (bX H2 N lo):=λlo=>cn ae lo;have v:=cn Y (eJ (s.heap.objs.size+1) lm O);obtain⟨F1,F2⟩:=GY rZ jE (v _ _ (J _ _ _ L)) ((ab.same (J _)).same v) mU few (v _ _ cb) cb (v _ _ (J _ _ _ aa));exact go N G ct _ _ u (λb o _ hb=>J _ _ _ hb) (J _ _ _ u) (J _ _ _ aa) _ _ _ _ _ cb O Y F1 F2
def LvH.keeps{H e:Hp}{a:Ad}{c f d:LN}(h:LvH H a c f d)(g:Keeps H e):LvH e a c f d:=by
 obtain⟨s,t,v,bs,ds,i,j,l,m,n,o,p,q,r⟩:=h;exact#[s,t,v,bs,ds,i,g _ _ (nU j),g _ _ (nU l),lV m g,g _ _ (nU n),lV o g,g _ _ (nU p),q,λk b u w x=>g _ _ (nU (r k b u w x))]
def D1{H c:Hp}{l:Ad}{o:HO}(g:Keeps H c)(n:L2.noT H l=none):Keeps H (bX c l o):=λb u a=>by
 rw[cf (λz=>by rw[z,n]at a;cases a)];exact g b u a
inductive Gen (S:bV->Prop) (N:Nat):bV->Prop
 |base:Gen S N (List.range N)
 |step {x m:bV}:Gen S N x->S m->Gen S N (beh x m)
def Ln{a:LN}{N:Nat}:∀(v x:bV),(∀i∈v,i<a.length)->Gen (· ∈a) N x->Gen (· ∈a) N (cw (ig a) x v):=by
 intro v
 induction v with
 |nil=>exact λx _ h=>h
 |cons i v d=>
  intro x b h;have c:=b i (dh ..);refine d (ig a x i) (λl e=>b l (dR _ e)) ?_;show Gen _ _ (beh x (a.getD i []));rw[cP,b8 c];exact .step h (iw c)
def HJ{a:LN}{N:Nat}{e:TW}(T:Told (ig a) a.length (List.range N) e)(t:bV):t∈e.map (·.1)↔Gen (· ∈a) N t:=by
 constructor
 .intro h;obtain⟨p,b,rfl⟩:=cq.mp h;obtain⟨c,d⟩:=T.run p b;rw[<-d];exact Ln p.2 _ c .base
 .intro h
  induction h with
  |base=>exact cq.mpr #[_,cH T.head,rZ]
  | @step x m _ j k=>
   obtain⟨i,f⟩:=pz j;have l:=(cg.mp f).1;obtain⟨p,b,rfl⟩:=cq.mp k;obtain⟨c,d⟩:=T.run p b;obtain⟨u,g,_⟩:=T.least _ (p.2++[i]) rZ λx n=>(cM.mp n).elim (c x) λz=>by rw[cE.mp z];exact l
   have o:cw (ig a) (List.range N) (p.2++[i])=beh p.1 m:=by
    have q:ig a p.1 i=beh p.1 m:=by
     show beh _ (a.getD i [])=_;rw[cP,f];rfl
    rw[<-q,<-d];unfold cw;rw[kg];rfl
   rw[o]at g;exact cq.mpr #[_,g,rZ]
def Hm{S a:bV->Prop}{N:Nat}(h:∀t,S t↔a t)(t:bV):Gen S N t↔Gen a N t:=by
 have e:S=a:=funext λt=>propext (h t);rw[e]
def qr(d c g a:LN)(t:bV):Prop:=∃(k l e:Nat) (x f b:bV),c[k]?=some x/\a[k]?=some f/\l<d.length/\c[e]?=some (ck d x l)/\a[e]?=some b/\j8 d g f b l t
def Eg{H:Hp}{m:Ad}{b:LN}{n:Nat}{d c f a g:LN}(M:Mach H m b n)(h:FamOf b n d)(lp:LvP b d c f a)(Mk:Makers b c f a g)(t:bV):t∈g↔qr b c f a t:=by
 refine#[Mk.mem t,?_];rintro⟨k,l,B,x,o,p,q,r,s,e,i,u⟩;obtain⟨C,v,D,w,y,j,z⟩:=Mk.all k l x o q r s (cH e);have A:=(jk (cg.mp e).1 (lp.nd h)).mp (e.trans y.symm);subst A;rw[i]at j;cases j;rw[Jf M h lp e i u z];exact w
def Lm{N:Nat}{t:bV}(h:t.length=N):beh (List.range N) t=t:=by
 subst h;refine lR λj=>?_;unfold beh;rw[cr];by_cases z:j<t.length
 .rw[ko z,b8 z];show some (t.getD j 0)=_;rw[cP,b8 z];rfl
 .rw[ie (by simp;lia),List.getElem?_eq_none ()];rfl
theorem Dg{x u v:bV}:∀{a:TW},(a.map (·.1)).Nodup->(x,u)∈a->(x,v)∈a->u=v
 | [],_,h,_=>nomatch h
 | p::a,nd,d,b=>by
  obtain⟨c,e⟩:=gP.mp nd
  rcases dq.mp d with e1|e1
  .rcases dq.mp b with e2|e2
   .rw[<-e1]at e2;injection e2 with _ e2
    exact e2.symm
   .exact wC (cq.mpr #[_,e2,by rw[<-e1]]) c
  .rcases dq.mp b with e2|e2
   .exact wC (cq.mpr #[_,e1,by rw[<-e2]]) c
   .exact Dg e e1 e2
def Wds(b c a:LN):Prop:=a.length=c.length/\∃d,Told (ck b) b.length (c.headD []) d/\∀(k:Nat) (x e:bV),c[k]?=some x->a[k]?=some e->(x,e)∈d
def Wds.uniq{i c e d:LN}(h:Wds i c e)(n:Wds i c d):e=d:=by
 obtain⟨r,s,T,a⟩:=h;obtain⟨t,o,p,b⟩:=n;cases T.uniq p;refine lR λk=>?_;by_cases q:k<c.length
 .obtain⟨g,j⟩:∃g,e[k]?=some g:=#[_,b8 ()];obtain⟨f,l⟩:∃f,d[k]?=some f:=#[_,b8 ()];have m:=b8 q;rw[j,l,Dg T.keys (a k _ g m j) (b k _ f m l)]
 .rw[ie (),ie ()]
def Ord.uniq{b:LN}{c told a:i7}(h:Ord b c told)(d:Ord b c a):told=a:=by
 induction h generalizing a with
 |nil=>
  cases d with
  |nil=>rfl
  |cons h r=>cases h
 | cons h r f=>
  cases d with
  |nil=>cases h
  |cons e g=>
   rw[h]at e;cases e;rw[f g]
def LevAt.lvw{H:Hp}{l:Ad}{p d:LN}{E:List WE}{a:Ad}{c:LN}(h:LevAt H l p d (big d) E a c)(G:c∈cY p (big d)):∃e,LvH H a c (jp d (c.headD [])) e/\LvP p d c (jp d (c.headD [])) e/\Wds p c e:=by
 obtain⟨s,t,v,bs,I,u,i,y,J,h2,h3,h4,h5,L,M,N,O,w,Q,T,U,g,Y,z⟩:=h;obtain⟨e,A,B⟩:=Co (n:=c.length) (P:=λk f=>∃x b,c[k]?=some x/\u[k]?=some b/\(x,f)∈y.2.1/\H b=some (.lst (f.map nv))) λk hk=>by
  obtain⟨x,C⟩:∃x,c[k]?=some x:=#[_,b8 hk];obtain⟨b,D⟩:∃b,u[k]?=some b:=#[_,b8 ()];obtain⟨f,q,r⟩:=z k x b C D;exact#[f,x,b,C,D,q,r]
 have j:∀(k:Nat) (x f:bV),c[k]?=some x->e[k]?=some f->(x,f)∈y.2.1:=λk x f m o=>by
  obtain⟨x',b',q,_,z3,_⟩:=B k f o;rw[m]at q;cases q;exact z3
 refine#[e,#[s,t,v,bs,I,u,J,L,M,N,O,w,(),λk b f m o=>?_],#[G,rZ,A,λk x f m o=>g.run _ (j k x f m o)],A,y.2.1,g,j];obtain⟨x',b',_,r,_,z4⟩:=B k f o;rw[m]at r;cases r;exact z4
def tw(b a:LN)(w:bV):bV:=a.map λu=>gK a (cw (ck b) u w)
def kq(a:LN)(x w:bV):Prop:=(∀l∈w,l<a.length)/\cw (ck a) x w=x
section
variable{H:Hp}{m:Ad}{d:LN}{n:Nat}{g c f o:LN}
def pO(M:Mach H m d n)(a:FamOf d n g)(lp:LvP d g c f o):c.headD []∈db n:=a.inU M (dv.mp (gZ lp.cls).2.2.1).1
def Bq(M:Mach H m d n)(a:FamOf d n g)(lp:LvP d g c f o){w u:bV}(k:kq d (c.headD []) w)(e:u∈f):cw (ck d) u w∈f:=by
 obtain⟨p,b⟩:=Bl M (pO M a lp) k.1 k.2 (Rch.refl d _);have z:=zG M a (pO M a lp) b (u:=u) (by rw[<-lp.tl];exact e);rw[<-lp.tl]at z;exact z
def Lc{x w v:bV}(a:kq d x w)(b:kq d x v):kq d x (w++v):=
 #[λl c=>(cM.mp c).elim (a.1 l) (b.1 l),by rw[iK,a.2,b.2]]
def G0(M:Mach H m d n)(a:FamOf d n g)(lp:LvP d g c f o){w v:bV}(k:kq d (c.headD []) w):tw d f (w++v)=beh (tw d f w) (tw d f v):=by
 unfold tw;show _=(f.map λu=>gK f (cw (ck d) u w)).map λx=>(f.map λu=>gK f (cw (ck d) u v)).getD x 0;rw[eY];refine hK λu b=>?_;obtain⟨l,e⟩:=rS (Bq M a lp k b);show _=(f.map λu=>gK f (cw (ck d) u v)).getD (gK f (cw (ck d) u w)) 0;rw[cP,cr,e,iK];rfl
def N3(nd:f.Nodup):tw d f []=List.range f.length:=by
 refine lR λj=>?_;unfold tw;rw[cr];by_cases h:j<f.length
 .rw[ko h,b8 h];exact dw some (xc nd (b8 h))
 .rw[ie (),ie (by simp;lia)];rfl
def FD(nd:f.Nodup){t w:bV}(len:t.length=f.length)(h:∀(j:Nat) (u:bV) (a:Nat),f[j]?=some u->t[j]?=some a->f[a]?=some (cw (ck d) u w)):t=tw d f w:=by
 refine lR λj=>?_;unfold tw;rw[cr];cases e:f[j]? with
 |none=>
  have:=xl.mp e;rw[ie ()];rfl
 |some u=>
  have:=(cg.mp e).1;obtain⟨a,b⟩:∃a,t[j]?=some a:=#[_,b8 ()];rw[b];exact dw some (xc nd (h j u a e b)).symm
def IQ(M:Mach H m d n)(e:FamOf d n g)(lp:LvP d g c f o){r:LN}(Mk:Makers d c f o r){t:bV}(ht:t∈r):∃w,kq d (c.headD []) w/\t=tw d f w:=by
 obtain⟨k,l,U,x,i,C,D,E,G,I,q,s⟩:=Mk.mem t ht;obtain⟨J,_⟩:=lp.inU M e;have nd:=nQ M e lp;have go:=lp.go k x i D E;obtain⟨p,b⟩:=lp.bij M e I q;have v:=oV M e (c.headD []);rw[<-lp.tl]at v;have L:∀z∈i++[l]++p,z<d.length:=λz N=>by
  rcases cM.mp N with h|h
  .rcases cM.mp h with h|h
   .exact go.1 z h
   .rw[cE.mp h];exact G
  .exact b.lp z h
 refine#[i++[l]++p,#[L,?_],FD nd s.1 λj u y O Q=>?_]
 .rw[iK,iK,go.2];exact b.fro
 .obtain⟨A,B,T⟩:=s.2 j u y O Q;have a:=cH B;rw[iK,iK];show f[y]?=some (cw (ck d) (ck d (cw (ck d) u i) l) p);rw[<-T,b.back M (J A a) (v.mem A a).2.2];exact B
def OE(M:Mach H m d n)(h:FamOf d n g)(lp:LvP d g c f o){b:LN}(Mk:Makers d c f o b):∀(v a:bV),(∀i∈v,i<b.length)->kq d (c.headD []) a->∃w,kq d (c.headD []) w/\cw (ig b) (tw d f a) v=tw d f w:=by
 intro v
 induction v with
 |nil=>exact λa _ k=>#[a,k,rZ]
 | cons i v q=>
  intro a j k;have p:=j i (dh ..);obtain⟨w,r,s⟩:=IQ M h lp Mk (iw p);have e:ig b (tw d f a) i=tw d f (a++w):=by
   rw[G0 M h lp k,<-s];show beh _ (b.getD i [])=_
   rw[cP,b8 p];rfl
  show ∃w,kq d (c.headD []) w/\cw (ig b) (ig b (tw d f a) i) v=tw d f w;rw[e];exact q (a++w) (λl t=>j l (dR _ t)) (Lc k r)
def JM(M:Mach H m d n)(b:FamOf d n g)(lp:LvP d g c f o){w v:bV}(a:∀l∈w,l<d.length)(h:∀l∈v,l<d.length)(e:cw (ck d) (cw (ck d) (c.headD []) w) v=c.headD []):cw (ck d) (c.headD []) w∈c:=by
 obtain⟨_,p,q,_⟩:=gZ lp.cls;have i:=pO M b lp;obtain⟨s,j⟩:=dv.mp q;have t:=mO M i a
 suffices z:cw (ck d) (c.headD []) w∈df d (big g) (c.headD []) by
  rw[<-p]at z;exact z
 refine dv.mpr #[dv.mpr #[AY M b s a,c9 ?_],?_]
 .have j:=fG j;have z:=rY (l₂:=(cw (ck d) (c.headD []) w).map λr=>d9 d r v) (Fg i) λr k=>by
   rw[<-e]at k;obtain⟨u,x,y⟩:=(jj M t h).mp k;exact cq.mpr #[u,x,y]
  rw[bZ]at z;lia
 .rw[lW,cC,cC];exact#[#[w,a,rZ],v,h,e]
def Jd(M:Mach H m d n)(N:FamOf d n g)(lp:LvP d g c f o)(w0:o[0]?=some []){q:LN}(Mk:Makers d c f o q){I:TW}(T:Told (ig q) q.length (List.range f.length) I):
  ∀(v w:bV) (k:Nat) (y t:bV),(∀l∈w,l<d.length)->(∀l∈v,l<d.length)->cw (ck d) (cw (ck d) (c.headD []) w) v=c.headD []->c[k]?=some (cw (ck d) (c.headD []) w)->o[k]?=some y->t∈I.map (·.1)->t.length=f.length->
   (∀(j:Nat) (u:bV) (a:Nat),f[j]?=some u->t[j]?=some a->∃A,f[a]?=some A/\cw (ck d) A y=cw (ck d) u w)->tw d f (w++v)∈I.map (·.1):=by
 intro v;have nd:=nQ M N lp;have O:=lp.nd N;have c0:c[0]?=some (c.headD []):=by
  cases c with
  |nil=>exact wC rZ (gZ lp.cls).1
  |cons x c=>rfl
 induction v with
 | nil=>
  intro w k y t lw _ e B J ht lt b;have e:cw (ck d) (c.headD []) w=c.headD []:=e;rw[e]at B;have k0:=(jk (cg.mp B).1 O).mp (B.trans c0.symm);subst k0;rw[w0]at J;cases J;rw[gL,<-FD nd lt λj u a L h=>?_]
  .exact ht
  .obtain⟨A,Q,U⟩:=b j u a L h;rw[<-U];exact Q
 | cons l v ih=>
  intro w k y t lw lv e B J ht lt b;have ll:=lv l (dh ..);have C:∀x∈v,x<d.length:=λx D=>lv x (dR _ D);have E:∀x∈w++[l],x<d.length:=λx D=>(cM.mp D).elim (lw x) λz=>by rw[cE.mp z];exact ll
  have Y:cw (ck d) (c.headD []) (w++[l])=ck d (cw (ck d) (c.headD []) w) l:=iK d _ w [l];have e':cw (ck d) (cw (ck d) (c.headD []) (w++[l])) v=c.headD []:=by rw[Y];exact e
  have my:=JM M N lp E C e';rw[Y]at my;obtain⟨k',aa,r,m',Q,U,f3⟩:=Mk.all k l _ y B J ll my;obtain⟨i,hi⟩:=pz m';have li:=(cg.mp hi).1;obtain⟨p,hp,rfl⟩:=cq.mp ht;obtain⟨r1,r2⟩:=T.run p hp;have eb:ig q p.1 i=beh p.1 r:=by
   show beh _ (q.getD i [])=_;rw[cP,hi];rfl
  have hb:beh p.1 r∈I.map (·.1):=by
   obtain⟨u,h2,_⟩:=T.least _ (p.2++[i]) rZ λx D=>(cM.mp D).elim (r1 x) λz=>by rw[cE.mp z];exact li
   have e3:cw (ig q) (List.range f.length) (p.2++[i])=beh p.1 r:=by
    rw[<-eb,<-r2];unfold cw;rw[kg];rfl
   rw[e3]at h2;exact cq.mpr #[_,h2,rZ]
  have z:=ih (w++[l]) k' aa (beh p.1 r) E C e' (by rw[Y];exact Q) U hb (by unfold beh;rw[List.length_map,lt]) λj u a L h=>?_
  .rw[fY]at z;exact z
  .obtain⟨s,G⟩:∃s,p.1[j]?=some s:=#[_,b8 (by rw[lt];exact(cg.mp L).1)];obtain⟨A,g1,g2⟩:=b j u s L G;have l1:=(cg.mp g1).1;have ab:r[s]?=some a:=by
    unfold beh at h;rw[cr,G]at h;have h:some (r.getD s 0)=some a:=h;rw[<-h,cP,b8 (by rw[f3.1];exact l1)];rfl
   obtain⟨u2,g3,g4⟩:=f3.2 s A a g1 ab;refine#[u2,g3,?_];rw[g4,g2,iK];rfl
def Ob(M:Mach H m d n)(a:FamOf d n g)(lp:LvP d g c f o)(i:o[0]?=some []){b:LN}(Mk:Makers d c f o b){l:TW}(T:Told (ig b) b.length (List.range f.length) l)(t:bV):t∈l.map (·.1)↔ ∃w,kq d (c.headD []) w/\t=tw d f w:=by
 have nd:=nQ M a lp;have s:c[0]?=some (c.headD []):=by
  cases c with
  |nil=>exact wC rZ (gZ lp.cls).1
  |cons x c=>rfl
 constructor
 .intro h;obtain⟨p,v,rfl⟩:=cq.mp h;obtain⟨y,z⟩:=T.run p v;obtain⟨w,k,e⟩:=OE M a lp Mk p.2 [] y #[(λ_ h=>nomatch h),rZ];rw[N3 nd,z]at e;exact#[w,k,e]
 .rintro⟨w,k,rfl⟩;refine Jd M a lp i Mk T w [] 0 [] (List.range f.length) (λ_ h=>nomatch h) k.1 k.2 s i (cq.mpr #[_,cH T.head,rZ]) mz λj u A q r=>?_;rw[ko (cg.mp q).1]at r;cases r;exact#[u,q,rZ]
end
structure Lv where
 c:LN
 us:LN
 wds:LN
 gs:LN
structure GrpOf(ts c us wds gs:LN):Prop where
 up:gs.Pairwise λx y=>d8 x y=true
 mem:∀t,t∈gs↔Gen (qr ts c us wds) us.length t
def GrpOf.uniq{d c e a f b:LN}(h:GrpOf d c e a f)(g:GrpOf d c e a b):f=b:=Az qa v6 h.up g.up λt=>(h.mem t).trans (g.mem t).symm
def HU{H:Hp}{m:Ad}{b:LN}{n:Nat}{d c e a f g:LN}{h:TW}(M:Mach H m b n)(i:FamOf b n d)(lp:LvP b d c e a)(j:g.Perm (h.map (·.1)))(up:g.Pairwise (λx y=>d8 x y=true))(Mk:Makers b c e a f)(TT:Told (ig f) f.length (List.range e.length) h):GrpOf b c e a g:=
 #[up,λt=>by rw[j.mem_iff,HJ TT,Hm (Eg M i lp Mk)]]
structure LvOk(ts fam:LN)(L:Lv):Prop where
 p:LvP ts fam L.c L.us L.wds
 w:Wds ts L.c L.wds
 g:GrpOf ts L.c L.us L.wds L.gs
structure RowOf(ts:LN)(n:Nat)(fam:LN)(Ls:List Lv):Prop where
 ff:FamOf ts n fam
 od:Ord ts (cY ts (big fam)) (Ls.map (·.c))
 few:Ls.length<=32
 ok:∀L∈Ls,LvOk ts fam L
section
variable{H:Hp}{m:Ad}{b:LN}{n:Nat}{a:LN}{L:Lv}
def LvOk.inG(M:Mach H m b n)(c:FamOf b n a)(ok:LvOk b a L){t:bV}(h:t∈L.gs):t∈gU L.us n:=by
 have z:=(ok.g.mem t).mp h;have d:=(ok.p.inU M c).1
 induction z with
 |base=>exact zu (nQ M c ok.p) d
 |step e f g=>
  obtain⟨k,l,u,x,v,i,j,o,p,q,r,s⟩:=f;exact xY M.n5 d (g ((ok.g.mem _).mpr e)) (Ge M c ok.p j o p q r s)
end
def f9(a:LN)(b:As):List (List cy×V):=a2j (a.map λx=>(x,[])) b
def Hn{a:LN}{b:As}(h:b.length=a.length):(f9 a b).length=a.length:=by
 unfold f9 L2.a2j;rw[List.length_zipWith,bZ,h,Nat.min_self]
def FR{b:LN}{c:As}{x:bV}{a:Ad}(h:c.length=b.length)(d:x∉b):iS (f9 b c) (nk x) (.ref a)=f9 (b++[x]) (c++[a]):=by
 unfold f9;rw[xQ _ (rT (by rw[BN];exact d)),dX];exact(yb (ws:=b.map λx=>(x,[])) (p:=(x,[])) (a:=a) (by rw[bZ,h])).symm
def tl(a b:LN)(c:bV):LN:=b.map λu=>cw (ck a) u c
def TiledAs(H:Hp)(e f b:LN)(g:As):Prop:=∀(k:Nat) (c:bV) (a:Ad),b[k]?=some c->g[k]?=some a->∃d,H a=some (.lst (d.map .ref))/\TupsAt H d (tl e f c)
def TiledAt(H:Hp)(t:Ad)(d c e a:LN):Prop:=∃b,H t=some (.dT (f9 c b))/\b.length=c.length/\TiledAs H d e a b
def TurnL(H:Hp)(b c h d:LN)(x i:bV)(e:List V):Prop:=e.length=b.length/\∀(l:Nat) (v:V),e[l]?=some v->(ck b x l∉c/\v=.non)\/∃(p:Ad) (f:bV) (g:Nat) (a:bV),v=.ref p/\H p=some (.tup (f.map nv))/\c[g]?=some (ck b x l)/\d[g]?=some a/\j8 b h i a l f
def TurnsAs(H:Hp)(f c g b:LN)(h:As):Prop:=∀(k:Nat) (x d:bV) (a:Ad),c[k]?=some x->b[k]?=some d->h[k]?=some a->∃e,H a=some (.lst e)/\TurnL H f c g b x d e
def TurnsAt(H:Hp)(t:Ad)(d c e a:LN):Prop:=∃b,H t=some (.dT (f9 c b))/\b.length=c.length/\TurnsAs H d c e a b
def Stays(f:HO->Bool)(H a:Hp):Prop:=∀b o,f o=false->H b=some o->a b=some o
def vx:HO->Bool
 |.tbl _=>true
 |_=>false
def DZ:HO->Bool
 |.tbl _=>true
 |.dT _=>true
 |_=>false
def oj:HO->Bool
 |.ins _ _ _=>true
 |_=>false
def BH:HO->Bool
 |.lst _=>true
 |_=>false
abbrev ue:=Stays DZ
abbrev r3:=Stays BH
def Stays.a{f:HO->Bool}{H H':Hp}{b:Ad}{o:HO}(g:Stays f H H')(h:H b=some o)(d:f o=false:=by rfl):H' b=some o:=g b o d h
def nz{H:Hp}{a:Ad}{o:HO}(h:H a=some o)(d:vx o=false:=by rfl):L2.noT H a=some o:=r6 h λb e=>by subst e;cases d
def tq{H a:Hp}(g:Keeps H a):Stays vx H a:=λb o d h=>g b o (nz h d)
def yg{H a:Hp}(g:Same H a):ue H a:=λb o _ h=>g b o h
def Stays.off{H:Hp}{D:Ad}{a:List (List cy×V)}{o:HO}(h:H D=some (.dT a)):ue H (bX H D o):=λb u n c=>by
 rw[cf (jm c h λe=>by rw[e]at n;cases n)];exact c
def Stays.offL{H:Hp}{D:Ad}{c:List V}{o:HO}(h:H D=some (.lst c)):r3 H (bX H D o):=λb u n a=>by
 rw[cf (jm a h λe=>by rw[e]at n;cases n)];exact a
def Stays.offI{H:Hp}{D C d:Ad}{fs:List (Str×V)}{o:HO}(h:H D=some (.ins C d fs)):Stays oj H (bX H D o):=λb u n a=>by
 rw[cf (jm a h λe=>by rw[e]at n;cases n)];exact a
section
variable{f:HO->Bool}{H m:Hp}{n c j d:LN}
def Stays.tups{bs:As}{j:LN}(g:Stays f H m)(T:TupsAt H bs j)(a:∀c,f (.tup c)=false:=by intro;rfl):TupsAt m bs j:=#[T.len,λi b u d e=>g _ _ (a _) (T.is i b u d e)]
def TiledAs.lts{c:As}(h:TiledAs H n j d c)(g:Stays f H m)(e:∀b,f (.lst b)=false:=by intro;rfl)(i:∀b,f (.tup b)=false:=by intro;rfl):TiledAs m n j d c:=λk l a o p=>let⟨q,r,s⟩:=h k l a o p;#[q,g _ _ (e _) r,g.tups s i]
def TurnL.lts{x b:bV}{i:List V}(h:TurnL H n c j d x b i)(g:Stays f H m)(k:∀o,f (.tup o)=false:=by intro;rfl):TurnL m n c j d x b i:=#[h.1,λl v e=>(h.2 l v e).imp id λ⟨p,q,r,a,s,t,u⟩=>#[p,q,r,a,s,g _ _ (k _) t,u]]
def TurnsAs.lts{e:As}(h:TurnsAs H n c j d e)(g:Stays f H m)(i:∀b,f (.lst b)=false:=by intro;rfl)(l:∀b,f (.tup b)=false:=by intro;rfl):TurnsAs m n c j d e:=λk x o a p q r=>let⟨s,t,u⟩:=h k x o a p q r;#[s,g _ _ (i _) t,u.lts g l]
def TiledAt.keeps{t:Ad}(h:TiledAt H t n c j d)(g:Keeps H m):TiledAt m t n c j d:=let⟨a,b,e,f⟩:=h;#[a,g _ _ (nz b),e,f.lts (tq g)]
def TurnsAt.keeps{t:Ad}(h:TurnsAt H t n c j d)(g:Keeps H m):TurnsAt m t n c j d:=let⟨a,b,e,f⟩:=h;#[a,g _ _ (nz b),e,f.lts (tq g)]
end
def DX(m g t u:Ad)(k:Nat):List (Str×V):=[(sA,.ref m),(sI,.ref g),(sJ,.ref t),(sM,.ref u),(tL,nv k)]
section
variable{m g t u:Ad}{k:Nat}
def Fu:(DX m g t u k).lookup (sI:Str)=some (.ref g):=by kernel_rfl
def wW:(DX m g t u k).lookup (tL:Str)=some (nv k):=by kernel_rfl
end
def StepAt(C:Ad)(H:Hp)(q m:Ad)(a:LN)(L:Lv):Prop:=∃(c g t u:Ad) (b:As),H q=some (.ins C c (DX m g t u L.us.length))/\H g=some (.lst (b.map .ref))/\TupsAt H b L.gs/\TiledAt H t a L.c L.us L.wds/\TurnsAt H u a L.c L.us L.wds
def StepAt.keeps{C:Ad}{H a:Hp}{q m:Ad}{b:LN}{L:Lv}(h:StepAt C H q m b L)(k:Keeps H a):StepAt C a q m b L:=
 let⟨c,g,t,u,d,e,f,i,j,l⟩:=h;#[c,g,t,u,d,k _ _ (nz e),k _ _ (nz f),lV i k,j.keeps k,l.keeps k]
structure StepsAt(C:Ad)(H:Hp)(qs:As)(m:Ad)(ts:LN)(Ls:List Lv):Prop where
 len:qs.length=Ls.length
 is:∀(i:Nat) (q:Ad) (L:Lv),qs[i]?=some q->Ls[i]?=some L->StepAt C H q m ts L
def xC(r s:Ad):List (Str×V):=[(sB,.ref r),(uQ,.ref s)]
def Jx{r s:Ad}:(xC r s).lookup (uQ:Str)=some (.ref s):=by kernel_rfl
def GZ(b CR:Ad)(H:Hp)(p m:Ad)(c:LN)(n:Nat)(d:List Lv):Prop:=∃(e r s:Ad) (a:As),H p=some (.ins CR e (xC r s))/\H r=some (.tup ((List.range n).map nv))/\H s=some (.lst (a.map .ref))/\StepsAt b H a m c d
inductive gy(C:Ad)(j:List V)(H:Hp)(Q:VK)(i:XK):Prop|mk:∀(d:Hp) (p l m a:Ad) (e:LN) (n:Nat) (f c g b:LN),j=[.ref p,.ref m,.ref a]->Same d H->d p=none->H p=some (.ins C l [])->Mach d m e n->FamOf e n f->LvH d a c g b->LvP e f c g b->Tabs d->(∀k h,Keeps d h->Tabs h->GrpOf e c g b k->StepAt C h p m e #[c,g,b,k]->Q .non h)->gy C j H Q i
inductive fK(f CR:Ad)(g:List V)(H:Hp)(Q:VK)(c:XK):Prop|mk:∀(a:Hp) (p i m:Ad) (d:LN) (n:Nat),g=[.ref p,.ref m]->Same a H->a p=none->H p=some (.ins CR i [])->Mach a m d n->Tabs a->(∀e h b,Keeps a b->Tabs b->RowOf d n e h->GZ f CR b p m d n h->Q .non b)->fK f CR g H Q c
def Tabs.offI{H:Hp}{p C a:Ad}{fs:List (Str×V)}{o:HO}(t:Tabs H)(h:H p=some (.ins C a fs)):Tabs (bX H p o):=λq d=>by
 have k:∀{b:Ad} {u:HO},u≠ .ins C a fs->H b=some u->bX H p o b=some u:=λn c=>by
  rw[cf (jm c h n)];exact c
 rcases t q d with t|⟨f,g,i⟩
 .exact .inl (k (λe=>nomatch e) t)
 .exact .inr #[f,k (λe=>nomatch e) g,k (λe=>nomatch e) i]
def Tabs.offD{H:Hp}{D:Ad}{a:List (List cy×V)}{o:HO}(t:Tabs H)(h:H D=some (.dT a)):Tabs (bX H D o):=t.most λb u n _ c=>by
 rw[cf (jm c h λe=>n _ e)];exact c
def w9{H a:Hp}{l:Ad}{o:HO}(g:Keeps H a)(n:H l=none):Keeps H (bX a l o):=D1 g (Eo n)
def Ho{H a:Hp}{l:Ad}(g:Keeps H a)(n:a l=none):L2.noT H l=none:=by
 cases y:L2.noT H l with
 |none=>rfl
 |some o=>
  rw[g _ _ y]at n;cases n
def StepAt.off{C i:Ad}{H:Hp}{q m p d:Ad}{b:LN}{L:Lv}{fs:List (Str×V)}{o:HO}(h:StepAt C H q m b L)(c:H p=some (.ins i d fs))(n:fs.length≠5):StepAt C (bX H p o) q m b L:=by
 obtain⟨j,g,t,u,k,f,l,r,⟨s,v,w,x⟩,a,y,z,A⟩:=h;have lo:Stays oj H (bX H p o):=Stays.offI c;refine#[j,g,t,u,k,?_,lo.a l,lo.tups r,#[s,lo.a v,w,x.lts lo],a,lo.a y,z,A.lts lo];rw[cf (jm f c λe=>by injection e with _ _ e;exact n (by rw[<-e];rfl))];exact f
def uf{b:Type}{P:Nat->b->Prop}{a:List b}{x:b}(h:∀k y,a[k]?=some y->P k y)(c:P a.length x)(k:Nat)(y:b)(e:(a++[x])[k]?=some y):P k y:=by
 by_cases d:k<a.length
 .rw[eA d]at e;exact h k y e
 .have lk:=(cg.mp e).1;rw[dA,wh]at lk;have f:k=a.length:=by lia
  subst f;rw[dZ (cm _),jg]at e;cases e;exact c
def Jq{C:Ad}(F:Fun K uB "LevelParts.__init__" Af f fd)(M2:OwnC K C [sA,sI,sJ,sM,tL])(jN:cT P w K mg base sS 13 [sA,sE] gn)(jG:cT P w K mg base tZ 7 [sA,sE,"k"] eM)(jL:cT P w K mg base uA 9 [sA,sE,"k",sP] fy)(jH:mg "enumerate"=none)(jB:mg "range"=none)(jA:mg "len"=none):FnOk P w K mg base cL 15 f fd [tG,sA,sE] (gy C):=by
 refine F.ok kB (λaX A aN s H vs Q E hr h=>?_)
 obtain⟨H0,p,d,m,a,I,n,aw,c,Y,y,rfl,g0,np,hp,M,ff,lv,lp,hT,q⟩:=h;have hu:=hr.units;have ax:=ky hr;obtain⟨s',t',v',bs,ds,cs,h1,h2,h3,h4,h5,h6,h7,h8⟩:=id lv;have lb:=h3.len;have l5:=h5.len;obtain⟨uU,few⟩:=lp.inU M ff;obtain⟨rs,hm,aO,_⟩:=M.refs;have t4:=M.few;have nd:=lp.nd ff;have c32:c.length<=32:=by
  rw[(gZ lp.cls).2.1];exact cW (hJ _ _) (cW (hJ _ _) (ff.few M))
 refine#[_,(cD (qu (pv 0) (pv 1) rZ) (cD (qu (pv 0) (cX jN hr.m rZ (c7 (ci (pv 1) (ci (pv 2) cZ rZ) rZ))) rZ) (cD (qu (pv 0) wr rZ) (cD (qu (pv 0) wr rZ) (cD (iL gY rZ (DF rZ jH (cu (dE fb (pv 2) cU (λ_ _=>rfl)) cj)) (ui rZ (mF (fV (i:=3) kB.nd rZ Z0) (mF (fV (i:=4) kB.nd rZ Z') u0))) (cD (q0 ax (vg (pv 0) rZ) (pv 4) (cX jG hr.m rZ (c7 (ci (pv 1) (ci (pv 2) (ci (pv 3) cZ rZ) rZ) rZ))) rZ) (cG (q0 ax (vg (pv 0) rZ) (pv 4) (gX (CompSc.to (N:=[tG,sA,sE,"k",sB]) (osc:=cz Af) (vs:=[sP]) {}) rZ rZ (nJ rZ jB (cu (dY fF rZ jA fe (cu (pv 1) cj)) cj)) (λ_ _ _ _=>gQ) (λ_ _ _ _=>(cX jL hr.m rZ (c7 (ci (pv 2) (ci (pv 3) (ci (pv 4) (ci (pv 0) cZ rZ) rZ) rZ) rZ))))) rZ)))) (cG (qu (pv 0) (dY fF rZ jA fe (cu (dE fb (pv 2) cU (λ_ _=>rfl)) cj)) rZ))))))),?_];refine#[_,rZ,_,rZ,p,C,d,_,rZ,hp,M2.cl,M2.no,by show 0<1000;decide,?_];have g1:Same H0 (bX H p (.ins C d (dB sA (.ref m) []))):=iq g0 np;have p1:bX H p (.ins C d (dB sA (.ref m) [])) p=some (.ins C d (dB sA (.ref m) [])):=cb;generalize bX H p (.ins C d (dB sA (.ref m) []))=H1 at g1 p1|-;refine#[_,rZ,_,rZ,m,a,I,n,aw,c,Y,y,rZ,M.same g1,ff,lv.same g1,lp,hT.same g1,λg gr gs mk ws H2 k2 T2 ng eg Tg pm up Mk TT=>?_];have G:=HU M ff lp pm up Mk TT;have p2:=k2 _ _ (nz p1);refine#[_,rZ,p,C,d,_,rZ,p2,M2.cl,M2.no,by show 1<1000;decide,?_];have gp:g≠p:=nE eg p2;have k3:Keeps H0 (bX H2 p (.ins C d (dB sI (.ref g) (dB sA (.ref m) [])))):=w9 (g1.keeps.trans k2) np;have T3:Tabs (bX H2 p (.ins C d (dB sI (.ref g) (dB sA (.ref m) [])))):=T2.offI p2;have p3:bX H2 p (.ins C d (dB sI (.ref g) (dB sA (.ref m) []))) p=some (.ins C d [(sA,.ref m),(sI,.ref g)]):=by rw[cb];exact dw (λl=>some (HO.ins C d l)) (by kernel_rfl)
 have an:bX H2 p (.ins C d (dB sI (.ref g) (dB sA (.ref m) []))) g=some (.lst (gr.map .ref)):=by rw[cf gp];exact eg
 have ao:TupsAt (bX H2 p (.ins C d (dB sI (.ref g) (dB sA (.ref m) [])))) gr gs:=pY Tg p2 λ_ e=>nomatch e;generalize bX H2 p (.ins C d (dB sI (.ref g) (dB sA (.ref m) [])))=H3 at k3 T3 p3 an ao|-;intro t ht;have J:=cn ht (.dT []);have ay:p≠t:=di p3 ht;have aP:=Ho k3 ht;refine#[_,rZ,p,C,d,_,rZ,J _ _ p3,M2.cl,M2.no,by show 2<1000;decide,?_];have k4:Keeps H0 (bX (bX H3 t (.dT [])) p (.ins C d (dB sJ (.ref t) [(sA,.ref m),(sI,.ref g)]))):=w9 (k3.trans J.keeps) np;have T4:Tabs (bX (bX H3 t (.dT [])) p (.ins C d (dB sJ (.ref t) [(sA,.ref m),(sI,.ref g)]))):=(T3.same J).offI (J _ _ p3);have p4:bX (bX H3 t (.dT [])) p (.ins C d (dB sJ (.ref t) [(sA,.ref m),(sI,.ref g)])) p=some (.ins C d [(sA,.ref m),(sI,.ref g),(sJ,.ref t)]):=by rw[cb];exact dw (λl=>some (HO.ins C d l)) (by kernel_rfl)
 have ap:bX (bX H3 t (.dT [])) p (.ins C d (dB sJ (.ref t) [(sA,.ref m),(sI,.ref g)])) g=some (.lst (gr.map .ref)):=by rw[cf gp];exact J _ _ an
 have aq:TupsAt (bX (bX H3 t (.dT [])) p (.ins C d (dB sJ (.ref t) [(sA,.ref m),(sI,.ref g)]))) gr gs:=pY (ao.same J) (J _ _ p3) λ_ e=>nomatch e;have aj:bX (bX H3 t (.dT [])) p (.ins C d (dB sJ (.ref t) [(sA,.ref m),(sI,.ref g)])) t=some (.dT []):=by rw[cf ay.symm];exact cb
 generalize bX (bX H3 t (.dT [])) p (.ins C d (dB sJ (.ref t) [(sA,.ref m),(sI,.ref g)]))=H4 at k4 T4 p4 ap aq aj|-;clear k3 T3 p3 an ao J ht k2 T2 p2 eg Tg g1 p1 g0 hp;intro u af;have J:=cn af (.dT []);have aQ:p≠u:=di p4 af;have az:t≠u:=di aj af;refine#[_,rZ,p,C,d,_,rZ,J _ _ p4,M2.cl,M2.no,by show 3<1000;decide,?_];have k5:Keeps H0 (bX (bX H4 u (.dT [])) p (.ins C d (dB sM (.ref u) [(sA,.ref m),(sI,.ref g),(sJ,.ref t)]))):=w9 (k4.trans J.keeps) np;have T5:Tabs (bX (bX H4 u (.dT [])) p (.ins C d (dB sM (.ref u) [(sA,.ref m),(sI,.ref g),(sJ,.ref t)]))):=(T4.same J).offI (J _ _ p4);have p5:bX (bX H4 u (.dT [])) p (.ins C d (dB sM (.ref u) [(sA,.ref m),(sI,.ref g),(sJ,.ref t)])) p=some (.ins C d [(sA,.ref m),(sI,.ref g),(sJ,.ref t),(sM,.ref u)]):=by rw[cb];exact dw (λl=>some (HO.ins C d l)) (by kernel_rfl)
 have aA:bX (bX H4 u (.dT [])) p (.ins C d (dB sM (.ref u) [(sA,.ref m),(sI,.ref g),(sJ,.ref t)])) g=some (.lst (gr.map .ref)):=by rw[cf gp];exact J _ _ ap
 have aB:TupsAt (bX (bX H4 u (.dT [])) p (.ins C d (dB sM (.ref u) [(sA,.ref m),(sI,.ref g),(sJ,.ref t)]))) gr gs:=pY (aq.same J) (J _ _ p4) λ_ e=>nomatch e;have aC:bX (bX H4 u (.dT [])) p (.ins C d (dB sM (.ref u) [(sA,.ref m),(sI,.ref g),(sJ,.ref t)])) t=some (.dT []):=by rw[cf ay.symm];exact J _ _ aj
 have aD:bX (bX H4 u (.dT [])) p (.ins C d (dB sM (.ref u) [(sA,.ref m),(sI,.ref g),(sJ,.ref t)])) u=some (.dT []):=by rw[cf aQ.symm];exact cb
 have aR:=Ho k4 af;generalize bX (bX H4 u (.dT [])) p (.ins C d (dB sM (.ref u) [(sA,.ref m),(sI,.ref g),(sJ,.ref t)]))=H5 at k5 T5 p5 aA aB aC aD|-;clear k4 T4 p4 ap aq aj J af
 let Pv:Nat->L2.St->Hp->Prop:=λi σ B=>Keeps H0 B/\Tabs B/\B p=some (.ins C d [(sA,.ref m),(sI,.ref g),(sJ,.ref t),(sM,.ref u)])/\B g=some (.lst (gr.map .ref))/\TupsAt B gr gs/\(∃z,B t=some (.dT (f9 (c.take i) z))/\z.length=i/\TiledAs B I Y y z)/\(∃z,B u=some (.dT (f9 (c.take i) z))/\z.length=i/\TurnsAs B I c Y y z)/\∃o3 o4,σ=[some (.ref p),some (.ref m),some (.ref a),o3,o4]
 have L:=λ{B:Hp} (k:Keeps H0 B)=>tq k;refine#[_,rZ,a,_,_,_,rZ,rZ,O1 ((L k5).a h1),rZ,s',_,rZ,O0 ((L k5).a h2),Ck (xs:=bs.map .ref) Pv #[k5,T5,p5,aA,aB,#[[],aC,rZ,λk D a _ e=>by simp at e],#[[],aD,rZ,λk x D a _ _ e=>by simp at e],_,_,rZ] (λi σ B _ p=>O0 ((L p.1).a h2)) (λi Tp v σ H6 hv nT pv=>?_) (λσ H6 pv=>?_)]
 .obtain⟨k6,T6,p6,ar,au,⟨z,ab,la,ta⟩,⟨O,ag,ae,tb⟩,o3,o4,rfl⟩:=pv;rw[cr]at hv;obtain⟨b,eb,rfl⟩:=da.mp hv;have li:=(cg.mp eb).1;obtain⟨x,ex⟩:∃x,c[i]?=some x:=#[_,b8 ()];obtain⟨D,ew⟩:∃D,y[i]?=some D:=#[_,b8 (by rw[lp.len];lia)];have aS:=(lp.go i x D ex ew).1;have tk:c.take (i+1)=c.take i++[x]:=by rw[g9,ex];rfl
  have xn:x∉c.take i:=λh=>by
   obtain⟨j,ej⟩:=dU.mp h;have lj:=(cg.mp ej).1;rw[e9]at lj;rw[xA ()]at ej;have:=(jk () nd).mp (ej.trans ex.symm)
   lia
  have lt:(c.take i).length=i:=by rw[e9];lia
  have kT:=cn nT (.tup [.int (i:Nat),.ref b]);have eT:bX H6 Tp (.tup [.int (i:Nat),.ref b]) Tp=some (.tup [.int (i:Nat),.ref b]):=cb;generalize bX H6 Tp (.tup [.int (i:Nat),.ref b])=H7 at kT eT|-;have k7:=k6.trans kT.keeps;refine#[Tp,_,rZ,O1 eT,rZ,_,_,rZ,_,_,rZ,rZ,?_];refine#[_,rZ,_,rZ,_,rZ,m,a,i,I,n,c,Y,y,D,rZ,M.keeps k7,LvH.keeps lv k7,ew,uU,few,aS,λl es H8 g8 el aE=>?_];have T:=kT.trans g8;have k8:=k6.trans T.keeps;have aF:=(L k8).a (h3.is i b x eb ex);refine#[_,rZ,p,C,d,_,_,rZ,T _ _ p6,M2.cl,M2.no,(by kernel_rfl),_,rZ,t,_,rZ,DPut.t (T _ _ ab) (by rw[gO];exact aF) (by rw[Hn (),cS];lia),?_];rw[FR () xn,<-tk];have ak:=T _ _ ab;have lo:ue H6 (bX H8 t (.dT (f9 (c.take (i+1)) (z++[l])))):=λb o n hb=>Stays.off ak b o n (T _ _ hb);have av:ue H8 (bX H8 t (.dT (f9 (c.take (i+1)) (z++[l])))):=Stays.off ak;have k9:Keeps H0 (bX H8 t (.dT (f9 (c.take (i+1)) (z++[l])))):=D1 k8 aP;have T9:Tabs (bX H8 t (.dT (f9 (c.take (i+1)) (z++[l])))):=(T6.same T).offD ak;have aG:bX H8 t (.dT (f9 (c.take (i+1)) (z++[l]))) t=some (.dT (f9 (c.take (i+1)) (z++[l]))):=cb;have aH:bX H8 t (.dT (f9 (c.take (i+1)) (z++[l]))) u=some (.dT (f9 (c.take i) O)):=by rw[cf az.symm];exact T _ _ ag
  have aI:TiledAs (bX H8 t (.dT (f9 (c.take (i+1)) (z++[l])))) I Y y (z++[l]):=λk r a' e1 e2=>uf (P:=λk a=>∀D,y[k]?=some D->∃es,bX H8 t (.dT (f9 (c.take (i+1)) (z++[l]))) a=some (.lst (es.map .ref))/\TupsAt (bX H8 t (.dT (f9 (c.take (i+1)) (z++[l])))) es (tl I Y D)) (λk a e D e'=>(ta.lts lo) k D a e' e) (λr e=>by
   rw[la,ew]at e;cases e;exact#[es,av.a el,av.tups aE]) k a' e2 r e1
  have p9:=lo.a p6;have aJ:=lo.a ar;have aK:=lo.tups au;have aL:=tb.lts lo;generalize bX H8 t (.dT (f9 (c.take (i+1)) (z++[l])))=H9 at k9 T9 aG aH aI p9 aJ aK aL|-;clear lo av T g8 k8 aF ak kT eT k7 el aE;refine#[_,rZ,m,_,rZ,.inr (O1 ((L k9).a hm)),(I.length:Int),by rw[bZ,aO],(),(),xT (λj ys B=>Same H9 B/\ys.length=j/\∀(l:Nat) (v:V),ys[l]?=some v->(ck I x l∉c/\v=.non)\/∃(p:Ad) (js:bV) (k':Nat) (r:bV),v=.ref p/\B p=some (.tup (js.map nv))/\c[k']?=some (ck I x l)/\y[k']?=some r/\j8 I Y D r l js) (by rw[iI];exact small ()) #[Same.refl _,rZ,λl v e=>by simp at e] (λj ys B _ pv=>Nat.le_of_eq pv.2.1) (λj ys B hj pv=>?_) (λys B pv sg aT=>?_)]
  .obtain⟨g,ly,al⟩:=pv;have e0:V.int (0+(j:Int))=nv j:=by show V.int (0+(j:Int))=V.int (j:Int);rw[pZ]
   have aU:j<I.length:=by simpa using hj
   rw[e0];have ah:=k9.trans g.keeps;refine#[hE,i8 #[_,rZ,_,rZ,_,rZ,_,rZ,m,a,i,j,I,n,aw,c,Y,y,x,D,rZ,M.keeps ah,ff,LvH.keeps lv ah,lp,ex,ew,aU,λno H2 g2=>?_,λk' r ey aV pp js H2 g2 ep aW=>?_]]
   .refine#[g.trans g2,by rw[dA,ly];rfl,λl v e=>uf (P:=λl v=>(ck I x l∉c/\v=V.non)\/∃(p:Ad) (js:bV) (k':Nat) (r:bV),v=.ref p/\H2 p=some (.tup (js.map nv))/\c[k']?=some (ck I x l)/\y[k']?=some r/\j8 I Y D r l js) (λl v e=>(al l v e).imp id λ⟨p,js,k',r,z1,z2,z3⟩=>#[p,js,k',r,z1,g2 _ _ z2,z3]) (.inl #[by rw[ly];exact no,rZ]) l v e]
   .refine#[g.trans g2,by rw[dA,ly];rfl,λl v e=>uf (P:=λl v=>(ck I x l∉c/\v=V.non)\/∃(p:Ad) (js:bV) (k':Nat) (r:bV),v=.ref p/\H2 p=some (.tup (js.map nv))/\c[k']?=some (ck I x l)/\y[k']?=some r/\j8 I Y D r l js) (λl v e=>(al l v e).imp id λ⟨p,js,k',r,z1,z2,z3⟩=>#[p,js,k',r,z1,g2 _ _ z2,z3]) (.inr #[pp,js,k',r,rZ,ep,by rw[ly];exact ey,aV,by rw[ly];exact aW]) l v e]
  .obtain⟨g,ly,al⟩:=pv;rw[iI]at ly;have ks:=cn aT (.lst ys);have es:bX B sg (.lst ys) sg=some (.lst ys):=cb;have U:=g.trans ks;have TL:TurnL (bX B sg (.lst ys)) I c Y y x D ys:=TurnL.lts #[ly,al] (yg ks);generalize bX B sg (.lst ys)=ai at ks es U TL|-;have ah:=k9.trans U.keeps;have aM:=(L ah).a (h3.is i b x eb ex);have aa:=U _ _ aH;refine#[_,rZ,p,C,d,_,_,rZ,U _ _ p9,M2.cl,M2.no,(by kernel_rfl),_,rZ,u,_,rZ,DPut.t aa (by rw[gO];exact aM) (by rw[Hn (),cS];lia),?_];rw[FR () xn,<-tk];have lo:ue H9 (bX ai u (.dT (f9 (c.take (i+1)) (O++[sg])))):=λb o n hb=>Stays.off aa b o n (U _ _ hb)
   have am:ue ai (bX ai u (.dT (f9 (c.take (i+1)) (O++[sg])))):=Stays.off aa;refine#[D1 ah aR,(T9.same U).offD aa,lo.a p9,lo.a aJ,lo.tups aK,#[z++[l],by rw[cf az];exact U _ _ aG,by rw[dA,la];rfl,aI.lts lo],#[O++[sg],cb,by rw[dA,ae];rfl,λk x' r a' e1 e2 e3=>?_],_,_,rZ];refine uf (P:=λk a=>∀x D,c[k]?=some x->y[k]?=some D->∃vs,bX ai u (.dT (f9 (c.take (i+1)) (O++[sg]))) a=some (.lst vs)/\TurnL (bX ai u (.dT (f9 (c.take (i+1)) (O++[sg])))) I c Y y x D vs) (λk a e x D e1 e2=>(aL.lts lo) k x D a e1 e2 e) (λx' r e1 e2=>?_) k a' e3 x' r e1 e2;rw[ae,ex]at e1;rw[ae,ew]at e2;cases e1;cases e2;exact#[ys,am.a es,TL.lts am]
 .obtain⟨k6,T6,p6,ar,au,⟨z,ab,la,ta⟩,⟨O,ag,ae,tb⟩,o3,o4,rfl⟩:=pv;rw[bZ,lb]at ab ag la ae;rw[fN]at ab ag;refine#[_,rZ,a,_,_,_,rZ,rZ,O1 ((L k6).a h1),rZ,t',_,rZ,.inl (O0 ((L k6).a h4)),_,rZ,p,C,d,_,rZ,p6,M2.cl,M2.no,by show 4<1000;decide,?_];rw[show((ds.map V.ref).length)=Y.length by rw[bZ,l5]];have lo:Stays oj H6 (bX H6 p (.ins C d (dB tL (nv Y.length) [(sA,.ref m),(sI,.ref g),(sJ,.ref t),(sM,.ref u)]))):=Stays.offI p6;refine q gs _ (w9 k6 np) (T6.offI p6) G #[d,g,t,u,gr,?_,lo.a ar,lo.tups au,#[z,lo.a ab,la,ta.lts lo],O,lo.a ag,ae,tb.lts lo];rw[cb];exact dw (λl=>some (HO.ins C d l)) (by kernel_rfl)
def Mx{I CR T:Ad}(F:Fun K uB "Row.__init__" AJ f fd)(O':OwnC K CR [sB,uQ])(qA:x9 P w K mg base "LevelParts" I 15 [tG,sA,sE] (gy I))(kP:cT P w K mg base "levels" 18 [sA] (fE T (#[62,40,62,93]:Pos)))(jT:cT P w K mg base uP 1 [sB] eN)(jA:mg "len"=none):FnOk P w K mg base cL 20 f fd [tG,sA] (fK I CR):=by
 refine F.ok Mc (λar A ag s H O Q E U h=>?_)
 obtain⟨H0,p,g,m,Y,n,rfl,g0,np,hp,M,hT,q⟩:=h;have hu:=U.units;have au:=ky U;obtain⟨rs,r0,hm,av,ah,ai,aj,_⟩:=M.at (l:=0) M.some1;have n5:=M.n5;refine#[_,(cD (qu (pv 0) (cX jT U.m rZ (cu (dY fF rZ jA fe (cu (dE fb (pv 1) cU (λ_ _=>rfl)) cj)) cj)) rZ) (cG (qu (pv 0) (gX (CompSc.to (N:=[tG,sA]) (osc:=cz AJ) (vs:=[sE]) {}) rZ rZ (fZ (cX kP U.m rZ (cu (pv 1) cj))) (λ_ _ _ _=>gQ) (λ_ _ _ _=>(Ga qA U.m rZ (c7 (ci (pv 2) (ci (pv 0) cZ rZ) rZ))))) rZ))),?_];refine#[_,rZ,m,_,_,_,rZ,rZ,O1 (g0 _ _ hm),ah,r0,_,rZ,.inr (O1 (g0 _ _ ai)),?_]
 try dsimp only
 rw[bZ,aj];refine#[n,rZ,(),λr H1 g1 er=>?_];have p1:=g1 _ _ hp;have ak:p≠r:=nE p1 er;refine#[_,rZ,p,CR,g,_,rZ,p1,O'.cl,O'.no,by show 0<1000;decide,?_];have g2:Same H0 (bX H1 p (.ins CR g (dB sB (.ref r) []))):=iq (g0.trans g1) np;have p2:bX H1 p (.ins CR g (dB sB (.ref r) [])) p=some (.ins CR g [(sB,.ref r)]):=cb;have aa:bX H1 p (.ins CR g (dB sB (.ref r) [])) r=some (.tup ((List.range n).map nv)):=by rw[cf ak.symm];exact er
 generalize bX H1 p (.ins CR g (dB sB (.ref r) []))=H2 at g2 p2 aa|-;clear g1 er p1 g0 hp;refine#[_,rZ,m,Y,n,rZ,M.same g2,hT.same g2,λl as told a ys H3 k3 T3 nl el ff od sub al LL nw ap aw=>?_];have ab:=g2.keeps.trans k3;have la:=LL.len;refine#[l,rZ,#[_,O0 el],iX (xs:=as.map .ref) (λi O d=>Keeps H3 d/\Tabs d/\∃(k:As) (t:List Lv),O=k.map V.ref/\t.length=i/\t.map (·.c)=told.take i/\(∀L∈t,LvOk Y a L)/\StepsAt I d k m Y t) (by rw[bZ];exact small ()) #[Keeps.refl _,T3,[],[],rZ,rZ,rZ,(λL h=>nomatch h),rZ,λi q L e=>by simp at e] (λi O d _ pv=>?_) (λi v O d hv pv=>?_) (λO d pv sg am=>?_)]
 .obtain⟨y,_,k,t,rfl,J,_,_,S⟩:=pv;exact#[O0 (y _ _ (nz el)),by rw[bZ,S.len,J];exact cm _]
 .obtain⟨y,T4,k,t,rfl,J,eL,B,S⟩:=pv;rw[cr]at hv;obtain⟨lv,ae,rfl⟩:=da.mp hv;have li:=(cg.mp ae).1;obtain⟨c,ec⟩:∃c,told[i]?=some c:=#[_,b8 ()];obtain⟨C,an,lp,wd⟩:=(LL.is i lv c ae ec).lvw (sub c (cH ec));have ao:=ab.trans y;refine#[hE,i8 #[_,rZ,_,rZ,λx D nx aq ax=>?_]];have gx:Same d (bX (bX d D (.own x)) x (.ins I D [])):=λb o hb=>by
   rw[cf (di hb nx),cf (di hb aq)];exact hb
  refine#[d,x,D,m,lv,Y,n,a,c,_,C,rZ,gx,nx,cb,M.keeps ao,ff,LvH.keeps an y,lp,T4,λgs H5 k5 T5 G St=>#[rZ,y.trans k5,T5,k++[x],t++[#[c,jp a (c.headD []),C,gs]],by rw[dX];rfl,by rw[dA,J];rfl,?_,λL hL=>?_,#[by rw[dA,dA,S.len];rfl,λj q' L e1 u=>?_]]]
  .rw[dX,eL,g9,ec];rfl
  .rcases cM.mp hL with z|z
   .exact B L z
   .rw[cE.mp z];exact#[lp,wd,G]
  .refine uf (P:=λj q=>∀L,(t++[#[c,jp a (c.headD []),C,gs]])[j]?=some L->StepAt I H5 q m Y L) (λj q e L u=>?_) (λL u=>?_) j q' e1 L u
   .have lj:=(cg.mp e).1;rw[eA (by rw[<-S.len];exact lj)]at u;exact(S.is j q L e u).keeps k5
   .rw[S.len,dZ (cm _),jg]at u;cases u;exact St
 .obtain⟨y,T4,k,t,rfl,J,eL,B,S⟩:=pv;rw[bZ]at J eL;rw[la,fN]at eL;have ks:=cn am (.lst (k.map V.ref));have af:=(k3.trans y).trans ks.keeps;have p5:=af _ _ (nz p2);refine#[_,rZ,p,CR,g,_,rZ,p5,O'.cl,O'.no,by show 1<1000;decide,?_];have lo:Stays oj (bX d sg (.lst (k.map V.ref))) (bX (bX d sg (.lst (k.map V.ref))) p (.ins CR g (dB uQ (.ref sg) [(sB,.ref r)]))):=Stays.offI p5;refine q a t _ (w9 ((ab.trans y).trans ks.keeps) np) ((T4.same ks).offI p5) #[ff,by rw[eL];exact od,by rw[J,la];exact al,B] #[g,r,sg,k,?_,lo.a (af _ _ (nz aa)),lo.a cb,S.len,λi q' L e1 u=>((S.is i q' L e1 u).keeps ks.keeps).off p5 (by show ¬1=5;decide)];rw[cb];exact dw (λl=>some (HO.ins CR g l)) (by kernel_rfl)
def ql(k:Nat)(L:Lv):List (Bool×Nat×Nat):=(if 1<L.gs.length then[(true,k,L.gs.length)]else[])++[(false,k,L.us.length)]
def mG(a:List Lv):Nat->List (Bool×Nat×Nat)
 |0=>[]
 |i+1=>mG a i++(match a[i]? with|some L=>ql i L|none=>[])
def pF(a:List Lv):List (Bool×Nat×Nat):=mG a a.length
def M5(k:Nat)(L:Lv):(ql k L).length<=2:=by
 unfold ql;by_cases h:1<L.gs.length
 .rw[wB h];exact cm 2
 .rw[wA h];exact pE 1
theorem D3(a:List Lv):∀i,(mG a i).length<=2 * i
 |0=>cm _
 | i+1=>by
  have z:=D3 a i;unfold mG;rw[dA];cases e:a[i]? with
  |none=>
   simp only[List.length_nil];lia
  |some L=>
   have y:=M5 i L;simp only;lia
def IA{a:List Lv}{i:Nat}{L:Lv}(e:a[i]?=some L):mG a (i+1)=mG a i++ql i L:=by
 show mG a i++_=_;rw[e]
def AU:Bool->Str
 |true=>sL
 |false=>"bring"
structure PartsAt(H:Hp)(as:As)(ps:List (Bool×Nat×Nat)):Prop where
 len:as.length=ps.length
 is:∀(i:Nat) (a:Ad) (p:Bool×Nat×Nat),as[i]?=some a->ps[i]?=some p->H a=some (.tup [.str (AU p.1),nv p.2.1,nv p.2.2])
def PartsAt.st{f:HO->Bool}{H b:Hp}{c:As}{d:List (Bool×Nat×Nat)}(h:PartsAt H c d)(g:Stays f H b)(e:∀xs,f (.tup xs)=false:=by intro;rfl):PartsAt b c d:=#[h.len,λi a p j k=>g _ _ (e _) (h.is i a p j k)]
def PartsAt.snoc{H:Hp}{j:As}{g:List (Bool×Nat×Nat)}{a:Ad}{p:Bool×Nat×Nat}(h:PartsAt H j g)(e:H a=some (.tup [.str (AU p.1),nv p.2.1,nv p.2.2])):PartsAt H (j++[a]) (g++[p]):=by
 refine#[by rw[dA,dA,h.len];rfl,λi d b f c=>?_];refine uf (P:=λi d=>∀b,(g++[p])[i]?=some b->H d=some (.tup [.str (AU b.1),nv b.2.1,nv b.2.2])) (λi d f b c=>?_) (λb c=>?_) i d f b c
 .rw[eA (by rw[<-h.len];exact(cg.mp f).1)]at c;exact h.is i d b f c
 .rw[h.len,dZ (cm _),jg]at c;cases c;exact e
inductive mJ(C:Ad)(b:List V)(H:Hp)(Q:VK)(a:XK):Prop|mk:∀(q m:Ad) (c:LN) (L:Lv),b=[.ref q]->StepAt C H q m c L->Q (.bl (decide (1<L.gs.length))) H->mJ C b H Q a
def MG{C:Ad}(F:Fun K "is_turning" "LevelParts.is_turning" A2 f fd)(M2:OwnC K C [sA,sI,sJ,sM,tL])(b:mg "len"=none):FnOk P w K mg base cL 1 f fd [tG] (mJ C):=by
 refine F.ok Ld (λc A a s H n Q E o h=>?_)
 obtain⟨q,m,p,L,rfl,⟨d,g,t,u,e,i,j,l,_⟩,k⟩:=h;refine#[_,(cG (dF (ug AA (dY fF rZ b fe (cu (vg (pv 0) rZ) cj)) cU (fj _)))),?_];refine#[_,rZ,q,C,d,_,_,rZ,i,M2.cl,M2.no,Fu,g,_,rZ,.inl (O0 j),_,_,rZ,rZ,?_];show Q (.bl (decide ((1:Int)<(((e.map V.ref).length:Nat):Int)))) H;rw[bZ,l.len,show decide ((1:Int)<((L.gs.length:Nat):Int))=decide (1<L.gs.length)from decide_eq_decide.mpr ()];exact k
inductive iH(d CR:Ad)(e:List V)(H:Hp)(Q:VK)(b:XK):Prop|mk:∀(p m:Ad) (g:LN) (n:Nat) (c:List Lv),e=[.ref p]->GZ d CR H p m g n c->c.length<=32->(∀l f a,Same H a->H l=none->a l=some (.lst (f.map .ref))->PartsAt a f (pF c)->Q (.ref l) a)->iH d CR e H Q b
def J3{G CR:Ad}(F:Fun K "parts" "Row.parts" DC f fd)(M2:OwnC K G [sA,sI,sJ,sM,tL])(O':OwnC K CR [sB,uQ])(jM:yy P w K mg base G "is_turning" 1 [tG] (mJ G))(jH:mg "enumerate"=none)(jA:mg "len"=none):FnOk P w K mg base cL 3 f fd [tG] (iH G CR):=by
 refine F.ok kX (λab A aa s H vs Q E hr h=>?_)
 obtain⟨p,m,ts,n,O,rfl,⟨dx,r,st,qs,h1,h2,h3,S⟩,few,q⟩:=h;have hu:=hr.units;refine#[_,(cD (dC (i:=1) kX.nd rZ Z' (iA cj)) (cD (iL gY rZ (DF rZ jH (cu (vg (pv 0) rZ) cj)) (ui rZ (mF (fV (i:=2) kX.nd rZ Z') (mF (fV (i:=3) kX.nd rZ Z') u0))) (cD (yq (gM (tx (E' (pv 3) M2.cl jM hr.m)) (cG (m6 (lK lX oK pc ph (pv 1) (cu (nY (c7 (ci By (ci (pv 2) (ci (dY fF rZ jA fe (cu (vg (pv 3) rZ) cj)) cZ rZ) rZ) rZ))) cj)))) gV)) (cG (m6 (lK lX oK pc ph (pv 1) (cu (nY (c7 (ci By (ci (pv 2) (ci (vg (pv 3) rZ) cZ rZ) rZ) rZ))) cj)))))) (cG (dF (pv 1))))),?_];refine#[by show 0<=sizeLine;decide,λl o=>?_];have k0:=cn o (.lst []);have lq:=S.len
 let Pv:Nat->L2.St->Hp->Prop:=λi T d=>Same H d/\∃(x:As) (o2 o3:Option V),d l=some (.lst (x.map .ref))/\PartsAt d x (mG O i)/\T=[some (.ref p),some (.ref l),o2,o3]
 refine#[_,rZ,p,CR,dx,_,_,rZ,k0 _ _ h1,O'.cl,O'.no,Jx,st,_,rZ,O0 (k0 _ _ h3),Ck (xs:=qs.map .ref) Pv #[k0,[],_,_,cb,#[rZ,λi a p e=>by simp at e],rZ] (λi T d _ p=>O0 (p.1 _ _ h3)) (λi U v T Y hv nT pv=>?_) (λT Y pv=>?_)]
 .obtain⟨g1,x,o2,o3,ef,j,rfl⟩:=pv;rw[cr]at hv;obtain⟨b,eb,rfl⟩:=da.mp hv;have li:=(cg.mp eb).1;obtain⟨L,eL⟩:∃L,O[i]?=some L:=#[_,b8 ()];have I:=cn nT (.tup [.int (i:Nat),.ref b]);have eT:bX Y U (.tup [.int (i:Nat),.ref b]) U=some (.tup [.int (i:Nat),.ref b]):=cb;generalize bX Y U (.tup [.int (i:Nat),.ref b])=H2 at I eT|-;have g2:=g1.trans I;have SA:=(S.is i b L eb eL).keeps g2.keeps;obtain⟨y,g,t,u,gr,s1,s2,s3,s4⟩:=id SA;refine#[U,_,rZ,O1 eT,rZ,_,_,rZ,_,_,rZ,rZ,?_];have J:=I _ _ ef;have lz:=D3 O i;have la:=j.len;have ae:∀{d:Hp},Same H2 d->d l=some (.lst (x.map .ref)):=λg=>g _ _ J;refine#[λM d=>Same H d/\∃k,d l=some (.lst (k.map .ref))/\PartsAt d k (mG O i++(if 1<L.gs.length then[(true,i,L.gs.length)]else[]))/\M=[some (.ref p),some (.ref l),some (nv i),some (.ref b)],#[_,rZ,b,y,_,rZ,s1,(by kernel_rfl),b,m,ts,L,rZ,SA,_,rZ,lJ (λc=>?_) (λc=>?_)],λM d z=>?_]
  .have c1:1<L.gs.length:=fG c;refine#[_,rZ,.inl #[rZ,_,O0 J],_,rZ,_,rZ,b,G,y,_,_,rZ,s1,M2.cl,M2.no,Fu,g,_,rZ,.inl (O0 s2),by show 3<=sizeLine;decide,λB D=>?_];rw[show(gr.map V.ref).length=L.gs.length by rw[bZ,s3.len]];have C:=cn D (.tup [.str sL,nv i,nv L.gs.length]);refine#[l,_,_,rZ,rZ,C _ _ J,by rw[bZ,cS];lia,?_];have lo:r3 (bX H2 B (.tup [.str sL,nv i,nv L.gs.length])) (bX (bX H2 B (.tup [.str sL,nv i,nv L.gs.length])) l (.lst (x.map V.ref++[.ref B]))):=Stays.offL (C _ _ J);rw[wB c1];exact#[iq (g2.trans C) o,x++[B],by rw[cb,dX];rfl,((j.st (yg (I.trans C))).st lo).snoc (lo.a cb),rZ]
  .have c1: ¬1<L.gs.length:=D0 (Bool.eq_false_iff.mpr c);rw[wA c1,gL];exact#[g2,x,J,j.st (yg I),rZ]
  .obtain⟨g3,k,f3,N,rfl⟩:=z;obtain⟨y,g,t,u,gr,s1,s2,s3,s4⟩:=(S.is i b L eb eL).keeps g3.keeps;have af:k.length<=2 * i+2:=by
    rw[N.len,dA];have:(if 1<L.gs.length then[(true,i,L.gs.length)]else[]).length<=2:=by
     by_cases h:1<L.gs.length
     .rw[wB h];exact pE 1
     .rw[wA h];exact gc 2
    lia
   refine#[_,rZ,.inl #[rZ,_,O0 f3],_,rZ,_,rZ,b,G,y,_,_,rZ,s1,M2.cl,M2.no,wW,by show 3<=sizeLine;decide,λB D=>?_];have C:=cn D (.tup [.str "bring",nv i,nv L.us.length]);refine#[l,_,_,rZ,rZ,C _ _ f3,by rw[bZ,cS];lia,?_];have lo:r3 (bX d B (.tup [.str "bring",nv i,nv L.us.length])) (bX (bX d B (.tup [.str "bring",nv i,nv L.us.length])) l (.lst (k.map V.ref++[.ref B]))):=Stays.offL (C _ _ f3);refine#[iq (g3.trans C) o,k++[B],_,_,by rw[cb,dX];rfl,?_,rZ];rw[IA eL];unfold ql;rw[<-fY];exact((N.st (yg C)).st lo).snoc (lo.a cb)
 .obtain⟨g1,x,o2,o3,ef,j,rfl⟩:=pv;rw[bZ,lq]at j;exact#[_,rZ,q l x Y g1 o ef j]
def dL(a:LN)(x:bV)(l:Nat):bV:=beh x (a.getD l [])
def Mach.steps{H:Hp}{m:Ad}{a:LN}{n:Nat}(M:Mach H m a n):∀x∈dH n n,∀l,l<a.length->dL a x l∈dH n n:=λx b l c=>by
 obtain⟨d,e⟩:=bY.mp b;obtain⟨_,_,_,_,_,_,f,g⟩:=M.at c;refine bY.mpr #[by unfold dL beh;rw[List.length_map,d],λr h=>?_];obtain⟨y,i,rfl⟩:=cq.mp h;exact dt g (by rw[f];exact e y i)
abbrev lN:Str:=tN
inductive d7(e:List V)(H:Hp)(Q:VK)(b:XK):Prop|mk:∀(m:Ad) (c:LN) (n most:Nat) (d:TW),e=[.ref m,nv most]->Mach H m c n->Told (dL c) c.length (List.range n) d->d.length<=most->Tabs H->(∀l f a,Keeps H a->Tabs a->PicsAt a l f d->Q (.ref l) a)->d7 e H Q b
def HN{v c m f:Ad}{N:Obj}{u:LN}{n:Nat}{i:Hp}{z B:Vl}{a:Arguments}{d:Expr}{b:Scope}{Y a1 a2 a4:Expr}{kw:List Keyword}{C:List Expr}{s0:Stmt}{rest:List Stmt}{lp cp rp:Pos}(e:gh nc=s0:: .Assign C (.Call Y [a1,a2,.Lambda a d b lp,a4] kw cp) rp::rest)(jE:cT P w K mg base tS 1 [tO,sT] cN) (M:Mach i m u n) (h1:i v=some (gF v (fq lN a d b sA c z (.ref f) B))) (O:i c=some (eJ c m N)) (h3:i f=some (iV f lN)):
  FnOk P w K mg base cL 5 v (fq lN a d b sA c z (.ref f) B) [sL,sP] (dD (Same i) (dH n n) u.length (dL u))/\Binds K (fq lN a d b sA c z (.ref f) B) [sL,sP] []:=by
 cases e;refine#[Cp (k:=4) (m:=m) (oc:=N) #[rZ,rZ,rZ,by decide+kernel,by decide+kernel,rZ,by decide+kernel] (λT H Q E h=>?_) (λT H Q E h=>?_) (λA D s H T Q E hr h=>?_),.all λus G=>match us,G with| [_,_],_=>rfl]
 .obtain⟨t,x,l,rfl,_⟩:=h;rfl
 .obtain⟨t,x,l,rfl,g,_⟩:=h;exact#[g _ _ h1,g _ _ O,g _ _ h3]
 .obtain⟨t,x,l,rfl,g,ht,hx,G,q⟩:=h;refine#[_,(cX jE hr.m rZ (c7 (ci (pv 0) (ci (dE fb (pv 2) (pv 1) (λ_ _=>rfl)) cZ rZ) rZ))),?_];obtain⟨x1,x2⟩:=bY.mp hx;have I:=g _ _ O;have M1:=(M.same g).drop I;have n5:=M.n5;have J:(L2.drop H c) t=some (.tup (x.map nv)):=by rw[eB (nE ht I)];exact ht
  obtain⟨rs,r,b1,b2,b3,b4,b5,b6⟩:=M1.at G;refine#[_,rZ,_,rZ,_,rZ,m,_,_,_,rZ,rZ,O1 b1,b3,t,r,x,u.getD l [],rZ,J,b4,λy j=>?_,(),λp H3 g3 U free=>q p _ (λy o L=>?_) ?_]
  .rw[b5];exact x2 y j
  .by_cases j:y=c
   .subst j;rw[I]at L;cases L;exact cb
   .rw[cf j];exact g3 _ _ (by rw[eB j];exact L)
  .rw[cf (di U free)];exact U
def L5{T p m c:Ad}{x:Hp}{A:LN}{n most:Nat}{O:TW}{Q:L2.St}{R:V->Hp->Prop}{G:Vl}{d:Arguments}{g:Expr}{f:Scope}{fx a1 a2 a4:Expr}{kw:List Keyword}{Y:List Expr}{s0:Stmt}{aa:List Stmt}{lp cp rp:Pos}(e:gh nc=s0:: .Assign Y (.Call fx [a1,a2,.Lambda d g f lp,a4] kw cp) rp::aa)(jE:cT P w K mg base tS 1 [tO,sT] cN) (H:Mach x m A n) (hp:x p=some (.tup ((List.range n).map nv))) (TV:Told (dL A) A.length (List.range n) O) (le:O.length<=most) (hq:(lN,(#[39,41,39,91]:Pos),T)∈dQ) (hT:Tabs x) (I:Q[0]?=some (some (.ref m))) (C:Q[1]?=some (some (nv most)))(rest:∀D as U,Keeps x U->Tabs U->WordsAt U D O as->R (.ref D) U):
  i5 (xq T lN d g f sA c G (#[39,41,39,91]:Pos)) (i5 (c8 1) i9) Q x λxs i=>∃m1,Q[0]?=some (some (.ref m1))/\∀h,i c=none->dj P w K mg base (.ref p:: .int (A.length:Int)::xs++[]) (bX i c (eJ c m1 h)) (λr i=>i c=some (eJ c m1 h)/\R r (L2.drop i c)) E0:=by
 have n5:=H.n5;have go:∀(q k:Ad) (B:Vl) (y:Hp) (J:AV),x T=some (.tbl J)->KeepsBut T x y->y T=some (.tbl (i6 (#[39,41,39,91]:Pos) k))->y k=some (iV k lN)->y q=some (gF q (fq lN d g f sA c G (.ref k) B))->
   ∀h,y c=none->(FnOk P w K mg base cL 5 q (fq lN d g f sA c G (.ref k) B) [sL,sP] (dD (Same (bX y c (eJ c m h))) (dH n n) A.length (dL A)))->Binds K (fq lN d g f sA c G (.ref k) B) [sL,sP] []->
   dj P w K mg base [.ref p,nv A.length,.ref q,nv most] (bX y c (eJ c m h)) (λr i=>i c=some (eJ c m h)/\R r (L2.drop i c)) E0:=λq k B y J L kb t1 t2 t3 h s hF hB=>by
  have t:=kb.keeps L;have l:=cn s (eJ c m h);have kp:∀{i:Hp},Same (bX y c (eJ c m h)) i->Keeps x (L2.drop i c):=λu b o M=>by
   have z:=t b o M;rw[eB (di z s)];exact u _ _ (l _ _ z)
  have tb:∀{i:Hp},Same (bX y c (eJ c m h)) i->Tabs (L2.drop i c):=λu=>hT.but hq L (λb o nb M=>by
   have z:=kb b o nb M;rw[eB (di z s)];exact u _ _ (l _ _ z))<|.inr #[k,by
   rw[eB (di t1 s)];exact u _ _ (l _ _ t1),by
   rw[eB (di t2 s)];exact u _ _ (l _ _ t2)]
  refine#[p,q,_,_,List.range n,A.length,dH n n,dL A,_,rZ,l _ _ (t _ _ (nU hp)),l _ _ t3,pK n,H.steps,CW n5,?_,hF,hB,.inr #[most,O,rZ,TV,le],λD ws as i u W nw TT=>#[u _ _ cb,?_]]
  .have:=H.few;lia
  cases TT.uniq TV;refine rest D as _ (kp u) (tb u) #[W.len,?_,λj a r e1 e2=>?_]
  .rw[eB (nE W.dict (u _ _ cb))];exact W.dict
  .have z:=W.list j a r e1 e2;rw[eB (nE z (u _ _ cb))];exact z
 rcases hT _ hq with hT|⟨k,hT,v⟩
 .refine .inl #[hT,λq k B E v ne=>#[_,C,m,I,λh s=>?_]];obtain⟨t,ab,N⟩:=Di (#[39,41,39,91]:Pos) lN hT E v ne (gF q (fq lN d g f sA c G (.ref k) B));have l:=cn s (eJ c m h);obtain⟨F1,F2⟩:=HN e jE ((H.keeps (t.keeps hT)).same l) (l _ _ cb) cb (l _ _ N);exact go q k B _ _ hT t ab N cb h s F1 F2
 .refine .inr #[k,hT,v,λq B E=>#[_,C,m,I,λh s=>?_]];have t:∀lo,Same x (bX x q lo):=λlo=>cn E lo;have l:=cn s (eJ c m h);obtain⟨F1,F2⟩:=HN e jE ((H.same (t _)).same l) (l _ _ cb) cb (l _ _ (t _ _ _ v));exact go q k B _ _ hT (λb o _ M=>t _ _ _ M) (t _ _ _ hT) (t _ _ _ v) cb h s F1 F2
def M3{t:Vl}{I T:Ad}(F:DefAt K sV nc f fd t (.ref I))(hC:PySem.W.CodeHd base I T)(bm:nG mg base)(hq:(lN,(#[39,41,39,91]:Pos),T)∈dQ)(jT:cT P w K mg base uP 1 [sB] eN)(jE:cT P w K mg base tS 1 [tO,sT] cN)(kC:CalleeD P w K mg base sY 8 [uO,uM,"step",sU] (dj P w K mg base) []) (J:mg "len"=none) (kG:mg "list"=none):FnOk P w K mg base cL 10 f fd [sA,sU] d7:=by
 refine F.fnOk qL (λvs H Q E h=>?_) (λA u s H vs Q E h L=>?_)
 .obtain⟨m,ts,n,most,ws,rfl,_⟩:=h;rfl
 obtain⟨m,ts,n,most,ws,rfl,M,TV,le,hT,q⟩:=h;refine#[_,?_,(cD (dC (i:=2) qL.nd rZ Z' (cX jT L.m rZ (cu (dY fF rZ J fe (cu (dE fb (pv 0) cU (λ_ _=>rfl)) cj)) cj))) (cD (dC (i:=3) qL.nd rZ Z' (BR kC L.m rZ (j:=0) rZ rZ rZ rZ (c7 (ci (pv 2) (ci (dY fF rZ J fe (cu (pv 0) cj)) (ci (B9 (qual:=tN) rZ hC bm (λ_ _ _ _ _=>rfl) rZ rZ) (ci (pv 1) cZ rZ) rZ) rZ) rZ)))) (cG (dF (gk (FZ rZ) rZ kG boot_list (cu (A4 Dw PySem.F.slot_dict_items PySem.F.type_dict_items GH (pv 3)) cj))))))];have t1:=M.some1;have n5:=M.n5;obtain⟨_,r0,b1,b2,b3,b4,b5,b6⟩:=M.at (l:=0) ();refine#[_,rZ,m,_,_,_,rZ,rZ,O1 b1,b3,r0,_,rZ,.inr (O1 b4),?_]
 try dsimp only
 rw[bZ,b5];refine#[n,rZ,(),λst H0 y e0=>?_];have N:=M.same y;obtain⟨rs,hm,B,_⟩:=N.refs;refine#[_,rZ,_,rZ,m,_,rZ,.inr (O1 hm),?_]
 try dsimp only
 rw[bZ,B];refine L5 (R:=λr e=>hI 3 r _ e _) rZ jE N e0 TV le hq (hT.same y) rZ rZ λD as O k1 T1 W=>?_;refine#[_,rZ,.inr (.inr (.inl #[rZ,.inr #[_,W.dict]])),rZ,D,_,rZ,W.dict,λv hv=>?_];have C:=cn hv (ss v D);refine#[v,D,_,rZ,cb,C _ _ W.dict,λl ps e d=>?_];have k3:Same (bX O v (ss v D)) e:=λb o g=>by
  rw[d.rest b (di g d.new) λz=>by rw[d.news b z]at g;cases g];exact g
 have U:Same O e:=C.trans k3;refine q l ps e ((y.keeps.trans k1).trans U.keeps) (T1.same U) #[d.lst,by rw[d.len,vS W.len],λj a p e1 G=>?_];obtain⟨k,x,b,Y,f2,f3⟩:=d.is j a e1;obtain⟨hj,_⟩:=cg.mp G;obtain⟨c,ec⟩:∃c,as[j]?=some c:=#[_,b8 (by rw[W.len];exact hj)];rw[Ig G ec]at Y;cases Y;have hc:=C _ _ (W.list j c p ec G);rw[gO]at f2;exact#[b,c,di hc d.new,f3,k3 _ _ f2,k3 _ _ hc]
def lP(a:TW):List (List cy×V):=a.map λp=>(nk p.1,V.bl true)
theorem CA:∀{a:TW} {x:bV},x∉a.map (·.1)->gW (lP a) (nk x)=none
 | [],_,_=>rfl
 |p::a,x,h=>by
  have b: ¬(nk p.1:List cy)=nk x:=λz=>h (cq.mpr #[p,dh ..,sh z]);exact(rb (p:=(nk p.1,V.bl true)) (r:=lP a) b).trans (CA λz=>h (dR _ z))
theorem G6:∀{a:TW} {x:bV},x∈a.map (·.1)->gW (lP a) (nk x)=some (.bl true)
 | [],_,h=>nomatch h
 | p::a,x,h=>by
  by_cases e:p.1=x
  .rw[<-e];exact xv (p:=(nk p.1,V.bl true)) (r:=lP a) rfl
  .have b: ¬(nk p.1:List cy)=nk x:=λz=>e (sh z);exact(rb (p:=(nk p.1,V.bl true)) (r:=lP a) b).trans (G6 ((dq.mp h).resolve_left λz=>e z.symm))
structure WAt(H0 H:Hp)(Dk wa:Ad)(ps:As)(kn ws:TW):Prop where
 g:Same H0 H
 nK:H0 Dk=none
 nW:H0 wa=none
 known:H Dk=some (.dT (lP kn))
 lst:H wa=some (.lst (ps.map .ref))
 len:ps.length=ws.length
 each:∀(j:Nat) (p:Ad) (r:bV×bV),ps[j]?=some p->ws[j]?=some r->∃t l,H p=some (.tup [.ref t,.ref l])/\H t=some (.tup (r.1.map nv))/\H l=some (.lst (r.2.map nv))/\l≠wa
def WAt.same{a H b:Hp}{c d:Ad}{e:As}{f i:TW}(h:WAt a H c d e f i)(g:Same H b):WAt a b c d e f i:=#[h.g.trans g,h.nK,h.nW,g _ _ h.known,g _ _ h.lst,h.len,λj p r k m=>let⟨t,l,n,o,q,s⟩:=h.each j p r k m;#[t,l,g _ _ n,g _ _ o,g _ _ q,s]]
def WAt.put{f H:Hp}{a g:Ad}{i:As}{c k:TW}{r:bV×bV}(h:WAt f H a g i c k):WAt f (bX H a (.dT (lP c++[(nk r.1,.bl true)]))) a g i (c++[r]) k:=by
 have off:∀{b:Ad} {u:HO},(∀d,u≠ .dT d)->H b=some u->(bX H a (.dT (lP c++[(nk r.1,.bl true)]))) b=some u:=λm l=>by
  rw[cf (jm l h.known λe=>m _ e)];exact l
 refine#[iq h.g h.nK,h.nK,h.nW,?_,off (λ_ e=>nomatch e) h.lst,h.len,λj p n o q=>?_]
 .rw[cb];unfold lP;rw[dX];rfl
 .obtain⟨t',s,t,v,w,x⟩:=h.each j p n o q;exact#[t',s,off (λ_ e=>nomatch e) t,off (λ_ e=>nomatch e) v,off (λ_ e=>nomatch e) w,x]
def WAt.app{m H:Hp}{k c q t l:Ad}{d:As}{n o:TW}{r:bV×bV}(h:WAt m H k c d n o)(w:H q=some (.tup [.ref t,.ref l]))(ht:H t=some (.tup (r.1.map nv)))(x:H l=some (.lst (r.2.map nv)))(s:l≠c):WAt m (bX H c (.lst (d.map .ref++[.ref q]))) k c (d++[q]) n (o++[r]):=by
 have y:k≠c:=(nE h.lst h.known).symm;have a:∀{b:Ad} {f:List V},H b=some (.tup f)->(bX H c (.lst (d.map .ref++[.ref q]))) b=some (.tup f):=λi=>by
  rw[cf (nE i h.lst)];exact i
 have offL:∀{b:Ad} {f:List V},b≠c->H b=some (.lst f)->(bX H c (.lst (d.map .ref++[.ref q]))) b=some (.lst f):=λA i=>by
  rw[cf A];exact i
 refine#[iq h.g h.nW,h.nK,h.nW,by rw[cf y];exact h.known,?_,by simp[h.len],λj p B e g=>?_]
 .rw[cb,dX];rfl
 .by_cases u:j<d.length
  .rw[eA u]at e;rw[eA (by rw[<-h.len];exact u)]at g;obtain⟨C,D,E,G,I,v⟩:=h.each j p B e g;exact#[C,D,a E,a G,offL v I,v]
  .rw[dZ ()]at e;rw[dZ (by rw[<-h.len];lia)]at g;have z:j-d.length=0:=by
    have:=(cg.mp e).1;simp at this;lia
   rw[z]at e;rw[<-h.len,z]at g;cases e;cases g;exact#[t,l,a w,a ht,offL s x,s]
def ym{f:bV->Nat->List Nat}{L:Nat}{d:bV}{U:LN}(c:d∈U)(a:∀x∈U,∀l,l<L->f x l∈U)(W:TW)(i j:Nat)(q:Que f L d W i j)(k:i<=W.length)(r:j<=L):∃g,Told f L d (W++g):=by
 have inU:∀p∈W,p.1∈U:=λp b=>by
  obtain⟨m,n⟩:=q.run p b;rw[<-n];exact nS c a p.2 m
 have few:W.length<=U.length:=by
  rw[<-bZ (f:=(·.1)) (as:=W)];exact lL q.keys λx h=>by
   obtain⟨p,b,rfl⟩:=cq.mp h;exact inU p b
 by_cases s:i=W.length
 .exact#[[],by rw[gL];exact q.told ()]
 .obtain⟨t,ht⟩:∃t,W[i]?=some t:=#[_,b8 ()];by_cases o:j=L
  .subst o;exact ym c a W (i+1) 0 (q.next ht) () (gc _)
  .by_cases c3:f t.1 j∈W.map (·.1)
   .exact ym c a W i (j+1) (q.old ht c3) k ()
   .have lt:W.length<U.length:=by
     have nd:(f t.1 j::W.map (·.1)).Nodup:=gP.mpr #[c3,q.keys];have z:=lL nd (U:=U) λx h=>by
      rcases dq.mp h with e|e
      .rw[e];exact a _ (inU t (cH ht)) j ()
      .obtain⟨p,b,rfl⟩:=cq.mp e;exact inU p b
     rw[gC,bZ]at z;lia
    obtain⟨g,T⟩:=ym c a _ i (j+1) (q.new ht () c3) (by rw[dA];lia) ();exact#[_::g,by rw[fY]at T;exact T]
termination_by (U.length-W.length,W.length-i,L-j)
decreasing_by
 all_goals simp_wf
 .exact Prod.Lex.right _ (Prod.Lex.left _ _ ())
 .exact Prod.Lex.right _ (Prod.Lex.right _ ())
 .exact Prod.Lex.left _ _ ()
inductive mK(e:List V)(H:Hp)(Q:VK)(c:XK):Prop|mk:∀(m:Ad) (a:LN) (n most:Nat),e=[.ref m,nv most]->Mach H m a n->most<=400->(∀l f b d,Same H d->PicsAt d l f b->(b.map (·.1)).Nodup->(∀p∈b,(∀x∈p.2,x<a.length)/\cw (dL a) (List.range n) p.2=p.1)->(b.length<=most->Told (dL a) a.length (List.range n) b)->Q (.ref l) d)->mK e H Q c
def Ki(F:Fun K uD uD y7 f fd)(l:mg "tuple"=none):FnOk P w K mg base cL 1 f fd [tI,sX] cN:=by
 refine F.ok ND (λm A c s H z Q E B h=>?_)
 obtain⟨a,b,j,d,rfl,k,n,g,o,q⟩:=h;refine#[_,(cG (dF (gk n9 rZ l mW (cu (gX (CompSc.to (N:=[tI,sX]) (osc:=cz y7) (vs:=["_law_room"]) {}) rZ rZ (uu (pv 0)) (λ_ _ _ _=>gQ) (λ_ _ _ _=>(dE (IxR.k (K:=K) gR fb rZ) (pv 2) (pv 0) (λ_ _=>rfl)))) cj)))),?_];have e:(j.map nv).map (λv=>match v with|.int i=>nv (d.getD i.toNat 0)|v=>v)=(beh j d).map nv:=by
  unfold beh;rw[eY,eY];rfl
 refine#[_,rZ,a,rZ,#[_,O1 k],vj (f:=λv=>match v with|.int i=>nv (d.getD i.toNat 0)|v=>v) (by rw[bZ];exact small o) (O1 k) (λv Q r q=>?_) (λp u=>?_)]
 .obtain⟨x,y,rfl⟩:=cq.mp r;exact#[_,rZ,_,rZ,b,_,_,_,rZ,rZ,O1 n,rR (g x y),q]
 .rw[e];exact#[p,_,rZ,.inl #[O0 cb,λt ht=>q t _ ((cn u _).trans (cn ht _)) cb]]
def NJ(F:Fun K "_law_all" "_law_all" Bg f fd)(jI:cT P w K mg base uD 1 [tI,sX] cN)(jC:mg "tuple"=none)(jB:mg "range"=none)(jA:mg "len"=none):FnOk P w K mg base cL 3 f fd [sH,"_law_most"] mK:=by
 refine F.ok jY (λaV A aI s H vs Q E hr h=>?_)
 obtain⟨m,g,n,most,rfl,M,aJ,q⟩:=h;have af:=ky hr;refine#[_,(cD (dC (i:=2) jY.nd rZ Z' (iA (cu (nY (c7 (ci (gk (Ec rZ) rZ jC mW (cu (gk C9 rZ jB boot_range (cu (dY fF rZ jA fe (cu (dE fb (pv 0) cU (λ_ _=>rfl)) cj)) cj)) cj)) (ci (iA cj) cZ rZ) rZ))) cj))) (cD (dC (i:=3) jY.nd rZ Z' (GO af (dE fb (dE h9 (pv 2) cU (λ_ _=>rfl)) cU (λ_ _=>rfl)) qg)) (cD (dC (i:=4) jY.nd rZ Z' cU) (cD (Cr gY (PW.pt (vM (fM Dr (pv 4) (dY fF rZ jA fe (cu (pv 2) cj)) (fj _)) (wV (fM wM (dY fF rZ jA fe (cu (pv 2) cj)) (pv 1) (fj _))))) (cD (yJ (dE h9 (pv 2) (pv 4) (λ_ _=>rfl)) (ui rZ (mF (fV (i:=5) jY.nd rZ Z') (mF (fV (i:=6) jY.nd rZ Z') u0)))) (cD (iL gY rZ (nJ rZ jB (cu (dY fF rZ jA fe (cu (pv 0) cj)) cj)) (fV (i:=7) jY.nd rZ Z') (cD (dC (i:=8) jY.nd rZ Z' (cX jI hr.m rZ (c7 (ci (pv 5) (ci (dE fb (pv 0) (pv 7) (λ_ _=>rfl)) cZ rZ) rZ)))) (cG (gM (vL (AS af (pv 8) (pv 3))) (cD (q0 af (pv 3) (pv 8) qg rZ) (cG (m6 (lK lX oK pc ph (pv 2) (cu (nY (c7 (ci (pv 8) (ci (eR Dp (pv 6) (iA (cu (pv 7) cj))) cZ rZ) rZ))) cj))))) gV)))) (cG (dC (i:=4) jY.nd rZ Z' (eR rl (pv 4) cU)))))) (cG (dF (pv 2))))))),?_];have L:=M.some1;have n5:=M.n5;have t4:=M.few;obtain⟨_,r0,b1,b2,b3,b4,b5,b6⟩:=M.at (l:=0) ();refine#[_,rZ,m,_,_,_,rZ,rZ,O1 b1,b3,r0,_,rZ,.inr (O1 b4),?_]
 try dsimp only
 rw[bZ,b5];refine#[(n:Int),rZ,λp hp=>#[p,(n:Int),rZ,cb,(),(),λL aK=>?_]];have k2:=(cn hp (.rng 0 (n:Int))).trans (cn aK (.tup (i4 (n:Int).toNat)));have an:bX (bX H p (.rng 0 (n:Int))) L (.tup (i4 (n:Int).toNat)) L=some (.tup ((List.range n).map nv)):=cb;generalize bX (bX H p (.rng 0 (n:Int))) L (.tup (i4 (n:Int).toNat))=H2 at k2 an|-;refine#[by show 0<=sizeLine;decide,λN aL=>?_];have k3:=cn aL (.lst []);have ao:bX H2 N (.lst []) N=some (.lst (([]:bV).map nv)):=cb;have ap:=k3 _ _ an;have g3:=k2.trans k3;generalize bX H2 N (.lst [])=H3 at k3 ao ap g3|-;refine#[by show 2<=sizeLine;decide,λO aM=>?_];have k4:=cn aM (.tup [.ref L,.ref N]);have aq:bX H3 O (.tup [.ref L,.ref N]) O=some (.tup [.ref L,.ref N]):=cb;have ar:=k4 _ _ ap;have ag:=k4 _ _ ao;have g4:=g3.trans k4;generalize bX H3 O (.tup [.ref L,.ref N])=H4 at k4 aq ar ag g4|-;refine#[by show 1<=sizeLine;decide,λo ah=>?_];have k5:=cn ah (.lst [.ref O]);have lw:N≠o:=di ag ah;have nW:H o=none:=g4.free ah;have ai:bX H4 o (.lst [.ref O]) o=some (.lst ([O].map .ref)):=cb;have aj:=k5 _ _ aq;have ak:=k5 _ _ ar;have au:=k5 _ _ ag;have g5:=g4.trans k5;generalize bX H4 o (.lst [.ref O])=H5 at ai aj ak au g5|-;intro v T;have kD:=cn T (.dT []);refine#[_,rZ,o,_,_,_,rZ,rZ,O0 (kD _ _ ai),rZ,O,_,_,_,rZ,rZ,O1 (kD _ _ aj),rZ,?_];refine#[cb,L,nk (List.range n),rZ,by rw[gO];exact kD _ _ ak,?_];have g6:Same H (bX (bX H5 v (.dT [])) v (.dT [(nk (List.range n),.bl true)])):=by rw[A9];exact g5.trans (cn T _)
 have k6:Same H5 (bX (bX H5 v (.dT [])) v (.dT [(nk (List.range n),.bl true)])):=by rw[A9];exact cn T _
 have A0:WAt H (bX (bX H5 v (.dT [])) v (.dT [(nk (List.range n),.bl true)])) v o [O] [(List.range n,[])] [(List.range n,[])]:=#[g6,g5.free T,nW,cb,k6 _ _ ai,rZ,λj p r e1 e2=>by
  cases j with
  |zero=>
   cases e1;cases e2;exact#[L,N,k6 _ _ aj,k6 _ _ ak,k6 _ _ au,lw]
  |succ j=>simp at e1]
 generalize bX (bX H5 v (.dT [])) v (.dT [(nk (List.range n),.bl true)])=H6 at A0|-;have hU:=M.steps;have h0:=pK n;have inU:∀{d:TW} {i j:Nat},Que (dL g) g.length (List.range n) d i j->∀r∈d,r.1∈dH n n:=λB r hr=>by
  obtain⟨r1,r2⟩:=B.run r hr;rw[<-r2];exact nS h0 hU r.2 r1
 have few:∀{d:TW} {i j:Nat},Que (dL g) g.length (List.range n) d i j->d.length<=4000:=λ{d i j} B=>by
  rw[<-bZ (f:=(·.1)) (as:=d)];refine cW (lL B.keys (U:=dH n n) λx hx=>?_) (CW n5);obtain⟨r,hr,rfl⟩:=cq.mp hx;exact inU B r hr
 have done:∀{d:TW} {i:Nat} {C:As} {D:Hp},Que (dL g) g.length (List.range n) d i 0->WAt H D v o C d d->(d.length<=most->i=d.length)->Q (.ref o) D:=λ{d i C D} B W hi=>
  q o C d D W.g #[W.lst,W.len,λj a p e1 e2=>let⟨t,l,h1,h2,h3,h4⟩:=W.each j a p e1 e2;#[t,l,h4,h1,h2,h3]] B.keys B.run λle=>B.told (by have:=hi le;lia)
 let Wv:Nat->L2.St->Hp->Prop:=λk σ D=>∃(i:Nat) (d:TW) (C:As) (o5 o6 o7 o8:Option V),Que (dL g) g.length (List.range n) d i 0/\WAt H D v o C d d/\k+i=4001/\i<=d.length/\σ=[some (.ref m),some (nv most),some (.ref o),some (.ref v),some (nv i),o5,o6,o7,o8]
 refine#[Wv,#[4001,0,_,_,none,none,none,none,Que.start,A0,rZ,gc _,rZ],λk σ H6 P=>?_];obtain⟨i,d,C,o5,o6,o7,o8,B,W,hk,hi,rfl⟩:=P;have al:=W.len;refine#[_,rZ,_,rZ,o,_,rZ,.inl (O0 W.lst),_,_,rZ,rZ,_,rZ,lJ (λc=>?_) (λc=>?_)]
 .have c1:i<d.length:=by
   have:=fG c;rw[bZ,al]at this;lia
  refine#[_,rZ,o,_,rZ,.inl (O0 W.lst),_,rZ,_,_,rZ,rZ,_,rZ,lJ (λc'=>?_) (λc'=>?_)]
  .refine#[λav D=>∃m',m'<k/\Wv m' av D,λav D h=>h,?_];obtain⟨r,G⟩:∃r,d[i]?=some r:=#[_,b8 c1];obtain⟨pi,aw⟩:∃pi,C[i]?=some pi:=#[_,b8 ()];obtain⟨y,l,hp,hy,hl,aN⟩:=W.each i pi r aw G;obtain⟨x1,x2⟩:=bY.mp (inU B r (cH G));have aO:jx (C.map V.ref) (i:Int)=some (.ref pi):=j6 (by rw[cr,aw];rfl);refine#[_,rZ,_,rZ,o,_,_,_,rZ,rZ,O0 W.lst,aO,pi,_,rZ,O1 hp,rZ,_,_,rZ,_,_,rZ,rZ,?_];have aW:=B.short i r G;have ax:=few B;let Pj:Nat->L2.St->Hp->Prop:=λj σ D=>∃(d:TW) (C:As) (o7 o8:Option V),Que (dL g) g.length (List.range n) d i j/\d[i]?=some r/\WAt H D v o C d d/\D y=some (.tup (r.1.map nv))/\D l=some (.lst (r.2.map nv))/\σ=[some (.ref m),some (nv most),some (.ref o),some (.ref v),some (nv i),some (.ref y),some (.ref l),o7,o8]
   obtain⟨rs,hm,aP,_⟩:=(M.same W.g).refs;refine#[_,rZ,m,_,rZ,.inr (O1 hm),(g.length:Int),by rw[bZ,aP],(),(),vQ Pj #[d,C,_,_,B,G,W,hy,hl,rZ] (λj σ H7 hj p=>?_) (λσ H7 p=>?_)]
   .obtain⟨d,C,o7,o8,B,G,W,hy,hl,rfl⟩:=p;have ay:j<g.length:=by simpa using hj
    have zj:V.int ((0:Int)+((j:Nat):Int))=nv j:=by show V.int (0+(j:Int))=V.int (j:Int);rw[pZ]
    rw[zj];have li:=(cg.mp G).1;obtain⟨rs,rr,b1,b2,b3,b4,b5,b6⟩:=(M.same W.g).at ay;have ax:=few B;refine#[_,rZ,_,rZ,_,rZ,m,_,_,_,rZ,rZ,O1 b1,b3,y,rr,r.1,g.getD j [],rZ,hy,b4,λx hx=>by rw[b5];exact x2 x hx,(),λth H8 k8 I=>?_];have W8:=W.same k8;have az:=k8 _ _ hy;have aA:=k8 _ _ hl;have I:H8 th=some (.tup ((dL g r.1 j).map nv)):=I;refine#[_,rZ,_,rZ,v,_,rZ,DGet.t W8.known (by rw[gO];exact I),_,rZ,?_];by_cases J:dL g r.1 j∈d.map (·.1)
    .rw[G6 J];exact fv #[d,C,_,_,B.old G J,G,W8,az,aA,rZ]
    .rw[CA J];refine gA #[_,rZ,_,rZ,v,_,rZ,DPut.t W8.known (by rw[gO];exact I) (by rw[show(lP d).length=d.length by unfold lP;rw[List.length_map],sizeLine_eq];lia),?_];rw[xQ _ (CA J)];have W9:=W8.put (r:=(dL g r.1 j,r.2++[j]));have offD:∀{b:Ad} {u:HO},(∀aQ,u≠ .dT aQ)->H8 b=some u->(bX H8 v (.dT (lP d++[(nk (dL g r.1 j),.bl true)]))) b=some u:=λnu hb=>by
      rw[cf (jm hb W8.known λe=>nu _ e)];exact hb
     have aa:=offD (u:=HO.tup _) (λ_ e=>nomatch e) I;have aB:=offD (u:=HO.tup _) (λ_ e=>nomatch e) az;have am:=offD (u:=HO.lst _) (λ_ e=>nomatch e) aA;generalize bX H8 v (.dT (lP d++[(nk (dL g r.1 j),.bl true)]))=H9 at W9 aa aB am|-;refine#[_,rZ,.inl #[rZ,_,O0 W9.lst],_,rZ,_,rZ,_,rZ,by show 1<=sizeLine;decide,λp1 aR=>?_];have ka:=cn aR (.lst [nv j]);refine#[l,p1,_,_,rZ,rZ,O0 (ka _ _ am),O0 cb,by rw[bZ,cS];show r.2.length+1<=_;lia,λl2 aC=>?_];have kb:=ka.trans (cn aC (.lst (r.2.map nv++[nv j])));have aD:bX (bX H9 p1 (.lst [nv j])) l2 (.lst (r.2.map nv++[nv j])) l2=some (.lst ((r.2++[j]).map nv)):=by rw[cb,dX];rfl
     have aE:l2≠o:=(di (ka _ _ W9.lst) aC).symm;generalize bX (bX H9 p1 (.lst [nv j])) l2 (.lst (r.2.map nv++[nv j]))=aF at kb aD|-;refine#[by show 2<=sizeLine;decide,λq2 aS=>?_];have kc:=cn aS (.tup [.ref th,.ref l2]);have aG:bX aF q2 (.tup [.ref th,.ref l2]) q2=some (.tup [.ref th,.ref l2]):=cb;have kd:=kb.trans kc;have ab:=kc _ _ aD;generalize bX aF q2 (.tup [.ref th,.ref l2])=aX at kc aG kd ab|-;have Y:=W9.same kd;have aT:=Y.len;refine#[o,_,_,rZ,rZ,Y.lst,by rw[bZ,cS];lia,?_];have aU:=Y.app (r:=(dL g r.1 j,r.2++[j])) aG (kd _ _ aa) ab aE;have ae:=kd _ _ aB;have aH:=kd _ _ am;refine#[d++[(dL g r.1 j,r.2++[j])],C++[q2],_,_,B.new G ay J,by rw[eA li];exact G,aU,?_,?_,rZ]
     .rw[cf (nE ae Y.lst)];exact ae
     .rw[cf aN];exact aH
   .obtain⟨d,C,o7,o8,B,G,W,hy,hl,rfl⟩:=p;have ax:=few B;have li:=(cg.mp G).1;exact#[_,rZ,_,_,rZ,rZ,k-1,(),i+1,d,C,_,_,_,_,Que.next (by simpa using B) G,W,(),(),rZ]
  .refine#[_,rZ,done B W λle=>wC (c9 ?_) c'];rw[bZ,al];lia
 .have c1: ¬i<d.length:=λz=>c (by rw[bZ,al];exact c9 ());exact fv #[_,rZ,done B W λ_=>by lia]
def lI(t:bV):Bool:=decide (beh t t=t)
def fg(t:bV):Int:=((lT (t.map λ(n:Nat)=>(n:Int))).length:Int)
def cO{n:Nat}{x t u:bV}(b:x∈dH n n)(ht:t∈dH n n):beh (beh x t) u=beh x (beh t u):=by
 unfold beh;rw[eY];refine hK λa c=>?_;have d:a<t.length:=by rw[(bY.mp ht).1];exact(bY.mp b).2 a c
 show u.getD (t.getD a 0) 0=(t.map λx=>u.getD x 0).getD a 0;rw[cP (l:=t.map _),cr,cP (l:=t),b8 d];rfl
def eO{n:Nat}{t:bV}(ht:t∈dH n n):beh (List.range n) t=t:=by
 obtain⟨a,_⟩:=bY.mp ht;unfold beh;refine qp (by rw[bZ,mz,a]) λi c b=>?_;rw[ry,List.getElem_range,cP,b8 b];rfl
def M8{n:Nat}{t:bV}(ht:t∈dH n n):beh t (List.range n)=t:=by
 unfold beh;refine(hK λa b=>?_).trans (oi t);rw[cP,ko ((bY.mp ht).2 a b)];rfl
theorem yt{b:LN}{n:Nat}(c:∀t∈b,t∈dH n n):∀(w:bV) (x:bV),(∀l∈w,l<b.length)->x∈dH n n->cw (dL b) x w=beh x (cw (dL b) (List.range n) w)/\cw (dL b) x w∈dH n n
 | [],x,_,d=>#[(M8 d).symm,d]
 | l::w,x,hw,d=>by
  have f:=hw l (dh ..);have ht:b.getD l []∈dH n n:=by
   rw[cP,b8 f];exact c _ (iw f)
  have e:∀a∈w,a<b.length:=λa g=>hw a (dR _ g);have h:dL b x l∈dH n n:=t9 d ht;have i:dL b (List.range n) l∈dH n n:=t9 (pK n) ht;obtain⟨j,k⟩:=yt c w (dL b x l) e h;obtain⟨m,_⟩:=yt c w (dL b (List.range n) l) e i;refine#[?_,k];show cw (dL b) (dL b x l) w=beh x (cw (dL b) (dL b (List.range n) l) w);rw[j,m];show beh (beh x (b.getD l [])) _=beh x (beh (beh (List.range n) (b.getD l [])) _);rw[eO ht,cO d ht]
def HM{b:LN}{n:Nat}{c:TW}(a:∀t∈b,t∈dH n n)(T:Told (dL b) b.length (List.range n) c){u v:bV}(j:u∈c.map (·.1))(k:v∈c.map (·.1)):beh u v∈c.map (·.1):=by
 obtain⟨p,m,rfl⟩:=cq.mp j;obtain⟨q,o,rfl⟩:=cq.mp k;obtain⟨d,f⟩:=T.run p m;obtain⟨g,r⟩:=T.run q o;have h:=(yt a p.2 (List.range n) d (pK n)).2;rw[f]at h;have e:=(yt a q.2 p.1 g h).1;rw[r]at e;have s:cw (dL b) (List.range n) (p.2++q.2)=cw (dL b) p.1 q.2:=by
  rw[<-f];unfold cw;rw[kg]
 obtain⟨w,i,_⟩:=T.least _ (p.2++q.2) rZ λl x=>by
  rcases cM.mp x with z|z
  .exact d l z
  .exact g l z
 rw[s,e]at i;exact cq.mpr #[_,i,rZ]
def nX(a:Option bV)(x:bV):Option bV:=match a with
 |none=>some x
 |some y=>if fg x<fg y then some x else some y
theorem Gq:∀(b:List (Ad×bV)) (a:Option (Ad×bV)),(b.foldl (pG fg) a).map (·.2)=(b.map (·.2)).foldl nX (a.map (·.2))
 | [],a=>rfl
 | p::b,a=>by
  rw[jw,eZ,jw,Gq b]
  congr 1
  cases a with
  |none=>rfl
  |some y=>
   show(if fg p.2<fg y.2 then some p else some y).map (·.2)=if fg p.2<fg y.2 then some p.2 else some y.2;split<;>rfl
theorem Bw:∀(b:LN) (a:Option bV) (u:bV),b.foldl nX a=some u->u∈b\/a=some u
 | [],a,u,h=> .inr h
 | p::b,a,u,h=>by
  rcases Bw b _ u h with z|z
  .exact .inl (dR _ z)
  .cases a with
   |none=>cases z;exact .inl (dh ..)
   |some y=>
    have c:(if fg p<fg y then some p else some y)=some u:=z;split at c
    .cases c;exact .inl (dh ..)
    .exact .inr c
theorem Go:∀(b:List (Ad×bV)) (a:Option (Ad×bV)) (u:Ad×bV),b.foldl (pG fg) a=some u->u∈b\/a=some u
 | [],a,u,h=> .inr h
 | p::b,a,u,h=>by
  rcases Go b _ u h with z|z
  .exact .inl (dR _ z)
  .cases a with
   |none=>cases z;exact .inl (dh ..)
   |some y=>
    have c:(if fg p.2<fg y.2 then some p else some y)=some u:=z;split at c
    .cases c;exact .inl (dh ..)
    .exact .inr c
def kh(b:LN)(a:bV):LN:=b.filter λt=>decide (dy t a=a)
def fT(b:LN)(a:bV):bV:=(((kh b a).filter lI).foldl nX none).getD []
def mQ(b:LN)(a:bV):LN:=(kh b a).map λt=>beh (beh (fT b a) t) (fT b a)
def lE(b:LN)(a:bV):bV:=(List.range b.length).filter λk=>decide (b.getD k []∈mQ b a)
def Bt{n:Nat}{c:LN}{b:bV}(d:List.range n∈c)(f:b∈db n):List.range n∈(kh c b).filter lI:=by
 obtain⟨g,h⟩:=b7.mp f;refine dv.mpr #[dv.mpr #[d,c9 ?_],c9 (eO (pK n))];unfold dy;have e:b.map (λr=>(List.range n).getD r 0)=b:=by
  refine(hK λa i=>?_).trans (oi b);rw[cP,ko (h a i)];rfl
 rw[e,g]
theorem Ee:∀(a:LN) (b:Option bV),(b≠none\/a≠[])->∃u,a.foldl nX b=some u
 | [],none,h=>wC rZ (h.resolve_left λz=>z rZ)
 | [],some y,_=>#[y,rZ]
 | p::a,b,_=>Ee a _ (.inl (by
   cases b with
   |none=>exact λz=>nomatch z
   |some y=>
    show(if fg p<fg y then some p else some y)≠none;split<;>exact λz=>nomatch z))
def Ek{n:Nat}{b:LN}{a:bV}(c:List.range n∈b)(d:a∈db n):((kh b a).filter lI).foldl nX none=some (fT b a)/\fT b a∈b:=by
 obtain⟨u,e⟩:=Ee ((kh b a).filter lI) none (.inr λz=>by have:=Bt c d;rw[z]at this;cases this);have f:fT b a=u:=by unfold fT;rw[e];rfl
 rw[f];refine#[e,?_]
 rcases Bw _ _ u e with z|z
 .exact(dv.mp (dv.mp z).1).1
 .cases z
def Cz{b:Type}{a:List b}(nd:a.Nodup){i j:Nat}{x:b}(c:a[i]?=some x)(d:a[j]?=some x):i=j:=by
 obtain⟨g,e⟩:=cg.mp c;obtain⟨h,f⟩:=cg.mp d;exact(Cb nd).mp (e.trans f.symm)
def d6{d:LN}{a:bV}{k:Nat}:k∈lE d a↔ ∃x,d[k]?=some x/\x∈mQ d a:=by
 unfold lE;rw[dv,eU,qx];constructor
 .rintro⟨b,c⟩;rw[cP,b8 b]at c;exact#[_,b8 b,c]
 .rintro⟨x,b,c⟩;refine#[(cg.mp b).1,?_];rw[cP,b];exact c
def KO{b:LN}{a:bV}{e:bV}{f:Zs}(nd:b.Nodup)(g:e.length=(kh b a).length)(ok:∀(k j:Nat) t,e[k]?=some j->(kh b a)[k]?=some t->b[j]?=some (beh (beh (fT b a) t) (fT b a)))(m:f.Perm (mj (e.map λ(n:Nat)=>(n:Int)))) (o:f.Pairwise (· < ·)):f=(lE b a).map λ(n:Nat)=>(n:Int):=by
 refine Gi o (vy.filter _) λx=>?_;rw[m.mem_iff,fJ,cq];constructor
 .rintro⟨k,c,rfl⟩;refine#[k,d6.mpr ?_,rZ];obtain⟨i,h⟩:=dU.mp c;obtain⟨t,d⟩:∃t,(kh b a)[i]?=some t:=#[_,b8 (by rw[<-g];exact(cg.mp h).1)];exact#[_,ok i k t h d,cq.mpr #[t,cH d,rZ]]
 .rintro⟨k,c,rfl⟩;obtain⟨y,p,q⟩:=d6.mp c;obtain⟨t,ht,rfl⟩:=cq.mp q;obtain⟨i,d⟩:=dU.mp ht;obtain⟨j,l⟩:∃j,e[i]?=some j:=#[_,b8 (by rw[g];exact(cg.mp d).1)];have:=Cz nd (ok i j t l d) p;subst this;exact#[j,cH l,rZ]
def Gz{H:Hp}{bs:As}{a:LN}{i:Nat}{b:Ad}{t:bV}(T:TupsAt H bs (a.take i))(c:a[i]?=some t)(d:H b=some (.tup (t.map nv))):TupsAt H (bs++[b]) (a.take (i+1)):=by
 rw[g9,c];exact rf T d
def Kk(b:LN)(a:bV):(lE b a).Pairwise (· < ·):=vy.filter _
inductive ni(c:List V)(H:Hp)(Q:VK)(b:XK):Prop|mk:∀(a:Ad) (u:bV),c=[.ref a]->H a=some (.tup (u.map nv))->(∀x∈u,x<u.length)->u.length<=1000->(∀d,Same H d->Q (.bl (lI u)) d)->ni c H Q b
inductive iu(c:List V)(H:Hp)(Q:VK)(b:XK):Prop|mk:∀(a p:Ad) (t u:bV) (n:Nat),c=[.ref a,.ref p]->H a=some (.tup (t.map nv))->H p=some (.tup (u.map nv))->t∈dH n n->1<=n->n<=5->u∈db n->(∀d,Same H d->Q (.bl (decide (dy t u=u))) d)->iu c H Q b
inductive j5(K:O2)(e:List V)(H:Hp)(Q:VK)(c:XK):Prop|mk:∀(l:Ad) (f:As) (a:LN) (n:Nat),e=[.ref l]->SqL K H l (f.map V.ref)->TupsAt H f a->(∀t∈a,t∈dH n n)->n<=5->a.length<=4000->(∃t∈a,lI t=true)->(∀b u d,Same H d->d b=some (.tup (u.map nv))->(a.filter lI).foldl nX none=some u->Q (.ref b) d)->j5 K e H Q c
inductive mY(g:List V)(H:Hp)(Q:VK)(b:XK):Prop|mk:∀(m h:Ad) (d:LN) (n most:Nat) (c i e:LN) (f:TW),g=[.ref m,.ref h,nv most]->Mach H m d n->Told (dL d) d.length (List.range n) f->f.length<=most->most<=400->Tabs H->LvH H h c i e->c≠[]->c.headD []∈db n->(∀l a,Keeps H a->Tabs a->a l=some (.lst ((lE (f.map (·.1)) (c.headD [])).map nv))->Q (.ref l) a)->mY g H Q b
def xo{H:Hp}{mt a:Ad}{t:bV}{n:Nat}(c:H mt=some (.tup [.ref a]))(d:H a=some (.tup (t.map nv)))(ht:t∈dH n n)(e:1<=n)(f:n<=5):Mach H mt [t] n:=by
 refine#[#[[a],c,rZ,λi r u b g=>?_],cm _,(show 1<=4 by decide),e,f,λu h=>by rw[cE.mp h];exact bY.mp ht];cases i with
 |zero=>cases b;cases g;exact d
 |succ i=>simp at b
def IR(F:Fun K uH uH BW f fd)(i:cT P w K mg base tS 1 [tO,sT] cN):FnOk P w K mg base cL 3 f fd [sL] ni:=by
 refine F.ok IC (λj A b s H t Q E d h=>?_)
 obtain⟨a,u,rfl,c,hT,k,q⟩:=h;have l:=d.units;refine#[_,(cG (dF (ug (z8 l) (cX i d.m rZ (c7 (ci (pv 0) (ci (pv 0) cZ rZ) rZ))) (pv 0) (fj _)))),?_];refine#[_,rZ,_,rZ,a,a,u,u,rZ,c,c,hT,k,λr m g n=>#[_,rZ,r,a,0,_,_,rZ,rZ,fQ (O1 n),fQ (O1 (g _ _ c)),by decide,λv o=>?_]];have e:v=lI u:=by
  rw[jt];exact(o.trans cJ).trans (qx (p:=beh u u=u)).symm
 subst e;exact q m g
def NB(F:Fun K uT uT AL f fd)(e:mg "len"=none)(g:mg "set"=none):FnOk P w K mg base cL 1 f fd [sL] (hX (λt=>t.length<=5) fg):=by
 refine F.ok NP (λi A c s H k Q E l h=>?_)
 obtain⟨a,t,rfl,d,m,q⟩:=h;refine#[_,(cG (dF (dY L1 rZ e fe (cu (gk (Ox rZ) rZ g uZ (cu (pv 0) cj)) cj)))),?_];rw[rh]at d;exact#[_,rZ,a,_,rZ,O1 d,by rw[bZ];lia,λb j=>#[b,_,rZ,cb,q _ (cn j _)]]
def NC(F:Fun K "keeps" "keeps" Db f fd)(o:cT P w K mg base tX 3 [sA,sB,tH] (dm K)):FnOk P w K mg base cL 5 f fd [sL,sB] iu:=by
 refine F.ok Jm (λx A d s H U Q E i h=>?_)
 obtain⟨a,p,t,u,n,rfl,y,j,ht,z,B,C,q⟩:=h;have D:=i.units;refine#[_,(cG (dF (ug (z8 D) (cX o i.m rZ (c7 (ci (nY (cu (pv 0) cj)) (ci (pv 1) (ci (iA (cu cU cj)) cZ rZ) rZ) rZ))) (pv 1) (fj _)))),?_];obtain⟨G,I⟩:=b7.mp C;refine#[_,rZ,by show 1<=sizeLine;decide,λmt g=>?_];have J:=cn g (.tup [.ref a]);refine#[_,rZ,by show 1<=sizeLine;decide,λb L=>?_];have k:=cn L (.lst [.int 0]);have c:=J.trans k;refine#[mt,p,b,[t],n,u,[0],rZ,xo (k _ _ cb) (c _ _ y) ht z B,O1 (c _ _ j),by rw[<-G];exact Bc u,I,O0 cb,λl M=>by rw[cE.mp M];exact Nat.one_pos,λr N m O=>#[_,rZ,r,p,0,_,_,rZ,rZ,fQ (O1 O),fQ (O1 (m _ _ (c _ _ j))),by decide,λv T=>?_]];have e:v=decide (dy t u=u):=by
  rw[jt];exact(T.trans cJ).trans (qx (p:=dy t u=u)).symm
 subst e;exact q N (c.trans m)
def K'(F:Fun K uV uV zC f fd)(kI:cT P w K mg base uH 3 [sL] ni)(qB:cT P w K mg base uT 1 [sL] (hX (λt=>t.length<=5) fg))(rJ:mg "min"=none):FnOk P w K mg base cL 5 f fd [tM] (j5 K):=by
 refine F.ok Oc (λaa A y s H vs Q E G h=>?_)
 obtain⟨l,as,c,n,rfl,I,T,hm,n5,few,d,q⟩:=h;refine#[_,(cG (dF (LQ qB G.m rZ rZ rJ rZ (gX (CompSc.to (N:=[tM]) (osc:=cz zC) (vs:=[sL]) {}) rZ rZ (fZ (pv 0)) (λ_ _ _ _=>pB (tx (cX kI G.m rZ (cu (pv 0) cj)))) (λ_ _ _ _=>(pv 0)))))),?_];have lb:=T.len;have J:∀t∈c,(∀x∈t,x<t.length)/\t.length<=5:=λt ht=>by
  obtain⟨a1,a2⟩:=bY.mp (hm t ht);exact#[λx hx=>by rw[a1];exact a2 x hx,()]
 refine#[_,rZ,l,rZ,#[_,I],iX (xs:=as.map .ref) (λi k j=>Same H j/\∃a,k=a.map V.ref/\a.length<=i/\TupsAt j a ((c.take i).filter lI)) (by rw[bZ,cS];lia) #[Same.refl _,[],rZ,cm _,rZ,λi b u e=>by simp at e] (λi k j hi p=>?_) (λi v k j L p=>?_) (λk H2 p M B=>?_)]
 .obtain⟨g,a,rfl,e,_⟩:=p;exact#[g.seq I,by rw[bZ];exact e]
 .obtain⟨g,a,rfl,e,m⟩:=p;rw[cr]at L;obtain⟨b,O,rfl⟩:=da.mp L;have li:=(cg.mp O).1;obtain⟨u,C⟩:∃u,c[i]?=some u:=#[_,b8 ()];have U:=g _ _ (T.is i b u O C);obtain⟨z1,D⟩:=J u (cH C);refine#[hE,_,rZ,b,u,rZ,U,z1,(),λH4 o=>#[_,rZ,?_]];have z:=um (m.same o) C (o _ _ U);cases Y:lI u with
  |true=>
   rw[Y,wB rZ]at z;exact gA #[_,rZ,g.trans o,a++[b],by simp,by simp;exact e,z]
  |false=>
   rw[Y,wA (by decide)]at z;exact fv #[g.trans o,a,rZ,(),z]
 obtain⟨g,a,rfl,_,m⟩:=p;rw[bZ,lb,fN]at m;have kw:=cn B (.lst (a.map V.ref));have r:=m.same kw;refine#[M,rZ,M,a,c.filter lI,rZ,O0 cb,r,λt ht=>(J t (dv.mp ht).1).2,λz=>?_,λb u j g' e=>?_]
 .obtain⟨t,h1,h2⟩:=d;have D:=r.len;rw[z]at D;have z3:=dv.mpr #[h1,h2];rw[oo.mp D.symm]at z3;cases z3
 have ez:(a.zip (c.filter lI)).map (·.2)=c.filter lI:=Aw (px r.len.symm);have ef:=Gq (a.zip (c.filter lI)) none;rw[e,ez]at ef
 rcases Go _ _ _ e with z|z
 .obtain⟨i,ei⟩:=dU.mp z;obtain⟨e1,e2⟩:=Dd.mp ei;exact q b u j ((g.trans kw).trans g') (g' _ _ (r.is i b u e1 e2)) ef.symm
 .cases z
def Lb{av cv:Vl}(F:DefAt K sW lO f fd av cv)(qI:CalleeD P w K mg base sV 10 [sA,sU] d7 [])(qZ:cT P w K mg base "keeps" 5 [sL,sB] iu)(qC:cT P w K mg base uV 5 [tM] (j5 K))(jE:cT P w K mg base tS 1 [tO,sT] cN)(jD:mg "sorted"=none)(kA:mg "set"=none):FnOk P w K mg base cL 12 f fd [sA,sE,sU] mY:=by
 refine F.fnOk kR (λvs H Q E h=>?_) (λA aw s H vs Q E h hr=>?_)
 .obtain⟨m,lv,ts,n,most,c,us,ax,D,rfl,_⟩:=h;rfl
 obtain⟨m,lv,ts,n,most,c,us,ax,D,rfl,M,TT,le,ay,hT,az,cne,af,q⟩:=h;have hu:=hr.units;have aP:=ky hr;refine#[_,?_,(cD (dC (i:=3) kR.nd rZ Z0 (Dx (CompSc.to (N:=[sA,sE,sU,sM,tM,"e"]) (osc:=cz lO) (vs:=[sL,tH]) {}) rZ (fZ (Dl qI hr.m rZ (c7 (ci (pv 0) (ci (pv 2) cZ rZ) rZ)))) (DK (CompSc.to (N:=[sA,sE,sU,sM,tM,"e"]) (osc:=cz lO) (vs:=[sL,tH]) {}) rZ rZ rZ) (λ_ _ _ _=>gQ) (λ_ _ _ _=>(pv 0)))) (cD (xL (CompSc.to (N:=[sA,sE,sU,sM,tM,"e"]) (osc:=cz lO) (vs:=[sL]) {}) rZ rZ kR.nd (j:=4) rZ rZ (fZ (pv 3)) (λ_ _ _ _=>pB (tx (cX qZ hr.m rZ (c7 (ci (pv 0) (ci (dE (IxR.k (K:=K) jh h9 rZ) (dE (IxR.k (K:=K) gR fb rZ) (pv 2) cU (λ_ _=>rfl)) cU (λ_ _=>rfl)) cZ rZ) rZ))))) (λ_ _ _ _=>(pv 0))) (cD (dC (i:=5) kR.nd rZ Z0 (cX qC hr.m rZ (cu (pv 4) cj))) (cG (dF (dY (Kg rZ) rZ jD rW (cu (gk (N1 rZ) rZ kA uZ (cu (gX (CompSc.to (N:=[sA,sE,sU,sM,tM,"e"]) (osc:=cz lO) (vs:=[sL]) {}) rZ rZ (fZ (pv 4)) (λ_ _ _ _=>gQ) (λ_ _ _ _=>(Fo (K:=K) gj rZ (lK lX ye Ao (yu hu) (pv 4) (cu (cX jE hr.m rZ (c7 (ci (cX jE hr.m rZ (c7 (ci (pv 6) (ci (pv 0) cZ rZ) rZ))) (ci (pv 6) cZ rZ) rZ))) cj))))) cj)) cj)))))))];refine#[_,rZ,_,rZ,m,ts,n,most,D,rZ,M,TT,le,hT,λl as H1 k1 T1 Pi=>?_];obtain⟨hl,aj,ak⟩:=id Pi;have n1:=M.n1;have n5:=M.n5;have inU:∀p∈D,p.1∈dH n n:=λp hp=>by
  obtain⟨r1,r2⟩:=TT.run p hp;rw[<-r2];exact nS (pK n) M.steps p.2 r1
 refine#[l,rZ,#[_,O0 hl],iX (xs:=as.map .ref) (λi G C=>C=H1/\∃bs:As,G=bs.map V.ref/\TupsAt H1 bs ((D.map (·.1)).take i)) (by rw[bZ,aj,cS];lia) #[rZ,[],rZ,rZ,λj b u e=>by simp at e] (λi G C hi p=>?_) (λi v G C O p=>?_) (λG C p so aA=>?_)]
 .obtain⟨rfl,bs,rfl,Tb⟩:=p;refine#[O0 hl,?_];rw[bZ,Tb.len,e9];exact A5 ..
 .obtain⟨rfl,bs,rfl,Tb⟩:=p;rw[cr]at O;obtain⟨a1,ea,rfl⟩:=da.mp O;obtain⟨hi,_⟩:=cg.mp ea;obtain⟨r,er⟩:∃r,D[i]?=some r:=#[_,b8 ()];obtain⟨b,c',_,f1,f2,f3⟩:=ak i a1 r ea er;refine#[a1,_,rZ,O1 f1,rZ,_,_,rZ,_,_,rZ,rZ,Dj,i8 #[_,rZ,rZ,bs++[b],by simp,Gz Tb (by rw[List.getElem?_map,er];rfl) f2]]
 obtain⟨rfl,bs,rfl,Tb⟩:=p;rw[bZ,aj,<-bZ (f:=(·.1)) (as:=D),fN]at Tb;have ks:=cn aA (.lst (bs.map V.ref));have J:bX C so (.lst (bs.map V.ref)) so=some (.lst (bs.map V.ref)):=cb;have L:=Tb.same ks;have I:∀u∈D.map (·.1),u∈dH n n:=λu hu=>by
  obtain⟨p,hp,rfl⟩:=cq.mp hu;exact inU p hp
 have h0:List.range n∈D.map (·.1):=by
  obtain⟨_,h1,_⟩:=TT.least _ [] rZ (λ_ h=>nomatch h);exact cq.mpr #[_,h1,rZ]
 have ag:∀{u v},u∈D.map (·.1)->v∈D.map (·.1)->beh u v∈D.map (·.1):=λhu O=>HM (λt ht=>bY.mpr (M.each t ht)) TT hu O;have aB:=LvH.keeps az k1;have nd:(D.map (·.1)).Nodup:=TT.keys;have aa:(D.map (·.1)).length<=400:=by rw[bZ];lia
 generalize aC:D.map (·.1)=o at L I h0 ag nd aa;have al:=aB.same ks;generalize aQ:bX C so (.lst (bs.map V.ref))=H2 at ks J L al|-;obtain⟨s',t',v',am,ds,B,h1,h2,h3,h4,h5,h6,h7,h8⟩:=al;obtain⟨d,aD,rfl⟩:∃a b,c=a::b:=by
  cases c with
  |nil=>exact wC rZ cne
  |cons a b=>exact#[a,b,rZ]
 have y:d∈db n:=af;obtain⟨fa,an⟩:∃fa,am[0]?=some fa:=#[_,b8 (by rw[h3.len];exact Nat.succ_pos _)];have aE:=h3.is 0 fa d an rfl;have aF:jx (am.map V.ref) ((0:Nat):Int)=some (.ref fa):=j6 (by rw[cr,an];rfl);have lb:=L.len;refine#[_,rZ,so,rZ,#[_,O0 J],iX (xs:=bs.map .ref) (λi G C=>Same H2 C/\∃B,G=B.map V.ref/\B.length<=i/\TupsAt C B ((o.take i).filter λt=>decide (dy t d=d))) (by rw[bZ,cS];lia) #[Same.refl _,[],rZ,cm _,rZ,λi b u e=>by simp at e] (λi G C hi p=>?_) (λi v G C O p=>?_) (λG H3 p wl aG=>?_)]
 .obtain⟨g,B,rfl,e,_⟩:=p;exact#[O0 (g _ _ J),by rw[bZ];exact e]
 .obtain⟨g,B,rfl,e,Tc⟩:=p;rw[cr]at O;obtain⟨b,eb,rfl⟩:=da.mp O;have li:=(cg.mp eb).1;obtain⟨u,U⟩:∃u,o[i]?=some u:=#[_,b8 ()];have hb:=g _ _ (L.is i b u eb U);refine#[hE,_,rZ,_,rZ,lv,_,_,_,rZ,rZ,O1 (g _ _ h1),rZ,s',_,_,_,rZ,rZ,O0 (g _ _ h2),aF,b,fa,u,d,n,rZ,hb,g _ _ aE,I u (cH U),n1,n5,y,λH4 g4=>#[_,rZ,?_]];have z:=um (Tc.same g4) U (g4 _ _ hb);by_cases c2:dy u d=d
  .rw[c9 c2,wB rZ]at z;rw[c9 c2];exact gA #[_,rZ,g.trans g4,B++[b],by simp,by simp;exact e,z]
  .rw[eQ c2,wA (by decide)]at z;rw[eQ c2];exact fv #[g.trans g4,B,rZ,(),z]
 obtain⟨g3,B,rfl,_,Tc⟩:=p;rw[bZ,lb,fN]at Tc;have kw:=cn aG (.lst (B.map V.ref));have ew:bX H3 wl (.lst (B.map V.ref)) wl=some (.lst (B.map V.ref)):=cb;have Tk:TupsAt (bX H3 wl (.lst (B.map V.ref))) B (kh o d):=Tc.same kw;have g4:=g3.trans kw;generalize bX H3 wl (.lst (B.map V.ref))=H4 at ew Tk g4|-;have ao:∀t∈kh o d,t∈o:=λt ht=>(dv.mp ht).1;obtain⟨aH,ah⟩:=Ek h0 y;refine#[_,rZ,wl,B,kh o d,n,rZ,O0 ew,Tk,λt ht=>I t (ao t ht),n5,cW (hJ _ _) (),#[_,(dv.mp (Bt h0 y)).1,(dv.mp (Bt h0 y)).2],λe u H5 g5 he ef=>?_];have U:u=fT o d:=fL (ef.symm.trans aH);subst U;have lk:=Tk.len;have aR:(kh o d).length<=400:=cW (hJ _ _) aa;have ai:=g4.trans g5;refine#[_,rZ,wl,rZ,#[_,O0 (g5 _ _ ew)],iX (xs:=B.map .ref) (λi G C=>Same H5 C/\∃Y:bV,G=Y.map nv/\Y.length=i/\∀(k j:Nat) t,Y[k]?=some j->(kh o d)[k]?=some t->o[j]?=some (beh (beh (fT o d) t) (fT o d))) (by rw[bZ,cS];lia) #[Same.refl _,[],rZ,rZ,λk j t z=>by simp at z] (λi G C hi p=>?_) (λi v G C O p=>?_) (λG H6 p aI ap=>?_)]
 .obtain⟨g,Y,rfl,e,_⟩:=p;exact#[O0 ((g5.trans g) _ _ ew),by rw[bZ];lia]
 .obtain⟨g,Y,rfl,lj,ok⟩:=p;rw[cr]at O;obtain⟨b,eb,rfl⟩:=da.mp O;obtain⟨t,et⟩:∃t,(kh o d)[i]?=some t:=#[_,b8 (by rw[<-lk];exact(cg.mp eb).1)];have hb:=(g5.trans g) _ _ (Tk.is i b t eb et);have aq:=ao t (cH et);obtain⟨a1,a2⟩:=bY.mp (I _ ah);obtain⟨t1,t2⟩:=bY.mp (I _ aq);have ab:=ag ah aq;obtain⟨b1,b2⟩:=bY.mp (I _ ab);obtain⟨j,ej⟩:=dU.mp (ag ab ah);refine#[hE,i8 #[_,rZ,.inl #[rZ,_,O0 ((ai.trans g) _ _ J)],_,rZ,_,rZ,e,b,_,t,rZ,g _ _ he,hb,λx hx=>by rw[t1];exact a2 x hx,(),λr H7 g7 e7=>#[_,rZ,r,e,_,_,rZ,e7,g7 _ _ (g _ _ he),λx hx=>by rw[a1];exact b2 x hx,(),λr2 H8 g8 e8=>?_]]];have ar:=g7.trans g8;have ae:=(ai.trans g).trans ar;refine#[so,_,1,.tup (fS (beh (beh (fT o d) t) (fT o d))),o.map (λu=> .tup (fS u)),_,j,rZ,rZ,O0 (ae _ _ J),by rw[bZ,bZ,lb],fQ (O1 e8),λi' d' v' T z2=>?_,by decide,by rw[cr,ej];rfl,λi' lt z=>?_,g.trans ar,Y++[j],by simp,by simp[lj],λk j' t' T z2=>?_]
  .rw[cr]at T z2;obtain⟨u,U,rfl⟩:=da.mp T;obtain⟨b',aJ,rfl⟩:=da.mp z2;exact fQ (O1 (ae _ _ (L.is i' b' u aJ U)))
  .rw[cr]at z;obtain⟨u,U,ez⟩:=da.mp z;have:=cJ.mp ez
   subst this;exact wC (Cz nd U ej) ()
  .by_cases hk:k<i
   .rw[eA ()]at T;exact ok k j' t' T z2
   .have aK:k=i:=by
     have:=(cg.mp T).1;rw[dA,lj]at this;have:k<i+1:=this
     lia
    subst aK;rw[dZ (),lj,jg]at T;cases T;rw[et]at z2;cases z2;exact ej
 obtain⟨g6,Y,rfl,lj,ok⟩:=p;rw[bZ]at lj;have kn:=cn ap (.lst ((Y.map λ(n:Nat)=>(n:Int)).map V.int));rw[rh];refine#[aI,_,rZ,O0 cb,by rw[bZ];lia,λsa aL=>#[sa,_,rZ,cb,cW (G5 _) (by rw[bZ];lia),λl2 jz aM T z2=>?_]];have aN:=KO nd (lj.trans lk) ok T z2;subst aN;have aO:=cn aL (Ab w sa (mj (Y.map λ(n:Nat)=>(n:Int))));have gz:=(((ks.trans ai).trans g6).trans kn).trans aO;have au:=gz.trans (cn aM (.lst (((lE o d).map λ(n:Nat)=>(n:Int)).map V.int)));exact q l2 _ (k1.trans au.keeps) (T1.same au) (by rw[aC,rh];exact cb)
structure Grp(n:Nat)(gs:LN)(e:bV):Prop where
 n1:1<=n
 n5:n<=5
 nd:gs.Nodup
 tn:∀t∈gs,Cyc.Tn n t
 te:Cyc.Tn n e
 id:Cyc.Idem e
 me:e∈gs
 ins:∀t∈gs,Cyc.In t e
 pws:∀t∈gs,∀k,1<=k->Cyc.pw t k∈gs
 beh:∀t∈gs,∀v∈gs,Cyc.beh t v∈gs
 few:gs.length<=400
def ub{n:Nat}{t v:bV}(ht:t∈dH n n){r:Nat}(a:r<n):(beh t v).getD r 0=v.getD (t.getD r 0) 0:=by
 have l:=(bY.mp ht).1;unfold beh;rw[cP,cr,cP (l:=t),b8 (show r<t.length by lia)];rfl
def z9{n:Nat}{t:bV}(ht:t∈dH n n){r:Nat}(a:r<n):t.getD r 0∈t/\t.getD r 0<n:=by
 obtain⟨l,h⟩:=bY.mp ht;have m:t.getD r 0∈t:=by
  rw[cP,b8 (show r<t.length by lia)];exact iw _
 exact#[m,h _ m]
def JH{n:Nat}{t v:bV}(ht:t∈dH n n)(a:v∈dH n n)(h:∀r,r<n->t.getD r 0=v.getD r 0):t=v:=by
 have d:=(bY.mp ht).1;have e:=(bY.mp a).1;refine qp () λi b c=>?_;have z:=h i ();rw[cP,cP,b8 b,b8 c]at z;exact z
def Hz{n:Nat}{t:bV}(ht:t∈dH n n){x:Nat}(a:x∈t):∃r,r<n/\t.getD r 0=x:=by
 obtain⟨i,e⟩:=dU.mp a;exact#[i,by have:=(cg.mp e).1;have:=(bY.mp ht).1;lia,by rw[cP,e];rfl]
def Kp(n:Nat)(a t:bV):Prop:=t∈dH n n/\dy t a=a
def Kp.mem{n:Nat}{a t:bV}(k:Kp n a t)(x:Nat):x∈a↔x<5/\∃s∈a,t.getD s 0=x:=by
 conv=>lhs;rw[<-k.2]
 unfold dy;rw[iC,cq]
def Kp.go{n:Nat}{a t:bV}(c:n<=5)(d:∀r∈a,r<n)(k:Kp n a t){r:Nat}(b:r∈a):t.getD r 0∈a:=
 (k.mem _).mpr #[gm (z9 k.1 (d r b)).2 c,r,b,rZ]
def Kp.beh{n:Nat}{a t v:bV}(e:n<=5)(c:∀r∈a,r<n)(f:dM a=a)(k:Kp n a t)(d:Kp n a v):Kp n a (beh t v):=by
 refine#[t9 k.1 d.1,?_];unfold dy
 conv=>rhs;rw[<-f]
 unfold dM;refine u8 λi j=>?_;rw[jt,f7,f7,cq];constructor
 .rintro⟨r,b,rfl⟩;rw[ub k.1 (c r b)];exact d.go e c (k.go e c b)
 .intro h;obtain⟨_,s,g,rfl⟩:=(d.mem i).mp h;obtain⟨_,r,b,rfl⟩:=(k.mem s).mp g;exact#[r,b,ub k.1 (c r b)]
def hV{b:Zs}{y:Int}:y∈lT b↔y∈b:=by
 have all:∀(b a:Zs),y∈b.foldl md a↔y∈a\/y∈b:=λb=>by
  induction b with
  |nil=>intro a;simp
  | cons x b c=>
   intro a;rw[jw,c,dq];unfold md;split
   .rename_i h
    exact#[λz=>z.elim .inl λz=> .inr (.inr z),λz=>z.elim .inl λz=>z.elim (λe=> .inl (e▸h)) .inr]
   .rw[cM,cE,or_assoc]
 rw[lT,all];simp
def No(d:Zs):(lT d).Nodup:=by
 have all:∀(d c:Zs),c.Nodup->(d.foldl md c).Nodup:=λd=>by
  induction d with
  |nil=>intro c h;exact h
  | cons x d e=>
   intro c h;rw[jw];refine e _ ?_;unfold md;split
   .exact h
   .rename_i f
    exact oQ.mpr #[h,gP.mpr #[zD,pU],λa g b i=>by rw[cE.mp i];exact λz=>f (z▸g)]
 exact all d [] pU
def JA{f e:bV}(sub:∀x∈f,x∈e)(b:fg e<=fg f):∀x∈e,x∈f:=λx c=>by
 refine qo λno=>?_;have m:∀(t:bV) (y:Nat),(y:Int)∈lT (t.map λ(n:Nat)=>(n:Int))↔y∈t:=λt y=>by
  rw[hV,cq];exact#[λ⟨z,d,j⟩=>(show z=y by lia)▸d,λh=>#[y,h,rZ]]
 have nd:((x:Int)::lT (f.map λ(n:Nat)=>(n:Int))).Nodup:=gP.mpr #[λz=>no ((m f x).mp z),No _];have a:=rY nd (l₂:=lT (e.map λ(n:Nat)=>(n:Int))) λy g=>by
  rcases dq.mp g with rfl|z
  .exact(m e x).mpr c
  .obtain⟨k,i,rfl⟩:=cq.mp (hV.mp z);exact(m e k).mpr (sub k i)
 unfold fg at b;rw[gC]at a;lia
theorem Ht:∀(d:LN) (a:Option bV) (u:bV),d.foldl nX a=some u->(∀p∈d,fg u<=fg p)/\∀y,a=some y->fg u<=fg y
 | [],a,u,h=>#[(λ_ z=>nomatch z),λy e=>by rw[e]at h;cases h;exact Int.le_refl _]
 | p::d,a,u,h=>by
  obtain⟨f,g⟩:=Ht d (nX a p) u h;cases a with
  |none=>
   refine#[λq b=>?_,λy e=>nomatch e]
   rcases dq.mp b with rfl|z
   .exact g _ rfl
   .exact f q z
  | some y=>
   by_cases c:fg p<fg y
   .have e:nX (some y) p=some p:=wB c;have z:=g p e;refine#[λq b=>?_,λi e=>by cases e;lia]
    rcases dq.mp b with rfl|w
    .exact z
    .exact f q w
   .have e:nX (some y) p=some y:=wA c;have z:=g y e;refine#[λq b=>?_,λi e=>by cases e;exact z]
    rcases dq.mp b with rfl|w
    .lia
    .exact f q w
def LK{n:Nat}{f e:bV}(a:f∈dH n n)(c:e∈dH n n)(i:beh f f=f)(g:beh e f=f)(h:beh f e=f)(j:fg e<=fg f):f=e:=by
 have sub:∀x∈f,x∈e:=λx k=>by
  obtain⟨r,b,rfl⟩:=Hz a k;rw[<-h,ub a b];exact(z9 c (z9 a b).2).1
 have all:=JA sub j;refine JH a c λr b=>?_;obtain⟨s,l,d⟩:=Hz a (all _ (z9 c b).1);have z:=ub (v:=f) c b;rw[g,<-d]at z;have y:=ub (v:=f) a l;rw[i]at y;rw[z,<-y,d]
structure Own(n:Nat)(us:LN)(face:bV):Prop where
 n1:1<=n
 n5:n<=5
 nd:us.Nodup
 uU:∀u∈us,u∈dH n n
 h0:List.range n∈us
 hf:face∈db n
 clo:∀u∈us,∀v∈us,beh u v∈us
 few:us.length<=400
section
variable{n:Nat}{d:LN}{a:bV}
def Own.amid(O:Own n d a):fT d a∈d/\Kp n a (fT d a)/\beh (fT d a) (fT d a)=fT d a/\∀f∈d,Kp n a f->beh f f=f->fg (fT d a)<=fg f:=by
 obtain⟨b,c⟩:=Ek O.h0 O.hf
 rcases Bw _ _ _ b with z|z
 .obtain⟨e,g⟩:=dv.mp z;obtain⟨l,h⟩:=dv.mp e;refine#[c,#[O.uU _ c,fG h],fG g,λf j k i=>(Ht _ _ _ b).1 f (dv.mpr #[dv.mpr #[j,c9 k.2],c9 i])]
 .cases z
def Own.prod(O:Own n d a){x:bV}:x∈mQ d a↔x∈d/\Kp n a x/\beh (fT d a) x=x/\beh x (fT d a)=x:=by
 obtain⟨c,f,a3,_⟩:=O.amid;obtain⟨g,i⟩:=b7.mp O.hf;have b:=O.uU _ c;constructor
 .intro h;obtain⟨t,ht,rfl⟩:=cq.mp h;obtain⟨j,l⟩:=dv.mp ht;have e:=O.uU t j;have m:Kp n a t:=#[e,fG l];refine#[O.clo _ (O.clo _ c _ j) _ c,(f.beh O.n5 i g m).beh O.n5 i g f,?_,?_]
  .rw[cO b e,<-cO b b,a3]
  .rw[cO (t9 b e) b,a3]
 .rintro⟨o,k,p,q⟩;exact cq.mpr #[x,dv.mpr #[o,c9 k.2],by rw[p,q]]
theorem Own.pws(O:Own n d a){x:bV}(h:x∈mQ d a):∀k,1<=k->Cyc.pw x k∈mQ d a
 |0,z=>wC z (by decide)
 | k+1,_=>by
  by_cases f:k=0
  .subst f;rw[Cyc.pw_one];exact h
  .obtain⟨g,b,i,q⟩:=O.prod.mp (O.pws h k ());obtain⟨j,c,r,l⟩:=O.prod.mp h;obtain⟨m,s,a3,_⟩:=O.amid;obtain⟨o,p⟩:=b7.mp O.hf;have e:Cyc.pw x (k+1)=beh (Cyc.pw x k) x:=rfl;rw[e];refine O.prod.mpr #[O.clo _ g _ j,b.beh O.n5 p o c,?_,?_]
   .rw[<-cO (O.uU _ m) b.1,i]
   .rw[cO b.1 c.1,l]
def Own.mul(O:Own n d a){x y:bV}(e:x∈mQ d a)(f:y∈mQ d a):beh x y∈mQ d a:=by
 obtain⟨g,b,h,o⟩:=O.prod.mp e;obtain⟨i,c,p,j⟩:=O.prod.mp f;obtain⟨k,q,a3,_⟩:=O.amid;obtain⟨l,m⟩:=b7.mp O.hf;refine O.prod.mpr #[O.clo _ g _ i,b.beh O.n5 m l c,?_,?_]
 .rw[<-cO (O.uU _ k) b.1,h]
 .rw[cO b.1 c.1,j]
def Own.ins(O:Own n d a){x:bV}(h:x∈mQ d a):Cyc.In x (fT d a):=by
 obtain⟨s,k,l,t⟩:=O.prod.mp h;have g:Cyc.Tn n x:=bY.mp k.1;obtain⟨b,c,R,_⟩:=Cyc.ring_of g.turn;have i:=Cyc.idem_ex g R;have f:1<=c * (b+1):=Nat.mul_pos R.pos (Nat.succ_pos _);obtain⟨m,j,o,p⟩:=O.prod.mp (O.pws h _ f);obtain⟨u,q,a3,r⟩:=O.amid;have e:=LK j.1 q.1 i o p (r _ m j i);refine#[#[_,f,?_],_,f,e];show Cyc.beh (Cyc.pw x (c * (b+1))) x=x;rw[e];exact l
def Own.still(O:Own n d a){r:Nat}(c:r∈a):(fT d a).getD r 0=r:=by
 obtain⟨g,b,a3,_⟩:=O.amid;obtain⟨h,e⟩:=b7.mp O.hf;obtain⟨_,s,f,rfl⟩:=(b.mem r).mp c;have z:=ub (v:=fT d a) b.1 (e s f);rw[a3]at z;exact z.symm
def mT(O:Own n d a){t:bV}:t∈((lE d a).map λk=>d.getD k [])↔t∈mQ d a:=by
 rw[cq];constructor
 .rintro⟨k,b,rfl⟩;obtain⟨x,e,h⟩:=d6.mp b;rw[cP,e];exact h
 .intro h;obtain⟨k,e⟩:=dU.mp (O.prod.mp h).1;exact#[k,d6.mpr #[t,e,h],by rw[cP,e];rfl]
def Own.grp(O:Own n d a):Grp n ((lE d a).map λk=>d.getD k []) (fT d a):=by
 obtain⟨g,c,a3,l⟩:=O.amid;refine#[O.n1,O.n5,?_,λt ht=>bY.mp (O.prod.mp ((mT O).mp ht)).2.1.1,bY.mp c.1,a3,(mT O).mpr (O.prod.mpr #[g,c,a3,a3]),λt ht=>O.ins ((mT O).mp ht),λt ht k b=>(mT O).mpr (O.pws ((mT O).mp ht) k b),λt ht v h=>(mT O).mpr (O.mul ((mT O).mp ht) ((mT O).mp h)),?_]
 .refine sw.mpr (List.Pairwise.imp_of_mem (λ{j k} i b lt z=>?_) (Kk d a));obtain⟨x,e,_⟩:=d6.mp i;obtain⟨y,f,_⟩:=d6.mp b;rw[cP,cP,e,f]at z;cases(show x=y from z);exact wC (Cz O.nd e f) ()
 .rw[bZ];have:=O.few;exact cW (hJ _ _) (by rw[mz];lia)
end
def Bo:(dQ[2]'(by decide))∈dQ:=iw _
section
variable{H:Hp}{m:Ad}{d:LN}{n:Nat}{g c i f:LN}
def NR(M:Mach H m d n)(q:FamOf d n g)(lp:LvP d g c i f){k B l:Nat}{x a s:bV}(J:c[k]?=some x)(L:f[k]?=some a)(N:l<d.length)(O:c[B]?=some (ck d x l))(y:f[B]?=some s):∃t,j8 d i a s l t:=by
 obtain⟨C,_⟩:=lp.inU M q;have go:=lp.go k x a J L;obtain⟨p,b⟩:=lp.bij M q O y;have D:=oV M q (c.headD []);rw[<-lp.tl]at D;have E:∀z∈a++[l]++p,z<d.length:=λz A=>by
  rcases cM.mp A with h|h
  .rcases cM.mp h with h|h
   .exact go.1 z h
   .rw[cE.mp h];exact N
  .exact b.lp z h
 have Q:kq d (c.headD []) (a++[l]++p):=#[E,by rw[iK,iK,go.2];exact b.fro];refine#[i.map λu=>gK i (cw (ck d) u (a++[l]++p)),bZ _,λj u T G v=>?_];rw[cr,G]at v;have v:some (gK i (cw (ck d) u (a++[l]++p)))=some T:=v;have w:=cH G;obtain⟨_,e⟩:=rS (Bq M q lp Q w);refine#[_,by rw[<-fL v];exact e,?_];have o:∀z∈a++[l],z<d.length:=λz A=>E z (cM.mpr (.inl A));have U:cw (ck d) u (a++[l]++p)=cw (ck d) (cw (ck d) u (a++[l])) p:=iK d _ _ _;have Y:cw (ck d) u (a++[l])=ck d (cw (ck d) u a) l:=iK d u a [l];have vU:cw (ck d) u (a++[l])∈db n:=mO M (C u w) o;have sb:sub (cw (ck d) u (a++[l])) (ck d x l)=true:=cF.mpr λr hr=>by
  obtain⟨I,h0,h1⟩:=(jj M (C u w) o).mp hr;have fU:=pO M q lp;have:r∈cw (ck d) (c.headD []) (a++[l]):=(jj M fU o).mpr #[I,cF.mp (D.mem u w).2.2 I h0,h1];have e3:cw (ck d) (c.headD []) (a++[l])=ck d x l:=by
   rw[iK,go.2];rfl
  rwa[e3]at this
 rw[U,b.symm.back M vU sb,Y]
def wQ(lp:LvP d g c i f)(W:Wds d c f):f[0]?=some []:=by
 obtain⟨j,k,T,a⟩:=W;have e:c[0]?=some (c.headD []):=by
  cases c with
  |nil=>exact wC rZ (gZ lp.cls).1
  |cons x c=>rfl
 obtain⟨b,h⟩:∃b,f[0]?=some b:=#[_,b8 (by rw[j];exact(cg.mp e).1)];rw[h,Dg T.keys (a 0 _ b e h) (cH T.head)]
end
section
variable{H:Hp}{m:Ad}{a:LN}{n:Nat}{b:LN}{L:Lv}
def LvOk.makes(ok:LvOk a b L){t:bV}(c:qr a L.c L.us L.wds t):t∈L.gs:=by
 have d:beh (List.range L.us.length) t∈L.gs:=(ok.g.mem _).mpr (.step .base c);obtain⟨k,l,g,x,h,e,i,j,m,n,o,f⟩:=c;rw[Lm f.1]at d;exact d
open Classical in
def LvOk.words(M:Mach H m a n)(d:FamOf a n b)(ok:LvOk a b L)(t:bV):t∈L.gs↔ ∃w,kq a (L.c.headD []) w/\t=tw a L.us w:=by
 have Mk:Makers a L.c L.us L.wds (L.gs.filter λt=>decide (qr a L.c L.us L.wds t)):=by
  refine#[λt ht=>fG (dv.mp ht).2,λk l x u i j o v=>?_];obtain⟨g,e⟩:=pz v;obtain⟨c,h⟩:∃c,L.wds[g]?=some c:=#[_,b8 (by rw[ok.p.len];exact(cg.mp e).1)];obtain⟨t,p⟩:=NR M d ok.p i j o e h;have q:qr a L.c L.us L.wds t:=#[k,l,g,x,u,c,i,j,o,e,h,p];exact#[g,c,t,dv.mpr #[ok.makes q,c9 q],e,h,p]
 have r:=(ok.p.inU M d).1;obtain⟨z,T⟩:=ym (zu (nQ M d ok.p) r) (λx y l (s:l<(L.gs.filter λt=>decide (qr a L.c L.us L.wds t)).length)=>by
  refine xY M.n5 r y ?_;rw[cP,b8 s];exact ok.inG M d (dv.mp (iw s)).1) [(_,[])] 0 0 (Que.start (f:=ig (L.gs.filter λt=>decide (qr a L.c L.us L.wds t)))) (gc _) (gc _)
 rw[ok.g.mem,<-Hm (Eg M d ok.p Mk),<-HJ T];exact Ob M d ok.p (wQ ok.p ok.w) Mk T t
end
section
variable{H:Hp}{m:Ad}{b:LN}{n:Nat}{c:LN}{L:Lv}{d:TW}
theorem E8:∀(w x:bV),cw (dL b) x w=x.map λr=>d9 b r w
 | [],x=>(oi x).symm
 |l::w,x=>by
  show cw (dL b) (beh x (b.getD l [])) w=_;rw[E8 w];unfold beh;rw[eY];rfl
def Dz(M:Mach H m b n){w x:bV}(a:∀l∈w,l<b.length)(c:x∈db n):dy (cw (dL b) (List.range n) w) x=cw (ck b) x w:=by
 rw[Gu M c a,E8];rfl
def tz(M:Mach H m b n)(f:FamOf b n c)(ok:LvOk b c L)(T:Told (dL b) b.length (List.range n) d){t:bV}(ht:t∈d.map (·.1))(k:dy t (L.c.headD [])=L.c.headD []):∃w,kq b (L.c.headD []) w/\(∀x∈db n,dy t x=cw (ck b) x w)/\(∀u∈L.us,dy t u∈L.us)/\fc L.us t=tw b L.us w:=by
 obtain⟨p,j,rfl⟩:=cq.mp ht;obtain⟨g,l⟩:=T.run p j;have a:∀x∈db n,dy p.1 x=cw (ck b) x p.2:=λx o=>by
  rw[<-l];exact Dz M g o
 have h:kq b (L.c.headD []) p.2:=#[g,by rw[<-a _ (pO M f ok.p)];exact k];have i:=(ok.p.inU M f).1;refine#[p.2,h,a,λu e=>?_,hK λu e=>by rw[a u (i u e)]];rw[a u (i u e)];exact Bq M f ok.p h e
def On(M:Mach H m b n)(e:FamOf b n c)(ok:LvOk b c L)(T:Told (dL b) b.length (List.range n) d){g:bV}(f:g∈L.gs):∃t∈d.map (·.1),dy t (L.c.headD [])=L.c.headD []/\fc L.us t=g:=by
 obtain⟨w,a,rfl⟩:=(ok.words M e g).mp f;obtain⟨u,h,_⟩:=T.least _ w rZ a.1;have i:=(ok.p.inU M e).1;refine#[_,cq.mpr #[_,h,rZ],?_,hK λu j=>?_]
 .show dy (cw (dL b) (List.range n) w) _=_;rw[Dz M a.1 (pO M e ok.p)];exact a.2
 .show gK _ (dy (cw (dL b) (List.range n) w) u)=_;rw[Dz M a.1 (i u j)]
def JT(M:Mach H m b n)(f:FamOf b n c)(ok:LvOk b c L)(T:Told (dL b) b.length (List.range n) d){t v:bV}(ht:t∈d.map (·.1))(j:v∈d.map (·.1))(l:t∈dH n n)(k:dy t (L.c.headD [])=L.c.headD [])(o:dy v (L.c.headD [])=L.c.headD []):fc L.us (beh t v)=beh (fc L.us t) (fc L.us v):=by
 obtain⟨w,i,a,_,e⟩:=tz M f ok T ht k;obtain⟨s,p,q,_,r⟩:=tz M f ok T j o;rw[e,r,<-G0 M f ok.p i];have g:=(ok.p.inU M f).1;refine hK λu h=>?_;rw[<-z6 M.n5 l (g u h),a u (g u h),q _ (mO M (g u h) i.1),iK]
def IK(M:Mach H m b n)(a:FamOf b n c)(ok:LvOk b c L)(T:Told (dL b) b.length (List.range n) d)(O:Own n (d.map (·.1)) (L.c.headD []))(g:bV):(∃x∈mQ (d.map (·.1)) (L.c.headD []),fc L.us x=g)↔g∈L.gs:=by
 have h:=(ok.p.inU M a).1;have i:=oV M a (L.c.headD []);rw[<-ok.p.tl]at i;constructor
 .rintro⟨x,o,rfl⟩;obtain⟨p,q,_,_⟩:=O.prod.mp o;obtain⟨w,s,_,_,e⟩:=tz M a ok T p q.2;rw[e];exact(ok.words M a _).mpr #[w,s,rZ]
 .intro v;obtain⟨t,ht,k,rfl⟩:=On M a ok T v;obtain⟨D,j,a3,_⟩:=O.amid;have z:=O.uU t ht;refine#[_,cq.mpr #[t,dv.mpr #[ht,c9 k],rZ],hK λu f=>?_];have st:∀y∈L.us,dy (fT (d.map (·.1)) (L.c.headD [])) y=y:=λy l=>by
   have A:=h y l;have e:(y.map λr=>(fT (d.map (·.1)) (L.c.headD [])).getD r 0)=y.map id:=hK λr B=>O.still (cF.mp (i.mem y l).2.2 r B)
   unfold dy;rw[e,oi];exact(b7.mp A).1
  obtain⟨_,_,_,C,_⟩:=tz M a ok T ht k;rw[<-z6 M.n5 (t9 j.1 z) (h u f),<-z6 M.n5 j.1 (h u f),st u f,st _ (C u f)]
def F5(M:Mach H m b n)(T:Told (dL b) b.length (List.range n) d)(few:d.length<=400){a:bV}(e:a∈db n):Own n (d.map (·.1)) a:=by
 refine#[M.n1,M.n5,T.keys,λu c=>?_,?_,e,λu c v f=>HM (λt ht=>bY.mpr (M.each t ht)) T c f,by rw[bZ];exact few]
 .obtain⟨p,g,rfl⟩:=cq.mp c;obtain⟨i,j⟩:=T.run p g;rw[<-j];exact nS (pK n) M.steps p.2 i
 .obtain⟨_,k,_⟩:=T.least _ [] rZ (λ_ h=>nomatch h);exact cq.mpr #[_,k,rZ]
def Ky(M:Mach H m b n)(a:FamOf b n c)(ok:LvOk b c L)(t:bV):fc L.us t≠[]:=λe=>by
 have z:=Er M a ok.p;have:=dw List.length e;unfold fc at this;rw[bZ]at this;simp at this;rw[this]at z;exact wC z (kS 0)
end
inductive fB(e:List V)(H:Hp)(Q:VK)(d:XK):Prop|mk:∀(a l:Ad) (t:bV) (f:As) (b:LN) (n:Nat),e=[.ref a,.ref l]->H a=some (.tup (t.map nv))->H l=some (.lst (f.map .ref))->TupsAt H f b->t∈dH n n->n<=5->(∀u∈b,u∈db n)->b.length<=32->b.Nodup->((∀p c,Same H c->(∀u∈b,dy t u∈b)->c p=some (.tup ((fc b t).map nv))->Q (.ref p) c))->((∀c,Same H c-> ¬(∀u∈b,dy t u∈b)->Q .non c))->fB e H Q d
inductive jo(d:List V)(H:Hp)(Q:VK)(a:XK):Prop|mk:∀(l:Ad) (e:As) (b:List Lv) (k:Nat),d=[.ref l,nv k]->H l=some (.lst (e.map .ref))->PartsAt H e (pF b)->b.length<=32->(∀p c,Same H c->c p=some (.lst ((((pF b).filter λx=>x.1&&decide (x.2.1=k)).map (·.2.2)).map nv))->Q (.ref p) c)->jo d H Q a
def JQ(F:Fun K "_law_many" "_law_many" zN f fd):FnOk P w K mg base cL 1 f fd [tE,sQ] jo:=by
 refine F.ok Lj (λC A m s H L Q E D h=>?_)
 obtain⟨l,G,a,k,rfl,t,PA,l32,q⟩:=h;have M:=D.units;refine#[_,(cG (dF (gX (CompSc.to (N:=[tE,sQ]) (osc:=cz zN) (vs:=["_law_part"]) {}) rZ rZ (fZ (pv 0)) (λ_ _ _ _=>pB (PW.pt (vM (fM tF (dE (IxR.k (K:=K) gR fb rZ) (pv 0) cU (λ_ _=>rfl)) By (fj _)) (wV (fM tF (dE (IxR.k (K:=K) gR fb rZ) (pv 0) cU (λ_ _=>rfl)) (pv 2) (fj _)))))) (λ_ _ _ _=>(dE (IxR.k (K:=K) gR fb rZ) (pv 0) cU (λ_ _=>rfl)))))),?_];have u:=PA.len;have O:(pF a).length<=2 * a.length:=D3 a a.length;refine#[_,rZ,l,rZ,#[_,O0 t],iX (xs:=G.map .ref) (λi d g=>g=H/\d=((((pF a).take i).filter λx=>x.1&&decide (x.2.1=k)).map (·.2.2)).map nv) (by rw[bZ,cS];lia) #[rZ,rZ] (λi d g T p=>?_) (λi v d g y p=>?_) (λd g p I n=>?_)]
 .obtain⟨rfl,rfl⟩:=p;exact#[O0 t,by rw[bZ,bZ];exact cW (hJ _ _) (by rw[e9];exact A5 _ _)]
 .obtain⟨rfl,rfl⟩:=p;rw[cr]at y;obtain⟨b,z,rfl⟩:=da.mp y;obtain⟨j,B⟩:∃j,(pF a)[i]?=some j:=#[_,b8 (by rw[<-u];exact(cg.mp z).1)];have o:=PA.is i b j z B;rw[List.take_succ,B,rn,dX,dX];obtain⟨J,r,U⟩:=j;refine#[hE,_,rZ,b,_,_,_,rZ,rZ,O1 o,rZ,rZ,_,rZ,?_];cases J with
  |false=>exact fv (fv #[rZ,(gL _).symm])
  | true=>
   refine gA #[_,rZ,b,_,_,_,rZ,rZ,O1 o,rZ,_,rZ,rZ,_,rZ,lJ (λc=>?_) (λc=>?_)]
   .have c:=fG c;have e:r=k:=by
     have c:V.int (r:Int)=V.int (k:Int):=c;injection c with c
     lia
    refine#[_,rZ,b,_,_,_,rZ,rZ,O1 o,rZ,rZ,?_];simp[e]
   .have e:r≠k:=λe=>c (c9 (by rw[e]));refine#[rZ,?_];simp[e]
 .obtain⟨rfl,rfl⟩:=p;rw[bZ,u,fN];exact q I _ (cn n _) cb
def K0(F:Fun K uI uI zw f fd)(jC:mg "tuple"=none)(jD:mg "sorted"=none)(kA:mg "set"=none):FnOk P w K mg base cL 1 f fd [sF,tW] fB:=by
 refine F.ok kW (λag A aa s H vs Q E hr h=>?_)
 obtain⟨a,l,t,as,d,n,rfl,ha,hl,T,ht,n5,uU,few,nd,q,q2⟩:=h;have L:=hr.units;refine#[_,(cD (dC (i:=2) kW.nd rZ Z' (iA cj)) (cD (iL gY rZ (fZ (pv 1)) (fV (i:=3) kW.nd rZ Z') (cD (dC (i:=4) kW.nd rZ Z' (gk n9 rZ jC mW (cu (dY (Df rZ) rZ jD rW (cu (gk (AR rZ) rZ kA uZ (cu (gX (CompSc.to (N:=[sF,tW,tR,tI,"_law_there"]) (osc:=cz zw) (vs:=["_law_room"]) {}) rZ rZ (uu (pv 3)) (λ_ _ _ _=>gQ) (λ_ _ _ _=>(dE (IxR.k (K:=K) gR fb rZ) (pv 1) (pv 0) (λ_ _=>rfl)))) cj)) cj)) cj))) (cD (gM (fM (D5 L) (pv 4) (pv 1) (by with_unfolding_all rfl)) (cG (dF qb)) gV) (cG (m6 (lK lX oK pc ph (pv 2) (cu (lK lX ye Ao (yu L) (pv 1) (cu (pv 4) cj)) cj))))))) (cG (dF (gk n9 rZ jC mW (cu (pv 2) cj)))))),?_];obtain⟨t1,t2⟩:=bY.mp ht;have M:=T.len;refine#[by show 0<=sizeLine;decide,λB C=>?_];have k0:=cn C (.lst [])
 let Pv:Nat->L2.St->Hp->Prop:=λi O H'=>Same H H'/\(∀u∈d.take i,dy t u∈d)/\H' B=some (.lst (((d.take i).map λu=>gK d (dy t u)).map nv))/\∃o3 o4,O=[some (.ref a),some (.ref l),some (.ref B),o3,o4]
 refine#[_,rZ,l,rZ,#[_,O0 (k0 _ _ hl)],oN (xs:=as.map .ref) Pv #[k0,λu L=>by simp at L,cb,_,_,rZ] (λi O H' _ p=>O0 (p.1 _ _ hl)) (λi v O U e p=>?_) (λO U p=>?_)]
 .obtain⟨D,ins,Y,o3,o4,rfl⟩:=p;rw[cr]at e;obtain⟨b,eb,rfl⟩:=da.mp e;obtain⟨u,eu⟩:∃u,d[i]?=some u:=#[_,b8 (by rw[<-M];exact(cg.mp eb).1)];have g:=cH eu;have x2:=(b7.mp (uU u g)).2;have hb:=D _ _ (T.is i b u eb eu);have lu:u.length<=5:=cW (sq n5 (uU u g)) n5;refine#[_,rZ,b,rZ,#[_,O1 hb],vj (f:=λv=>match v with|.int i=>nv (t.getD i.toNat 0)|v=>v) (by rw[bZ];exact small ()) (O1 hb) (λv Q e q=>?_) (λl1 ab=>?_)]
  .obtain⟨r,h1,rfl⟩:=cq.mp e;exact#[_,rZ,_,rZ,a,_,_,_,rZ,rZ,O1 (D _ _ ha),rR (by rw[t1];exact x2 r h1),q]
  .have e2:(u.map nv).map (λv=>match v with|.int i=>nv (t.getD i.toNat 0)|v=>v)=(u.map λr=>t.getD r 0).map nv:=by
    rw[eY,eY];rfl
   try dsimp only
   rw[e2];have k1:=cn ab (.lst ((u.map λr=>t.getD r 0).map nv));refine#[l1,_,rZ,O0 cb,λx hx=>?_,λm ae=>#[m,_,rZ,cb,λo ho=>?_]]
   .obtain⟨r,h1,rfl⟩:=cq.mp hx;have:=dt t2 (show r<t.length by rw[t1];exact x2 r h1);lia
   .try dsimp only
    rw[xi];refine#[o,_,rZ,.inl #[O0 cb,λth af=>?_]];obtain⟨H2,j⟩:∃H2,H2=bX (bX (bX (bX U l1 (.lst ((u.map λr=>t.getD r 0).map nv))) m (oE w m (lB 0 (u.map λr=>t.getD r 0)))) o (.lst ((dM (u.map λr=>t.getD r 0)).map nv))) th (.tup ((dM (u.map λr=>t.getD r 0)).map nv)):=#[_,rZ];have kk:Same U H2:=by
     rw[j];exact k1.trans ((cn ae (oE w m (lB 0 (u.map λr=>t.getD r 0)))).trans ((cn ho (.lst ((dM (u.map λr=>t.getD r 0)).map nv))).trans (cn af (.tup ((dM (u.map λr=>t.getD r 0)).map nv)))))
    have G:H2 th=some (.tup ((dy t u).map nv)):=by
     rw[j];exact cb
    have g2:=D.trans kk;have I:=kk _ _ Y;have k:=g2 _ _ hl;have T2:=T.same g2;show mE _ _ _ [some (V.ref a),some (V.ref l),some (V.ref B),some (V.ref b),some (V.ref th)] (bX (bX (bX (bX U l1 (.lst ((u.map λr=>t.getD r 0).map nv))) m (oE w m (lB 0 (u.map λr=>t.getD r 0)))) o (.lst ((dM (u.map λr=>t.getD r 0)).map nv))) th (.tup ((dM (u.map λr=>t.getD r 0)).map nv)))
    rw[<-j];refine#[_,rZ,_,rZ,l,1,Dt.tup (fS (dy t u)),d.map (λu=>Dt.tup (fS u)),as.map V.ref,rZ,O0 k,by rw[bZ,bZ,M],fQ (O1 G),u7 T2,by decide,λc hc=>#[_,rZ,?_]];have hc:=hc.trans iD;cases c with
    |false=>
     refine gA (q2 _ g2 λz=>?_);exact Bool.noConfusion (hc.mpr (z u g))
    | true=>
     have J:=hc.mp rfl;obtain⟨x1,x3⟩:=rS J;refine fv #[_,rZ,.inl #[rZ,_,O0 I],_,rZ,.inl #[rZ,_,O0 k],_,rZ,l,_,1,Dt.tup (fS (dy t u)),d.map (λu=>Dt.tup (fS u)),as.map V.ref,gK d (dy t u),rZ,rZ,O0 k,by rw[bZ,bZ,M],fQ (O1 G),u7 T2,by decide,fP.mpr x3,λi' lt z=>?_,B,_,_,rZ,rZ,I,by rw[bZ,bZ,e9,cS];lia,?_]
     .have:=xc nd (fP.mp z);lia
     .refine#[iq g2 C,λv e=>?_,?_,_,_,rZ]
      .rw[List.take_succ,eu]at e
       rcases cM.mp e with y|y
       .exact ins v y
       .rw[cE.mp y];exact J
      .rw[cb,List.take_succ,eu,dX,dX];rfl
 .obtain⟨D,ins,Y,o3,o4,rfl⟩:=p;rw[bZ,M,fN]at ins Y;exact#[_,rZ,B,_,rZ,.inl #[O0 Y,λp hp=>q p _ (D.trans (cn hp _)) ins cb]]
theorem Hd:∀{c:TW} {b:As},b.length=c.length->(a2j c b).map (·.2)=b.map V.ref
 | [],[],_=>rfl
 |p::c,a::b,h=>by
  show V.ref a::(a2j c b).map (·.2)=V.ref a::b.map V.ref;rw[Hd (by simpa using h)]
def wk(a:LN):TW:=a.map λx=>(x,[])
def BG(a:LN):(wk a).map (·.1)=a:=by
 unfold wk;rw[eY];exact oi a
def Ma(a:LN)(u:bV):wk (a++[u])=wk a++[(u,[])]:=dX
def Gy{a:LN}{i:Nat}{u:bV}(e:a[i]?=some u):(wk a)[i]?=some (u,[]):=by
 unfold wk;rw[cr,e];rfl
inductive gI(f:List V)(H:Hp)(Q:VK)(d:XK):Prop|mk:∀(m g h i:Ad) (a:LN) (n:Nat) (b:LN) (L:Lv) (bs:As) (e:TW) (k:Zs),f=[.ref m,.ref g,.ref h,.ref i]->Mach H m a n->FamOf a n b->LvH H g L.c L.us L.wds->LvOk a b L->Tabs H->H h=some (.lst (bs.map .ref))->TupsAt H bs (e.map (·.1))->Told (dL a) a.length (List.range n) e->e.length<=400->H i=some (.lst (k.map V.int))->(∀l j c,Keeps H c->Tabs c->c l=some (.lst (j.map .ref))->TupsAt c j L.gs->Q (.ref l) c)->gI f H Q d
def IG(F:Fun K uW uW x5 f fd)(c:CalleeD P w K mg base sW 12 [sA,sE,sU] mY [nv 400])(jQ:cT P w K mg base uI 1 [sF,tW] fB)(jI:cT P w K mg base uD 1 [tI,sX] cN)(jA:mg "len"=none)(jD:mg "sorted"=none)(kA:mg "set"=none)(kG:mg "list"=none):FnOk P w K mg base cL 14 f fd [sH,sO,tK,uF] gI:=by
 refine F.ok jO (λaS A aD s H vs Q E hr h=>?_)
 obtain⟨m,lv,so,ce,ts,n,aT,L,bs,U,cs,rfl,M,ff,am,ok,hT,aE,Tb,TT,le,aF,q⟩:=h;have hu:=hr.units;have T:=ky hr;refine#[_,(cD (xL (CompSc.to (N:=[sH,sO,tK,uF,"_law_own","_law_turned",sF,tT,tI,sX,"_law_both"]) (osc:=cz x5) (vs:=[tV]) {}) rZ rZ jO.nd (j:=4) rZ rZ (fZ (Dl c hr.m rZ (c7 (ci (pv 0) (ci (pv 1) cZ rZ) rZ)))) (λ_ _ _ _=>gQ) (λ_ _ _ _=>(dE (IxR.k (K:=K) jh h9 rZ) (pv 3) (pv 0) (λ_ _=>rfl)))) (cD (dC (i:=5) jO.nd rZ Z' wr) (cD (iL gY rZ (fZ (pv 4)) (fV (i:=6) jO.nd rZ Z') (cD (q0 T (pv 5) (pv 6) (cX jQ hr.m rZ (c7 (ci (pv 6) (ci (dE fb (pv 1) cU (λ_ _=>rfl)) cZ rZ) rZ))) rZ) (cG (gM (fM Eh (nN T (pv 5) (pv 6) (λ_ _=>rfl)) qb (fj _)) (cG (dF qb)) gV)))) (cD (iL gY rZ (fZ (pv 3)) (fV (i:=7) jO.nd rZ Z') (cD (dC (i:=8) jO.nd rZ Z' (dE h9 (pv 4) (eR je (pv 7) (dY fF rZ jA fe (cu (pv 4) cj))) (λ_ _=>rfl))) (cD (dC (i:=9) jO.nd rZ Z' (dE h9 (pv 4) (eR je (eR va (pv 7) (dY fF rZ jA fe (cu (pv 4) cj))) (dY fF rZ jA fe (cu (pv 4) cj))) (λ_ _=>rfl))) (cD (dC (i:=10) jO.nd rZ Z' (cX jI hr.m rZ (c7 (ci (pv 8) (ci (pv 9) cZ rZ) rZ)))) (cG (gM (PW.pt (EL (vL (AS T (pv 10) (pv 5))) (F4 (fM (ra hu) (nN T (pv 5) (pv 10) (λ_ _=>rfl)) (cX jI hr.m rZ (c7 (ci (nN T (pv 5) (pv 8) (λ_ _=>rfl)) (ci (nN T (pv 5) (pv 9) (λ_ _=>rfl)) cZ rZ) rZ))) (fj _))))) (cG (dF qb)) gV)))))) (cG (dF (dY (JD rZ) rZ jD rW (cu (gk (IH rZ hu) rZ kA uZ (cu (gk (Ja rZ) rZ kG boot_list (cu (A4 Dw PySem.F.slot_dict_values PySem.F.type_dict_values Kv (pv 5)) cj)) cj)) cj)))))))),?_];have n1:=M.n1;have n5:=M.n5;obtain⟨cne,eF,aU,_⟩:=gZ ok.p.cls;have Y:L.c.headD []∈db n:=pO M ff ok.p;have O:=F5 M TT le Y;have G:=O.grp;have uU:=(ok.p.inU M ff).1;refine#[_,rZ,_,rZ,m,lv,ts,n,400,L.c,L.us,L.wds,U,rZ,M,TT,le,cm _,hT,am,cne,Y,λfo H7 k7 T7 af=>?_];have lt:∀k∈lE (U.map (·.1)) (L.c.headD []),k<(U.map (·.1)).length:=λk hk=>by
  obtain⟨x,e,_⟩:=d6.mp hk;exact(cg.mp e).1
 have few:(lE (U.map (·.1)) (L.c.headD [])).length<=400:=by
  have:=G.few;rw[bZ]at this;exact this
 have kw:∀t∈((lE (U.map (·.1)) (L.c.headD [])).map λk=>(U.map (·.1)).getD k []),(∀u∈L.us,dy t u∈L.us)/\∀v∈((lE (U.map (·.1)) (L.c.headD [])).map λk=>(U.map (·.1)).getD k []),fc L.us (beh t v)=beh (fc L.us t) (fc L.us v):=λt ht=>by
  obtain⟨p1,p2,_⟩:=O.prod.mp ((mT O).mp ht);obtain⟨_,_,_,im,_⟩:=tz M ff ok TT p1 p2.2;refine#[im,λv hv=>?_];obtain⟨q1,q2,_⟩:=O.prod.mp ((mT O).mp hv);exact JT M ff ok TT p1 q1 p2.1 p2.2 q2.2
 have ki:∀g,(∃x∈((lE (U.map (·.1)) (L.c.headD [])).map λk=>(U.map (·.1)).getD k []),fc L.us x=g)↔g∈L.gs:=λg=>(exists_congr λx=>and_congr_left λ_=>mT O).trans (IK M ff ok TT O g);have an:=k7 _ _ (nU aE);have ag:=lV Tb k7;have aG:=LvH.keeps am k7;have ao:=k7 _ _ (nU aF);have aH:=ag.len;generalize lE (U.map (·.1)) (L.c.headD [])=D at af G lt few kw ki;generalize aV:U.map (·.1)=us at G lt ag aH kw ki;refine#[fo,rZ,#[_,O0 af],KN (f:=λv=>match v with|.int i=>V.ref (bs.getD i.toNat 0)|v=>v) (by rw[bZ,cS];lia) (O0 af) (λv Q hv q=>?_) (λgl aI=>?_)]
 .obtain⟨k,hk,rfl⟩:=cq.mp hv;have aW:=lt k hk;refine#[_,rZ,_,rZ,so,_,_,_,rZ,rZ,O0 an,j6 (j:=k) (v:= .ref (bs.getD k 0)) ?_,q];rw[cr,b8 (),cP,b8 ()];rfl
 have aJ:(D.map nv).map (λv=>match v with|.int i=>V.ref (bs.getD i.toNat 0)|v=>v)=(D.map λk=>bs.getD k 0).map V.ref:=by
  rw[eY,eY];rfl
 rw[aJ];have k3:=cn aI (.lst ((D.map λk=>bs.getD k 0).map V.ref));have eg:bX H7 gl (.lst ((D.map λk=>bs.getD k 0).map V.ref)) gl=some (.lst ((D.map λk=>bs.getD k 0).map V.ref)):=cb;generalize bX H7 gl (.lst ((D.map λk=>bs.getD k 0).map V.ref))=H8 at eg k3|-;have Tg:TupsAt H8 (D.map λk=>bs.getD k 0) (D.map λk=>us.getD k []):=#[by simp,λi b' u' e1 e2=>by
  rw[cr]at e1 e2;obtain⟨k,ek,rfl⟩:=da.mp e1;rw[ek]at e2;cases e2;have hk:=lt k (cH ek);exact k3 _ _ (ag.is k (bs.getD k 0) (us.getD k []) (by rw[cP,b8 ()];rfl) (by rw[cP,b8 hk];rfl))]
 have aK:(D.map λk=>bs.getD k 0).length<=400:=by rw[bZ];exact few
 generalize(D.map λk=>bs.getD k 0)=gb at eg Tg aK;generalize aX:(D.map λk=>us.getD k [])=I at Tg G kw ki;have aL:=LvH.same aG k3;have ae:=k3 _ _ ao;have T8:=T7.same k3;have aM:=k7.trans k3.keeps;have lg:=Tg.len;obtain⟨s',t',v',bq,ds,aY,h1,h2,h3,h4,h5,h6,h7,h8⟩:=aL;refine λd hd=>?_;have gd:=cn hd (.dT []);refine#[_,rZ,gl,rZ,#[_,O0 (gd _ _ eg)],oN (xs:=gb.map .ref) (λi σ C=>Same H8 C/\∃(B:As) (o6:Option V),B.length=i/\C d=some (.dT (a2j (wk (I.take i)) B))/\TupsAt C B ((I.take i).map (fc L.us))/\σ=[some (.ref m),some (.ref lv),some (.ref so),some (.ref ce),some (.ref gl),some (.ref d),o6,none,none,none,none]) #[gd,[],none,rZ,cb,#[rZ,λi b u e=>by simp at e],rZ] (λi σ C _ p=>O0 (p.1 _ _ eg)) (λi v σ C hv p=>?_) (λσ H1 p=>?_)]
 .obtain⟨g,B,o6,la,ed,Ta,rfl⟩:=p;rw[cr]at hv;obtain⟨b,eb,rfl⟩:=da.mp hv;obtain⟨hi,_⟩:=cg.mp eb;obtain⟨u,eu⟩:∃u,I[i]?=some u:=#[_,b8 ()];have mu:=cH eu;have hb:=g _ _ (Tg.is i b u eb eu);have im:=(kw u mu).1;have aN:=bY.mpr (G.tn u mu);refine#[_,rZ,_,rZ,lv,_,_,_,rZ,rZ,O1 (g _ _ h1),rZ,b,t',u,ds,L.us,n,rZ,hb,g _ _ h4,h5.same g,aN,n5,uU,(ok.p.inU M ff).2,nQ M ff ok.p,λp H2 g2 _ ep=>?_,λH2 _ no=>wC im no];have tk:I.take (i+1)=I.take i++[u]:=by rw[g9,eu];rfl
  have ah:(I.take i++[u]).Nodup:=by rw[<-tk];exact G.nd.sublist (qj ..)
  have no:u∉(wk (I.take i)).map (·.1):=by
   rw[BG];exact λz=>(oQ.mp ah).2.2 u z u (cE.mpr rZ) rfl
  have lk:B.length=(wk (I.take i)).length:=by unfold wk;rw[List.length_map,List.length_take];lia
  have ga:=g.trans g2;have ap:=g2 _ _ ed;have aa:=g2 _ _ hb;refine#[_,rZ,_,rZ,d,_,rZ,DPut.t (k:=nk u) ap (by rw[gO];exact aa) (by rw[vS lk,<-lk,cS];lia),?_];rw[xQ _ (rT no),<-yb (p:=(u,([]:bV))) lk,<-Ma,tk];generalize I.take i++[u]=gt at ah tk|-;have g3:=iq (o:= .dT (a2j (wk gt) (B++[p]))) ga hd;have ai:bX H2 d (.dT (a2j (wk gt) (B++[p]))) d=some (.dT (a2j (wk gt) (B++[p]))):=cb;have off:∀{a:Ad} {D:List V},H2 a=some (.tup D)->bX H2 d (.dT (a2j (wk gt) (B++[p]))) a=some (.tup D):=λh=>by
   rw[cf (nE h ap)];exact h
  have T3:TupsAt (bX H2 d (.dT (a2j (wk gt) (B++[p])))) (B++[p]) (gt.map (fc L.us)):=by
   have e:gt.map (fc L.us)=(I.take i).map (fc L.us)++[fc L.us u]:=by rw[<-tk,g9,eu,dX];rfl
   rw[e];exact rf #[Ta.len,λj b u z1 z2=>off (g2 _ _ (Ta.is j b u z1 z2))] (off ep)
  have aq:=off aa;generalize bX H2 d (.dT (a2j (wk gt) (B++[p])))=H3 at g3 ai T3 aq|-;have dg:=DGet.t (k:=nk u) ai (b:=b) (by rw[gO];exact aq);rw[wp (p:=(u,([]:bV))) (j:=i) (a:=p) (by rw[BG];exact ah) (Gy (by rw[<-tk,zU,wB (iW _)];exact eu)) (by rw[dZ (),la,jg];rfl)]at dg;exact#[_,rZ,_,rZ,d,_,rZ,dg,rZ,_,rZ,fv #[g3,B++[p],_,by simp[la],ai,T3,rZ]]
 obtain⟨g1,B,o6,la,ed,Ta,rfl⟩:=p;rw[bZ,lg,fN]at ed Ta;rw[bZ]at la;have aR:0<I.length:=xr G.me;have J:0<(((gb.map V.ref).length:Nat):Int):=by
  rw[bZ];lia
 have aj:∀{C:Hp} {t:bV} {b:Ad},Same H1 C->t∈I->C b=some (.tup (t.map nv))->∃a,DGet C d (.ref b) (some (.ref a))/\C a=some (.tup ((fc L.us t).map nv)):=λ{C} {t} {b} g ht hb=>by
  obtain⟨j,ej⟩:=pz ht;obtain⟨a,ea⟩:∃a,B[j]?=some a:=#[_,b8 (by have:=(cg.mp ej).1;lia)];have dg:=DGet.t (k:=nk t) (g _ _ ed) (b:=b) (by rw[gO];exact hb);rw[wp (p:=(t,([]:bV))) (by rw[BG];exact G.nd) (Gy ej) ea]at dg;exact#[a,dg,g _ _ (Ta.is j a _ ea (by rw[cr,ej];rfl))]
 refine#[_,rZ,ce,rZ,#[_,O0 (g1 _ _ ae)],oN (xs:=cs.map V.int) (λi σ C=>Same H1 C/\∃o7 o8 o9 ak,σ=[some (.ref m),some (.ref lv),some (.ref so),some (.ref ce),some (.ref gl),some (.ref d),o6,o7,o8,o9,ak]) #[Same.refl _,_,_,_,_,rZ] (λi σ C _ p=>O0 (p.1 _ _ (g1 _ _ ae))) (λi v σ C hv p=>?_) (λσ H5 p=>?_)]
 .obtain⟨g,o7,o8,o9,ak,rfl⟩:=p;rw[cr]at hv;obtain⟨z,ez,rfl⟩:=da.mp hv;have gg:=g1.trans g;have hl:=gg _ _ eg;have pick:∀y:Int,∃(j:Nat) (b:Ad) (u:bV),y%(((gb.map V.ref).length:Nat):Int)=(j:Int)/\gb[j]?=some b/\I[j]?=some u:=λy=>by
   have h1:=AG y (b:=(((gb.map V.ref).length:Nat):Int)) ();have h2:=yP y J;rw[bZ]at h1 h2|-;have hj:(y%((gb.length:Nat):Int)).toNat<gb.length:=by lia
   exact#[(y%((gb.length:Nat):Int)).toNat,_,_,(),b8 hj,b8 ()]
  obtain⟨j1,b1,u1,y1,ar,au⟩:=pick z;obtain⟨j2,b2,u2,y2,av,aw⟩:=pick (z/ (((gb.map V.ref).length:Nat):Int));have m1:=cH au;have m2:=cH aw;have t1:=G.tn u1 m1;have t2:=G.tn u2 m2;refine#[_,rZ,_,rZ,_,rZ,gl,_,rZ,.inl (O0 hl),_,_,rZ,rZ,J,?_]
  try dsimp only
  rw[y1];refine#[gl,_,_,_,rZ,rZ,O0 hl,j6 (j:=j1) (v:= .ref b1) (by rw[cr,ar];rfl),?_];refine#[_,rZ,_,rZ,_,rZ,gl,_,rZ,.inl (O0 hl),_,_,rZ,rZ,#[J,by rw[bZ];lia],_,rZ,gl,_,rZ,.inl (O0 hl),_,_,rZ,rZ,J,?_]
  try dsimp only
  rw[y2];refine#[gl,_,_,_,rZ,rZ,O0 hl,j6 (j:=j2) (v:= .ref b2) (by rw[cr,av];rfl),?_];have ax:=gg _ _ (Tg.is j1 b1 u1 ar au);have aa:=gg _ _ (Tg.is j2 b2 u2 av aw);refine#[_,rZ,_,rZ,b1,b2,u1,u2,rZ,ax,aa,λx hx=>by rw[t2.1];exact t1.2 x hx,by rw[t1.1];lia,λr H6 g6 e6=>?_];have ab:=g.trans g6;obtain⟨a3,d3,i3⟩:=aj ab (G.beh u1 m1 u2 m2) e6;obtain⟨a1,d1,i1⟩:=aj ab m1 (g6 _ _ ax);obtain⟨a2,d2,i2⟩:=aj ab m2 (g6 _ _ aa);have mul:fc L.us (Cyc.beh u1 u2)=beh (fc L.us u1) (fc L.us u2):=(kw u1 m1).2 u2 m2;have ul:∀t:bV,(fc L.us t).length=L.us.length:=λt=>bZ _;have aZ:=(ok.p.inU M ff).2;refine#[_,rZ,_,rZ,d,_,rZ,d3,_,rZ,fv #[_,rZ,_,rZ,d,_,rZ,d3,_,rZ,_,rZ,d,_,rZ,d1,_,rZ,_,rZ,d,_,rZ,d2,a1,a2,_,_,rZ,i1,i2,λx hx=>?_,by rw[ul];lia,λr2 a0 g7 e7=>?_]]
  .obtain⟨u,hu,rfl⟩:=cq.mp hx;rw[ul];exact(rS ((kw u1 m1).1 u hu)).1
  .refine#[a3,r2,0,_,_,rZ,rZ,fQ (O1 (g7 _ _ i3)),fQ (O1 e7),by decide,λv hv=>#[_,rZ,?_]];rw[show v=true from(hv.trans cJ).mpr mul];exact fv #[ab.trans g7,_,_,_,_,rZ]
 obtain⟨g5,o7,o8,o9,ak,rfl⟩:=p;have al:=g5 _ _ ed;have a4:=Ta.same g5;have lk:B.length=(wk I).length:=by unfold wk;rw[List.length_map];lia
 refine#[_,rZ,.inr (.inr (.inl #[rZ,.inr #[_,al]])),rZ,d,_,rZ,al,λvw ay=>#[vw,d,_,rZ,cb,cn ay _ _ _ al,λl hl=>?_]];rw[Hd lk];have gv:=(g5.trans (cn ay _)).trans (cn hl (.lst (B.map V.ref)));have Tv:=Ta.same gv;refine#[l,B,_,rZ,O0 cb,Tv,(),λsa sb su az Ts nd mem=>?_];have aO:=gv.trans (cn az (zh w sa sb));have aA:∀g,g∈su↔g∈L.gs:=λg=>((mem g).trans cq).trans (ki g);have aP:su.length<=4000:=cW (lL nd λx hx=>(mem x).mp hx) (by rw[bZ];lia);refine#[sa,sb,su,rZ,cb,Ts.same (cn az _),nd,λu hu=>?_,aP,λD2 aB aQ aC Tc pm up=>?_]
 .obtain⟨x,_,rfl⟩:=cq.mp ((mem u).mp hu);exact Ky M ff ok x
 .have gz:=aO.trans (cn aC (.lst (aB.map V.ref)));have e:aQ=L.gs:=Az qa v6 up ok.g.up λx=>pm.mem_iff.trans (aA x);rw[e]at Tc;exact q D2 aB _ (aM.trans (g1.trans gz).keeps) (T8.same (g1.trans gz)) cb (Tc.same (cn aC _))
def SqL.keeps{K:O2}{H b:Hp}{a:Ad}{xs:List V}(h:SqL K H a xs)(g:Keeps H b):SqL K b a xs:=by
 rcases h with(h|⟨o,h⟩)|h
 .exact .inl (.inl (g _ _ (nU h)))
 .exact .inl (.inr #[o,g _ _ (nU h)])
 .exact .inr h
def NK(a:Zs)(lo c:Option Int):∃b:Zs,pb (a.map V.int) lo c=b.map V.int/\b.length<=a.length:=by
 unfold pb;refine#[_,by rw[<-List.map_drop,<-List.map_take],?_];rw[e9,tj];lia
def LF{a:List Lv}{i:Nat}{L:Lv}(e:a[i]?=some L):((pF a).filter λx=>x.1&&decide (x.2.1=i)).map (·.2.2)=if 1<L.gs.length then[L.gs.length]else[]:=by
 have f:∀(k:Nat) (L:Lv),((ql k L).filter λx=>x.1&&decide (x.2.1=i)).map (·.2.2)=if k=i then(if 1<L.gs.length then[L.gs.length]else[])else[]:=λk L=>by
  unfold ql;by_cases h:1<L.gs.length<;>by_cases g:k=i<;>simp[h,g]
 generalize l:(if 1<L.gs.length then[L.gs.length]else[])=z;have all:∀j,((mG a j).filter λx=>x.1&&decide (x.2.1=i)).map (·.2.2)=if i<j then z else[]:=λj=>by
  induction j with
  |zero=>rfl
  | succ j m=>
   show((mG a j++_).filter _).map _=_;rw[rn,dX,m];cases b:a[j]? with
   |none=>
    have: ¬j<a.length:=λz=>by rw[b8 z]at b;cases b
    have:=(cg.mp e).1;rw[wB (),wB ()];exact gL _
   | some n=>
    show _++((ql j n).filter _).map _=_;rw[f];by_cases c:j=i
    .subst c;rw[e]at b;cases b;rw[wA (kS _),wB rZ,wB (iW _),l];rfl
    .rw[wA c,gL];by_cases d:i<j
     .rw[wB d,wB ()]
     .rw[wA d,wA ()]
 unfold pF;rw[all,wB (cg.mp e).1]
inductive iR(K:O2)(c:List V)(H:Hp)(Q:VK)(b:XK):Prop|mk:∀(a:Ad) (d:Zs),c=[.ref a]->SqL K H a (d.map V.int)->d.length<=63->Tabs H->(∀e,Q (.bl true) e)->iR K c H Q b
def IU{T CL CR:Ad}(F:Fun K "law" "law" om f fd)(M2:OwnC K CL [sA,sI,sJ,sM,tL])(O':OwnC K CR [sB,uQ])(kL:cT P w K mg base uL 3 [sG] (fR K))(qP:cT P w K mg base "_law_all" 3 [sH,"_law_most"] mK)(t:CalleeD P w K mg base sV 10 [sA,sU] d7 [nv 400])(rK:x9 P w K mg base "Row" CR 20 [tG,sA] (fK CL CR))(qJ:yy P w K mg base CR "parts" 3 [tG] (iH CL CR))(kP:cT P w K mg base "levels" 18 [sA] (fE T (#[62,40,62,93]:Pos)))(qD:cT P w K mg base uW 14 [sH,sO,tK,uF] gI)(jN:cT P w K mg base sS 13 [sA,sE] gn)(qK:cT P w K mg base "_law_many" 1 [tE,sQ] jo)(jQ:cT P w K mg base uI 1 [sF,tW] fB)(jA:mg "len"=none)(jH:mg "enumerate"=none)(jC:mg "tuple"=none)(jD:mg "sorted"=none)(kA:mg "set"=none):FnOk P w K mg base cL 22 f fd [sG] (iR K):=by
 refine F.ok qF (λbD A a2 s H vs Q E U h=>?_)
 obtain⟨a,ns,rfl,hS,bE,hT,q⟩:=h;have hu:=U.units;have bF:=ky U;refine#[_,(cD (dC (i:=1) qF.nd rZ Z' (cX kL U.m rZ (cu (pv 0) cj))) (cD (gM (fM AA (dY fF rZ jA fe (cu (cX qP U.m rZ (c7 (ci (pv 1) (ci cU cZ rZ) rZ))) cj)) cU (fj _)) (cG (dF qg)) gV) (cD (FT (CompSc.to (N:=[sG,sH,tK,tE,sQ,sO,tR,"_law_due","_law_face",sF]) (osc:=cz om) (vs:=[sF,"_law_word"]) {}) rZ qF.nd (j:=2) rZ rZ (fZ (Dl t U.m rZ (cu (pv 1) cj))) (DK (CompSc.to (N:=[sG,sH,tK,tE,sQ,sO,tR,"_law_due","_law_face",sF]) (osc:=cz om) (vs:=[sF,"_law_word"]) {}) rZ rZ rZ) (λ_ _ _ _=>gQ) (λ_ _ _ _=>(pv 0))) (cD (dC (i:=3) qF.nd rZ Z' (E' (Ga rK U.m rZ (cu (pv 1) cj)) O'.cl qJ U.m)) (cD (iL gY rZ (DF rZ jH (cu (cX kP U.m rZ (cu (pv 1) cj)) cj)) (ui rZ (mF (fV (i:=4) qF.nd rZ Z') (mF (fV (i:=5) qF.nd rZ Z') u0))) (cD (dC (i:=6) qF.nd rZ Z' (cX qD U.m rZ (c7 (ci (pv 1) (ci (pv 5) (ci (pv 2) (ci (K7 Mi (pv 0) (Es cU) (Es cU)) cZ rZ) rZ) rZ) rZ)))) (cD (gM (PW.pt (EL (fM Eh (pv 6) qb (fj _)) (F4 (fM (ra hu) (pv 6) (cX jN U.m rZ (c7 (ci (pv 1) (ci (pv 5) cZ rZ) rZ))) (fj _))))) (cG (dF qg)) gV) (cD (dC (i:=7) qF.nd rZ Z' (iA (cu (dY fF rZ jA fe (cu (pv 6) cj)) cj))) (cD (yq (gM (fM tF (dY fF rZ jA fe (cu (pv 6) cj)) cU (fj _)) (cG (dC (i:=7) qF.nd rZ Z' (iA cj))) gV)) (cD (gM (fM (ra hu) (cX qK U.m rZ (c7 (ci (pv 3) (ci (pv 4) cZ rZ) rZ))) (pv 7) (fj _)) (cG (dF qg)) gV) (cD (dC (i:=8) qF.nd rZ Z' (dE h9 (dE fb (pv 5) cU (λ_ _=>rfl)) cU (λ_ _=>rfl))) (cG (iL gY rZ (fZ (pv 2)) (fV (i:=9) qF.nd rZ Z0) (cG (gM (fM (z8 hu) (gk n9 rZ jC mW (cu (dY (Df rZ) rZ jD rW (cu (gk (AR rZ) rZ kA uZ (cu (gX (CompSc.to (N:=[sG,sH,tK,tE,sQ,sO,tR,"_law_due","_law_face",sF]) (osc:=cz om) (vs:=["_law_room"]) {}) rZ rZ (uu (pv 8)) (λ_ _ _ _=>gQ) (λ_ _ _ _=>(dE (IxR.k (K:=K) gR fb rZ) (pv 10) (pv 0) (λ_ _=>rfl)))) cj)) cj)) cj)) (pv 8) (fj _)) (cG (gM (fM (D5 hu) (cX jQ U.m rZ (c7 (ci (pv 9) (ci (dE fb (pv 5) cU (λ_ _=>rfl)) cZ rZ) rZ))) (pv 6) (by with_unfolding_all rfl)) (cG (dF qg)) gV)) gV))))))))))) (cG (dF qg))))))),?_];refine#[_,rZ,a,ns,rZ,hS,λm H1 g1 M=>?_];generalize bG:Ae ns=ts at M;generalize hn:(1+ns.getD 0 0%5).toNat=n at M;have a3:=hT.same g1;have a4:=g1.seq hS;have n5:=M.n5;have n1:=M.n1;refine#[_,rZ,m,ts,n,400,rZ,M,cm _,λl0 a5 ws H2 g2 a6 kn run told=>?_];obtain⟨a7,aA,_⟩:=id a6;refine#[l0,_,rZ,.inl (O0 a7),_,_,rZ,rZ,_,rZ,lJ (λc2=>q _) (λc2=>?_)];have aB:ws.length<=400:=by
  have: ¬(400:Int)<((a5.map V.ref).length:Int):=λz=>c2 (c9 z);rw[bZ,aA]at this;lia
 have a8:=told aB;have le:=aB;have TT:=a8;refine#[_,rZ,m,ts,n,400,ws,rZ,M.same g2,TT,le,a3.same g2,λl ps H3 k3 T3 Pi=>?_];obtain⟨hl,aC,aD⟩:=id Pi;refine#[l,rZ,#[_,O0 hl],iX (xs:=ps.map .ref) (λi ys y=>y=H3/\∃bs:As,ys=bs.map V.ref/\TupsAt H3 bs ((ws.map (·.1)).take i)) (by rw[bZ,aC,cS];lia) #[rZ,[],rZ,rZ,λj b u e=>by simp at e] (λi ys y hi p=>?_) (λi v ys y D p=>?_) (λys y p so a9=>?_)]
 .obtain⟨rfl,bs,rfl,Tb⟩:=p;refine#[O0 hl,?_];rw[bZ,Tb.len,e9];exact A5 ..
 .obtain⟨rfl,bs,rfl,Tb⟩:=p;rw[cr]at D;obtain⟨a1,ea,rfl⟩:=da.mp D;obtain⟨hi,_⟩:=cg.mp ea;obtain⟨r,er⟩:∃r,ws[i]?=some r:=#[_,b8 ()];obtain⟨b,c',_,f1,f2,f3⟩:=aD i a1 r ea er;exact#[a1,_,rZ,O1 f1,rZ,_,_,rZ,_,_,rZ,rZ,Dj,i8 #[_,rZ,rZ,bs++[b],by simp,Gz Tb (by rw[List.getElem?_map,er];rfl) f2]]
 obtain⟨rfl,bs,rfl,Tb⟩:=p;rw[bZ,aC,<-bZ (f:=(·.1)) (as:=ws),fN]at Tb;have ks:=cn a9 (.lst (bs.map V.ref));have aE:bX y so (.lst (bs.map V.ref)) so=some (.lst (bs.map V.ref)):=cb;have Tu:TupsAt (bX y so (.lst (bs.map V.ref))) bs (ws.map (·.1)):=Tb.same ks;have k4:=k3.trans ks.keeps;have T4:=T3.same ks;generalize bX y so (.lst (bs.map V.ref))=H4 at aE Tu k4 T4|-;have M4:=(M.same g2).keeps k4;have ba:=SqL.keeps (g2.seq a4) k4;refine#[_,rZ,λx dx nx bb bH=>?_];have gx:Same H4 (bX (bX H4 dx (.own x)) x (.ins CR dx [])):=λb o hb=>by
  rw[cf (di hb nx),cf (di hb bb)];exact hb
 refine#[H4,x,dx,m,ts,n,rZ,gx,nx,cb,M4,T4,λaF Ls H5 k5 T5 R RA=>#[rZ,?_]];obtain⟨bc,r,st,qs,r1,r2⟩:=id RA;refine#[x,bc,_,rZ,r1,(by kernel_rfl),x,m,ts,n,Ls,rZ,RA,R.few,λpl bd H6 g6 bI be PS=>?_];have k6:=k5.trans g6.keeps;have T6:=T5.same g6;refine#[_,rZ,m,ts,n,rZ,M4.keeps k6,T6,λll as bf bC ys H7 k7 T7 bJ aG ff od sub bK LL nw ap bL=>?_];have ef:=R.ff.uniq ff;subst ef;have et:=R.od.uniq od;subst et;have la:=LL.len;have ai:=k6.trans k7;have M7:=M4.keeps ai;have bg:=SqL.keeps ba ai;have an:=ai _ _ (nz aE);have aH:=lV Tu ai;have aI:=k7 _ _ (nz be);have bh:=PS.st (tq k7)
 let Pv:Nat->L2.St->Hp->Prop:=λ_ σ y=>Keeps H7 y/\Tabs y/\∃o4 o5 o6 o7 o8 o9,σ=[some (.ref a),some (.ref m),some (.ref so),some (.ref pl),o4,o5,o6,o7,o8,o9]
 refine#[ll,_,rZ,O0 aG,Ck (xs:=as.map .ref) Pv #[Keeps.refl _,T7,_,_,_,_,_,_,rZ] (λi σ y _ p=>O0 (p.1 _ _ (nz aG))) (λi Tp v σ H8 D nT p=>?_) (λσ H8 p=>q _)];obtain⟨k8,T8,o4,o5,o6,o7,o8,o9,rfl⟩:=p;rw[cr]at D;obtain⟨Y,aJ,rfl⟩:=da.mp D;have li:=(cg.mp aJ).1;rw[la,bZ]at li;obtain⟨L,eL⟩:∃L,Ls[i]?=some L:=#[_,b8 li];have ec:(Ls.map (·.c))[i]?=some L.c:=by rw[cr,eL];rfl
 have k:=R.ok L (cH eL);obtain⟨bM,aj,lp,wd⟩:=(LL.is i Y _ aJ ec).lvw (sub _ (cH ec));rw[<-k.p.tl,wd.uniq k.w]at aj;have gT:=cn nT (.tup [nv i,.ref Y]);refine#[Tp,_,rZ,O1 cb,rZ,_,_,rZ,_,_,rZ,rZ,?_];have k9:=k8.trans gT.keeps;have T9:=T8.same gT;show mE _ _ _ [some (.ref a),some (.ref m),some (.ref so),some (.ref pl),some (nv i),some (.ref Y),o6,o7,o8,o9] (bX H8 Tp (.tup [nv i,.ref Y]));generalize bX H8 Tp (.tup [nv i,.ref Y])=H9 at k9 T9|-;clear gT k8 T8 nT;obtain⟨cs,bi,_⟩:=NK ns (some 6) (some 36);refine#[_,rZ,_,rZ,_,rZ,_,rZ,_,rZ,_,rZ,a,_,rZ,SqL.keeps bg k9,λsl bj=>?_];have aq:=cn bj (.lst (pb (ns.map V.int) (some 6) (some 36)));have aK:bX H9 sl (.lst (pb (ns.map V.int) (some 6) (some 36))) sl=some (.lst (pb (ns.map V.int) (some 6) (some 36))):=cb;rw[bi]at aq aK|-;have I:=k9.trans aq.keeps;refine#[m,Y,so,sl,ts,n,aF,L,bs,ws,cs,rZ,M7.keeps I,R.ff,LvH.keeps aj I,k,T9.same aq,I _ _ (nz an),lV aH I,TT,le,aK,λfl aa bN aL aM aN ar=>?_];have ab:=I.trans aL;refine#[_,rZ,rZ,_,rZ,fv #[_,rZ,_,rZ,_,rZ,m,Y,ts,n,aF,L.c,L.us,L.wds,rZ,M7.keeps ab,R.ff,LvH.keeps aj ab,k.p,aM,λl' bO bk mk bP au ak bl bQ aO TG pm up Mk bm=>?_]];have eg:bk=L.gs:=(HU M R.ff k.p pm up Mk bm).uniq k.g;subst eg;have C:=ak _ _ (nz aN);have ae:=lV ar ak;refine#[fl,l',1,_,_,rZ,rZ,GN C ae,GN aO TG,by decide,λv D=>#[_,rZ,?_]];rw[show v=true from D.mpr rZ];have B:=ab.trans ak;have aP:=LvH.keeps aj B;have av:=B _ _ (nz an);have aQ:=lV aH B;have aw:=B _ _ (nz aI);have aR:=bh.st (tq B);have al:(aa.map V.ref).length=L.gs.length:=by rw[bZ,ar.len]
 have bR:0<L.gs.length:=xr ((k.g.mem _).mpr .base);clear k9 T9 I aL aM ak TG aO aN ar;refine fv #[_,rZ,fl,_,rZ,.inl (O0 C),by show 1<=sizeLine;decide,λdu bn=>?_];have am:=cn bn (.lst [V.int ((aa.map V.ref).length:Int)]);have aS:bX au du (.lst [V.int ((aa.map V.ref).length:Int)]) du=some (.lst [nv L.gs.length]):=by rw[cb,al]
 generalize bX au du (.lst [V.int ((aa.map V.ref).length:Int)])=bS at am aS|-;refine#[λaT y=>Same au y/\∃af,y af=some (.lst ((if 1<L.gs.length then[L.gs.length]else[]).map nv))/\aT=[some (.ref a),some (.ref m),some (.ref so),some (.ref pl),some (nv i),some (.ref Y),some (.ref fl),some (.ref af),o8,o9],#[_,rZ,fl,_,rZ,.inl (O0 (am _ _ C)),rZ,_,rZ,lJ (λc=>?_) (λc=>?_)],λaT y z=>?_]
 .have c:=fG c;injection c with c
  rw[al]at c;refine#[by show 0<=sizeLine;decide,λd2 bo=>#[am.trans (cn bo _),d2,?_,rZ]];rw[cb,wA ()];rfl
 .have c: ¬L.gs.length=1:=λz=>c (c9 (by rw[al,z];rfl));refine#[am,du,?_,rZ];rw[aS,wB ()];rfl
 obtain⟨ax,af,aU,rfl⟩:=z;refine#[_,rZ,_,rZ,pl,bd,Ls,i,rZ,ax _ _ aw,aR.st (tq ax.keeps),R.few,λmp bp aV aW=>?_];rw[LF eL]at aW;refine#[_,rZ,mp,af,0,_,_,rZ,rZ,FS (O0 aW),FS (O0 (aV _ _ aU)),by decide,λv D=>#[_,rZ,?_]];rw[show v=true from D.mpr rZ];have d:=ax.trans aV;have aX:=LvH.same aP d;have ag:=d _ _ av;have ao:=aQ.same d;have ay:=d _ _ C;have az:=ae.same d;have aY:=B.trans d.keeps;have br:=bl.same d;obtain⟨s',t',v',bq,ds,bT,h1,h2,h3,h4,h5,h6,h7,h8⟩:=aX;obtain⟨fa,bt,aZ,_⟩:=yD h3 (gZ k.p.cls).1;have ah:L.c.headD []∈db n:=pO M R.ff k.p;obtain⟨x1,x2⟩:=b7.mp ah;have l5:(L.c.headD []).length<=5:=by rw[<-x1];exact Bc _
 have O:=F5 M TT le ah;have bU:=ao.len;refine fv #[_,rZ,Y,_,_,_,rZ,rZ,O1 h1,rZ,s',_,_,_,rZ,rZ,O0 h2,bt,?_];refine#[_,rZ,so,rZ,#[_,O0 ag],oN (xs:=bs.map .ref) (λj σ y=>Same bp y/\∃o9,σ=[some (.ref a),some (.ref m),some (.ref so),some (.ref pl),some (nv i),some (.ref Y),some (.ref fl),some (.ref af),some (.ref fa),o9]) #[Same.refl _,_,rZ] (λj σ y _ p=>O0 (p.1 _ _ ag)) (λj v σ y D p=>?_) (λσ y p=>?_)]
 .obtain⟨g,o9,rfl⟩:=p;rw[cr]at D;obtain⟨b,eb,rfl⟩:=da.mp D;have hj:=(cg.mp eb).1;obtain⟨u,eu⟩:∃u,(ws.map (·.1))[j]?=some u:=#[_,b8 ()];have mu:=cH eu;have uU:=O.uU u mu;obtain⟨u1,u2⟩:=bY.mp uU;have hb:=g _ _ (ao.is j b u eb eu);have a0:=g _ _ aZ;refine#[_,rZ,fa,rZ,#[_,O1 a0],vj (f:=λv=>match v with|.int i=>nv (u.getD i.toNat 0)|v=>v) (by rw[bZ];exact small ()) (O1 a0) (λv Q D q=>?_) (λl1 bu=>?_)]
  .obtain⟨r,h1,rfl⟩:=cq.mp D;exact#[_,rZ,_,rZ,b,_,_,_,rZ,rZ,O1 hb,rR (by rw[u1];exact x2 r h1),q]
  have e2:((L.c.headD []).map nv).map (λv=>match v with|.int i=>nv (u.getD i.toNat 0)|v=>v)=((L.c.headD []).map λr=>u.getD r 0).map nv:=by
   rw[eY,eY];rfl
  try dsimp only
  rw[e2];have k1:=cn bu (.lst (((L.c.headD []).map λr=>u.getD r 0).map nv));refine#[l1,_,rZ,O0 cb,λx hx=>?_,λa' bv=>#[a',_,rZ,cb,λo ho=>?_]]
  .obtain⟨r,h1,rfl⟩:=cq.mp hx;have:=dt u2 (show r<u.length by rw[u1];exact x2 r h1);lia
  try dsimp only
  rw[xi];refine#[o,_,rZ,.inl #[O0 cb,λth bw=>?_]];have k2:=k1.trans ((cn bv (oE w a' (lB 0 ((L.c.headD []).map λr=>u.getD r 0)))).trans ((cn ho (.lst ((dM ((L.c.headD []).map λr=>u.getD r 0)).map nv))).trans (cn bw (.tup ((dM ((L.c.headD []).map λr=>u.getD r 0)).map nv)))));have bx:bX (bX (bX (bX y l1 (.lst (((L.c.headD []).map λr=>u.getD r 0).map nv))) a' (oE w a' (lB 0 ((L.c.headD []).map λr=>u.getD r 0)))) o (.lst ((dM ((L.c.headD []).map λr=>u.getD r 0)).map nv))) th (.tup ((dM ((L.c.headD []).map λr=>u.getD r 0)).map nv)) th=some (.tup ((dy u (L.c.headD [])).map nv)):=cb;have J:=g.trans k2;refine#[_,rZ,th,fa,0,_,_,rZ,rZ,fQ (O1 bx),fQ (O1 (J _ _ aZ)),by decide,λv D=>#[_,rZ,?_]];have D:=D.trans cJ;cases v with
  |false=>exact fv #[J,_,rZ]
  |true=>
   obtain⟨w1,kp,_,im,ei⟩:=tz M R.ff k TT mu (D.mp rZ);refine gA #[_,rZ,_,rZ,Y,_,_,_,rZ,rZ,O1 (J _ _ h1),rZ,b,t',u,ds,L.us,n,rZ,k2 _ _ hb,J _ _ h4,h5.same J,uU,n5,(k.p.inU M R.ff).1,(k.p.inU M R.ff).2,nQ M R.ff k.p,λtp bz bA _ bB=>?_,λbz _ no=>wC im no];have G:=J.trans bA;refine#[_,rZ,fl,1,Dt.tup (fS (fc L.us u)),L.gs.map (λu=>Dt.tup (fS u)),aa.map V.ref,rZ,O0 (G _ _ ay),by rw[al,bZ],fQ (O1 bB),u7 (az.same G),by decide,λc hc=>#[_,rZ,?_]];rw[show c=true from hc.mpr (iD.mpr ((k.words M R.ff _).mpr #[w1,kp,ei]))];exact fv #[G,_,rZ]
 obtain⟨g,o9,rfl⟩:=p;exact#[aY.trans g.keeps,br.same g,_,_,_,_,_,_,rZ]
theorem og{b:Type}{P:List b->Prop}(h:∀a,P [a]):∀c:List b,c.length=1->P c
 | [a],_=>h a
theorem tc{c:Type}{P:List c->Prop}(h:∀a b,P [a,b]):∀d:List c,d.length=2->P d
 | [a,b],_=>h a b
theorem vR{d:Type}{P:List d->Prop}(h:∀a b c,P [a,b,c]):∀e:List d,e.length=3->P e
 | [a,b,c],_=>h a b c
theorem ze{d:Type}{P:List d->Prop}(h:∀a b c a3,P [a,b,c,a3]):∀e:List d,e.length=4->P e
 | [a,b,c,a3],_=>h a b c a3
theorem AW{e:Type}{P:List e->Prop}(h:∀a b c a3 d,P [a,b,c,a3,d]):∀f:List e,f.length=5->P f
 | [a,b,c,a3,d],_=>h a b c a3 d
abbrev Rw(K:O2)(x:Str)(st:Stmt)(f:Ad)(fd:Fd):Prop:=PySem.W.nsIn K mainGlobals x=some (some (.ref f))/\Fun K x x st f fd
abbrev Rx(K:O2)(x:Str)(st:Stmt):Prop:=∃f fd,Rw K x st f fd
def eF{K:O2}{mg:SV}{x:Str}{k:Nat}{b:Ss}{g:Sp}{st:Stmt}{h:Heap}(P:Pg)(w:World)(base:Heap)(X:K.In h)(G:h.Ns mainGlobals mg)(r:Rx K x st)(o:∀{f fd},Fun K x x st f fd->FnOk P w K mg base cL k f fd b g)(i:∀(kV c j:Vl) (l:Option Ad) (d m:Vl) (e:Vs),e.length=b.length->bindArgs (PySem.W.fnOf x x (iv st) (gh st) (cz st) .none kV c j l d m) #[e,[]]=pure (b.zip e):=by first|exact λ_ _ _ _ _ _=>og λ_=>rfl|exact λ_ _ _ _ _ _=>tc λ_ _=>rfl|exact λ_ _ _ _ _ _=>vR λ_ _ _=>rfl|exact λ_ _ _ _ _ _=>ze λ_ _ _ _=>rfl|exact λ_ _ _ _ _ _=>AW λ_ _ _ _ _=>rfl):cT P w K mg base x k b g:=let⟨f,fd,a,F⟩:=r;#[f,fd,o F,PySem.W.mg_of X G a,F.kp,F.binds i]
abbrev tm(K:O2)(C:Ad)(m q:Str)(st:Stmt):Prop:=∃f fd,Du K C m q st f fd
def G7{K:O2}{C:Ad}{x y:Str}{k:Nat}{c:Ss}{h:Sp}{st:Stmt}(P:Pg)(w:World)(mg:SV)(base:Heap)(r:tm K C x y st)(o:∀{f fd},Fun K x y st f fd->FnOk P w K mg base cL k f fd c h)(i:∀(kV d j:Vl) (l:Option Ad) (e m:Vl) (g:Vs),g.length=c.length->bindArgs (PySem.W.fnOf x y (iv st) (gh st) (cz st) .none kV d j l e m) #[g,[]]=pure (c.zip g):=by first|exact λ_ _ _ _ _ _=>og λ_=>rfl|exact λ_ _ _ _ _ _=>tc λ_ _=>rfl|exact λ_ _ _ _ _ _=>vR λ_ _ _=>rfl|exact λ_ _ _ _ _ _=>ze λ_ _ _ _=>rfl|exact λ_ _ _ _ _ _=>AW λ_ _ _ _ _=>rfl):yy P w K mg base C x k c h:=let⟨f,fd,a,b,F⟩:=r;#[f,fd,o F,#[a,b,F.kp],F.binds i]
def Hy{K:O2}{mg:SV}{C:Ad}{x z:Str}{k:Nat}{c:Ss}{i:Sp}{st:Stmt}{h:Heap}(P:Pg)(w:World)(base:Heap)(X:K.In h)(G:h.Ns mainGlobals mg)(n:PySem.W.nsIn K mainGlobals z=some (some (.ref C)))(m:PySem.W.makesIn K C=true)(j:PySem.W.keepIn K (.ref C)=true)(r:tm K C uB x st)(o:∀{f fd},Fun K uB x st f fd->FnOk P w K mg base cL k f fd c i)(l:∀(kV d p:Vl) (q:Option Ad) (e s:Vl) (g:Vs),g.length=c.length->bindArgs (PySem.W.fnOf uB x (iv st) (gh st) (cz st) .none kV d p q e s) #[g,[]]=pure (c.zip g):=by first|exact λ_ _ _ _ _ _=>og λ_=>rfl|exact λ_ _ _ _ _ _=>tc λ_ _=>rfl|exact λ_ _ _ _ _ _=>vR λ_ _ _=>rfl|exact λ_ _ _ _ _ _=>ze λ_ _ _ _=>rfl|exact λ_ _ _ _ _ _=>AW λ_ _ _ _ _=>rfl):x9 P w K mg base z C k c i:=let⟨f,fd,a,b,F⟩:=r;#[f,fd,o F,#[m,a,b,j],PySem.W.mg_of X G n,F.binds l]
set_option maxHeartbeats 0 in
def e0j{l:W.OpenLaw}{w:World}{K:O2}{h:Heap}{mg:SV}{fa f3 f6 A B C aR D E p t k m:Ad}{aS:Fd}(X:K.In h)(G:h.Ns mainGlobals mg)(aT:mg "law"=some (.ref fa)){aU as aV au av L aw M ax N:Option Ad} {aW aX ay az aA:Array (Option Vl)} {aY aB aC aD H aE aZ aF aG aH aI aJ O Q T U aK Y aa ab q ae aL af ag ah ai:Vl} {aM:Obj} {a0:Nat} {aN:Obj} {a1:Nat} {aO:Tok} {aj:Obj} {aP:Nat} {ak:Tok}(r2:Rx K uN CC)(a3:W.nsIn K mainGlobals sY=some (some (.ref f3))) (l3:K.lookup f3=some #[aY,aU,.func (W.fnOf sY sY (iv pe) (gh pe) (cz pe) (.ref D) aB aC aD as H aE),aW]) (c3:W.codeIn K H sY=true) (k3:W.keepIn K (.ref f3)=true)(lD3:K.lookup D=some aM) (qD3:aM.data=.seq ([.none]:Vs).toArray a0)(r4:Rx K uP DG)(r5:Rx K tS zR)(a6:W.nsIn K mainGlobals sV=some (some (.ref f6))) (l6:K.lookup f6=some #[aZ,aV,.func (W.fnOf sV sV (iv nc) (gh nc) (cz nc) (.ref E) aF aG aH au (.ref t) aI),aX]) (c6:W.codeIn K (.ref t) sV=true) (k6:W.keepIn K (.ref f6)=true)(lD6:K.lookup E=some aN) (qD6:aN.data=.seq ([.int 400 aO]:Vs).toArray a1)(hd6:W.codeHdIn K t 83=true)(r7:Rx K uH BW)(r8:Rx K "led" rq)(r9:Rx K "place_of" DH)(a2:Rx K "in_order" DB)(a4:Rx K "lies_in" yY)(a5:Rx K tX yd)(a13:W.nsIn K mainGlobals sN=some (some (.ref A))) (l13:K.lookup A=some #[aJ,av,.func (W.fnOf sN sN (iv nB) (gh nB) (cz nB) .none O Q T L (.ref k) U),ay]) (c13:W.codeIn K (.ref k) sN=true) (k13:W.keepIn K (.ref A)=true)(hd13:W.codeHdIn K k 128=true)(a7:Rx K "keeps" Db)(a8:Rx K uT AL)(a9:Rx K uV zC)(a17:W.nsIn K mainGlobals sW=some (some (.ref B))) (l17:K.lookup B=some #[aK,aw,.func (W.fnOf sW sW (iv lO) (gh lO) (cz lO) (.ref p) Y aa ab M q ae),az]) (c17:W.codeIn K q sW=true) (k17:W.keepIn K (.ref B)=true)(lD17:K.lookup p=some aj) (qD17:aj.data=.seq ([.int 400 ak]:Vs).toArray aP)(ba:Rx K "pictures" Ca)(bb:Rx K "family" uo)(bc:Rx K uR yC)(bd:Rx K sJ vG)(be:Rx K uG Bp)(bf:Rx K uS yL)(bg:Rx K uE CY)(bh:Rx K "is_led_to" zX)(bi:Rx K uC vY)(bj:Rx K "levels" yG)(bk:Rx K "tile" CS)(bl:Rx K tZ Al)(bm:Rx K uA zm)(bn:Rx K tY Dm)(a32:W.nsIn K mainGlobals sS=some (some (.ref C))) (l32:K.lookup C=some #[aL,ax,.func (W.fnOf sS sS (iv nR) (gh nR) (cz nR) .none af ag ah N (.ref m) ai),aA]) (c32:W.codeIn K (.ref m) sS=true) (k32:W.keepIn K (.ref C)=true)(hd32:W.codeHdIn K m 240=true)(bo:Rx K uK Bv)(bp:Rx K "_law_turn" yS)(bq:Rx K uL zO)(br:Rx K uD y7)(bs:Rx K "_law_all" Bg)(bt:Rx K uI zw)(bu:Rx K "_law_many" zN)(bv:Rx K uW x5)(aQ:Rw K "law" om aR aS){jR:Ad} (n_LevelParts:W.nsIn K mainGlobals "LevelParts"=some (some (.ref jR))) (M2:OwnC K jR [sA,sI,sJ,sM,tL]) (mk_LevelParts:W.makesIn K jR=true) (kp_LevelParts:W.keepIn K (.ref jR)=true){qX:Ad} (n_Row:W.nsIn K mainGlobals "Row"=some (some (.ref qX))) (O':OwnC K qX [sB,uQ]) (mk_Row:W.makesIn K qX=true) (kp_Row:W.keepIn K (.ref qX)=true)(qE:tm K jR uB "LevelParts.__init__" Af)(kQ:tm K jR "is_turning" "LevelParts.is_turning" A2)(qU:tm K qX uB "Row.__init__" AJ)(rC:tm K qX "parts" "Row.parts" DC)(al:W.nsIn K mainGlobals "len"=some none) (u:W.nsIn K mainGlobals "range"=some none) (x:W.nsIn K mainGlobals "tuple"=some none) (I:W.nsIn K mainGlobals "list"=some none) (r:W.nsIn K mainGlobals "sorted"=some none) (am:W.nsIn K mainGlobals "set"=some none) (ao:W.nsIn K mainGlobals "all"=some none) (ap:W.nsIn K mainGlobals "any"=some none) (i:W.nsIn K mainGlobals "enumerate"=some none) (aq:W.nsIn K mainGlobals "min"=some none):
  ∃fd:Fd,(∀(s:Sh) (v:Vl),BindsTo s fd #[[v],[]] [(sG,v)])/\∀base:Heap,K.In base->base.Ns mainGlobals mg->nG mg base->FnOk l.prog w K mg base cL 22 fa fd [sG] (iR K):=by
 have e:=aT.symm.trans (oA X G aQ.1);cases e;have F3:DefAt K sY pe f3 (W.fnOf sY sY (iv pe) (gh pe) (cz pe) (.ref D) aB aC aD as H aE) (.ref D) H:=#[c3,#[_,_,_,_,_,rZ],_,_,_,l3];have F6:DefAt K sV nc f6 (W.fnOf sV sV (iv nc) (gh nc) (cz nc) (.ref E) aF aG aH au (.ref t) aI) (.ref E) (.ref t):=#[c6,#[_,_,_,_,_,rZ],_,_,_,l6];have bw:DefAt K sN nB A (W.fnOf sN sN (iv nB) (gh nB) (cz nB) .none O Q T L (.ref k) U) .none (.ref k):=#[c13,#[_,_,_,_,_,rZ],_,_,_,l13];have bx:DefAt K sW lO B (W.fnOf sW sW (iv lO) (gh lO) (cz lO) (.ref p) Y aa ab M q ae) (.ref p) q:=#[c17,#[_,_,_,_,_,rZ],_,_,_,l17];have bz:DefAt K sS nR C (W.fnOf sS sS (iv nR) (gh nR) (cz nR) .none af ag ah N (.ref m) ai) .none (.ref m):=#[c32,#[_,_,_,_,_,rZ],_,_,_,l32];have j:=ny X G al;have J:=ny X G u;have z:=ny X G x;have kG:=ny X G I;have jD:=ny X G r;have kA:=ny X G am;have rH:=ny X G ao;have qW:=ny X G ap;have jH:=ny X G i;have rJ:=ny X G aq;have rL:=aQ.2;obtain⟨_,_,kV,dc,pm,an,cv,ct,_,rfl,_,_⟩:=id rL.ex;refine#[W.fnOf "law" "law" (iv om) (gh om) (cz om) .none kV dc pm an cv ct,λs v=> .of_eq rZ,λbase KB _ ar=>?_];have rA:=W.codeHd_of_K KB hd6;have qS:=W.codeHd_of_K KB hd13;have qV:=W.codeHd_of_K KB hd32;have jP:=eF l.prog w base X G bo λF=>Nj F j;have qG:=eF l.prog w base X G bp λF=>LX F J z kG;have kL:=eF l.prog w base X G bq λF=>MO F jP qG J z;have rG:=eF l.prog w base X G r8 λF=>NX F;have qM:=eF l.prog w base X G r9 λF=>Iu F j;have qO:=eF l.prog w base X G a2 λF=>NN F qM jD;have jF:=eF l.prog w base X G a5 λF=>JE F rG z jD kA;have kF:=eF l.prog w base X G r2 λF=>Of F j;have d:=LB (P:=l.prog) (w:=w) (base:=base) F3 kF J;have kC:CalleeD l.prog w K mg base sY _ _ _ []:=#[_,_,[],d,oA X G a3,k3,(λs n KX o=>by have y:n.length=4:=(by simpa using o);clear o;revert n;exact ze (λ_ _ _ _=>BindsTo.of_defaults rZ (KX _ _ lD3) qD3 rZ rZ)),.nil];have c:CalleeD l.prog w K mg base sY _ _ _ [.non]:=#[_,_,[.none],d,oA X G a3,k3,(λs n KX o=>by have y:n.length=3:=(by simpa using o);clear o;revert n;exact vR (λ_ _ _=>BindsTo.of_defaults rZ (KX _ _ lD3) qD3 rZ rZ)),.cons rZ .nil];have jK:cT l.prog w K mg base sN _ _ _:=#[_,_,Kw (P:=l.prog) (w:=w) (base:=base) bw qS ar C0 jF (c.imp<|GD) j,oA X G a13,k13,.all (tc (λ_ _=>rfl))];have jT:=eF l.prog w base X G r4 λF=>Nd F z J;have jE:=eF l.prog w base X G r5 λF=>MI F z;have a:=M3 (P:=l.prog) (w:=w) (base:=base) F6 rA ar Bo jT jE kC j kG;have qI:CalleeD l.prog w K mg base sV _ _ _ []:=#[_,_,[],a,oA X G a6,k6,(λs n KX o=>by have y:n.length=2:=(by simpa using o);clear o;revert n;exact tc (λ_ _=>BindsTo.of_defaults rZ (KX _ _ lD6) qD6 rZ rZ)),.nil];have f:CalleeD l.prog w K mg base sV _ _ _ [.int 400]:=#[_,_,[.int 400 aO],a,oA X G a6,k6,(λs n KX o=>by have y:n.length=1:=(by simpa using o);clear o;revert n;exact og (λ_=>BindsTo.of_defaults rZ (KX _ _ lD6) qD6 rZ rZ)),.cons #[_,rZ] .nil];have qN:=eF l.prog w base X G ba λF=>Nn F jT jK j kG;have kO:=eF l.prog w base X G bb λF=>Je F qN qO j J;have kJ:=eF l.prog w base X G a4 λF=>JB F rH;have kY:=eF l.prog w base X G bc λF=>J4 F kJ qW;have qY:=eF l.prog w base X G bd λF=>JR F kO kJ kY;have kH:=eF l.prog w base X G be λF=>LP F kO jK j;have kZ:=eF l.prog w base X G bf λF=>JU F;have kE:=eF l.prog w base X G bg λF=>Ny F kZ;have qH:=eF l.prog w base X G bh λF=>ID F qW;have jZ:=eF l.prog w base X G bi λF=>JV F qH;have kP:=eF l.prog w base X G bj λF=>MD F kH kE jZ qY;have rD:=eF l.prog w base X G bk λF=>Lq F jF;have jG:=eF l.prog w base X G bl λF=>K6 F rD j J;have jL:=eF l.prog w base X G bm λF=>Jo F jF jG z;have jU:=eF l.prog w base X G bn λF=>KS F jL j J;have jN:cT l.prog w K mg base sS _ _ _:=#[_,_,Ow (P:=l.prog) (w:=w) (base:=base) bz qV ar DS jU jT jE (c.imp<|GD) j jD,oA X G a32,k32,.all (tc (λ_ _=>rfl))];have qA:=Hy l.prog w base X G n_LevelParts mk_LevelParts kp_LevelParts qE λF=>Jq F M2 jN jG jL jH J j;have jM:=G7 l.prog w mg base kQ λF=>MG F M2 j;have rK:=Hy l.prog w base X G n_Row mk_Row kp_Row qU λF=>Mx F O' qA kP jT j;have qJ:=G7 l.prog w mg base rC λF=>J3 F M2 O' jM jH j;have kI:=eF l.prog w base X G r7 λF=>IR F jE;have qZ:=eF l.prog w base X G a7 λF=>NC F jF;have qB:=eF l.prog w base X G a8 λF=>NB F j kA;have qC:=eF l.prog w base X G a9 λF=>K' F kI qB rJ;have b:=Lb (P:=l.prog) (w:=w) (base:=base) bx qI qZ qC jE jD kA;have rM:CalleeD l.prog w K mg base sW _ _ _ []:=#[_,_,[],b,oA X G a17,k17,(λs n KX o=>by have y:n.length=3:=(by simpa using o);clear o;revert n;exact vR (λ_ _ _=>BindsTo.of_defaults rZ (KX _ _ lD17) qD17 rZ rZ)),.nil];have g:CalleeD l.prog w K mg base sW _ _ _ [.int 400]:=#[_,_,[.int 400 ak],b,oA X G a17,k17,(λs n KX o=>by have y:n.length=2:=(by simpa using o);clear o;revert n;exact tc (λ_ _=>BindsTo.of_defaults rZ (KX _ _ lD17) qD17 rZ rZ)),.cons #[_,rZ] .nil];have jI:=eF l.prog w base X G br λF=>Ki F z;have qP:=eF l.prog w base X G bs λF=>NJ F jI z J j;have jQ:=eF l.prog w base X G bt λF=>K0 F z jD kA;have qK:=eF l.prog w base X G bu λF=>JQ F;have qD:=eF l.prog w base X G bv λF=>IG F g jQ jI j jD kA kG;exact IU (P:=l.prog) (w:=w) (base:=base) rL M2 O' kL qP f rK qJ kP qD jN qK jQ j jH z jD kA
def d3o:As:=[128,240,83]
def walk{l:PySem.W.OpenLaw}{q:Pg}{b:Ss}{j:SV->Heap->Prop}{g:World->Heap->Prop}{d:DefRec}{K:Params->O2}(m:l.most=some 63)(i:d.params.defaults=[])(o:∀(w:World) (h:Heap),g w h->(K w.params).In h) (hT:∀w:World,∀t∈d3o,(K w.params).lookup t=none/\((∃y c,PySem.W.tabIn (K w.params) y=some (c,t)/\∃e,(recsOf q).find? (λr=>r.name==y)=some e)\/((∃c,PySem.W.codeHdIn (K w.params) c t=true)/\∀h,g w h->h.get? t=some (PySem.W.tabObj #v[]))))(F:∀(w:World) (mg:SV) (fa:Ad) (h:Heap),(K w.params).In h->h.Ns mainGlobals mg->mg d.name=some (.ref fa)->
   ∃fd:Fd,(∀(s:Sh) (u:Vl),BindsTo s fd #[[u],[]] [(sG,u)])/\∀base:Heap,(K w.params).In base->base.Ns mainGlobals mg->nG mg base->FnOk l.prog w (K w.params) mg base cL 22 fa fd [sG] (iR (K w.params))):
  PySem.W.WalkO q b j g l.row.toRowW d [] (λf p=>PySem.call f p):=
 L2.c6x (n:=63) (k:=22) (x:=sG) (tabs:=d3o) (sp:=λw=>iR (K w.params)) m (by decide) i #[rZ,by decide,by decide] o hT F λw H a v z ht A=>#[a,v,rZ,A,z,(λq B=> .inl (ht _ ((show dQ.map (·.2.2)=d3o from rfl)▸List.mem_map_of_mem B))),λ_=>rfl]
end My
namespace PySem.W.Fast
def tw18047939141989984984:=0
theorem te18047939141989984984 : True := ⟨⟩
def tw14990257577110073603:=0
def tw9132832389210684260:=0
def tw5187100681417940328:=0
def tw6792087487622114952:=0
def tw10633098529660624368:=0
def tw1195919299410974390:=0
def tw9704140588535748914:=0
def tw16040161075371042398:=0
def tw11606000307090852620:=0
def tw9573595394855994475:=0
def tw10421706908753082690:=0
def tw4864438738373264537:=0
def tw16980520878703071942:=0
def tw60876891665272701:=0
def tw8265960028454759158:=0
def tw13544184062391073277:=0
def tw13259202136261362163:=0
def tw10939754896649352500:=0
def tw8321967292503325028:=0
def tw12036257124634652967:=0
def tw12189582180052294932:=0
def tw13447818932612338517:=0
def tw1074363879559642213:=0
def tw17424792624213214182:=0
def tw456034924409657863:=0
def tw15819460136843862135:=0
def tw1425400243148611003:=0
def tw9222345671105558491:=0
def tw12346793583981894036:=0
def tw894567864963496324:=0
def tw14557522465353563842:=0
def tw13862215395372787527:=0
def tw5013652790496666540:=0
def tw11562923766728192831:=0
def tw9921097585123073350:=0
def tw8382882863374692941:=0
def tw11080629031605005890:=0
def tw2795885875912372572:=0
def tw6402714569646565183:=0
def tw16695989241629646375:=0
def tw4539939412669575976:=0
def tw8149259634966790602:=0
def tw15603507543340161973:=0
def tw5588760456525825773:=0
def tw313318138774514536:=0
def tw10830407196972079978:=0
def tw13319216480335977945:=0
def tw2125714035959064437:=0
def tw10818798756692185741:=0
def tw10860140158655188409:=0
def tw15935088106097710864:=0
def tw6557641756347612838:=0
def tw7539121018906781681:=0
def tw16188616914330228306:=0
def tw7374302642872877526:=0
def tw7195740097998973750:=0
def tw2890652803957822990:=0
def tw9196870370948303615:=0
def tw17539074687973529380:=0
def tw9033201865527040335:=0
def tw11101897469735132095:=0
def tw4164828779767398084:=0
def tw4233549893483902785:=0
def tw6112123243127400478:=0
def tw15978741021460764778:=0
def tw5300254848793414131:=0
def tw10130575672087892205:=0
def tw8804848833347373400:=0
def tw861174332722722715:=0
def tw5807162264054813260:=0
def tw12062658947646219101:=0
def tw1215720720627169096:=0
def tw850953836499365153:=0
def tw12333052459691516154:=0
def tw12215289117747758337:=0
def tw6900250897803219997:=0
def tw2665636873147268644:=0
def tw12742900331813527196:=0
def tw5578184824068254924:=0
def tw16109433740412883439:=0
def tw369039062346914392:=0
def tw2601845726898007681:=0
def tw12219555837925765784:=0
def tw7674857066013860596:=0
def tw8113625208191581240:=0
def tw6509418910149219139:=0
def tw5215953113988055275:=0
def tw3932391323313888053:=0
def tw15488258971000335620:=0
def tw11659477994135343885:=0
def tw3965392300456920464:=0
def tw6187395096953187500:=0
def tw3058192972027593382:=0
def tw2862880813005365731:=0
def tw1834802903821814381:=0
def tw368807194094348544:=0
def tw583212009164159841:=0
def tw8633968798565066262:=0
def tw531464462044538168:=0
def tw15679028745891566793:=0
def tw886198599846090290:=0
def tw1946419577789117156:=0
def tw3748923617862783509:=0
def tw12211801298336046532:=0
def tw17071775510959218574:=0
def tw12288719840481934857:=0
def tw4712140630497681604:=0
def tw287955888260579425:=0
def tw3875446942609352043:=0
def tw2082593504195780495:=0
def tw9937049624562841457:=0
def tw8562875375138948378:=0
def tw9729763512884797883:=0
def tw2524348781849951011:=0
def tw8454028343307365128:=0
def tw8942453834849886966:=0
def tw8736926042538154396:=0
def tw14193117007750477791:=0
def tw13435878028281460090:=0
def tw1873085805321682625:=0
def tw5313025529903793240:=0
def tw6844098759167662477:=0
def tw8989821934391541389:=0
def tw14820744502433656189:=0
def tw13229914287355252080:=0
def tw12182392615821161729:=0
def tw5514569308651591194:=0
def tw17146604882072586629:=0
def tw16557176857333838805:=0
def tw6432803693699024621:=0
def tw9341050311818844054:=0
def tw12718885576248196640:=0
def tw15647084423075159767:=0
def tw10810755559128927340:=0
def tw5312175992895634055:=0
def tw9189032791980919845:=0
def tw4728437797363683675:=0
def tw225715841480041790:=0
def tw17269680099492469246:=0
def tw2275072548001100263:=0
def tw4380880590067856429:=0
def tw11257973873585272850:=0
def tw655702788677410162:=0
def tw9593663192182903981:=0
def tw623914917979831048:=0
def tw1594726807060551679:=0
def tw1219234722603389377:=0
def tw3075031035320588305:=0
def tw7441230280621407790:=0
def tw14617305163902532378:=0
def tw204768720951759273:=0
def tw17808597163568447424:=0
def tw5159522158155510659:=0
def tw7214063810135158554:=0
def tw807537192420138904:=0
def tw1999029173920345687:=0
def tw15507688680346175509:=0
def tw780932761332867329:=0
def tw5575634399195961912:=0
def tw16964615409405570849:=0
def tw6593387817838976542:=0
def tw3555193486540160603:=0
def tw2228857684554707710:=0
def tw9301542025644117096:=0
def tw16146791256305586424:=0
def tw3056017663606247851:=0
def tw18419691734489558601:=0
def tw13395770260423155574:=0
def tw5672827324865399067:=0
def tw16321630034096763828:=0
def tw11466797797490224830:=0
def tw142480767907090277:=0
def tw9630476014148151120:=0
def tw7771964197326215917:=0
def tw1796231954607699856:=0
def tw1096799588150752349:=0
def tw12438381306786401499:=0
def tw11178928221682529300:=0
def tw15048226242823770332:=0
def tw15905463078632462562:=0
def tw5080681884804645685:=0
def tw8694668143355625388:=0
def tw13091608239517392828:=0
def tw6230333925750526829:=0
def tw10359117463340763583:=0
def tw5682387267137526859:=0
def tw10795421112074734396:=0
def tw11362230610052262354:=0
def tw4962876304420733723:=0
def tw3785577935039254552:=0
def tw13275662518658627960:=0
def tw14096689434118538734:=0
def tw9962142005990986097:=0
def tw1285636145122383742:=0
def tw15341286660377738004:=0
def tw17978251203488811655:=0
def tw5498618690874568682:=0
def tw12784068072886487114:=0
def tw10241196539467147999:=0
def tw11103268005825647778:=0
def tw7850536492345760776:=0
def tw13447317508828743039:=0
def tw2584024567870796069:=0
def tw7535512060802729701:=0
def tw8490306505888912336:=0
def tw7051868187655481142:=0
def tw18110154993663086486:=0
def tw12198392179220960701:=0
def tw11480753846383401968:=0
def tw5767312638765259130:=0
def tw17372143253361567909:=0
def tw15376649339565219666:=0
def tw15546894371750633571:=0
def tw13813136796354088761:=0
def tw14749851908359507976:=0
def tw15845141135035278323:=0
def tw10553341657967676406:=0
def tw915203776730026154:=0
def tw1371869607979374511:=0
def tw8497879961062485650:=0
def tw6177045448219126323:=0
def tw10099322068152030397:=0
def tw14772610060760438060:=0
def tw12641925368819680836:=0
def tw9455687534714910706:=0
def tw6151012170487050267:=0
def tw4632629191664477200:=0
def tw15912726648786316061:=0
def tw14777320723353352314:=0
def tw13721266367573900655:=0
def tw16061376919729951101:=0
def tw15636987400510172583:=0
def tw18044530617925704091:=0
def tw3428204017296756865:=0
def tw13193236886929288132:=0
def tw7761584613656929435:=0
def tw8329946820723438258:=0
def tw6444215229369722488:=0
def tw15163381030009802869:=0
def tw9728399305357002724:=0
def tw13586597098391196672:=0
def tw14421412779954764660:=0
def tw6592224559257635022:=0
def tw12861129794629669485:=0
def tw11520967661509250989:=0
def tw2339507507281719782:=0
def tw9026279502431019289:=0
def tw8531379882778900097:=0
def tw4371931497414731154:=0
def tw7608123398825529259:=0
def tw9824143498356133381:=0
def tw7667228419058509166:=0
def tw6901325589580537469:=0
def tw18205135168246794893:=0
def tw8179864802216786198:=0
def tw1542929139756241302:=0
def tw2894969097610507680:=0
def tw14829042829313271963:=0
def tw7571246415731391853:=0
def tw5272421300602306292:=0
def tw13909170425102147800:=0
def tw14678300815477566149:=0
def tw461701396193704341:=0
def tw6918546928465152841:=0
def tw16413185391902592628:=0
def tw6226112232124398907:=0
def tw2980372221261665811:=0
def tw12821667271644547299:=0
def tw2763881128092355168:=0
def tw15213120597942299483:=0
def tw13456045788066526000:=0
def tw5905148444534020542:=0
def tw12140034862641150467:=0
def tw11531674640227768808:=0
def tw17413533806668359052:=0
def tw5825040029651600993:=0
def tw6402723284039827951:=0
def tw3923518860211493247:=0
def tw11173719241235779246:=0
def tw1891737817497230688:=0
def tw1115834644295810345:=0
def tw6683201878782769383:=0
def tw3615160276671324744:=0
def tw731111148212923717:=0
def tw9866096926657042731:=0
def tw9695124033376750638:=0
def tw10628722502081224468:=0
def tw13451747870213003713:=0
def tw17547282876698451439:=0
def tw873281012767332878:=0
def tw9365138454090141928:=0
def tw14317074780390753007:=0
def tw10908409038347086797:=0
def tw8335777548294373054:=0
def tw7216457316399944040:=0
def tw2377666489189795095:=0
def tw14831830544707720952:=0
def tw17593221216268900796:=0
def tw5952896110156186046:=0
def tw15187443626405320617:=0
def tw13941785345970568908:=0
def tw3261546244525954035:=0
def tw12660193351591196033:=0
def tw16684833356332637352:=0
def tw8413865306720574169:=0
def tw8542182153746397686:=0
def tw4355657183647333834:=0
def tw15793239721847234053:=0
def tw14193926559571903436:=0
def tw4637423195947156768:=0
def tw4885252389891671757:=0
def tw13472283988762688069:=0
def tw5626808863763220653:=0
def tw6429421254107092244:=0
def tw12144440876026292012:=0
def tw122219335390045667:=0
def tw5185835810934041369:=0
def tw5963071812467576142:=0
def tw12781858887747925479:=0
def tw10472989876084386754:=0
def tw3774914246318342785:=0
def tw10198053104469781343:=0
def tw3694179863221534900:=0
def tw7152298532150646586:=0
def tw16414252050384288654:=0
def tw10320629565006666353:=0
def tw4451563085314036394:=0
def tw4120317994052290496:=0
def tw12499825957906695452:=0
def tw7614905554658634197:=0
end PySem.W.Fast
open PySem PySem.W PyProof.Rows
set_option maxRecDepth 100000 in
set_option maxHeartbeats 0 in
theorem PySem.Challenge.cw_cascade_k93_whole_own_turns_turn_the_til_holds : PySem.Challenge.rw_cascade_k93_whole_own_turns_turn_the_til.Holds := by
 w_on; o_law; k_head; (case hw => w_witness2)
 k_fill
 refine' My.walk (l := PySem.Challenge.rw_cascade_k93_whole_own_turns_turn_the_til) rfl rfl (fun w h Y => PySem.W.km_in_of Y) ?hT ?F
 case hT =>
  intro w t ht
  simp only [My.d3o, List.mem_cons, List.not_mem_nil, or_false] at ht
  rcases ht with rfl | rfl | rfl
  ·exact ⟨by kernel_rfl, .inl ⟨"sets_reached", 132, by kernel_rfl, _, rfl⟩⟩
  ·exact ⟨by kernel_rfl, .inl ⟨"level_group", 244, by kernel_rfl, _, rfl⟩⟩
  ·exact ⟨by kernel_rfl, .inr ⟨⟨87, by kernel_rfl⟩, fun h Y => PySem.W.km_tabs_of Y _ (by simp)⟩⟩
 case F =>
  intro w mg fa h KX G hmg
  refine' My.e0j KX G hmg ?_ ?a3 ?l3 ?c3 ?k3 ?lD3 ?qD3 ?_ ?_ ?a6 ?l6 ?c6 ?k6 ?lD6 ?qD6 ?hd6 ?_ ?_ ?_ ?_ ?_ ?_ ?a13 ?l13 ?c13 ?k13 ?hd13 ?_ ?_ ?_ ?a17 ?l17 ?c17 ?k17 ?lD17 ?qD17 ?_ ?_ ?_ ?_ ?_ ?_ ?_ ?_ ?_ ?_ ?_ ?_ ?_ ?_ ?a32 ?l32 ?c32 ?k32 ?hd32 ?_ ?_ ?_ ?_ ?_ ?_ ?_ ?_ ?_  ?n_LevelParts ?M2 ?mk_LevelParts ?kp_LevelParts ?n_Row ?O' ?mk_Row ?kp_Row ?_ ?_ ?_ ?_  ?_ ?_ ?_ ?_ ?_ ?_ ?_ ?_ ?_ ?_
  (case a3 => k_is); (case l3 => k_is); (case c3 => k_is); (case k3 => k_is)
  (case lD3 => k_is); (case qD3 => rfl)
  (case a6 => k_is); (case l6 => k_is); (case c6 => k_is); (case k6 => k_is)
  (case lD6 => k_is); (case qD6 => rfl)
  (case hd6 => kernel_rfl)
  (case a13 => k_is); (case l13 => k_is); (case c13 => k_is); (case k13 => k_is)
  (case hd13 => kernel_rfl)
  (case a17 => k_is); (case l17 => k_is); (case c17 => k_is); (case k17 => k_is)
  (case lD17 => k_is); (case qD17 => rfl)
  (case a32 => k_is); (case l32 => k_is); (case c32 => k_is); (case k32 => k_is)
  (case hd32 => kernel_rfl)
  (case n_LevelParts => k_is); (case M2 => exact ⟨⟨by k_is, by k_is, by k_is, by k_is⟩, (.cons (by k_is) (.cons (by k_is) (.cons (by k_is) (.cons (by k_is) (.cons (by k_is) .nil)))))⟩); (case mk_LevelParts => k_is); (case kp_LevelParts => k_is)
  (case n_Row => k_is); (case O' => exact ⟨⟨by k_is, by k_is, by k_is, by k_is⟩, (.cons (by k_is) (.cons (by k_is) .nil))⟩); (case mk_Row => k_is); (case kp_Row => k_is)
  any_goals (refine' ⟨_, _, ?a, ?i, L2.c5m ?l ?c ?k⟩; (case a => k_is); (case i => k_is); (case l => k_is); (case c => k_is); (case k => k_is))
  any_goals (refine' ⟨_, _, ?a, L2.c5m ?l ?c ?k⟩; (case a => k_is); (case l => k_is); (case c => k_is); (case k => k_is))
  any_goals (refine' ⟨?a, L2.c5m ?l ?c ?k⟩; (case a => k_is); (case l => k_is); (case c => k_is); (case k => k_is))
  any_goals k_is
