import PyProof.Rows.All
import Wide.All
import OpenK.AllK
import Wide.FinOn
import Lean
import PyProof.EqAt
import PyProof.EqKinds
import PyProof.TupleCall
import PyProof.NeKinds
import PySem.Challenge.RW_cascade_k64_whole_own_turns_are_a_group
set_option maxHeartbeats 2000000
set_option Elab.async false
set_option linter.all false
set_option maxRecDepth 100000
local macro_rules|`(())=>`(by lia)
abbrev gN:=@List.getElem?_eq_getElem
abbrev gH:=@PySem.wpAny_bind
abbrev gV:=@List.getElem?_eq_some_iff
abbrev gL:=@List.length_map
abbrev ig:=@PySem.Heap.get?_push_of_some
abbrev gK:=@PySem.wpAny_pure
abbrev hA:=@List.getElem?_map
abbrev iD:=@List.getD_eq_getElem?_getD
abbrev h9:=@List.mem_singleton
abbrev iq:=@List.mem_of_getElem?
abbrev gS:=@Nat.le_refl
abbrev iH:=@Array.length_toList
abbrev jb:=@Option.map_eq_some_iff
abbrev iO:=@List.mem_cons_self
abbrev hV:=@PySem.Heap.lt_size
abbrev hX:=@List.mem_map
abbrev iK:=@List.size_toArray
abbrev ja:=@List.mem_cons_of_mem
abbrev j0:=@List.getElem?_append_left
abbrev i4:=@PySem.Heap.get?_push_size
abbrev iC:=@List.mem_append
abbrev ku:=@List.getElem?_append_right
abbrev jk:=@List.mem_iff_getElem?
abbrev iG:=@decide_eq_true
abbrev iu:=@List.mem_cons
abbrev jc:=@List.length_append
abbrev j6:=@List.mem_append_right
abbrev gW:=@PyProof.Rows.wpS_bind
abbrev iv:=@PySem.sizeLine_eq
abbrev j4:=@Nat.lt_of_lt_of_le
abbrev mK:=@Array.getElem?_eq_getElem
abbrev hI:=@PyProof.Rows.wpS_pure
abbrev iP:=@Nat.le_trans
abbrev ji:=@List.mem_filter
abbrev nj:=@Array.getElem?_eq_some_iff
abbrev iW:=@Nat.ne_of_lt
abbrev mv:=@Array.getElem?_toList
abbrev ky:=@Bool.false_ne_true
abbrev mM:=@PySem.Heap.get?_update_other
abbrev jy:=@decide_eq_false
abbrev mB:=@List.pairwise_append
abbrev kg:=@List.map_append
abbrev lR:=@of_decide_eq_true
abbrev lU:=@List.append_assoc
abbrev lZ:=@List.length_take
abbrev pB:=@Array.perm_iff_toList_perm
abbrev mh:=@List.take_length
abbrev lX:=@Option.some.inj
abbrev pc:=@List.pairwise_iff_getElem
abbrev rS:=@Nat.exists_eq_add_one_of_ne_zero
abbrev ot:=@List.getElem?_eq_none
abbrev oK:=@List.take_append_drop
abbrev lq:=@PySem.wpAny_holding
abbrev kz:=@List.map_cons
abbrev lY:=@List.mem_range
abbrev m7:=@PySem.wpAny_call_entry
abbrev nq:=@List.length_cons
abbrev mW:=@List.append_nil
abbrev lE:=@List.map_map
abbrev lC:=@PySem.F.called_set
abbrev pA:=@List.length_filter_le
abbrev iZ:=@congrArg
abbrev om:=@List.take_add_one
abbrev nc:=@List.nodup_cons
abbrev pC:=@PySem.Around.under_plainId
abbrev oE:=@PySem.wpAny_setState_of
abbrev oS:=@PySem.wpAny_setField_rec
abbrev ub:=@Array.getD_eq_getD_getElem?
abbrev px:=@Array.toList_append
abbrev n6:=@PySem.codeAny_builtin
abbrev rP:=@PySem.wpAny_callSpecial?_slot
abbrev rD:=@List.length_eq_zero_iff
abbrev rW:=@PyProof.Rows.F.plain_set_update_loop
abbrev sh:=@List.pairwise_singleton
abbrev qk:=@List.contains_iff_mem
abbrev lV:=@Nat.zero_le
abbrev kS:=@PySem.wpAny_mono
abbrev uj:=@PySem.F.slot_dict_keyiterator_next
abbrev oU:=@List.getElem_mem
abbrev pq:=@PySem.wpAny_newObj_type
abbrev oP:=@PySem.PassesOwn.never
abbrev rq:=@PySem.Heap.get?_update_self
abbrev qf:=@List.map_congr_left
abbrev i7:=@PySem.W.mg_of
abbrev pN:=@Int.toNat_natCast
abbrev ng:=@Nat.le_of_lt
abbrev rB:=@List.mem_append_left
abbrev nr:=@PyProof.Rows.wpS_forRange
abbrev pD:=@Bool.eq_iff_iff
abbrev nG:=@PySem.codeAny_mono
abbrev rK:=@PySem.mem_of_lookup
abbrev pk:=@Nat.not_lt_zero
abbrev r9:=@Nat.add_sub_cancel'
abbrev pW:=@List.lookup_cons
abbrev pR:=@List.mem_reverse
abbrev pT:=@Nat.lt_succ_self
abbrev oC:=@Nat.lt_irrefl
abbrev jd:=@Ne.symm
abbrev qm:=@List.length_range
abbrev vq:=@PySem.F.plainAttrs_list
abbrev q0:=@PySem.wpAny_Call_Name_kw
abbrev pY:=@List.foldl_cons
abbrev yy:=@PySem.F.slot_dict_itemiterator_next
abbrev sk:=@beq_eq_false_iff_ne
abbrev tF:=@List.getElem?_range
abbrev tz:=@List.toList_toArray
abbrev rf:=@List.getElem?_inj
abbrev vJ:=@PySem.F.slot_list_append
abbrev wX:=@PySem.F.type_list_append
abbrev pb:=@PySem.plainId_quiet
abbrev xk:=@Nat.add_sub_cancel_left
abbrev xg:=@PyProof.Rows.F.entry_set_update_loop
abbrev uw:=@List.mem_of_mem_take
abbrev rH:=@Bool.and_eq_true
abbrev se:=@PySem.wpAny_askSetting
abbrev rC:=@Nat.le_add_right
abbrev vV:=@PySem.F.plain_min_loop
abbrev tq:=@PySem.wpAny_truthy_bool
abbrev uf:=@PySem.wpAny_loadPart_at
abbrev t9:=@PySem.wpAny_pyIter_slot
abbrev si:=@List.foldl_append
abbrev yR:=@Classical.byContradiction
abbrev yL:=@Nat.sub_lt_left_of_lt_add
abbrev lW:=@PySem.boot_len
abbrev pp:=@Nat.ne_of_gt
abbrev zt:=@PySem.wpAny_typeNameOfWhole_itemiter
abbrev wW:=@List.Pairwise.sublist
abbrev rg:=@Array.size_push
abbrev Av:=@PySem.wpAny_typeNameOfWhole_keyiter
abbrev v7:=@PySem.lookup_relabel_local
abbrev wG:=@List.getElem?_of_mem
abbrev qd:=@PySem.wpAny_attempt
abbrev Bp:=@PySem.F.slot_dict_keyiterator_iter
abbrev vA:=@List.take_sublist
abbrev u5:=@PySem.wpAny_dictEntries
abbrev uy:=@List.ext_getElem?
abbrev uv:=@List.pairwise_map
abbrev vt:=@List.ext_getElem
abbrev rh:=@PySem.Paired.length
abbrev xM:=@Classical.choose_spec
abbrev qh:=@Nat.zero_add
abbrev yJ:=@List.Perm.append_left
abbrev ql:=@PySem.W.mg_none_of
abbrev zy:=@List.drop_eq_getElem_cons
abbrev tp:=@PySem.wpAny_fieldsOf
abbrev zD:=@List.extract_eq_take_drop
abbrev yr:=@PySem.codeAny_call_builtin
abbrev uz:=@PySem.wpAny_passesOwn
abbrev w6:=@PySem.wpAny_pyIter_list
abbrev ux:=@List.length_set
abbrev xh:=@Array.toList_push
abbrev wj:=@List.nodup_append
abbrev vF:=@PySem.wpAny_updateSeq
abbrev wI:=@PySem.PassesOwn.leaving
abbrev BJ:=@List.Nodup.length_le_of_subset
abbrev yP:=@PySem.W.hideAll_get
abbrev xw:=@Nat.add_le_add_left
abbrev qx:=@PySem.wpAny_field
abbrev xZ:=@PySem.wpAny_raiseNew_none
abbrev xr:=@PySem.F.plain_extend_loop
abbrev nJ:=@PyProof.Rows.wpS_mono
abbrev wV:=@List.length_drop
abbrev wO:=@List.cons_append
abbrev vM:=@Nat.mod_eq_of_lt
abbrev pS:=@PySem.wpAny_call
abbrev pO:=@PySem.intKind_is
abbrev zK:=@PySem.wpAny_pyNext_list_item
abbrev Ac:=@List.take_of_length_le
abbrev Bt:=@List.Perm.append_right
abbrev yi:=@Nat.lt_of_le_of_lt
abbrev xY:=@PySem.Code.quiet_builtin
abbrev yU:=@PySem.F.store_ValueError
abbrev yb:=@List.pairwise_cons
abbrev yq:=@Nat.lt_of_le_of_ne
abbrev x9:=@List.getElem?_drop
abbrev yt:=@List.filter_append
abbrev zm:=@PySem.wpAny_pyNext_list_end
abbrev w9:=@List.range_succ
abbrev xm:=@PySem.wpAny_dictEpoch
abbrev vX:=@Nat.min_eq_left
abbrev Ab:=@List.perm_append_comm
abbrev v6:=@PyProof.Rows.get?_update_seq
abbrev AU:=@PyProof.Rows.boot_set
abbrev ya:=@Nat.lt_succ_of_lt
abbrev qu:=@PySem.wpAny_rule
abbrev qp:=@PyProof.Rows.wpS_modify
abbrev D1:=@Array.toList_setIfInBounds
abbrev zT:=@PySem.W.hideAll_none
abbrev An:=@PySem.Heap.get?_none_of_le
abbrev Bg:=@List.mem_of_mem_drop
abbrev Bc:=@Array.toList_extract
abbrev AX:=@Array.toList_reverse
abbrev Dm:=@PySem.Calls.call_function_entry
abbrev xR:=@beq_self_eq_true
abbrev ye:=@List.getElem_map
abbrev Aw:=@PySem.Heap.SameBut.update
abbrev zr:=@Nat.add_lt_add_left
abbrev vo:=@Nat.le_of_eq
abbrev sd:=@Nat.mod_lt
abbrev ww:=@PySem.wpAny_standAt
abbrev AZ:=@List.mem_filterMap
abbrev zB:=@PySem.W.callWith_K
abbrev wD:=@List.any_cons
abbrev Bu:=@PySem.tupleKind_room_in1
abbrev A1:=@Int.emod_lt_of_pos
abbrev xQ:=@PySem.codeAny_of_tree
abbrev Bi:=@List.contains_cons
abbrev Gq:=@List.findIdx?_eq_some_iff_getElem
abbrev wm:=@PySem.wpAny_newList
abbrev Bv:=@List.getElem?_take
abbrev vS:=@PyProof.Rows.listUpdate_at
abbrev AD:=@decide_eq_true_iff
abbrev EC:=@Array.all_eq_true_iff_forall_mem
abbrev Cm:=@PySem.wpAny_isOneOf_itemiter
abbrev CJ:=@Array.getElem?_eq_none
abbrev Dx:=@List.pairwise_lt_range
abbrev u9:=@PySem.wpAny_letGo
abbrev vv:=@Nat.le_succ
abbrev AQ:=@PySem.wpAny_storeSet_of
abbrev GQ:=@PySem.F.args_dict_itemiterator_next_1
abbrev zS:=@Nat.le_of_lt_succ
abbrev Ay:=@Array.size_append
abbrev yg:=@List.nodup_nil
abbrev yO:=@PySem.Heap.size_push
abbrev GH:=@PyProof.Rows.callWith_builtin1
abbrev Cj:=@List.length_singleton
abbrev wk:=@Nat.lt_trans
abbrev vI:=@Nat.dvd_refl
abbrev wL:=@Nat.add_comm
abbrev CS:=@PySem.weight_type_call_type
abbrev EO:=@PySem.F.entry_dict_itemiterator_next
abbrev vU:=@Nat.sub_self
abbrev Gx:=@PySem.F.args_dict_keyiterator_next_1
abbrev Fa:=@PySem.F.args_dict_keyiterator_iter_1
abbrev D4:=@Array.mem_of_getElem?
abbrev Bz:=@List.filterMap_append
abbrev Aq:=@Nat.le_of_not_lt
abbrev Hk:=@PySem.F.entry_dict_keyiterator_next
abbrev Ew:=@PySem.F.entry_dict_keyiterator_iter
abbrev Ak:=@Array.toList_map
abbrev zF:=@List.countP_cons
abbrev BS:=@List.drop_eq_nil_iff
abbrev C3:=@Nat.le_sub_of_add_le
abbrev E3:=@List.dropLast_concat_getLast
abbrev vE:=@PyProof.Rows.boot_tuple
abbrev zL:=@PySem.wpAny_execs_nil
abbrev EX:=@PyProof.Rows.callWith_type1
abbrev At:=@List.of_mem_zip
abbrev zJ:=@List.length_nil
abbrev Bf:=@Int.emod_nonneg
abbrev zx:=@PySem.size_of_entries
abbrev C6:=@PySem.wpAny_isSubtype_exc
abbrev B9:=@PySem.Heap.get?_update_ne
abbrev zO:=@List.head?_drop
abbrev vN:=@PySem.wpAny_of_eq
abbrev AG:=@PySem.F.slot_set_iter
abbrev pg:=@PyProof.Rows.wpS_get
abbrev BP:=@List.map_eq_nil_iff
abbrev ER:=@PySem.Calls.Name_function_global
abbrev HE:=@List.perm_append_singleton
abbrev DW:=@PySem.W.of_hideAll
abbrev xS:=@Nat.add_zero
abbrev Cs:=@PySem.Around.under_plain
abbrev CV:=@List.zip_cons_cons
abbrev Df:=@Array.Perm.mem_iff
abbrev yZ:=@Int.lt_trans
abbrev zk:=@List.tail_drop
abbrev zz:=@PySem.wpAny_tryCatch
abbrev Cv:=@Option.isSome_map
abbrev C0:=@PySem.F.entry_type_call
abbrev DJ:=@List.filter_congr
abbrev Ax:=@Bool.true_and
abbrev CP:=@List.getElem_inj
abbrev CA:=@List.all_eq_true
abbrev Dc:=@PySem.F.typeCall_set_1
abbrev BD:=@PySem.F.entry_set_init
abbrev DA:=@PySem.check_set_init_1
abbrev CI:=@List.perm_middle
abbrev Dd:=@Array.toList_inj
abbrev BC:=@PySem.wpAny_loadPart'
abbrev A4:=@Nat.mul_comm
abbrev Cd:=@List.nil_append
abbrev BG:=@PySem.wpAny_ite_split
abbrev Dl:=@PyProof.Rows.entry_list_sort
abbrev AH:=@List.any_map
abbrev wh:=@ite_congr
abbrev By:=@Array.Perm.refl
abbrev zA:=@Nat.pow_succ
abbrev Bj:=@Int.zero_add
abbrev vb:=@PyProof.Rows.wpS_lift
abbrev zY:=@List.map_id
abbrev Bm:=@PyProof.Rows.seqEpoch_at
abbrev zE:=@PyProof.Rows.boot_sorted
section
open PySem
abbrev nM:=List (List (List Nat))
abbrev LN:=List (List Nat)
abbrev f':=List Nat
abbrev VP:=Value -> Shared -> Prop
abbrev AO:=List (Addr × Obj)
abbrev SV:=Str -> Option Value
abbrev As:=List Addr
abbrev Vs:=List Value
abbrev AV:=Array Value
abbrev Zs:=List Int
abbrev Ss:=List Str
abbrev Sh:=Shared
abbrev Vl:=Value
abbrev Pg:=Program
abbrev Fd:=FuncData
abbrev Ar:=Around
end
abbrev wA:=@if_neg
abbrev wB:=@if_pos
abbrev wC:=@absurd
abbrev wE:=@False.elim
open PySem in
abbrev Ad:=Addr
abbrev rZ:=@rfl
abbrev N2:=PySem.W.Frag
theorem Z'{α:Sort _}{a:α}{q:Prop}:a=a∨q:=.inl rfl
theorem Z0{α:Sort _}{a:α}{q:Prop}:q∨a=a:=.inr rfl
local macro_rules|`(#[$x,*])=>`(⟨$x,*⟩)
local macro_rules|`(#v[$x,*])=>`(List.toArray [$x,*])
namespace L2
open PySem PySem.Spec PyProof.Rows
abbrev ik:=Sum Int Str
def wH:ik->Vl->Bool
 |.inl k,v=>Value.isInt k v
 |.inr x,v=>Value.isStrOf x v
def B0(w:World):ik->Int
 |.inl k=>hashInt k
 |.inr x=>hashStr w x
theorem rJ:∀{k:ik} {v:Vl},wH k v=true->(∃i t,k=Sum.inl i/\v=Value.int i t)\/(∃x t,k=Sum.inr x/\v=Value.str x t)
 |.inl i,v,h=>by
  obtain⟨t,e⟩:=Value.isInt_shape (k:=i) (v:=v) h;exact .inl #[i,t,rZ,e]
 |.inr x,v,h=>by
  obtain⟨t,e⟩:=Value.isStrOf_shape (x:=x) (v:=v) h;exact .inr #[x,t,rZ,e]
def MX(i:Int)(t:Tok):wH (.inl i) (.int i t)=true:=by simp[wH,Value.isInt]
def Nh(x:Str)(t:Tok):wH (.inr x) (.str x t)=true:=by simp[wH,Value.isStrOf]
def K3(a b:Int):decide ((Sum.inl a:ik)=Sum.inl b)=(a==b):=by
 by_cases e:a=b
 .subst e;simp
 .have h: ¬(Sum.inl a:ik)=Sum.inl b:=λq=>e (Sum.inl.inj q);rw[jy h];exact(sk.mpr e).symm
def IN(a b:Str):decide ((Sum.inr a:ik)=Sum.inr b)=decide (a=b):=by
 by_cases e:a=b
 .subst e;simp
 .have h: ¬(Sum.inr a:ik)=Sum.inr b:=λq=>e (Sum.inr.inj q);rw[jy h,jy e]
def Iv(a:Int)(b:Str):decide ((Sum.inl a:ik)=Sum.inr b)=false:=jy (λq=>nomatch q)
def NJ(a:Str)(b:Int):decide ((Sum.inr a:ik)=Sum.inl b)=false:=jy (λq=>nomatch q)
def oq(c:Pg)(w:World):PySem.KeyKind c w ik where
 is:=wH
 hash:=B0 w
 inj:=λv a b l g=>by
  rcases rJ l with⟨i,t,rfl,rfl⟩|⟨x,t,rfl,rfl⟩
  .rcases rJ g with⟨j,u,rfl,e⟩|⟨y,u,rfl,e⟩
   .injection e with d _;rw[d]
   .exact nomatch e
  .rcases rJ g with⟨j,u,rfl,e⟩|⟨y,u,rfl,e⟩
   .exact nomatch e
   .injection e with d _;rw[d]
 byValue:=λk v h=>by
  rcases rJ h with⟨i,t,rfl,rfl⟩|⟨x,t,rfl,rfl⟩<;>rfl
 pyHash:=λf h=>by
  rcases rJ f with⟨i,t,rfl,rfl⟩|⟨x,t,rfl,rfl⟩
  .exact wpAny_pyHash_int h
  .exact wpAny_pyHash_str h
 eqBool:=λm f h=>by
  rcases rJ m with⟨i,t,rfl,rfl⟩|⟨x,t,rfl,rfl⟩
  .rcases rJ f with⟨j,u,rfl,rfl⟩|⟨y,u,rfl,rfl⟩
   .rw[K3]at h;exact wpAny_eqBool_int h
   .rw[Iv]at h;exact SeqAt.EqAt.int_str i t y u _ _ _ _ h
  .rcases rJ f with⟨j,u,rfl,rfl⟩|⟨y,u,rfl,rfl⟩
   .rw[NJ]at h;exact SeqAt.EqAt.str_int x t j u _ _ _ _ h
   .rw[IN]at h;exact wpAny_eqBool_str h
 «strs»:=λk x t v h=>by
  rcases rJ h with⟨i,u,rfl,e⟩|⟨y,u,rfl,e⟩
  .exact nomatch e
  .injection e with d _
   subst d;cases v<;>rfl
def Ic(a:Pg)(w:World)(i:Int)(t:Tok):(oq a w).is (.inl i) (.int i t)=true:=MX i t
def Ln(a:Pg)(w:World)(x:Str)(t:Tok):(oq a w).is (.inr x) (.str x t)=true:=Nh x t
inductive V where
 |non|bl (b:Bool)|int (i:Int)|str (x:Str)|byt (b:Array UInt8)|flt (b:UInt64)|ref (a:Ad)|ty (n:String)
 deriving DecidableEq
def RelV:V->Vl->Prop
 |.non,u=>u=Value.none
 |.bl b,u=>u=Value.bool b
 |.int i,u=>∃t,u=Value.int i t
 |.str x,u=>∃t,u=Value.str x t
 |.byt b,u=>∃t,u=Value.bytes b t
 |.flt b,u=>∃t,u=Value.float b t
 |.ref a,u=>u=Value.ref a
 |.ty n,u=>u=Value.type n
abbrev Vals:List V->List Vl->Prop:=Paired RelV
def Vals.length{xs:List V}{a:Vs}(r:Vals xs a):xs.length=a.length:=rh r
theorem Vals.get:∀{a:List V} {b:Vs} {i:Nat} {x:V},Vals a b->a[i]?=some x->∃u,b[i]?=some u/\RelV x u
 |_,_,_,_,.nil,e=>by simp at e
 |_,_,0,_,.cons r _,e=>by simp at e;subst e;exact#[_,rZ,r]
 |_,_,i+1,x,.cons _ t,e=>by
  obtain⟨u,c,d⟩:=Vals.get (i:=i) (x:=x) t (by simpa using e);exact#[u,by simpa using c,d]
theorem Vals.set{x:V}{u:Vl}(r:RelV x u):∀{xs:List V} {a:Vs} (i:Nat),Vals xs a->Vals (xs.set i x) (a.set i u)
 |_,_,_,.nil=> .nil
 |_,_,0,.cons _ t=> .cons r t
 |_,_,i+1,.cons q t=> .cons q (Vals.set r i t)
theorem Vals.append:∀{a b:List V} {c d:Vs},Vals a c->Vals b d->Vals (a++b) (c++d)
 |_,_,_,_,.nil,s=>s
 |_,_,_,_,.cons r t,s=> .cons r (Vals.append t s)
theorem Vals.take:∀{a:List V} {b:Vs} (n:Nat),Vals a b->Vals (a.take n) (b.take n)
 |_,_,0,_=> .nil
 |_,_,_+1,.nil=> .nil
 |_,_,n+1,.cons r t=> .cons r (Vals.take n t)
theorem Vals.drop:∀{a:List V} {b:Vs} (n:Nat),Vals a b->Vals (a.drop n) (b.drop n)
 |_,_,0,r=>r
 |_,_,_+1,.nil=> .nil
 |_,_,n+1,.cons _ t=>Vals.drop n t
def RelO:Option V->Option Vl->Prop
 |some v,some u=>RelV v u
 |none,none=>True
 |_,_=>False
def KV{a:Type}:List (a×V)->List (a×Vl)->Prop:=Paired λ(p:a×V) (q:a×Vl)=>p.1=q.1/\RelV p.2 q.2
def kV:ik->V
 |.inl i=> .int i
 |.inr x=> .str x
inductive HO where
 |lst (xs:List V)
 |tup (xs:List V)
 |dK (kvs:List (ik×V))|dT (kvs:List (List ik×V))
 |set (S:Int->Bool) (n:Nat)
 |ins (C dx:Ad) (fs:List (Str×V))
 |own (x:Ad)
 |xd (fs:List (Str×V))
 |met (f x:Ad)
 |rng (lo hi:Int)
 |frz (o:Obj) (u:HO)
 |tbl (ps:AV)
 |ext (φ:Heap->Prop)
abbrev Hp:=Ad->Option HO
def gI(H:Hp)(a:Ad)(o:HO):Hp:=λb=>if b=a then some o else H b
def gO{H:Hp}{a:Ad}{o:HO}:gI H a o a=some o:=by unfold gI;rw[wB rZ]
def gM{H:Hp}{a b:Ad}{o:HO}(h:b≠a):gI H a o b=H b:=by unfold gI;rw[wA h]
def BQ{H:Hp}{a:Ad}{o u:HO}:gI (gI H a o) a u=gI H a u:=by
 funext b;unfold gI;split<;>rfl
def t8{H:Hp}{a b:Ad}{o u:HO}(h:H a=some o)(c:H b=some u)(d:o≠u):a≠b:=by
 intro e;subst e;rw[h]at c;exact d (lX c)
def EZ:HO->Nat
 |.lst _=>0
 |.tup _=>1
 |.dK _=>2
 |.dT _=>3
 |.tbl _=>4
 |.ext _=>5
 |.rng _ _=>6
 |.frz _ _=>7
 |_=>8
def nE{H:Hp}{a b:Ad}{o u:HO}(h:H a=some o)(k:H b=some u)(d:(EZ o==EZ u)=false:=by rfl):a≠b:=t8 h k λe=>by rw[e,xR]at d;cases d
def iU{H:Hp}{a b:Ad}{o:HO}(h:H a=some o)(c:H b=none):a≠b:=by
 intro e;subst e;rw[h]at c;cases c
def TupD(h:Heap)(a:Ad)(b:AV):Prop:=∃o,h.get? a=some o/\o.cls=.type "tuple"/\∃n,o.data=.seq b n/\o.dict=none
def TupD.is{h:Heap}{a:Ad}{b:AV}(p:TupD h a b):IsTup h a b:=let⟨o,e,c,n,d,_⟩:=p;#[o,e,c,n,d]
def TupD.new(h:Heap)(a:AV):TupD (h.push {cls:= .type "tuple",data:= .seq a}) h.objs.size a:=#[_,i4 _ rZ,rZ,_,rZ,rZ]
section
variable(P:Pg)(w:World)
def ObjOk(H:Hp)(h:Heap)(a:Ad):HO->Prop
 |.lst d=>d.length<=sizeLine/\∃(b:Vs) (n:Nat),Vals d b/\h.get? a=some {cls:= .type "list",data:= .seq b.toArray n}
 |.tup d=>d.length<=sizeLine/\∃b:Vs,Vals d b/\TupD h a b.toArray
 |.dK c=>c.length<=sizeLine/\(a==sysModules)=false/\∃j,KV c j/\h.DictOf (oq P w) a j
 |.dT c=>c.length<=sizeLine/\(a==sysModules)=false/\∃d:List (List ik×Ad×Vl),
   Paired (λ(p:List ik×V) (q:List ik×Ad×Vl)=>p.1=q.1/\H q.2.1=some (.tup (p.1.map kV))/\RelV p.2 q.2.2) c d/\
   ∃o k r,h.get? a=some o/\o.ExactDict/\o.data=.dict k r/\k.toList=d.map (entryOfKey (tupleKind (oq P w)))/\(d.map (·.1)).Nodup
 |.set S n=>h.SetOf (intKind P w) a S n
 |.ins C g fs=>H g=some (.own a)/\fs.length<=1000/\g≠a/\h.get? a=some (PySem.W.instObj C g)/\
   ∃e,h.Ns1 g e/\(∀f,RelO (fs.lookup f) (e f))/\PySem.Within e (fs.map (·.1))
 |.own _=>∃o,h.get? a=some o
 |.xd fs=>∃e,h.Ns1 a e/\∀f,RelO (fs.lookup f) (e f)
 |.rng lo s=>∃t u v,h.get? a=some {cls:= .type "range",data:= .fields #v[.int lo t,.int s u,.int 1 v]}
 |.frz o u=>h.get? a=some o/\ObjOk H h a u
 |.tbl y=>h.get? a=some {cls:= .none,data:= .fields y}
 |.met f x=>h.get? a=some (PySem.W.methodObj (.ref f) (.ref x))
 |.ext i=>i h/\(∃o,h.get? a=some o)/\∀l m:Heap,i l->(∀o,l.get? a=some o->m.get? a=some o)->i m
def HOk(H:Hp)(h:Heap):Prop:=∀a o,H a=some o->ObjOk P w H h a o
end
section
variable{P:Pg}{w:World}{H H':Hp}{h h':Heap}{a:Ad}{o:HO}
def ObjOk.lt(x:ObjOk P w H h a o):a<h.objs.size:=by
 cases o with
 |lst xs=>obtain⟨_,_,_,_,e⟩:=x;exact hV e
 |tup xs=>obtain⟨_,_,_,p⟩:=x;exact p.is.lt
 |dK b=>obtain⟨_,_,_,_,o,_,_,e,_⟩:=x;exact hV e
 |dT b=>obtain⟨_,_,_,_,o,_,_,e,_⟩:=x;exact hV e
 |set S n=>obtain⟨o,_,_,_,e,_⟩:=x;exact hV e
 |ins C c fs=>obtain⟨_,_,_,e,_⟩:=x;exact hV e
 |own y=>obtain⟨_,e⟩:=x;exact hV e
 |xd fs=>obtain⟨_,⟨_,_,_,e,_⟩,_⟩:=x;exact hV e
 |rng lo d=>obtain⟨_,_,_,e⟩:=x;exact hV e
 |frz g u=>obtain⟨e,_⟩:=x;exact hV e
 |tbl i=>exact hV (show h.get? a=some _ from x)
 |met f y=>exact hV (show h.get? a=some _ from x)
 |ext j=>obtain⟨_,⟨_,e⟩,_⟩:=x;exact hV e
theorem Paired.mapP{e g:Type}{F G:e->g->Prop}:∀{c:List e} {d:List g},Paired F c d->(∀a b,F a b->G a b)->Paired G c d
 |_,_,.nil,_=> .nil
 |_,_,.cons r t,f=> .cons (f _ _ r) (Paired.mapP t f)
def ObjOk.stay(x:ObjOk P w H h a o)(k:∀b u,(b=a\/H b=some (.own a))->h.get? b=some u->h'.get? b=some u)(E:∀b,H b=some (.own a)->H' b=some (.own a)) (ht:∀b m,H b=some (.tup m)->H' b=some (.tup m)):ObjOk P w H' h' a o:=by
 induction o with
 |lst m=>obtain⟨z,l,n,r,e⟩:=x;exact#[z,l,n,r,k _ _ (.inl rZ) e]
 |tup m=>obtain⟨z,l,r,g,e,c⟩:=x;exact#[z,l,r,g,k _ _ (.inl rZ) e,c]
 |dK s=>obtain⟨z,y,G,r,g,i,j,e,c⟩:=x;exact#[z,y,G,r,g,i,j,k _ _ (.inl rZ) e,c]
 |dT s=>
  obtain⟨z,y,m,r,g,i,j,e,c⟩:=x;exact#[z,y,m,Paired.mapP r λp q z=>#[z.1,ht _ _ z.2.1,z.2.2],g,i,j,k _ _ (.inl rZ) e,c]
 |set S n=>obtain⟨g,i,j,t,e,c⟩:=x;exact#[g,i,j,t,k _ _ (.inl rZ) e,c]
 |ins C M fs=>
  obtain⟨d,z,I,e,A,⟨B,i,j,J,c⟩,r⟩:=x;exact#[E _ d,z,I,k _ _ (.inl rZ) e,A,#[B,i,j,k _ _ (.inr d) J,c],r]
 |own y=>obtain⟨g,e⟩:=x;exact#[g,k _ _ (.inl rZ) e]
 |xd fs=>obtain⟨A,⟨B,i,j,e,c⟩,r⟩:=x;exact#[A,#[B,i,j,k _ _ (.inl rZ) e,c],r]
 |rng lo N=>obtain⟨t,u,v,e⟩:=x;exact#[t,u,v,k _ _ (.inl rZ) e]
 |frz g u L=>obtain⟨e,q⟩:=x;exact#[k _ _ (.inl rZ) e,L q]
 |tbl D=>
  have e:h.get? a=some {cls:= .none,data:= .fields D}:=x;show h'.get? a=some {cls:= .none,data:= .fields D};exact k a _ (.inl rZ) e
 |met f y=>
  have e:h.get? a=some (PySem.W.methodObj (.ref f) (.ref y)):=x;show h'.get? a=some (PySem.W.methodObj (.ref f) (.ref y));exact k a _ (.inl rZ) e
 |ext O=>obtain⟨p,⟨o,e⟩,st⟩:=x;exact#[st _ _ p λo q=>k _ _ (.inl rZ) q,#[o,k _ _ (.inl rZ) e],st]
def HOk.lt(x:HOk P w H h)(e:H a=some o):a<h.objs.size:=(x a o e).lt
def HOk.fresh(x:HOk P w H h)(e:h.objs.size<=a):H a=none:=by
 cases q:H a with
 |none=>rfl
 |some u=>exact wC (j4 (x.lt q) e) (oC _)
def HOk.kept(x:HOk P w H h)(k:∀b u,h.get? b=some u->h'.get? b=some u):HOk P w H h':=λa o e=>
 (x a o e).stay (λb u _ q=>k b u q) (λ_ q=>q) λ_ _ q=>q
def HOk.laid(x:HOk P w H h)(k:∀b u,h.get? b=some u->h'.get? b=some u)(g:h.objs.size<=a)(new:ObjOk P w (gI H a o) h' a o):HOk P w (gI H a o) h':=λb u e=>by
 have d:=x.fresh g;by_cases f:b=a
 .subst f;rw[gO]at e;cases e;exact new
 .rw[gM f]at e;exact(x b u e).stay (λc v _ q=>k c v q) (λc q=>by rw[gM (iU q d)];exact q) λc i q=>by rw[gM (iU q d)];exact q
end
def Rd(H:Hp)(a:Ad)(u:HO):Prop:=H a=some u\/∃o,H a=some (.frz o u)
def Rd.ok{P:Pg}{w:World}{H:Hp}{h:Heap}{a:Ad}{u:HO}(r:Rd H a u)(x:HOk P w H h):ObjOk P w H h a u:=by
 rcases r with r|⟨o,r⟩
 .exact x a u r
 .obtain⟨_,q⟩:=x a _ r;exact q
def xK:Option HO->Prop
 |some (.lst _)=>True
 |some (.dK _)=>True
 |some (.dT _)=>True
 |some (.set _ _)=>True
 |some (.ins _ _ _)=>True
 |some (.ext _)=>True
 |_=>False
section
variable{P:Pg}{w:World}{H:Hp}{h h':Heap}{x e:Ad}{a:HO}
def HOk.write(ok:HOk P w H h)(i:xK (H x))(n:e=x\/H e=some (.own x))(k:∀b u,b≠e->h.get? b=some u->h'.get? b=some u)(m:∃u,h'.get? e=some u)(new:ObjOk P w (gI H x a) h' x a):HOk P w (gI H x a) h':=λb u q=>by
 have f:∀c y,H c=some (.own y)->c≠x:=λc y r z=>by subst z;rw[r]at i;exact i
 have g:∀c j,H c=some (.tup j)->c≠x:=λc j r z=>by subst z;rw[r]at i;exact i
 by_cases l:b=x
 .subst l;rw[gO]at q;cases q;exact new
 .rw[gM l]at q;by_cases d:b=e
  .have o:H b=some (.own x):=by
    rcases n with z|z
    .exact wC (d.trans z) l
    .rw[d];exact z
   rw[q]at o;cases o;obtain⟨v,p⟩:=m;exact#[v,by rw[d];exact p]
  .refine(ok b u q).stay (λc v hc r=>k c v ?_ r) (λc r=>by rw[gM (f c b r)];exact r) λc j r=>by rw[gM (g c j r)];exact r
   rcases hc with rfl|hc
   .exact d
   .rintro rfl
    rcases n with z|z
    .exact f c b hc z
    .rw[hc]at z;cases z;exact l rfl
end
structure Un(fs ex:As)(H H':Hp)(h h':Heap):Prop where
 keep:∀b o,h.get? b=some o->H b=none->b∉fs->b∉ex->h'.get? b=some o
 slot:∀b o,h.get? b=some o->H b=none->b∈fs->b∉ex->∃sl,h'.get? b=some {o with slots:=sl}
 free:∀b o,h.get? b=some o->H b=none->b∉ex->H' b=none
 there:∀b o,h.get? b=some o->b∉ex->∃o',h'.get? b=some o'
 tups:∀b xs,H b=some (.tup xs)->H' b=some (.tup xs)
 frzs:∀b o u,H b=some (.frz o u)->H' b=some (.frz o u)
 tbls:∀b ps,H b=some (.tbl ps)->∃more,H' b=some (.tbl (ps++more))
section
variable{fs f c i:As}{H g j:Hp}{h d l h':Heap}{a x e:Ad}{o:HO}
def Un.any(u:Un fs c H g h d){b:Ad}{ob:Obj}(q:h.get? b=some ob)(n:H b=none)(a:b∉c):∃sl,d.get? b=some {ob with slots:=sl}:=by
 by_cases e:b∈fs
 .exact u.slot b ob q n e a
 .exact#[ob.slots,u.keep b ob q n e a]
def Un.kept(k:∀b u,h.get? b=some u->h'.get? b=some u):Un fs c H H h h':=
 #[λb a q _ _ _=>k b a q,λb a q _ _ _=>#[a.slots,k b a q],λ_ _ _ n _=>n,λb a q _=>#[a,k b a q],λ_ _ q=>q,λ_ _ _ q=>q,λ_ d q=>#[#v[],by rw[q];simp]]
def Un.refl:Un fs c H H h h:=Un.kept λ_ _ q=>q
def Un.laid(k:∀b u,h.get? b=some u->h'.get? b=some u)(e:h.objs.size<=a)(d:H a=none):Un fs c H (gI H a o) h h' where
 keep:=λb u q _ _ _=>k b u q
 slot:=λb u q _ _ _=>#[u.slots,k b u q]
 free:=λb u q n _=>by rw[gM (iW (j4 (hV q) e))];exact n
 there:=λb u q _=>#[u,k b u q]
 tups:=λb f q=>by rw[gM (iU q d)];exact q
 frzs:=λb u f q=>by rw[gM (iU q d)];exact q
 tbls:=λb g q=>#[#v[],by rw[gM (iU q d),q];simp]
def Un.write(d:xK (H x))(l:e=x\/H e=some (.own x))(k:∀b u,b≠e->h.get? b=some u->h'.get? b=some u)(f:∃u,h'.get? e=some u):Un fs c H (gI H x o) h h':=by
 have i:∀b,H b=none->b≠x:=λb n z=>by subst z;rw[n]at d;exact d
 have j:∀b,H b=none->b≠e:=λb n z=>by
  subst z
  rcases l with r|r
  .exact i b n r
  .rw[n]at r;cases r
 have g:∀b u,H b=some u-> ¬xK (some u)->b≠x:=λb u q m z=>by subst z;rw[q]at d;exact m d
 refine#[λb u q n _ _=>k b u (j b n) q,λb u q n _ _=>#[u.slots,k b u (j b n) q],λb u q n _=>by rw[gM (i b n)];exact n,λb u q _=>?_,
  λb p q=>by rw[gM (g b _ q λz=>z)];exact q,λb u p q=>by rw[gM (g b _ q λz=>z)];exact q,λb s q=>#[#v[],by rw[gM (g b _ q λz=>z),q];simp]]
 by_cases a:b=e
 .subst a;exact f
 .exact#[u,k b u a q]
end
def A3(h:Heap)(H:Hp):As:=(List.range h.objs.size).filter λa=>(H a).isSome
def r3(h:Heap)(H:Hp):Heap:=PySem.W.hideAll h (A3 h H)
def M7(h:Heap)(H:Hp):(r3 h H).objs.size=h.objs.size:=PySem.W.hideAll_size _ _
def DP{h:Heap}{H:Hp}{b:Ad}{o:Obj}(e:h.get? b=some o)(n:H b=none):(r3 h H).get? b=some o:=
 yP _ e λa=>by
  have q:(H b).isSome=true:=(ji.mp a).2;rw[n]at q;simp at q
def LC{h:Heap}{H:Hp}{b:Ad}{o:Obj}(e:(r3 h H).get? b=some o):h.get? b=some o/\H b=none:=by
 have a:h.get? b=some o:=DW (A3 h H) e;refine#[a,?_];cases q:H b with
 |none=>rfl
 |some x=>
  have c:b∈A3 h H:=ji.mpr #[lY.mpr (hV a),by simp[q]];have z:(r3 h H).get? b=none:=zT (A3 h H) c;rw[z]at e;cases e
def JS(g h:Heap)(L:Ad):AO:=(List.range h.objs.size).filterMap λa=>if a=L\/(g.get? a).isSome=true then none else(h.get? a).map λo=>(a,o)
def rest(g h:Heap)(L d:Ad):AO:=(JS g h L).filter λp=>decide (p.1≠d)
structure Mod(K:N2)(mg:SV)(base:Heap):Prop where
 kin:K.In base
 glob:base.Ns mainGlobals mg
 blt:∃mb,base.Ns builtinsNs mb/\∀x:Str,x≠"__name__"->mb x=bootBuiltins x
 nolimit:base.NoLimit
structure Cx where
 prog:Pg
 w:World
 K:N2
 mg:SV
 base:Heap
 A:Ar
 N:Ss
 s₀:Sh
 H₀:Hp
 env:Env
 outer:List Env
 stack:List Env
 ex:As
 fn:Str->Bool
 calm:Bool
 pn:AO
 xe:VP
def iF(l:List Env):As:=l.filterMap (·.frame)
abbrev Cx.fs(X:Cx):As:=iF X.outer
def BY(a:Scope)(x:Str):Prop:=a.names.lookup x=some .local\/a.names.lookup x=some .cell\/a.names.lookup x=some .free
def Bd(a:Scope)(x:Str):Prop:=a.names.lookup x=some .local\/a.names.lookup x=some .cell
def CL(a:Env)(h:Heap)(m:SV)(x:Str)(u:Vl):Prop:=
 (a.kindOf x=some .local/\m x=some u)\/((a.kindOf x=some .cell\/a.kindOf x=some .free)/\∃c,a.cells.lookup x=some c/\h.IsCell c (some u))
structure Cx.Ok(X:Cx):Prop where
 mod:Mod X.K X.mg X.base
 kind:X.env.scope.kind=.function
 glob:X.env.globals=mainGlobals
 blt:X.env.builtins=builtinsNs
 above:X.s₀.heap.objs.size<=X.env.locals
 inj:∀x y c,X.env.cells.lookup x=some c->X.env.cells.lookup y=some c->x=y
 has:∀x,(X.env.kindOf x=some .cell\/X.env.kindOf x=some .free)->∃c,X.env.cells.lookup x=some c
 cab:∀x c,X.fn x=true->X.env.cells.lookup x=some c->X.s₀.heap.objs.size<=c
 hd:X.calm=true->X.A.handled=none
 frames:X.A.frames=some X.stack
 stk:X.stack=X.outer\/(X.stack=X.env::X.outer/\X.env.frame=some X.env.locals)
 exf:∀b∈X.ex,b≠X.env.locals/\∀x c,X.env.cells.lookup x=some c->c≠b
 bs:∀b o,X.base.get? b=some o->X.s₀.heap.get? b=some o/\X.H₀ b=none
 bsz:X.base.objs.size<=X.s₀.heap.objs.size
 noex:∀b o,X.base.get? b=some o->b∉X.ex
 exfs:∀b∈X.ex,b∉X.fs
 funs:X.s₀.heap.FunFrames X.base X.outer
 frf:∀b∈X.fs,X.H₀ b=none
structure Inv(X:Cx)(Z:AO)(σ:List (Option V))(H:Hp)(s:Sh):Prop where
 ok:X.Ok
 os:s.os=X.s₀.os
 bare:AllBare s.gens
 base:Un X.fs X.ex X.H₀ H X.s₀.heap s.heap
 loc:∃m,s.heap.Ns X.env.locals m/\∀(i:Nat) (x:Str) (v:V),X.N[i]?=some x->σ[i]?=some (some v)->BY X.env.scope x->∃u,RelV v u/\CL X.env s.heap m x u
 cell:∀x c,X.env.cells.lookup x=some c->∃v,s.heap.IsCell c v
 free:H X.env.locals=none
 freeC:∀x c,X.env.cells.lookup x=some c->H c=none
 pin:∀p∈X.pn++Z,s.heap.get? p.1=some p.2/\H p.1=none/\p.1≠X.env.locals/\p.1∉X.fs/\∀v,p.2.data≠ .cell v
 hok:HOk X.prog X.w H s.heap
 len:σ.length=X.N.length
section
variable{X:Cx}{Z:AO}{f:List (Option V)}{H H':Hp}{s:Sh}{h':Heap}
def Cx.Ok.nofr(ok:X.Ok){b:Ad}{o:Obj}(e:X.base.get? b=some o):b∉X.fs:=λa=>by
 have:=(ok.funs.mem a).1;rw[e]at this;cases this
def Inv.bs(I:Inv X Z f H s):∀b o,X.base.get? b=some o->s.heap.get? b=some o/\H b=none:=λb o e=>
 #[I.base.keep b o (I.ok.bs b o e).1 (I.ok.bs b o e).2 (I.ok.nofr e) (I.ok.noex b o e),I.base.free b o (I.ok.bs b o e).1 (I.ok.bs b o e).2 (I.ok.noex b o e)]
def Inv.bk(I:Inv X Z f H s):∀b o,X.base.get? b=some o->s.heap.get? b=some o:=λb o e=>(I.bs b o e).1
def Inv.mod(I:Inv X Z f H s):Mod X.K X.mg X.base:=I.ok.mod
def Inv.kIn(I:Inv X Z f H s):X.K.In s.heap:=I.ok.mod.kin.keeps I.bk
def Inv.lt(I:Inv X Z f H s):X.env.locals<s.heap.objs.size:=let⟨_,a,_⟩:=I.loc;a.lt
def Inv.sz(I:Inv X Z f H s):X.s₀.heap.objs.size<=s.heap.objs.size:=iP I.ok.above (ng I.lt)
def Inv.nofs(I:Inv X Z f H s){a:Ad}(h:s.heap.objs.size<=a):a∉X.fs:=λb=>by
 obtain⟨_,o,c,_⟩:=I.ok.funs.mem b;exact wC (j4 (hV c) (iP I.sz h)) (oC _)
def Inv.cne(I:Inv X Z f H s):∀x c,X.env.cells.lookup x=some c->c≠X.env.locals:=λx c e z=>by
 obtain⟨v,o,d,g⟩:=I.cell x c e;obtain⟨m,⟨h,i,j,a,b,_⟩,_⟩:=I.loc;rw[z,a]at d;cases d;rw[b]at g;cases g
def Inv.funs(I:Inv X Z f H s):s.heap.FunFrames X.base X.outer:=by
 have all:∀(l:List Env),(∀b∈iF l,b∈X.fs)->X.s₀.heap.FunFrames X.base l->s.heap.FunFrames X.base l:=by
  intro l
  induction l with
  |nil=>intro _ _;trivial
  |cons h r i=>
   intro g j;obtain⟨k,⟨L,o,a,m,n,p⟩,q⟩:=j;have c:L∈X.fs:=g L (by unfold iF;rw[List.filterMap_cons,a];exact List.mem_cons_self);obtain⟨sl,e⟩:=I.base.slot L o n (I.ok.frf L c) c λz=>I.ok.exfs L z c
   exact#[k,#[L,_,a,m,e,p],i (λb d=>g b (by unfold iF;rw[List.filterMap_cons,a];exact List.mem_cons_of_mem _ d)) q]
 exact all X.outer (λ_ d=>d) I.ok.funs
def Inv.stack(I:Inv X Z f H s):s.heap.FunFrames X.base X.stack:=by
 rcases I.ok.stk with e|⟨e,a⟩
 .rw[e];exact I.funs
 .rw[e];obtain⟨m,b,_⟩:=I.loc;refine .cons (by rw[I.ok.kind];decide) a b ?_ I.funs;exact An (iP I.ok.bsz I.ok.above)
def Inv.stkSub(I:Inv X Z f H s):∀b∈iF X.stack,b∈X.env.locals::X.fs:=λb a=>by
 rcases I.ok.stk with e|⟨e,c⟩
 .rw[e]at a;exact ja _ a
 .rw[e]at a;unfold iF at a;rw[List.filterMap_cons,c]at a;exact a
def Inv.stkFree(I:Inv X Z f H s):∀b∈iF X.stack,H b=none:=λb hb=>by
 rcases iu.mp (I.stkSub b hb)with e|hb
 .rw[e];exact I.free
 .obtain⟨_,o,a,_⟩:=I.ok.funs.mem hb;exact I.base.free b o a (I.ok.frf b hb) λz=>I.ok.exfs b z hb
def Inv.step{g':Array GenState}{t':Nat}{d':Drawn}{ch:As}(I:Inv X Z f H s)(g:∀b∈ch,(b∈X.ex\/X.s₀.heap.objs.size<=b)/\b≠X.env.locals/\(∀x c,X.env.cells.lookup x=some c->c≠b)/\∀p∈X.pn++Z,p.1≠b)(keep:∀b o,b≠X.env.locals->b∉X.fs->b∉ch->s.heap.get? b=some o->H b=none->h'.get? b=some o)(y:∀b o,b≠X.env.locals->b∈X.fs->b∉ch->s.heap.get? b=some o->H b=none->∃sl,h'.get? b=some {o with slots:=sl}) (free:∀b o,b∉ch->s.heap.get? b=some o->H b=none->H' b=none)
  (B:∀b o,b∉ch->s.heap.get? b=some o->∃E,h'.get? b=some E)
  (G:∀b A,H b=some (.tup A)->H' b=some (.tup A)) (J:∀b o u,H b=some (.frz o u)->H' b=some (.frz o u)) (L:∀b O,H b=some (.tbl O)->∃more,H' b=some (.tbl (O++more)))
  (ns:∀m,s.heap.Ns X.env.locals m->h'.Ns X.env.locals m) (Q:HOk X.prog X.w H' h') (hg:AllBare g'):
  Inv X Z f H' {s with heap:=h',gens:=g',drawn:=d',toks:=t'}:=by
 have M:∀b o,X.s₀.heap.get? b=some o->b≠X.env.locals:=λb o e=>iW (j4 (hV e) I.ok.above);have t:∀b o,X.s₀.heap.get? b=some o->b∉X.ex->b∉ch:=λb o e a C=>by
  rcases (g b C).1 with z|z
  .exact a z
  .exact wC (j4 (hV e) z) (oC _)
 have h:∀x c,X.env.cells.lookup x=some c->∀v,s.heap.IsCell c v->h'.IsCell c v:=λx c e v ⟨o,D,T⟩=>by
  have j:c∉ch:=λz=>(g c z).2.2.1 x c e rfl;by_cases Y:c∈X.fs
  .obtain⟨sl,q⟩:=y c o (I.cne x c e) Y j D (I.freeC x c e);exact#[_,q,T]
  .exact#[o,keep c o (I.cne x c e) Y j D (I.freeC x c e),T]
 refine#[I.ok,I.os,hg,#[λb o e n C a=>?_,λb o e n C a=>?_,λb o e n a=>?_,λb o e a=>?_,λb A e=>G b A (I.base.tups b A e),λb o A e=>J b o A (I.base.frzs b o A e),λb O e=>?_],?_,λx c e=>?_,?_,λx c e=>?_,λp hp=>?_,Q,I.len]
 .exact keep b o (M b o e) C (t b o e a) (I.base.keep b o e n C a) (I.base.free b o e n a)
 .obtain⟨sl,w⟩:=I.base.slot b o e n C a;obtain⟨U,N⟩:=y b _ (M b o e) C (t b o e a) w (I.base.free b o e n a);exact#[U,N]
 .obtain⟨E,w⟩:=I.base.there b o e a;exact free b E (t b o e a) w (I.base.free b o e n a)
 .obtain⟨E,w⟩:=I.base.there b o e a;exact B b E (t b o e a) w
 .obtain⟨m1,w⟩:=I.base.tbls b O e;obtain⟨m2,N⟩:=L b _ w;exact#[m1++m2,by rw[N,Array.append_assoc]]
 .obtain⟨m,hn,hl⟩:=I.loc;refine#[m,ns m hn,λi x v w N e3=>?_];obtain⟨u,r,l⟩:=hl i x v w N e3;refine#[u,r,?_]
  rcases l with l|⟨k,c,e,z⟩
  .exact .inl l
  .exact .inr #[k,c,e,h x c e _ z]
 .obtain⟨v,z⟩:=I.cell x c e;exact#[v,h x c e v z]
 .obtain⟨m,⟨o,_,_,D,_⟩,_⟩:=I.loc;exact free _ o (λz=>(g _ z).2.1 rZ) D I.free
 .obtain⟨v,o,D,T⟩:=I.cell x c e;exact free c o (λz=>(g c z).2.2.1 x c e rZ) D (I.freeC x c e)
 .obtain⟨e,n,ne,nf,d⟩:=I.pin p hp;have j:p.1∉ch:=λz=>(g p.1 z).2.2.2 p hp rfl;exact#[keep p.1 p.2 ne nf j e n,free p.1 p.2 j e n,ne,nf,d]
def Inv.un{t':Nat}(I:Inv X Z f H s)(u:Un X.fs [] H H' s.heap h')(c:HOk X.prog X.w H' h'):Inv X Z f H' {s with heap:=h',toks:=t'}:=by
 obtain⟨m,⟨o,p,q,i,r⟩,_⟩:=id I.loc;obtain⟨sl,j⟩:=u.any i I.free (by simp);exact I.step (g':=s.gens) (d':=s.drawn) (ch:=[]) (λ_ z=>nomatch z) (λb o _ d _ e n=>u.keep b o e n d (by simp)) (λb o _ d _ e n=>u.slot b o e n d (by simp)) (λb o _ e n=>u.free b o e n (by simp)) (λb o _ e=>u.there b o e (by simp)) u.tups u.frzs u.tbls (λt k=>by
  obtain⟨v,g,h,a,l⟩:=k;rw[i]at a;cases a;exact#[_,g,h,j,l]) c I.bare
def Inv.call{g':Array GenState}{t':Nat}{d':Drawn}{ch:As}(I:Inv X Z f H s)(u:Un (iF X.stack) ch H H' s.heap h')(h:HOk X.prog X.w H' h')(q:AllBare g')(d:∀b∈ch,(b∈X.ex\/X.s₀.heap.objs.size<=b)/\b≠X.env.locals/\(∀x c,X.env.cells.lookup x=some c->c≠b)/\∀p∈X.pn++Z,p.1≠b):
  Inv X Z f H' {s with heap:=h',gens:=g',drawn:=d',toks:=t'}:=by
 obtain⟨m,⟨o,y,A,l,r⟩,_⟩:=id I.loc;obtain⟨sl,i⟩:=u.any l I.free λz=>(d _ z).2.1 rfl;exact I.step (ch:=ch) d (λb o i t a e n=>u.keep b o e n (λz=>(iu.mp (I.stkSub b z)).elim i t) a) (λb o _ _ a e n=>u.any e n a) (λb o a e n=>u.free b o e n a) (λb o a e=>u.there b o e a) u.tups u.frzs u.tbls (λB v=>by
  obtain⟨C,j,k,g,w⟩:=v;rw[l]at g;cases g;exact#[_,j,k,i,w]) h q
def Inv.turned{t':Nat}{it:Ad}(I:Inv X Z f H s)(k:∀b o,b≠it->s.heap.get? b=some o->h'.get? b=some o)(h:H it=none)(g:it≠X.env.locals)(i:it∈X.ex\/X.s₀.heap.objs.size<=it) (j:∀x c,X.env.cells.lookup x=some c->c≠it) (l:∀p∈X.pn++Z,p.1≠it):Inv X Z f H {s with heap:=h',toks:=t'}:=by
 have d:∀b u,H b=some u->b≠it:=λb u e z=>by rw[z,h]at e;cases e
 refine I.step (g':=s.gens) (d':=s.drawn) (ch:=[it]) (λb t=>?_) (λb o _ _ a e _=>k b o (λz=>a (by simp[z])) e) (λb o _ _ a e _=>#[o.slots,k b o (λz=>a (by simp[z])) e]) (λ_ _ _ _ n=>n)
  (λb o a e=>#[o,k b o (λz=>a (by simp[z])) e]) (λ_ _ e=>e) (λ_ _ _ e=>e) (λb C e=>#[#v[],by rw[e];simp]) (λm w=>?_) (λb u e=>?_) I.bare
 .have e:b=it:=by simpa using t
  subst e;exact#[i,g,j,l]
 .obtain⟨o,y,A,B,r⟩:=w;exact#[o,y,A,k _ o (jd g) B,r]
 .refine(I.hok b u e).stay (λc v a q=>k c v ?_ q) (λ_ q=>q) λ_ _ q=>q
  rcases a with z|z
  .rw[z];exact d b u e
  .exact d c _ z
def Inv.tok(I:Inv X Z f H s)(t:Nat):Inv X Z f H {s with toks:=t}:=I.un (h':=s.heap) (t':=t) Un.refl I.hok
def Inv.kept{t':Nat}(I:Inv X Z f H s)(k:∀b u,s.heap.get? b=some u->h'.get? b=some u):Inv X Z f H {s with heap:=h',toks:=t'}:=I.un (Un.kept k) (I.hok.kept k)
def Inv.laid{a:Ad}{o:HO}{t':Nat}(I:Inv X Z f H s)(k:∀b u,s.heap.get? b=some u->h'.get? b=some u)(c:s.heap.objs.size<=a)(new:ObjOk X.prog X.w (gI H a o) h' a o):
  Inv X Z f (gI H a o) {s with heap:=h',toks:=t'}:=I.un (Un.laid k c (I.hok.fresh c)) (I.hok.laid k c new)
def Inv.write{x e:Ad}{o:HO}{t':Nat}(I:Inv X Z f H s)(c:xK (H x))(d:e=x\/H e=some (.own x))(k:∀b u,b≠e->s.heap.get? b=some u->h'.get? b=some u)(a:∃u,h'.get? e=some u)(new:ObjOk X.prog X.w (gI H x o) h' x o):Inv X Z f (gI H x o) {s with heap:=h',toks:=t'}:=I.un (Un.write c d k a) (I.hok.write c d k a new)
def Inv.weak{a:List (Option V)}(I:Inv X Z f H s)(c:a.length=f.length)(w:∀(i:Nat) v,a[i]?=some (some v)->f[i]?=some (some v)):Inv X Z a H s:=
 #[I.ok,I.os,I.bare,I.base,let⟨m,d,b⟩:=I.loc;#[m,d,λi x v e g h=>b i x v e (w i v g) h],I.cell,I.free,I.freeC,I.pin,I.hok,c.trans I.len]
def Inv.pins_of{a:AO}(I:Inv X Z f H s)(h:∀p∈a,s.heap.get? p.1=some p.2/\H p.1=none/\p.1≠X.env.locals/\p.1∉X.fs/\∀v,p.2.data≠ .cell v):Inv X a f H s:=
 #[I.ok,I.os,I.bare,I.base,I.loc,I.cell,I.free,I.freeC,λp b=>(iC.mp b).elim (λz=>I.pin p (rB _ z)) (h p),I.hok,I.len]
def HF{N:Ss}(c:N.Nodup){i j:Nat}{x:Str}(a:N[i]?=some x)(b:N[j]?=some x):i=j:=by
 obtain⟨f,d⟩:=gV.mp a;obtain⟨g,e⟩:=gV.mp b;exact(CP c).mp (d.trans e.symm)
def EA{M:Model}{A:Ar}{E:VP}{i:Nat}{x:Str}{v:V}{u:Vl}{Q:Unit->Sh->Prop}(I:Inv X Z f H s)(hN:X.N.Nodup)(N:X.N[i]?=some x)(w:Bd X.env.scope x)(r:RelV v u)(h:∀s',Inv X Z (f.set i (some v)) H s'->(∃a,Heap.SameBut a s.heap s'.heap/\(a=X.env.locals\/X.env.cells.lookup x=some a))->Q ⟨⟩ s') (hf:X.fn x=true\/X.env.scope.names.lookup x=some .local:=by first|exact .inl rfl|exact .inr rfl|assumption):wpAny M A (storeName X.env x u) Q E s:=by
 obtain⟨m,hn,hl⟩:=id I.loc;have O:(X.env.scope.kind== .class || (X.env.scope.kind== .module&&X.env.locals != X.env.globals))=false:=by rw[I.ok.kind];rfl
 have D:i<f.length:=by rw[I.len];exact(gV.mp N).1
 have cne:=I.cne;have l:∀{a:Ad} {h':Heap},(∃o,s.heap.get? a=some o/\H a=none)->Heap.SameBut a s.heap h'->HOk X.prog X.w H h':=λ{a h'} ha g b ob e=>by
  obtain⟨_,_,B⟩:=ha;refine(I.hok b ob e).stay (λc w' hc q=>(g.2 c ?_).trans q) (λ_ q=>q) λ_ _ q=>q;rintro rfl
  rcases hc with rfl|hc
  .rw[B]at e;cases e
  .rw[B]at hc;cases hc
 rcases w with hk|hk
 .refine wpAny_storeName_local hk hn (λh' ab g=>?_) O;obtain⟨oL,_,_,ae,_⟩:=id hn;refine h _ #[I.ok,I.os,I.bare,#[λb o e n G w=>?_,λb o e n G w=>?_,I.base.free,λb o e w=>?_,I.base.tups,I.base.frzs,I.base.tbls],#[_,ab,λj y v' t C e3=>?_],λy c e=>?_,I.free,I.freeC,λp hp=>?_,l #[oL,ae,I.free] g,by simpa using I.len] #[_,g,.inl rZ]
  .exact(g.2 b (iW (j4 (hV e) I.ok.above))).trans (I.base.keep b o e n G w)
  .obtain⟨sl,t⟩:=I.base.slot b o e n G w;exact#[sl,(g.2 b (iW (j4 (hV e) I.ok.above))).trans t]
  .obtain⟨o',t⟩:=I.base.there b o e w;exact#[o',(g.2 b (iW (j4 (hV e) I.ok.above))).trans t]
  .by_cases J:j=i
   .subst J;rw[N]at t;cases t;rw[List.getElem?_set_self D]at C;cases C;exact#[u,r,.inl #[hk,by simp]]
   .rw[List.getElem?_set_ne (jd J)]at C;obtain⟨u',r',q⟩:=hl j y v' t C e3;refine#[u',r',?_]
    rcases q with⟨k,e⟩|⟨k,c,e,z⟩
    .refine .inl #[k,?_];have:y≠x:=λe=>J (HF hN t (e▸N));simp[this,e]
    .exact .inr #[k,c,e,z.sameBut g (cne y c e)]
  .obtain⟨w',z⟩:=I.cell y c e;exact#[w',z.sameBut g (cne y c e)]
  .obtain⟨e,n,ne,nf,d⟩:=I.pin p hp;exact#[(g.2 p.1 ne).trans e,n,ne,nf,d]
 .have L:X.fn x=true:=by
   rcases hf with z|z
   .exact z
   .rw[z]at hk;cases hk
  obtain⟨c,hc⟩:=I.ok.has x (.inl hk);obtain⟨w',z⟩:=I.cell x c hc;refine wpAny_storeName_cell I.ok.kind hk hc z (λh' T g=>?_);obtain⟨oc,U,Y⟩:=id z;refine h {s with heap:=h'} #[I.ok,I.os,I.bare,#[λb o e n G w=>?_,λb o e n G w=>?_,I.base.free,λb o e w=>?_,I.base.tups,I.base.frzs,I.base.tbls],#[m,hn.sameBut g (jd (cne x c hc)),λj y v' t C e3=>?_],λy c' e=>?_,I.free,I.freeC,λp hp=>?_,l #[oc,U,I.freeC x c hc] g,by simpa using I.len] #[c,g,.inr hc]
  .exact(g.2 b (iW (j4 (hV e) (I.ok.cab x c L hc)))).trans (I.base.keep b o e n G w)
  .obtain⟨sl,t⟩:=I.base.slot b o e n G w;exact#[sl,(g.2 b (iW (j4 (hV e) (I.ok.cab x c L hc)))).trans t]
  .obtain⟨o',t⟩:=I.base.there b o e w;exact#[o',(g.2 b (iW (j4 (hV e) (I.ok.cab x c L hc)))).trans t]
  .by_cases J:j=i
   .subst J;rw[N]at t;cases t;rw[List.getElem?_set_self D]at C;cases C;exact#[u,r,.inr #[.inl hk,c,hc,T]]
   .rw[List.getElem?_set_ne (jd J)]at C;obtain⟨u',r',q⟩:=hl j y v' t C e3;refine#[u',r',?_]
    rcases q with q|⟨k,c',e,z'⟩
    .exact .inl q
    .refine .inr #[k,c',e,z'.sameBut g ?_];rintro rfl;exact J (HF hN t (I.ok.inj _ _ _ e hc▸N))
  .by_cases aa:c'=c
   .subst aa;exact#[_,T]
   .obtain⟨w2,z2⟩:=I.cell y c' e;exact#[w2,z2.sameBut g aa]
  .obtain⟨e,n,ne,nf,d⟩:=I.pin p hp;refine#[(g.2 p.1 ?_).trans e,n,ne,nf,d];intro q;rw[q,U]at e;have q':oc=p.2:=lX e;exact d w' (by rw[<-q'];exact Y)
def Fn{M:Model}{A:Ar}{E:VP}{i:Nat}{x:Str}{v:V}{u:Vl}{Q:Unit->Sh->Prop}(I:Inv X Z f H s)(b:X.N.Nodup)(c:X.N[i]?=some x)(d:Bd X.env.scope x)(r:RelV v u)(h:∀a,Inv X Z (f.set i (some v)) H a->Q ⟨⟩ a) (e:X.fn x=true\/X.env.scope.names.lookup x=some .local:=by first|exact .inl rfl|exact .inr rfl|assumption):wpAny M A (storeName X.env x u) Q E s:=
 EA I b c d r (λa g _=>h a g) e
def Inv.call'{a:Sh}{ch:As}(I:Inv X Z f H s)(h:a.os=s.os)(u:Un (iF X.stack) ch H H' s.heap a.heap)(d:HOk X.prog X.w H' a.heap)(i:AllBare a.gens)(g:∀b∈ch,(b∈X.ex\/X.s₀.heap.objs.size<=b)/\b≠X.env.locals/\(∀x c,X.env.cells.lookup x=some c->c≠b)/\∀p∈X.pn++Z,p.1≠b):Inv X Z f H' a:=by
 obtain⟨h',g',d',t',j⟩:=a;have e:j=s.os:=h;subst e;exact I.call (g':=g') (t':=t') (d':=d') u d i g
end
abbrev XK:=Vl->Option Ad->Hp->Prop
abbrev St:=List (Option V)
abbrev VK:=V->Hp->Prop
abbrev TE:=St->Hp->VK->Prop
abbrev TT:=St->Hp->(Bool->Hp->Prop)->Prop
abbrev TA:=St->Hp->(List V->Hp->Prop)->Prop
structure Ends where
 nx:St->Hp->Prop
 rt:VK
 bk:St->Hp->Prop:=λ_ _=>False
 ct:St->Hp->Prop:=λ_ _=>False
abbrev TS:=Ends->St->Hp->Prop
def EP(X:Cx)(Z:AO)(b:St)(Q:VK)(u:Vl)(c:Sh):Prop:=∃v a,Inv X Z b a c/\RelV v u/\Q v a
def TP(X:Cx)(Z:AO)(c:St)(Q:Bool->Hp->Prop)(b:Bool)(d:Sh):Prop:=∃a,Inv X Z c a d/\Q b a
def AP(X:Cx)(Z:AO)(c:St)(Q:List V->Hp->Prop)(d:Vs)(e:Sh):Prop:=∃a b,Inv X Z c b e/\Vals a d/\Q a b
def SP(X:Cx)(Z:AO)(D:Ends)(f:Flow)(c:Sh):Prop:=
 match f with
 |.next=>∃a b,Inv X Z a b c/\D.nx a b
 |.brk=>∃a b,Inv X Z a b c/\D.bk a b
 |.cont=>∃a b,Inv X Z a b c/\D.ct a b
 |.ret u=>∃v a b,Inv X Z a b c/\RelV v u/\D.rt v b
def PE(X:Cx)(e:Expr)(t:TE):Prop:=
 ∀(Z:AO) (s:Sh) (a:St) (H:Hp) (Q:VK),Inv X Z a H s->t a H Q->wpAny (model X.prog X.w) X.A (eval e X.env) (EP X Z a Q) X.xe s
def PT(X:Cx)(e:Expr)(t:TT):Prop:=
 ∀(Z:AO) (s:Sh) (a:St) (H:Hp) (Q:Bool->Hp->Prop),Inv X Z a H s->t a H Q->wpAny (model X.prog X.w) X.A (isTrue e X.env (eval e X.env)) (TP X Z a Q) X.xe s
def PW(X:Cx)(e:Expr)(t:TT):Prop:=
 ∀(a:Sem Vl) (Z:AO) (s:Sh) (b:St) (H:Hp) (Q:Bool->Hp->Prop),Inv X Z b H s->t b H Q->wpAny (model X.prog X.w) X.A (isTrue e X.env a) (TP X Z b Q) X.xe s
def PW.pt{X:Cx}{e:Expr}{t:TT}(h:PW X e t):PT X e t:=h _
def PA(X:Cx)(c:List Expr)(t:TA):Prop:=
 ∀(a:Pos) (Z:AO) (s:Sh) (b:St) (H:Hp) (Q:List V->Hp->Prop),Inv X Z b H s->t b H Q->wpAny (model X.prog X.w) X.A (spliced (backTo a (starEach c X.env))) (AP X Z b Q) X.xe s
def PS(X:Cx)(st:Stmt)(t:TS):Prop:=
 ∀(Z:AO) (s:Sh) (a:St) (H:Hp) (D:Ends),Inv X Z a H s->t D a H->wpAny (model X.prog X.w) X.A (exec st X.env) (SP X Z D) X.xe s
def PSs(X:Cx)(st:List Stmt)(t:TS):Prop:=
 ∀(Z:AO) (s:Sh) (a:St) (H:Hp) (D:Ends),Inv X Z a H s->t D a H->wpAny (model X.prog X.w) X.A (execs st X.env) (SP X Z D) X.xe s
def gY{b:Type}{t:Sem b}{Q c:b->Sh->Prop}{M:Model}{A:Ar}{E:VP}{s:Sh}(h:wpAny M A t Q E s)(d:∀a s,Q a s->c a s):wpAny M A t c E s:=kS h d λ_ _ x=>x
section
variable{X:Cx}
inductive ir(i:Nat)(a:St)(H:Hp)(Q:VK):Prop|mk:∀v,a[i]?=some (some v)->Q v H->ir i a H Q
def tC(v:V):TE:=λ_ H Q=>Q v H
def Ma{i:Nat}{x:Str}{f:Pos}(j:X.N[i]?=some x)(k:BY X.env.scope x)(b:(x==("__debug__":Str))=false:=by decide)(d:(x==("__classdict__":Str))=false:=by decide):PE X (.Name x f) (ir i):=by
 intro Z s n H Q I h;obtain⟨v,e,h⟩:=h;obtain⟨m,o,p⟩:=I.loc;obtain⟨u,r,l⟩:=p i x v j e k;have fin:EP X Z n Q u s:=#[v,H,I,r,h]
 rcases l with⟨hk,q⟩|⟨hk,c,g,a⟩
 .exact wpAny_Name (wpAny_loadName_local I.ok.kind hk o q fin) b
 .rcases hk with hk|hk
  .exact wpAny_Name (wpAny_loadName_cell I.ok.kind hk g a fin) b
  .exact wpAny_Name (wpAny_loadName_free I.ok.kind hk g a fin d) b
def iI{i j f}:PE X (.Constant (.int i) j f) (tC (.int i)):=λ_ _ _ H _ I h=>wpAny_Constant_int #[.int i,H,I.tok _,#[_,rZ],h]
def nV{b j f}:PE X (.Constant (.bool b) j f) (tC (.bl b)):=λ_ _ _ H _ I h=>Constant_bool #[.bl b,H,I,rZ,h]
def Ir{j f}:PE X (.Constant .none j f) (tC .non):=λ_ _ _ H _ I h=>Constant_none #[.non,H,I,rZ,h]
def Gl(X:Cx)(x:Str):Prop:=X.env.kindOf x=some .globalImplicit
def uZ{E:VP}{Z:AO}{s:Sh}{a:St}{H:Hp}{x:Str}{u:Vl}{f:Pos}{Q:VP}(I:Inv X Z a H s)(b:Gl X x)(c:X.mg x=some u)(h:Q u s)(d:(x==("__debug__":Str))=false:=by decide):wpAny (model X.prog X.w) X.A (eval (.Name x f) X.env) Q E s:=
 ER I.ok.kind b (Calls.loadGlobal_global (by rw[I.ok.glob];exact I.mod.glob.keeps I.bk) c h) d
def yF{E:VP}{Z:AO}{s:Sh}{a:St}{H:Hp}{x:Str}{u:Vl}{f:Pos}{Q:VP}(I:Inv X Z a H s)(b:Gl X x)(c:X.mg x=none)(d:bootBuiltins x=some u)(h:Q u s)(e:x≠"__name__":=by decide) (g:(x==("__debug__":Str))=false:=by decide):wpAny (model X.prog X.w) X.A (eval (.Name x f) X.env) Q E s:=by
 obtain⟨k,i,j⟩:=I.mod.blt;exact ER I.ok.kind b (Calls.loadGlobal_builtin (by rw[I.ok.glob];exact I.mod.glob.keeps I.bk) c (by rw[I.ok.blt];exact i.keeps I.bk) ((j x e).trans d) h) g
variable{a b:Expr}{o n:TE}{f:Pos}
def PC(X:Cx)(f:CmpOp)(a b:Expr)(t:TE):Prop:=
 ∀(Z:AO) (s:Sh) (e:St) (H:Hp) (Q:VK),Inv X Z e H s->t e H Q->
  wpAny (model X.prog X.w) X.A (eval a X.env) (λv c=>wpAny (model X.prog X.w) X.A (eval b X.env) (λu d=>wpAny (model X.prog X.w) X.A (compareOp f v u) (EP X Z e Q) X.xe d) X.xe c) X.xe s
def Hg(b:Expr){a:CmpOp}(h:a≠ .In)(c:a≠ .NotIn):behindInMarks a b=false:=by
 have d:(a==CmpOp.In)=false:=by cases a<;>first|rfl|exact wC rZ h
 have e:(a==CmpOp.NotIn)=false:=by cases a<;>first|rfl|exact wC rZ c
 cases b<;>simp[behindInMarks,d,e]
def tB(t:TE):TT:=λa H Q=>t a H λx b=>∃c,x=.bl c/\Q c b
def Fz{c:CmpOp}{t:TE}(h:PC X c a b t)(d:behindInMarks c b=false:=by first|exact Hg _ (by decide) (by decide)|rfl):PE X (.Compare a [c] [b] f) t:=λZ s e H Q I hw=>wpAny_Compare1 (h Z s e H Q I hw) d
def v8{e:CmpOp}{t:TE}(h:PC X e a b t)(g:behindInMarks e b=false:=by first|exact Hg _ (by decide) (by decide)|rfl):PT X (.Compare a [e] [b] f) (tB t):=by
 intro Z s i H Q I hw;refine wpAny_isTrue_Compare1 (gY (h Z s i H _ I hw) λv o g=>gY g λu p j=>gY j λc r ⟨x,k,l,m,n⟩=>?_) g;obtain⟨d,rfl,q⟩:=n;cases m;exact tq #[k,l,q]
def u6{e:Expr}{t:TE}(h:PE X e t)(b:∀a,isTrue e X.env a=(do let v <-a;standAt e.pos;holding [v] (truthy v)):=by intro _;rfl):PT X e (tB t):=by
 intro Z s c H Q I hw;refine isTrue_plain (gY (h Z s c H _ I hw) λv k ⟨x,f,g,i,j⟩=>?_) (b _);obtain⟨d,rfl,q⟩:=j;cases i;exact tq #[f,g,q]
variable{g k:TT}{rest:List Expr}
def Ch(t u:TT):TT:=λa H Q=>t a H λc b=>if c=true then u a b Q else Q false b
def Li(t u:TT):TT:=λa H Q=>t a H λc b=>if c=true then Q true b else u a b Q
def Cp(t:TT):TT:=λa H Q=>t a H λc b=>Q (!c) b
def Bl(b:PT X a g):PW X (.BoolOp .And [a] f) g:=by
 intro i Z s d H Q I h;refine isTrue_and (gY (b Z s d H Q I h) λc j e=>?_);cases c with
 |true=>exact isTrue_and_nil e
 |false=>exact e
def DE(b:PT X a g):PW X (.BoolOp .Or [a] f) g:=by
 intro i Z s d H Q I h;refine isTrue_or (gY (b Z s d H Q I h) λc j e=>?_);cases c with
 |false=>exact isTrue_or_nil e
 |true=>exact e
def Br(l:PT X a g)(m:PW X (.BoolOp .And (b::rest) f) k):PW X (.BoolOp .And (a::b::rest) f) (Ch g k):=by
 intro n Z s d H Q I h;refine isTrue_and (gY (l Z s d H _ I h) λc o ⟨e,i,j⟩=>?_);cases c with
 |true=>exact m n Z o d e Q i j
 |false=>exact#[e,i,j]
def xX(l:PT X a g)(m:PW X (.BoolOp .Or (b::rest) f) k):PW X (.BoolOp .Or (a::b::rest) f) (Li g k):=by
 intro n Z s d H Q I h;refine isTrue_or (gY (l Z s d H _ I h) λc o ⟨e,i,j⟩=>?_);cases c with
 |true=>exact#[e,i,j]
 |false=>exact m n Z o d e Q i j
def Bs(b:PT X a g):PT X (.UnaryOp .Not a f) (Cp g):=by
 intro Z s d H Q I h;exact isTrue_not (b Z s d H (λc e=>Q (!c) e) I h)
def yf(o n:TE):TE:=λa H Q=>o a H λx b=>∃c,x=.bl c/\if c=true then n a b Q else Q (.bl false) b
def Ei{b}{t:TE}(h:PE X a t):PE X (.BoolOp b [a] f) t:=λZ s c H Q I hw=>BoolOp_one (h Z s c H Q I hw)
def FP(j:PE X a o)(k:PE X (.BoolOp .And (b::rest) f) n):PE X (.BoolOp .And (a::b::rest) f) (yf o n):=by
 intro Z s e H Q I h;refine BoolOp_and (gY (j Z s e H _ I h) λv l ⟨x,g,i,m,d⟩=>?_);obtain⟨c,rfl,d⟩:=d;cases m;refine tq ?_;cases c with
 |true=>exact k Z l e g Q i d
 |false=>exact#[.bl false,g,i,rZ,d]
end
def SqL(K:N2)(H:Hp)(a:Ad)(c:List V):Prop:=
 Rd H a (.lst c)\/
  ∃(o:Obj) (b:AV) (n:Nat),K.lookup a=some o/\o.cls=.type "list"/\o.dict=none/\o.data=.seq b n/\b.size<=sizeLine/\Vals c b.toList
def SqT(K:N2)(H:Hp)(a:Ad)(c:List V):Prop:=
 Rd H a (.tup c)\/
  ∃(o:Obj) (b:AV) (n:Nat),K.lookup a=some o/\o.cls=.type "tuple"/\o.data=.seq b n/\b.size<=sizeLine/\Vals c b.toList
def DQ:Vl->Option V
 |.none=>some .non
 |.bool b=>some (.bl b)
 |.int i _=>some (.int i)
 |.str x _=>some (.str x)
 |.bytes b _=>some (.byt b)
 |.float b _=>some (.flt b)
 |.ref a=>some (.ref a)
 |.type n=>some (.ty n)
 |_=>none
def RelV.abs{x:V}{u:Vl}(r:RelV x u):DQ u=some x:=by
 cases x with
 |non=>cases r;rfl
 |bl _=>cases r;rfl
 |int _=>obtain⟨t,rfl⟩:=r;rfl
 |str _=>obtain⟨t,rfl⟩:=r;rfl
 |byt _=>obtain⟨t,rfl⟩:=r;rfl
 |flt _=>obtain⟨t,rfl⟩:=r;rfl
 |ref _=>cases r;rfl
 |ty _=>cases r;rfl
def RelV.inj{x y:V}{u:Vl}(r:RelV x u)(q:RelV y u):x=y:=lX (r.abs.symm.trans q.abs)
theorem Vals.inj:∀{a b:List V} {c:Vs},Vals a c->Vals b c->a=b
 |_,_,_,.nil,.nil=>rfl
 |_,_,_,.cons r t,.cons d e=>by rw[r.inj d,Vals.inj t e]
section
variable{X:Cx}{Z:AO}{b:St}{H:Hp}{s:Sh}{a:Ad}{xs c:List V}
def N'{K:N2}(h:H a=some (.lst xs)):SqL K H a xs:= .inl (.inl h)
def N1{K:N2}(h:H a=some (.tup xs)):SqT K H a xs:= .inl (.inl h)
def Inv.list(I:Inv X Z b H s)(h:SqL X.K H a xs):∃its:Vs,Vals xs its/\PlainL s.heap a its.toArray/\xs.length<=sizeLine:=by
 rcases h with h|⟨o,its,n,c,d,f,g,i,r⟩
 .obtain⟨z,its,n,r,e⟩:=h.ok I.hok;exact#[its,r,#[_,n,e,rZ,rZ,rZ],z]
 .refine#[its.toList,r,#[o,n,I.kIn a o c,d,f,by simpa using g],?_];have e:=r.length;simp only[Array.length_toList]at e;lia
def Inv.tuple(I:Inv X Z b H s)(h:SqT X.K H a xs):∃its:Vs,Vals xs its/\IsTup s.heap a its.toArray/\xs.length<=sizeLine:=by
 rcases h with h|⟨o,its,n,c,d,f,g,r⟩
 .obtain⟨z,its,r,p⟩:=h.ok I.hok;exact#[its,r,p.is,z]
 .refine#[its.toList,r,#[o,I.kIn a o c,d,n,by simpa using f],?_];have e:=r.length;simp only[Array.length_toList]at e;lia
def Inv.list_inj(I:Inv X Z b H s)(h:SqL X.K H a xs)(h':SqL X.K H a c):xs=c:=by
 obtain⟨g,r,⟨o,n,e,_,_,d⟩,_⟩:=I.list h;obtain⟨f,j,⟨l,m,i,_,_,d'⟩,_⟩:=I.list h';rw[e]at i;cases i;rw[d]at d';injection d' with k _
 have:g=f:=by simpa using congrArg Array.toList k
 subst this;exact r.inj j
def Inv.tuple_inj(I:Inv X Z b H s)(h:SqT X.K H a xs)(h':SqT X.K H a c):xs=c:=by
 obtain⟨g,r,⟨o,e,_,n,d⟩,_⟩:=I.tuple h;obtain⟨f,j,⟨l,i,_,m,d'⟩,_⟩:=I.tuple h';rw[e]at i;cases i;rw[d]at d';injection d' with k _
 have:g=f:=by simpa using congrArg Array.toList k
 subst this;exact r.inj j
end
abbrev Cx.wish(X:Cx)(E:VP):Cx:={X with xe:=E}
abbrev Cx.nox(X:Cx):Cx:=X.wish λ_ _=>False
def Cx.Ok.wish{X:Cx}(ok:X.Ok)(E:VP):(X.wish E).Ok:=
 #[ok.mod,ok.kind,ok.glob,ok.blt,ok.above,ok.inj,ok.has,ok.cab,ok.hd,ok.frames,ok.stk,ok.exf,ok.bs,ok.bsz,ok.noex,ok.exfs,ok.funs,ok.frf]
def Cx.Ok.unwish{X:Cx}{E:VP}(ok:(X.wish E).Ok):X.Ok:=
 #[ok.mod,ok.kind,ok.glob,ok.blt,ok.above,ok.inj,ok.has,ok.cab,ok.hd,ok.frames,ok.stk,ok.exf,ok.bs,ok.bsz,ok.noex,ok.exfs,ok.funs,ok.frf]
section
variable{X:Cx}{Z:AO}{a:St}{H:Hp}{s:Sh}{E:VP}
def Inv.wish(I:Inv X Z a H s)(E:VP):Inv (X.wish E) Z a H s:=#[I.ok.wish E,I.os,I.bare,I.base,I.loc,I.cell,I.free,I.freeC,I.pin,I.hok,I.len]
def Inv.unwish(I:Inv (X.wish E) Z a H s):Inv X Z a H s:=#[I.ok.unwish,I.os,I.bare,I.base,I.loc,I.cell,I.free,I.freeC,I.pin,I.hok,I.len]
def SP.unwish{D:Ends}{f:Flow}{c:Sh}(h:SP (X.wish E) Z D f c):SP X Z D f c:=by
 cases f with
 |next=>obtain⟨a,b,I,q⟩:=h;exact#[a,b,I.unwish,q]
 |brk=>obtain⟨a,b,I,q⟩:=h;exact#[a,b,I.unwish,q]
 |cont=>obtain⟨a,b,I,q⟩:=h;exact#[a,b,I.unwish,q]
 |ret u=>obtain⟨v,a,b,I,r,q⟩:=h;exact#[v,a,b,I.unwish,r,q]
def PSs.nox{st:List Stmt}{t:TS}(h:PSs X.nox st t):PSs X st t:=λZ s a H D I hw=>
 kS (h Z s a H D (I.wish _) hw) (λ_ _ q=>q.unwish) λ_ _ z=>wE z
end
section
variable{X:Cx}{st:Stmt}{rest:List Stmt}{t u:TS}{e:Expr}{i:TE}{g:Pos}
def Gg:TS:=λD a H=>D.nx a H
def qo(t u:TS):TS:=λD a H=>t {D with nx:=u D} a H
def mT:PSs X [] Gg:=λ_ _ a H _ I h=>zL #[a,H,I,h]
def hJ(b:PS X st t)(c:PSs X rest u):PSs X (st::rest) (qo t u):=by
 intro Z s d H D I h;refine wpAny_execs_cons (gY (b Z s d H {D with nx:=u D} I h) λf e q=>?_);cases f with
 |next=>
  obtain⟨a,g,i,q⟩:=q;exact c Z e a g D i q
 |ret v=>exact q
 |brk=>exact q
 |cont=>exact q
def hK(a:PS X st t):PSs X [st] t:=by
 intro Z s b H D I h;refine wpAny_execs_cons (gY (a Z s b H D I h) λf c q=>?_);cases f with
 |next=>exact zL q
 |ret v=>exact q
 |brk=>exact q
 |cont=>exact q
def Inv.quiet{Z:AO}{a:St}{H:Hp}{s:Sh}(I:Inv X Z a H s):interactive X.env=false:=by simp[interactive,I.ok.kind]
def Bo(i:TE):TS:=λD a H=>i a H λ_ b=>D.nx a b
def qc(b:PE X e i)(c:swapsWith e none g.line X.env=pure false:=by rfl):PS X (.Expr e g) (Bo i):=by
 intro Z s a H D I h;exact wpAny_Expr_any (gY (b Z s a H _ I h) λv k ⟨x,d,f,l,j⟩=>#[a,d,f,j]) I.quiet c
def y6(i:TE):TS:=λD a H=>i a H D.rt
def iT(b:PE X e i):PS X (.Return (some e) g) (y6 i):=by
 intro Z s a H D I h;exact wpAny_Return_some (gY (b Z s a H _ I h) λv k ⟨x,c,d,f,j⟩=>#[x,a,c,d,f,j])
def za(c:TT)(t u:TS):TS:=λD a H=>c a H λb d=>if b=true then t D a d else u D a d
def mA{c:Expr}{a b:List Stmt}{f:TT}(m:PT X c f)(n:PSs X a t)(o:PSs X b u):PS X (.If c a b g) (za f t u):=by
 intro Z s e H D I h;refine wpAny_If (gY (m Z s e H _ I h) λd i ⟨j,k,l⟩=>?_);cases d with
 |true=>exact n Z i e j D k l
 |false=>exact o Z i e j D k l
end
abbrev TG:=V->St->Hp->(St->Hp->Prop)->Prop
abbrev wN:=List V->St->Hp->(St->Hp->Prop)->Prop
def PG(X:Cx)(a:Expr)(t:TG):Prop:=
 ∀(Z:AO) (s:Sh) (c:St) (H:Hp) (v:V) (u:Vl) (Q:St->Hp->Prop),Inv X Z c H s->RelV v u->t v c H Q->
  wpAny (model X.prog X.w) X.A (assign a X.env u) (λ_ e=>∃b d,Inv X Z b d e/\Q b d) X.xe s
def zw(X:Cx)(f:List Expr)(t:wN):Prop:=
 ∀(Z:AO) (s:Sh) (b:St) (H:Hp) (c:List V) (d:Vs) (Q:St->Hp->Prop),Inv X Z b H s->Vals c d->t c b H Q->
  wpAny (model X.prog X.w) X.A (assignInOrder ((assignEach f X.env).map (·.2)) d) (λ_ g=>∃a e,Inv X Z a e g/\Q a e) X.xe s
abbrev vD:=V->V->V->Hp->(Hp->Prop)->Prop
def xF(X:Cx)(t:vD):Prop:=
 ∀(Z:AO) (s:Sh) (a:St) (H:Hp) (o i v:V) (b c u:Vl) (Q:Hp->Prop),Inv X Z a H s->RelV o b->RelV i c->RelV v u->t o i v H Q->
  wpAny (model X.prog X.w) X.A (setItem b c u) (λ_ e=>∃d,Inv X Z a d e/\Q d) X.xe s
section
variable{X:Cx}{c:Pos}
def mD(i:Nat):TG:=λv a H Q=>Q (a.set i (some v)) H
def md{i:Nat}{x:Str}(a:X.N.Nodup)(b:X.N[i]?=some x)(d:Bd X.env.scope x)(e:X.fn x=true\/X.env.scope.names.lookup x=some .local:=by first|exact .inl rfl|exact .inr rfl|assumption):PG X (.Name x c) (mD i):=by
 intro Z s g H v u Q I r h;exact wpAny_assign_Name (Fn I a b d r (λj f=>#[_,H,f,h]) e)
def ym:wN:=λa b H Q=>a=[]/\Q b H
inductive ow(t:TG)(u:wN)(b:List V)(c:St)(H:Hp)(Q:St->Hp->Prop):Prop|mk:∀v r,b=v::r->(t v c H λa d=>u r a d Q)->ow t u b c H Q
def Ca:zw X [] ym:=by
 intro Z s a H b c Q I r h;obtain⟨e,h⟩:=h;subst e;cases r;exact assignInOrder_nil #[a,H,I,h]
def xo{e:Expr}{a:List Expr}{t:TG}{u:wN}(c:PG X e t)(d:zw X a u)(f:(assignEach (e::a) X.env).map (·.2)=assign e X.env::(assignEach a X.env).map (·.2):=by rfl):zw X (e::a) (ow t u):=by
 intro Z s g H o p Q I r h;obtain⟨v,q,i,h⟩:=h;subst i;cases r with
 |cons r j=>
  rw[f];refine assignInOrder_cons (gY (c Z s g H _ _ _ I r h) λ_ k ⟨b,l,m,n⟩=>?_);exact d Z k b l _ _ Q m j n
inductive vm(K:N2)(n:Nat)(t:wN)(v:V)(c:St)(H:Hp)(Q:St->Hp->Prop):Prop|mk:∀a b,v=.ref a->SqT K H a b->b.length=n->t b c H Q->vm K n t v c H Q
def BF{d:List Expr}{k:Nat}{t:wN}{n:Nat}(j:X.calm=true)(h:zw X d t)(l:(assignEach d X.env).length=n:=by rfl) (f:(assignEach d X.env).findIdx? (·.1)=none:=by rfl):PG X (.Tuple d k c) (vm X.K n t):=by
 intro Z s g H v u Q I r hw;obtain⟨a,m,p,q,w,hw⟩:=hw;subst p;cases r;obtain⟨x,i,ht,B⟩:=I.tuple q;refine assign_Tuple_tuple (I.ok.hd j) ht (by simp[l,<-w,i.length]) f λy z=>?_;have A:Inv X Z g H {s with heap:=y}:=I.kept (t':=s.toks) λb o e=>z b o (iW (hV e)) e;exact h Z _ g H m _ Q A (by simpa using i) hw
def Dv(to b:TE)(t:vD):TG:=λv a H Q=>to a H λo c=>b a c λi d=>t o i v d λe=>Q a e
def zI{o i:Expr}{to e:TE}{t:vD}(f:PE X o to)(g:PE X i e)(j:xF X t)(k:∀v,assign (.Subscript o i c) X.env v=(do
   let a <-holding [v] (eval o X.env)
   let b <-holding [v,a] (eval i X.env)
   standAt c
   holding [v,a,b] (setItem a b v)
   release [v,a,b] []):=by intro _;rfl):PG X (.Subscript o i c) (Dv to e t):=by
 intro Z s d H v u Q I r h;rw[k];refine gH (lq (gY (f Z s d H _ I h) λa l ⟨x,m,n,p,q⟩=>?_));refine gH (lq (gY (g Z l d m _ n q) λb w ⟨y,z,A,B,C⟩=>?_));refine gH (ww (gH (lq (gY (j Z w d z x y v a b u _ A p B r C) λ_ J ⟨D,E,G⟩=>?_))));exact wpAny_release #[d,D,E,G]
def rR(b:TE)(g:TG):TS:=λD a H=>b a H λx c=>g x a c D.nx
def A8{a e:Expr}{b:TE}{g:TG}(f:PE X e b)(i:PG X a g)(j:swapsWithSole [a] e c.line X.env=pure false:=by rfl)(hw:swappedStores [a] e X.env=pure none:=by rfl)
  (k:(assignEach [a] X.env).map (·.2)=[assign a X.env]:=by rfl):PS X (.Assign [a] e c) (rR b g):=by
 intro Z s d H D I h;refine wpAny_Assign_stores (gY (f Z s d H _ I h) λv l ⟨x,m,n,o,p⟩=>?_) j hw;rw[k];exact gY (i Z l d m x v _ n o p) λ_ r q=>q
def iJ{i:Nat}{x:Str}{e:Expr}{b:TE}{a:Pos}(d:X.N.Nodup)(f:X.N[i]?=some x)(g:Bd X.env.scope x)(j:PE X e b)(k:swapsWith e (some (.Name x a)) c.line X.env=pure false:=by rfl)(l:X.fn x=true\/X.env.scope.names.lookup x=some .local:=by first|exact .inl rfl|exact .inr rfl|assumption):
  PS X (.Assign [.Name x a] e c) (rR b (mD i)):=by
 intro Z s m H D I h;refine wpAny_Assign_Name (gY (j Z s m H _ I h) λv t ⟨y,n,o,p,q⟩=>?_) k;exact Fn o d f g p (λu r=>#[_,n,r,q]) l
end
section
variable{X:Cx}{a:Pos}
def EG(c:TT)(h:TS):TS:=λD a H=>∃W:Nat->St->Hp->Prop,(∃m,W m a H)/\∀m a H,W m a H->
 c a H λb e=>if b=true then ∃N:St->Hp->Prop,(∀d f,N d f->∃g,g<m/\W g d f)/\h {D with nx:=N,ct:=N,bk:=D.nx} a e else D.nx a e
def AB{c:Expr}{g:List Stmt}{t:TT}{u:TS}(w:PassesOwn (model X.prog X.w) X.A X.env X.xe)(C:PT X c t)(E:PSs X g u):PS X (.While c g [] a) (EG t u):=by
 intro Z s G H D I h;obtain⟨W,⟨J,L⟩,turn⟩:=h;refine wpAny_While (codeAny_whileLoop (λn M=>∃i x,Inv X Z i x M/\W n i x) ?_ J #[G,H,I,L]);rintro n O ⟨e,y,Q,T⟩;refine uz w (gY (C Z O e y _ Q (turn n e y T)) λb U ⟨z,A,k⟩=>?_);cases b with
 | true=>
  obtain⟨N,B,k⟩:=k;rw[wB rZ];refine uz w (gY (E Z U e z _ A k) λf Y l=>?_);cases f with
  |next=>
   obtain⟨d,j,m,o⟩:=l;obtain⟨p,q,r⟩:=B d j o;exact#[p,q,d,j,m,r]
  |cont=>
   obtain⟨d,j,m,o⟩:=l;obtain⟨p,q,r⟩:=B d j o;exact#[p,q,d,j,m,r]
  |brk=>exact l
  |ret v=>exact l
 |false=>
  rw[wA ky];exact zL #[e,z,A,k]
end
structure It where
 go:Nat->Hp->Prop
 yld:Nat->Hp->V->Hp->Prop
 stop:Nat->Hp->Prop
def FpOk(X:Cx)(Z:AO)(H:Hp)(b:Ad):Prop:=
 H b=none/\b≠X.env.locals/\b∉X.fs/\(b∈X.ex\/X.s₀.heap.objs.size<=b)/\(∀x c,X.env.cells.lookup x=some c->c≠b)/\∀p∈X.pn++Z,p.1≠b
def Inv.fpOk{X:Cx}{Z:AO}{d:St}{H H':Hp}{s:Sh}{b:Ad}(I:Inv X Z d H s)(a:s.heap.objs.size<=b)(f:H' b=none):FpOk X Z H' b:=by
 refine#[f,pp (j4 I.lt a),I.nofs a,.inr (iP I.sz a),λx c e z=>?_,λp g z=>?_]
 .obtain⟨v,q⟩:=I.cell x c e;exact wC (j4 q.lt (by rw[z];exact a)) (oC _)
 .exact wC (j4 (hV (I.pin p g).1) (by rw[z];exact a)) (oC _)
structure Turn(P:Pg)(w:World)(K:N2)(tg:Expr)(J:It)(fp:As)(it:Ad)(tn:Nat->Heap->Prop):Prop where
 mem:it∈fp
 obj:∀i h,tn i h->∀b∈fp,∃o,h.get? b=some o/\∀v,o.data≠ .cell v
 keep:∀i h h',tn i h->(∀b∈fp,∀o,h.get? b=some o->h'.get? b=some o)->tn i h'
 item:∀(X:Cx),X.prog=P->X.w=w->X.K=K->X.calm=true->∀(i:Nat) (Z:AO) (s:Sh) (σ:St) (H:Hp) (E:VP),Inv X Z σ H s->(∀b∈fp,FpOk X Z H b)->tn i s.heap->J.go i H->
  wpAny (model P w) X.A (pyNext (.ref it)) (λr s1=>∃u,r=some u/\
   wpAny (model P w) X.A (letOwnedTupleGo tg (.ref it) u) (λ_ s2=>∃x H',Inv X Z σ H' s2/\RelV x u/\J.yld i H x H'/\tn (i+1) s2.heap/\∀b∈fp,H' b=none) E s1) E s
 done:∀(X:Cx),X.prog=P->X.w=w->X.K=K->X.calm=true->∀(i:Nat) (Z:AO) (s:Sh) (σ:St) (H:Hp) (E:VP),Inv X Z σ H s->(∀b∈fp,FpOk X Z H b)->tn i s.heap->J.stop i H->
  wpAny (model P w) X.A (pyNext (.ref it)) (λr s1=>r=none/\Inv X Z σ H s1) E s
 self:∀(A:Ar) (i:Nat) (s:Sh) (Q:VP) (E:VP),tn i s.heap->Q (.ref it) s->wpAny (model P w) A (pyIter (.ref it)) Q E s
abbrev TI:=St->Hp->(It->Hp->Prop)->Prop
def DN(X:Cx)(Z:AO)(g:St)(h:Expr)(R:It->Hp->Prop)(a:Vl)(d:Sh):Prop:=
 ∃(it:Ad) (e:As) (f:Nat->Heap->Prop) (J:It) (c:Hp),a=.ref it/\Inv X Z g c d/\Turn X.prog X.w X.K h J e it f/\f 0 d.heap/\(∀b∈e,FpOk X Z c b)/\R J c
def PI(X:Cx)(c a:Expr)(d:TI):Prop:=
 ∀(Z:AO) (s:Sh) (b:St) (H:Hp) (R:It->Hp->Prop),Inv X Z b H s->d b H R->
  wpAny (model X.prog X.w) X.A (eval a X.env) (λv e=>wpAny (model X.prog X.w) X.A (pyIter v) (DN X Z b c R) X.xe e) X.xe s
def Al{M:Model}{A:Ar}{E:VP}{s:Sh}{b:Expr}{it:Ad}{u:Vl}{o:Obj}{n:String}{c:AV}{Q:Unit->Sh->Prop}(d:s.heap.get? it=some o)(e:o.cls=.type n)(f:o.data=.fields c)(g:["enumerate","zip","dict_itemiterator","dict_reverseitemiterator","odict_iterator","itertools.zip_longest","itertools.pairwise"].contains n=false) (a:Q ⟨⟩ s):wpAny M A (letOwnedTupleGo b (.ref it) u) Q E s:=by
  unfold letOwnedTupleGo;cases b<;>first
    |exact gK a
    |(cases u<;>first
        |exact gK a
        | (refine gH (wpAny_load d ?_)
           rw[e,f];show wpAny M A (if(["enumerate","zip","dict_itemiterator","dict_reverseitemiterator","odict_iterator","itertools.zip_longest","itertools.pairwise"].contains n&&c[0]? ==some (rawInt _))=true then _ else _) Q E s
           rw[wA (by intro h;rw[g,Bool.false_and]at h;cases h)];exact gK a))
def uh(K:N2)(a:Ad):It:=
 #[λi H=>∃b x,SqL K H a b/\b[i]?=some x,λi H x c=>c=H/\∀b,SqL K H a b->b[i]?=some x,λi H=>∃b,SqL K H a b/\b.length<=i]
def Am(K:N2)(a:Ad):It:=
 #[λi H=>∃b x,SqT K H a b/\b[i]?=some x,λi H x c=>c=H/\∀b,SqT K H a b->b[i]?=some x,λi H=>∃b,SqT K H a b/\b.length<=i]
def tc(lo:Int)(n:Nat):It:=#[λi _=>i<n,λi H x a=>a=H/\x=.int (lo+i),λi _=>n<=i]
def Lk{P:Pg}{w:World}{K:N2}{N:Expr}(a it:Ad):Turn P w K N (uh K a) [it] it (λi h=>h.IsListIter it a i) where
 mem:=by simp
 obj:=λi h st b f=>by
  have e:b=it:=by simpa using f
  subst e;obtain⟨o,e,c,d⟩:=st;exact#[o,e,λv z=>by rw[d]at z;cases z]
 keep:=λi h j st k=>st.at λo e=>k it (by simp) o e
 item:=by
  intro X n hw q L i Z s M H E I l st r;subst n hw q;obtain⟨O,x,m,t⟩:=r;obtain⟨y,A,p,Q⟩:=I.list m;obtain⟨u,T,U⟩:=A.get t;obtain⟨B,C,Y,D,G,J⟩:=l it (by simp);refine zK st p.isList (x:=u) (by simpa using T) λj g sb=>?_;have I1:Inv X Z M H {s with heap:=j}:=I.turned (t':=s.toks) (λb o f e=>(sb.2 b f).trans e) B C D G J;obtain⟨o,e,c,d⟩:=id g;exact#[u,rZ,Al (s:={s with heap:=j}) e c d (by decide) #[x,H,I1,U,#[rfl,λys hy=>by rw[I.list_inj hy m];exact t],g,λb f=>(l b f).1]]
 done:=by
  intro X n hw q L i Z s M H E I l st r;subst n hw q;obtain⟨O,m,t⟩:=r;obtain⟨y,A,p,Q⟩:=I.list m;obtain⟨B,C,Y,D,G,J⟩:=l it (by simp);have hl:=A.length;exact zm (I.ok.hd L) st p.isList (by simp;lia) λj eb=>#[rZ,I.turned (t':=s.toks) (λb o f e=>eb b o f e) B C D G J]
 self:=λ_ _ _ _ _ st h=>wpAny_pyIter_listiter st h
def Nt{P:Pg}{w:World}{K:N2}{N:Expr}(a it:Ad):Turn P w K N (Am K a) [it] it (λi h=>h.IsTupleIter it a i) where
 mem:=by simp
 obj:=λi h st b f=>by
  have e:b=it:=by simpa using f
  subst e;obtain⟨o,e,c,d⟩:=st;exact#[o,e,λv z=>by rw[d]at z;cases z]
 keep:=λi h l st k=>st.at λo e=>k it (by simp) o e
 item:=by
  intro X q hw r L i Z s M H E I m st t;subst q hw r;obtain⟨O,x,n,y⟩:=t;obtain⟨g,A,p,Q⟩:=I.tuple n;obtain⟨u,T,U⟩:=A.get y;obtain⟨B,C,Y,D,G,J⟩:=m it (by simp);refine wpAny_pyNext_tuple_item st (show s.heap.IsTuple a g.toArray from p) (x:=u) (by simpa using T) λl j sb=>?_;have I1:Inv X Z M H {s with heap:=l}:=I.turned (t':=s.toks) (λb o f e=>(sb.2 b f).trans e) B C D G J;obtain⟨o,e,c,d⟩:=id j;exact#[u,rZ,Al (s:={s with heap:=l}) e c d (by decide) #[x,H,I1,U,#[rfl,λys hy=>by rw[I.tuple_inj hy n];exact y],j,λb f=>(m b f).1]]
 done:=by
  intro X q hw r L i Z s M H E I m st t;subst q hw r;obtain⟨O,n,y⟩:=t;obtain⟨g,A,p,Q⟩:=I.tuple n;obtain⟨B,C,Y,D,G,J⟩:=m it (by simp);have hl:=A.length;exact wpAny_pyNext_tuple_end (I.ok.hd L) st (show s.heap.IsTuple a g.toArray from p) (by simp;lia) λl eb=>#[rZ,I.turned (t':=s.toks) (λb o f e=>eb b o f e) B C D G J]
 self:=λ_ _ _ _ _ st h=>wpAny_pyIter_tupleiter st h
def NL{P:Pg}{w:World}{K:N2}{B:Expr}(it:Ad)(lo:Int)(n:Nat):Turn P w K B (tc lo n) [it] it (λi h=>IsRangeIter h it (lo+(i:Nat) * 1) ((n:Int)-(i:Nat)) 1) where
 mem:=by simp
 obj:=λi h st b a=>by
  have e:b=it:=by simpa using a
  subst e;exact#[_,st,λv z=>by
   have C:Data.fields _=Data.cell v:=z;cases C]
 keep:=λi h d st k=>k it (by simp) _ st
 item:=by
  intro X g hw j l i Z s y H E I f st m;subst g hw j;obtain⟨p,q,D,r,u,x⟩:=f it (by simp);have W:=Walks.range (prog:=X.prog) (w:=X.w) (I.ok.hd l) it lo 1 n;refine W.item i s _ _ m st λv d A G c J=>?_;obtain⟨t,rfl⟩:=G;have L:Inv X Z y H {s with heap:=d,toks:=A}:=I.turned (λb o a e=>J b o (by simpa using a) e) p q r u x;refine#[_,rZ,Al (s:={s with heap:=d,toks:=A}) (n:="range_iterator") c rfl rfl (by decide) #[.int (lo+i),H,L,#[t,?_],#[rfl,rfl],c,λb a=>(f b a).1]];rw[Int.mul_one]
 done:=by
  intro X g hw j l i Z s y H E I f st m;subst g hw j;obtain⟨p,q,D,r,u,x⟩:=f it (by simp);exact wpAny_pyNext_range_end (I.ok.hd l) st (by have:n<=i:=m;lia) λd M=>#[rZ,I.turned (t':=s.toks) (λb o a e=>M b o a e) p q r u x]
 self:=λ_ _ _ _ _ st h=>wpAny_pyIter_rangeiter st h
section
variable{X:Cx}{c:Expr}
def Go(K:N2)(c:TE):TI:=λd H R=>c d H λx b=>∃a,x=.ref a/\(∃e,SqL K b a e)/\R (uh K a) b
def BM(K:N2)(c:TE):TI:=λd H R=>c d H λx b=>∃a,x=.ref a/\(∃e,SqT K b a e)/\R (Am K a) b
def lm{l:Expr}{g:TE}(i:PE X l g):PI X c l (Go X.K g):=by
 intro Z s j H R I h;refine gY (i Z s j H _ I h) λv d ⟨x,k,f,m,n⟩=>?_;obtain⟨a,e,⟨w,r⟩,q⟩:=n;subst e;cases m;obtain⟨t,y,p,z⟩:=f.list r;refine w6 p.isList ?_;refine#[d.heap.objs.size,[d.heap.objs.size],_,_,k,rZ,f.kept (t':=d.toks) λb o e=>ig _ e,Lk a _,#[_,i4 _ rZ,rZ,rZ],λb u=>?_,q];have e:b=d.heap.objs.size:=by simpa using u
 subst e;exact f.fpOk (gS _) (f.hok.fresh (gS _))
def wc{l:Expr}{i:TE}(j:PE X l i):PI X c l (BM X.K i):=by
 intro Z s k H R I h;refine gY (j Z s k H _ I h) λv d ⟨x,m,f,n,r⟩=>?_;obtain⟨a,e,⟨w,t⟩,q⟩:=r;subst e;cases n;obtain⟨g,y,p,z⟩:=f.tuple t;refine wpAny_pyIter_tuple (show d.heap.IsTuple a g.toArray from p) ?_;refine#[d.heap.objs.size,[d.heap.objs.size],_,_,m,rZ,f.kept (t':=d.toks) λb o e=>ig _ e,Nt a _,#[_,i4 _ rZ,rZ,rZ],λb u=>?_,q];have e:b=d.heap.objs.size:=by simpa using u
 subst e;exact f.fpOk (gS _) (f.hok.fresh (gS _))
def IT{Z:AO}{d:St}{H:Hp}{s:Sh}{R:It->Hp->Prop}{E:VP}{lo a:Int}{t u v:Tok}{f:Nat}(I:Inv X Z d H s)(h: -(2 ^ 62)<=lo)(i:lo<2 ^ 62)(j: -(2 ^ 62)<=a)(k:a<2 ^ 62)(q:R (tc lo (a-lo).toNat) H):wpAny (model X.prog X.w) X.A (pyIter (.ref s.heap.objs.size)) (DN X Z d c R) E {s with heap:=s.heap.push {cls:= .type "range",data:= .fields #v[.int lo t,.int a u,.int 1 v]},toks:=f}:=by
 refine wpAny_pyIter_range (IsRange.new ..) (small_one h i j k) ?_;have g:Inv X Z d H {s with heap:=s.heap.push {cls:= .type "range",data:= .fields #v[.int lo t,.int a u,.int 1 v]},toks:=f}:=I.kept λb o e=>ig _ e;refine#[(s.heap.push {cls:= .type "range",data:= .fields #v[.int lo t,.int a u,.int 1 v]}).objs.size,[(s.heap.push {cls:= .type "range",data:= .fields #v[.int lo t,.int a u,.int 1 v]}).objs.size],_,_,H,rZ,
  g.kept (t':=f) λb o e=>ig _ e,NL _ lo (a-lo).toNat,?_,λb l=>?_,q]
 .have m:lo+((0:Nat):Int) * 1=lo:=by simp
  have n:(((a-lo).toNat:Nat):Int)-((0:Nat):Int)=Builtin.Range.rangeSize lo a 1:=by rw[rangeSize_one];split<;>lia
  show IsRangeIter _ _ (lo+((0:Nat):Int) * 1) ((((a-lo).toNat:Nat):Int)-((0:Nat):Int)) 1;rw[m,n];exact i4 _ rfl
 .have e:b=(s.heap.push {cls:= .type "range",data:= .fields #v[.int lo t,.int a u,.int 1 v]}).objs.size:=by simpa using l
  subst e;exact g.fpOk (gS _) (g.hok.fresh (gS _))
def Ez(a:TA):TI:=λb H R=>a b H λc d=>∃j:Int,c=[.int j]/\ -(2 ^ 62)<=j/\j<2 ^ 62/\R (tc 0 j.toNat) d
def sE{a:Expr}{f:TA}{p b:Pos}(g:Gl X "range")(i:X.mg "range"=none)(k:PA X [a] f)(l:starEach [a] X.env=[(false,eval a X.env)]:=by rfl):PI X c (.Call (.Name "range" p) [a] [] b) (Ez f):=by
 intro Z s m H R I h;refine Call_ (yF I g i boot_range (EX (gY (k b Z s m H _ I h) λw x ⟨y,z,n,o,d⟩=>?_) l rZ));obtain⟨j,e,d,u,q⟩:=d;subst e;cases o with
 |cons r v=>
  cases v;obtain⟨t,rfl⟩:=r;exact call_range_1 (IT n () () d u (by simpa using q))
def ui(f:TI)(g:TG)(h:TS):TS:=λD a H=>f a H λJ j=>∃W:Nat->Nat->St->Hp->Prop,(∃m,W 0 m a j)/\∀i m a H,W i m a H->
 (J.stop i H/\D.nx a H)\/(J.go i H/\∃N:St->Hp->Prop,(∀b c,N b c->∃e,e<m/\W (i+1) e b c)/\∀x c,J.yld i H x c->g x a c λd k=>h {D with nx:=N,ct:=N,bk:=D.nx} d k)
def yD(a:As)(h:Heap):AO:=a.filterMap λb=>(h.get? b).map λo=>(b,o)
def Az{a:As}{h:Heap}{b:Ad}{o:Obj}(c:b∈a)(e:h.get? b=some o):(b,o)∈yD a h:=AZ.mpr #[b,c,by rw[e];rfl]
def MO{a:As}{h:Heap}{p:Ad×Obj}(c:p∈yD a h):p.1∈a/\h.get? p.1=some p.2:=by
 obtain⟨b,d,e⟩:=AZ.mp c;cases q:h.get? b with
 |none=>rw[q]at e;cases e
 |some o=>
  rw[q]at e;have f:(b,o)=p:=lX e;subst f;exact#[d,q]
def Inv.pinned{Z:AO}{c:St}{H:Hp}{s:Sh}{a:As}(I:Inv X Z c H s)(h:∀b∈a,FpOk X Z H b)(i:∀b∈a,∃o,s.heap.get? b=some o/\∀v,o.data≠ .cell v):Inv X (Z++yD a s.heap) c H s:=
 I.pins_of λp j=>(iC.mp j).elim (λz=>I.pin p (j6 _ z)) λz=>by
  obtain⟨f,e⟩:=MO z;obtain⟨k,l,m,_⟩:=h p.1 f;obtain⟨o,g,d⟩:=i p.1 f;rw[e]at g;cases g;exact#[e,k,l,m,d]
def Inv.unpinned{Z b:AO}{a:St}{H:Hp}{s:Sh}(I:Inv X (Z++b) a H s):Inv X Z a H s:=I.pins_of λp c=>I.pin p (j6 _ (rB _ c))
def nH{j:Expr}{z:List Stmt}{wi:TI}{g:TG}{tb:TS}{Q:Pos}(C:PassesOwn (model X.prog X.w) X.A X.env X.xe)(hc:X.calm=true)(hi:PI X c j wi)(hg:PG X c g)(k:PSs X z tb)(hs:∀x,foldedSetIterable j X.env x=pure x:=by intro _;rfl):PS X (.For c j z [] Q) (ui wi g tb):=by
 intro Z s σ H D I h;refine wpAny_For (gY (hi Z s σ H _ I h) λv s1 h1=>gY h1 λaf s2 h2=>?_) hs;obtain⟨it,E,tn,J,H2,e,I2,T,U,f2,W,⟨m0,w0⟩,turn⟩:=h2;subst e;have l:∀{y:Hp},(∀b∈E,y b=none)->∀b∈E,FpOk X Z y b:=λhn b k=>#[hn b k,(f2 b k).2];refine codeAny_forLoop_any (λn s'=>∃i p y,Inv X Z p y s'/\tn i s'.heap/\(∀b∈E,y b=none)/\W i n p y) ?_ m0 #[0,σ,H2,I2,U,λb k=>(f2 b k).1,w0];rintro n s3 ⟨i,q,O,I3,G,L,w3⟩
 rcases turn i n q O w3 with⟨stop,qn⟩|⟨go,N,hN,step⟩
 .refine uz C (gY (T.done X rZ rZ rZ hc i Z s3 q O X.xe I3 (l L) G stop) λr s4 ⟨Y,I4⟩=>?_);subst Y;exact zL #[q,O,I4,qn]
 .refine uz C (gY (T.item X rZ rZ rZ hc i Z s3 q O X.xe I3 (l L) G go) λr s4 ⟨u,Y,h4⟩=>?_);subst Y;refine uz C (gY h4 λ_ s5 ⟨x,H5,I5,r5,y5,B,aa⟩=>?_);have ab:=I5.pinned (l aa) (T.obj _ _ B);refine uz C (gY (hg _ s5 q H5 x u _ ab r5 (step x H5 y5)) λ_ s6 ⟨ae,H6,I6,q6⟩=>?_);refine uz C (gY (k _ s6 ae H6 _ I6 q6) λf s7 A=>?_);have again:∀{a:St} {t:Hp},Inv X (Z++yD E s5.heap) a t s7->N a t->∃m,m<n/\∃i p y,Inv X Z p y s7/\tn i s7.heap/\(∀b∈E,y b=none)/\W i m p y:=λ{a t} w M=>by
   obtain⟨m',hm,w7⟩:=hN a t M;refine#[m',hm,i+1,a,t,w.unpinned,T.keep _ _ _ B λb k o e=>(w.pin (b,o) (j6 _ (j6 _ (Az k e)))).1,λb k=>?_,w7];obtain⟨o,e,d⟩:=T.obj _ _ B b k;exact(w.pin (b,o) (j6 _ (j6 _ (Az k e)))).2.1
  cases f with
  |next=>obtain⟨a,t,w,M⟩:=A;exact again w M
  |cont=>obtain⟨a,t,w,M⟩:=A;exact again w M
  |brk=>obtain⟨a,t,w,A⟩:=A;exact#[a,t,w.unpinned,A]
  |ret v=>obtain⟨x7,a,t,w,r7,A⟩:=A;exact#[x7,a,t,w.unpinned,r7,A]
end
def rL{K:N2}{a:Ad}{xs:List V}{g:TG}{k:TS}{D:Ends}{b:St}{H:Hp}(Pv:Nat->St->Hp->Prop)(n:Pv 0 b H)(o:∀i b H,i<=xs.length->Pv i b H->SqL K H a xs)(r:∀i x b H,xs[i]?=some x->Pv i b H->g x b H λc j=>k {D with nx:=Pv (i+1),ct:=Pv (i+1),bk:=D.nx} c j) (s:∀b H,Pv xs.length b H->D.nx b H):
  ∃W:Nat->Nat->St->Hp->Prop,(∃m,W 0 m b H)/\∀i m b H,W i m b H->
   ((uh K a).stop i H/\D.nx b H)\/((uh K a).go i H/\∃N:St->Hp->Prop,(∀d f,N d f->∃l,l<m/\W (i+1) l d f)/\∀x f,(uh K a).yld i H x f->g x b f λc j=>k {D with nx:=N,ct:=N,bk:=D.nx} c j):=by
 refine#[λi m b H=>m=xs.length-i/\i<=xs.length/\Pv i b H,#[xs.length,by simp,Nat.zero_le _,n],?_];rintro i m b H ⟨rfl,t,p⟩;have q:=o i b H t p;by_cases h:i<xs.length
 .refine .inr #[#[xs,xs[i],q,by simp[h]],Pv (i+1),λd f u=>#[xs.length-(i+1),Nat.sub_succ_lt_self _ _ h,rZ,h,u],λx f y=>?_];obtain⟨e,y⟩:=y;subst e;exact r i x b _ (y xs q) p
 .have e:i=xs.length:=by lia
  subst e;exact .inl #[#[xs,q,gS _],s b H p]
def Ai{lo:Int}{n:Nat}{g:TG}{j:TS}{D:Ends}{a:St}{H:Hp}(Pv:Nat->St->Hp->Prop)(l:Pv 0 a H)(o:∀i a H,i<n->Pv i a H->g (.int (lo+i)) a H λc h=>j {D with nx:=Pv (i+1),ct:=Pv (i+1),bk:=D.nx} c h) (q:∀a H,Pv n a H->D.nx a H):
  ∃W:Nat->Nat->St->Hp->Prop,(∃m,W 0 m a H)/\∀i m a H,W i m a H->
   ((tc lo n).stop i H/\D.nx a H)\/((tc lo n).go i H/\∃N:St->Hp->Prop,(∀d f,N d f->∃k,k<m/\W (i+1) k d f)/\∀x f,(tc lo n).yld i H x f->g x a f λc h=>j {D with nx:=N,ct:=N,bk:=D.nx} c h):=by
 refine#[λi m a H=>m=n-i/\i<=n/\Pv i a H,#[n,by simp,Nat.zero_le _,l],?_];rintro i m a H ⟨rfl,s,p⟩;by_cases b:i<n
 .refine .inr #[b,Pv (i+1),λd f r=>#[n-(i+1),Nat.sub_succ_lt_self _ _ b,rZ,b,r],λx f y=>?_];obtain⟨e,y⟩:=y;subst e y;exact o i a _ b p
 .have e:i=n:=by lia
  subst e;exact .inl #[gS _,q a H p]
abbrev R2:=V->V->Hp->VK->Prop
def OpR(X:Cx)(f:Vl->Vl->Sem Vl)(r:R2):Prop:=
 ∀(Z:AO) (s:Sh) (a:St) (H:Hp) (x y:V) (v u:Vl) (Q:VK),Inv X Z a H s->RelV x v->RelV y u->r x y H Q->
  wpAny (model X.prog X.w) X.A (f v u) (EP X Z a Q) X.xe s
def DD(X:Cx)(f:Vl->Sem Vl)(r:V->Hp->VK->Prop):Prop:=
 ∀(Z:AO) (s:Sh) (a:St) (H:Hp) (x:V) (v:Vl) (Q:VK),Inv X Z a H s->RelV x v->r x H Q->
  wpAny (model X.prog X.w) X.A (f v) (EP X Z a Q) X.xe s
def mE(X:Cx)(f:Vl)(r:List V->Hp->VK->Prop):Prop:=
 ∀(Z:AO) (s:Sh) (a:St) (H:Hp) (xs:List V) (b:Vs) (Q:VK),Inv X Z a H s->Vals xs b->r xs H Q->
  wpAny (model X.prog X.w) X.A (call f b) (EP X Z a Q) X.xe s
def B8(X:Cx)(r:V->Hp->(Bool->Hp->Prop)->Prop):Prop:=
 ∀(Z:AO) (s:Sh) (a:St) (H:Hp) (x:V) (v:Vl) (Q:Bool->Hp->Prop),Inv X Z a H s->RelV x v->r x H Q->
  wpAny (model X.prog X.w) X.A (truthy v) (TP X Z a Q) X.xe s
def xH(r:R2)(b c:TE):TE:=λa H Q=>b a H λx d=>c a d λy e=>r x y e Q
def Ko(r:V->Hp->VK->Prop)(a:TE):TE:=λb H Q=>a b H λx c=>r x c Q
inductive rI(C:Int->Int->Prop)(g:Int->Int->V)(x y:V)(H:Hp)(Q:VK):Prop|mk:∀i j,x=.int i->y=.int j->C i j->Q (g i j) H->rI C g x y H Q
inductive t6(g:Int->Int->V)(x y:V)(H:Hp)(Q:VK):Prop|mk:∀i j,x=.int i->y=.int j->Q (g i j) H->t6 g x y H Q
inductive rU(g:Int->V)(x:V)(H:Hp)(Q:VK):Prop|mk:∀i,x=.int i->Q (g i) H->rU g x H Q
section
variable{X:Cx}{a b c:Expr}{d k l:TE}{e:Pos}
def vH(m:PE X a d)(n:PE X b k){Z:AO}{s:Sh}{c:St}{H:Hp}{R:V->V->Hp->Prop}(I:Inv X Z c H s)(h:d c H λx l=>k c l λy e=>R x y e) {Q:VP} {f:Vl->Vl->Sem Vl}(o:∀v u j x y e,Inv X Z c e j->RelV x v->RelV y u->R x y e->wpAny (model X.prog X.w) X.A (f v u) Q X.xe j):
  wpAny (model X.prog X.w) X.A (eval a X.env) (λv g=>wpAny (model X.prog X.w) X.A (eval b X.env) (λu i=>wpAny (model X.prog X.w) X.A (f v u) Q X.xe i) X.xe g) X.xe s:=by
 refine gY (m Z s c H _ I h) λv p ⟨x,l,q,r,t⟩=>?_;refine gY (n Z p c l _ q t) λu j ⟨y,e,w,z,A⟩=>?_;exact o v u j x y e w r z A
def jj{c:Operator}{r:R2}(f:OpR X (binaryOp c) r)(g:PE X a d)(i:PE X b k):PE X (.BinOp a c b e) (xH r d k):=by
 intro Z s j H Q I h;exact wpAny_BinOp (vH g i I h λv u l x y m n o p q=>f Z l j m x y v u Q n o p q)
def x5{b:UnaryOp}{r:V->Hp->VK->Prop}(f:DD X (unaryOp b) r)(g:PE X a d):PE X (.UnaryOp b a e) (Ko r d):=by
 intro Z s c H Q I h;exact UnaryOp_ (gY (g Z s c H _ I h) λv i ⟨x,j,k,l,m⟩=>f Z i c j x v Q k l m)
def Cu{f:Vl->Vl->Sem Vl}{C:Int->Int->Prop}{g:Int->Int->Int}(rule:∀(i j:Int) (t u:Tok) (s:Sh) (Q:VP) (E:VP),C i j->Q (.int (g i j) s.toks) {s with toks:=s.toks+1}->wpAny (model X.prog X.w) X.A (f (.int i t) (.int j u)) Q E s):
  OpR X f (rI C λi j=> .int (g i j)):=by
 intro Z s e H x y v u Q I a b h;obtain⟨i,j,rfl,rfl,c,q⟩:=h;obtain⟨t,rfl⟩:=a;obtain⟨d,rfl⟩:=b;exact rule i j t d s _ _ c #[.int (g i j),H,I.tok _,#[_,rZ],q]
def D5{f:Vl->Vl->Sem Vl}{g:Int->Int->Int}(rule:∀(i j:Int) (t u:Tok) (s:Sh) (Q:VP) (E:VP),Q (.int (g i j) s.toks) {s with toks:=s.toks+1}->wpAny (model X.prog X.w) X.A (f (.int i t) (.int j u)) Q E s):
  OpR X f (t6 λi j=> .int (g i j)):=by
 intro Z s d H x y v u Q I a b h;obtain⟨i,j,rfl,rfl,q⟩:=h;obtain⟨t,rfl⟩:=a;obtain⟨c,rfl⟩:=b;exact rule i j t c s _ _ #[.int (g i j),H,I.tok _,#[_,rZ],q]
def rj{f:Vl->Vl->Sem Vl}{g:Int->Int->Bool}(rule:∀(i j:Int) (t u:Tok) (s:Sh) (Q:VP) (E:VP),Q (.bool (g i j)) s->wpAny (model X.prog X.w) X.A (f (.int i t) (.int j u)) Q E s):
  OpR X f (t6 λi j=> .bl (g i j)):=by
 intro Z s d H x y v u Q I a b h;obtain⟨i,j,rfl,rfl,q⟩:=h;obtain⟨t,rfl⟩:=a;obtain⟨c,rfl⟩:=b;exact rule i j t c s _ _ #[.bl (g i j),H,I,rZ,q]
def C9(i j:Int):Prop:=0<j/\j<1073741824
def CMul(i j:Int):Prop:=(-(2 ^ 64)<i/\i<2 ^ 64)\/(-(2 ^ 64)<j/\j<2 ^ 64)
def CMul.ok{i j:Int}(h:CMul i j):IntMulOk i j:=by
 rcases h with⟨a,b⟩|⟨a,b⟩
 .exact .of_left (intBits_le_64 a b)
 .exact .of_right (intBits_le_64 a b)
def u4:OpR X (binaryOp .Add) (t6 λi j=> .int (i+j)):=D5 λ_ _ _ _ _ _ _ q=>add_int q
def Lz:OpR X (binaryOp .Mult) (rI CMul λi j=> .int (i * j)):=Cu λ_ _ _ _ _ _ _ a q=>mul_int q a.ok
def wJ:OpR X (binaryOp .FloorDiv) (rI C9 λi j=> .int (i/j)):=Cu λi j _ _ _ _ _ a q=>by
 have b:(0:Int)<j:=a.1;have c:j<1073741824:=a.2;exact floordiv_int () (by rw[Int.fdiv_eq_ediv_of_nonneg i ()];exact q) (.inl (PyProof.noPylong_small ()))
def n7:OpR X (binaryOp .Mod) (rI (λ_ j=>0<j) λi j=> .int (i%j)):=Cu λi j _ _ _ _ _ a q=>by
 have b:(0:Int)<j:=a;exact mod_int' () (by rw[Int.fmod_eq_emod_of_nonneg i ()];exact q)
def Kj{f:Vl->Sem Vl}{g:Int->Int}(rule:∀(i:Int) (t:Tok) (s:Sh) (Q:VP) (E:VP),Q (.int (g i) s.toks) {s with toks:=s.toks+1}->wpAny (model X.prog X.w) X.A (f (.int i t)) Q E s):
  DD X f (rU λi=> .int (g i)):=by
 intro Z s b H x v Q I a h;obtain⟨i,rfl,q⟩:=h;obtain⟨t,rfl⟩:=a;exact rule i t s _ _ #[.int (g i),H,I.tok _,#[_,rZ],q]
def NK:DD X (unaryOp .USub) (rU λi=> .int (-i)):=Kj λ_ _ _ _ _ q=>neg_int q
end
def xt:V->V->Bool
 |.non,.non=>true|.non,.int _=>true|.int _,.non=>true|.non,.bl _=>true|.bl _,.non=>true|.non,.str _=>true|.str _,.non=>true
 |.int _,.int _=>true|.bl _,.bl _=>true|.str _,.str _=>true|.byt _,.byt _=>true
 |.int _,.str _=>true|.str _,.int _=>true|.bl _,.str _=>true|.str _,.bl _=>true
 |_,_=>false
def Kc:R2:=λx y H Q=>xt x y=true/\Q (.bl (decide (x=y))) H
def HU:R2:=λx y H Q=>xt x y=true/\Q (.bl (!decide (x=y))) H
def Gb{i j:Int}:decide (V.int i=V.int j)=(i==j):=by
 rw[pD];simp
def FV{i j:Bool}:decide (V.bl i=V.bl j)=(i==j):=by
 rw[pD];simp
def Fq{i j:Str}:decide (V.str i=V.str j)=(i==j):=by
 rw[pD];simp
def Eu{i j:Array UInt8}:decide (V.byt i=V.byt j)=(i.toList==j.toList):=by
 rw[pD];cases i;cases j;simp
section
variable{X:Cx}{a b c:Expr}{d g l:TE}{f:Pos}
def jt{Z:AO}{a:St}{H:Hp}{s:Sh}{Q:VK}{k b:Bool}(I:Inv X Z a H s)(q:Q (.bl k) H)(e:k=b):EP X Z a Q (.bool b) s:=by
 subst e;exact#[.bl k,H,I,rZ,q]
def Dn:OpR X (compareOp .Eq) Kc:=by
 intro Z s e H x y v u Q I d a h;obtain⟨c,q⟩:=h;cases x with
 |non=>
  cases d;cases y with
  |non=>cases a;exact PySem.EqNone.eq_none_none (jt I q (by simp))
  |bl j=>cases a;exact PySem.EqNone.eq_none_bool (jt I q (by simp))
  |int j=>obtain⟨b,rfl⟩:=a;exact PySem.EqNone.eq_none_int (jt I q (by simp))
  |str j=>obtain⟨b,rfl⟩:=a;exact PySem.EqNone.eq_none_str (jt I q (by simp))
  |_=>exact wC (show false=true from c) ky
 |bl i=>
  cases d;cases y with
  |non=>cases a;exact PySem.EqNone.eq_bool_none (jt I q (by simp))
  |bl j=>cases a;exact eq_bool (jt I q FV)
  |str j=>obtain⟨b,rfl⟩:=a;exact PySem.EqMixed.eq_bool_str (jt I q (by simp))
  |_=>exact wC (show false=true from c) ky
 |int i=>
  obtain⟨t,rfl⟩:=d;cases y with
  |non=>cases a;exact PySem.EqNone.eq_int_none (jt I q (by simp))
  |int j=>obtain⟨b,rfl⟩:=a;exact eq_int (jt I q Gb)
  |str j=>obtain⟨b,rfl⟩:=a;exact PySem.EqMixed.eq_int_str (jt I q (by simp))
  |_=>exact wC (show false=true from c) ky
 |str i=>
  obtain⟨t,rfl⟩:=d;cases y with
  |non=>cases a;exact PySem.EqNone.eq_str_none (jt I q (by simp))
  |bl j=>cases a;exact PySem.EqMixed.eq_str_bool (jt I q (by simp))
  |int j=>obtain⟨b,rfl⟩:=a;exact PySem.EqMixed.eq_str_int (jt I q (by simp))
  |str j=>obtain⟨b,rfl⟩:=a;exact eq_str (jt I q Fq)
  |_=>exact wC (show false=true from c) ky
 |byt i=>
  obtain⟨t,rfl⟩:=d;cases y with
  |byt j=>obtain⟨b,rfl⟩:=a;exact PySem.W.eq_bytes (jt I q Eu)
  |_=>exact wC (show false=true from c) ky
 |_=>cases y<;>exact wC (show false=true from c) ky
def CG:OpR X (compareOp .NotEq) HU:=by
 intro Z s e H x y v u Q I d a h;obtain⟨c,q⟩:=h;cases x with
 |non=>
  cases d;cases y with
  |non=>cases a;exact PySem.EqNone.ne_none_none (jt I q (by simp))
  |bl j=>cases a;exact PySem.EqNone.ne_none_bool (jt I q (by simp))
  |int j=>obtain⟨b,rfl⟩:=a;exact PySem.EqNone.ne_none_int (jt I q (by simp))
  |str j=>obtain⟨b,rfl⟩:=a;exact PySem.EqNone.ne_none_str (jt I q (by simp))
  |_=>exact wC (show false=true from c) ky
 |bl i=>
  cases d;cases y with
  |non=>cases a;exact PySem.EqNone.ne_bool_none (jt I q (by simp))
  |bl j=>cases a;exact ne_bool (jt I q (iZ not FV))
  |str j=>obtain⟨b,rfl⟩:=a;exact PySem.EqMixed.ne_bool_str (jt I q (by simp))
  |_=>exact wC (show false=true from c) ky
 |int i=>
  obtain⟨t,rfl⟩:=d;cases y with
  |non=>cases a;exact PySem.EqNone.ne_int_none (jt I q (by simp))
  |int j=>obtain⟨b,rfl⟩:=a;exact ne_int (jt I q (iZ not Gb))
  |str j=>obtain⟨b,rfl⟩:=a;exact PySem.EqMixed.ne_int_str (jt I q (by simp))
  |_=>exact wC (show false=true from c) ky
 |str i=>
  obtain⟨t,rfl⟩:=d;cases y with
  |non=>cases a;exact PySem.EqNone.ne_str_none (jt I q (by simp))
  |bl j=>cases a;exact PySem.EqMixed.ne_str_bool (jt I q (by simp))
  |int j=>obtain⟨b,rfl⟩:=a;exact PySem.EqMixed.ne_str_int (jt I q (by simp))
  |str j=>obtain⟨b,rfl⟩:=a;exact ne_str (jt I q (iZ not Fq))
  |_=>exact wC (show false=true from c) ky
 |byt i=>
  obtain⟨t,rfl⟩:=d;cases y with
  |byt j=>obtain⟨b,rfl⟩:=a;exact PySem.W.ne_bytes (jt I q (iZ not Eu))
  |_=>exact wC (show false=true from c) ky
 |_=>cases y<;>exact wC (show false=true from c) ky
def AA:OpR X (compareOp .Lt) (t6 λi j=> .bl (decide (i<j))):=rj λ_ _ _ _ _ _ _ q=>lt_int q
def x4:OpR X (compareOp .LtE) (t6 λi j=> .bl (decide (i<=j))):=rj λ_ _ _ _ _ _ _ q=>le_int q
def Do:OpR X (compareOp .Gt) (t6 λi j=> .bl (decide (j<i))):=rj λ_ _ _ _ _ _ _ q=>gt_int q
def xO:OpR X (compareOp .GtE) (t6 λi j=> .bl (decide (j<=i))):=rj λ_ _ _ _ _ _ _ q=>ge_int q
def IH:OpR X (compareOp .IsNot) (λx y H Q=>y=.non/\Q (.bl (!decide (x=.non))) H):=by
 intro Z s c H x y v u Q I a b h;obtain⟨rfl,q⟩:=h;cases b;refine isnot_none_gen (jt I q ?_);cases x<;>first
  |(cases a;rfl)
  |(obtain⟨t,rfl⟩:=a;rfl)
def jx(b:Expr){a:CmpOp}(h:a≠ .In:=by decide)(c:a≠ .NotIn:=by decide):behindInMarks a b=false:=by
 have d:(a==CmpOp.In)=false:=by cases a<;>first|rfl|exact wC rZ h
 have e:(a==CmpOp.NotIn)=false:=by cases a<;>first|rfl|exact wC rZ c
 cases b<;>simp[behindInMarks,d,e]
def yT{c:CmpOp}{r:R2}(e:OpR X (compareOp c) r)(i:PE X a d)(j:PE X b g)(k:behindInMarks c b=false):PE X (.Compare a [c] [b] f) (xH r d g):=by
 intro Z s l H Q I h;exact wpAny_Compare1 (vH i j I h λv u m x y n o p t q=>e Z m l n x y v u Q o p t q) k
def y3(t:TE):TT:=λa H Q=>t a H λx b=>∃k,x=.bl k/\Q k b
def ko{i:CmpOp}{r:R2}(l:OpR X (compareOp i) r)(m:PE X a d)(n:PE X b g)(o:behindInMarks i b=false):PT X (.Compare a [i] [b] f) (y3 (xH r d g)):=by
 intro Z s j H Q I h;refine wpAny_isTrue_Compare1 (gY (m Z s j H _ I h) λv p ⟨x,q,t,w,A⟩=>gY (n Z p j q _ t A) λu B ⟨y,C,D,E,G⟩=>
  gY (l Z B j C x y v u _ D w E G) λc O ⟨z,J,L,M,k,e,N⟩=>?_) o
 subst e;cases M;exact tq #[J,L,N]
def vw(K:N2)(x:V)(H:Hp)(k:Bool):Prop:=
 match x with
 |.non=>k=false
 |.bl b=>k=b
 |.int i=>k=(i != 0)
 |.str y=>y.length<=sizeLine/\k=((y.length:Int) != 0)
 |.byt y=>y.size<=sizeLine/\k=((y.size:Int) != 0)
 |.ref p=>(∃a,SqL K H p a/\k= !a.isEmpty)\/(∃a,SqT K H p a/\k= !a.isEmpty)\/∃c,H p=some (.dK c)/\k= !c.isEmpty
 |_=>False
def JJ{b:Type}{a:List (b×V)}{c:List (b×Vl)}(r:KV a c):(!c.isEmpty)= !a.isEmpty:=by
 cases r<;>rfl
def GX{b:List V}{a:Vs}(r:Vals b a):(!a.toArray.isEmpty)= !b.isEmpty:=by
 cases r<;>simp
def yh:(sizeLine:Nat)<2 ^ 63:=by rw[iv];decide
def HQ:B8 X (λx H Q=>∃k,vw X.K x H k/\Q k H):=by
 intro Z s A H x v Q I g h;obtain⟨k,e,q⟩:=h;have B:=yh;have C:sizeLine=16777216:=iv;cases x with
 |non=>
  cases g;have a:k=false:=e;subst a;exact truthy_none #[H,I,q]
 |bl b=>
  cases g;have a:k=b:=e;subst a;exact tq #[H,I,q]
 |int i=>
  obtain⟨t,rfl⟩:=g;have a:k=(i != 0):=e;subst a;exact PySem.P.truthy_int #[H,I,q]
 |str y=>
  obtain⟨t,rfl⟩:=g;obtain⟨w,a⟩:y.length<=sizeLine/\k=((y.length:Int) != 0):=e;subst a;exact PySem.P.truthy_str () #[H,I.tok _,q]
 |byt y=>
  obtain⟨t,rfl⟩:=g;obtain⟨w,a⟩:y.size<=sizeLine/\k=((y.size:Int) != 0):=e;subst a;exact PySem.W.truthy_bytes () #[H,I.tok _,q]
 | ref p=>
  cases g;have a:(∃f,SqL X.K H p f/\k= !f.isEmpty)\/(∃f,SqT X.K H p f/\k= !f.isEmpty)\/∃c,H p=some (.dK c)/\k= !c.isEmpty:=e
  rcases a with⟨f,j,a⟩|⟨f,j,a⟩|⟨c,j,a⟩
  .subst a;obtain⟨n,r,o,u⟩:=I.list j;have d:=r.length;exact wpAny_truthy_list o.isList (by simp only[List.size_toArray];lia) #[H,I.tok _,by rw[GX r];exact q]
  .subst a;obtain⟨n,r,o,u⟩:=I.tuple j;have d:=r.length;exact truthy_tuple o (by simp only[List.size_toArray];lia) #[H,I.tok _,by rw[GX r];exact q]
  .subst a;obtain⟨u,z,l,r,m⟩:c.length<=sizeLine/\(p==sysModules)=false/\∃l,KV c l/\s.heap.DictOf (oq X.prog X.w) p l:=I.hok p _ j;have d:c.length=l.length:=rh r;exact wpAny_truthy_dict z m () #[H,I.tok _,by rw[JJ r];exact q]
 |_=>exact(show False from e).elim
def Cq(f:PE X a d)(g:∀b,isTrue a X.env b=(do let v <-b;standAt a.pos;holding [v] (truthy v))):
  PT X a (λc H Q=>d c H λx e=>∃k,vw X.K x e k/\Q k e):=by
 intro Z s c H Q I h;exact isTrue_plain (gY (f Z s c H _ I h) λv i ⟨x,j,l,m,n⟩=>HQ Z i c j x v Q l m n) (g _)
def mi{x:V}{a:Vs}(r:Vals [x] a):∃u,a=[u]/\RelV x u:=by
 cases r with
 |cons b c=>cases c;exact#[_,rZ,b]
def yX{x y:V}{a:Vs}(r:Vals [x,y] a):∃u b,a=[u,b]/\RelV x u/\RelV y b:=by
 cases r with
 |cons c d=>
  cases d with
  |cons e f=>cases f;exact#[_,_,rZ,c,e]
end
def RelO.some_of{v:V}{o:Option Vl}(r:RelO (some v) o):∃u,o=some u/\RelV v u:=by
 cases o with
 |none=>exact(show False from r).elim
 |some u=>exact#[u,rZ,r]
structure Room(k:Nat)(A:Ar):Prop where
 hd:A.handled=none
 dp:A.depth+3 * k+5<recursionLimit
 un:A.units+16 * k+200<cLine
def Room.mono{j k:Nat}{A:Ar}(r:Room k A)(h:j<=k):Room j A:=#[r.hd,by have:=r.dp;lia,by have:=r.un;lia]
def Room.m{A:Ar}{k j:Nat}(h:Room k A)(d:j≤k:=by decide):Room j A:=h.mono d
def Room.deeper{k:Nat}{A:Ar}(r:Room (k+1) A)(a:Env):Room k (A.deeper a):=
 #[r.hd,by have:=r.dp;show A.depth+1+3 * k+5<_;lia,by have:=r.un;show A.units+3+16 * k+200<_;lia]
def Room.in1{k:Nat}{A:Ar}(r:Room (k+1) A):Room k A.in1:=
 #[r.hd,by have:=r.dp;show A.depth+3 * k+5<_;lia,by have:=r.un;show A.units+1+16 * k+200<_;lia]
def Ij{A:Ar}{C:Ad}{a:Vs}{b:List (Str×Vl)}:(A.under (.builtin "type.__call__" #[.ref C::a,b])).depth=A.depth+1:=by
 first|rfl|simp[Around.under,Code.weight,Code.isCreation,Code.isGuard,Code.isCaller,Code.frames,Code.isFrame,guardIds]
def NU{A:Ar}{C:Ad}{a:Vs}{b:List (Str×Vl)}:(A.under (.builtin "type.__call__" #[.ref C::a,b])).units=A.units+1:=by
 first|rfl|simp[Around.under,Code.cUnits,Code.frames,Code.isFrame]
def Room.make{k:Nat}{A:Ar}(r:Room (k+1) A)(C:Ad)(a:Vs)(b:List (Str×Vl)):Room k (A.under (.builtin "type.__call__" #[.ref C::a,b])):=
 #[r.hd,by have:=r.dp;rw[Ij];lia,by have:=r.un;rw[NU];lia]
def Room.depth{k:Nat}{A:Ar}(r:Room k A):A.depth<recursionLimit:=by have:=r.dp;lia
def Room.units{k:Nat}{A:Ar}(r:Room k A):A.units+64<cLine:=by have:=r.un;lia
def oA:TA:=λ_ H Q=>Q [] H
def nA(b:TE)(c:TA):TA:=λa H Q=>b a H λx d=>c a d λe f=>Q (x::e) f
section
variable{X:Cx}{e:Expr}{c:List Expr}{d:TE}{t:TA}{a:Pos}
def gX:PA X [] oA:=λ_ _ _ _ H Q I h=>Calls.spliced_nil #[[],H,I,.nil,h]
def g9(f:PE X e d)(g:PA X c t)(i:starEach (e::c) X.env=(false,eval e X.env)::starEach c X.env:=by rfl):PA X (e::c) (nA d t):=by
 intro a Z s b H Q I h;rw[i];show wpAny _ _ (spliced ((false,eval e X.env)::backTo a (starEach c X.env))) _ _ s;refine Calls.spliced_cons (gY (f Z s b H _ I h) λu j ⟨x,k,l,m,n⟩=>?_);exact gY (g a Z j b k _ l n) λw y ⟨o,p,q,r,v⟩=>#[x::o,p,q,.cons m r,v]
def DH(t:TA):TE:=λc H Q=>t c H λa b=>a.length<=sizeLine/\∀p,b p=none->Q (.ref p) (gI b p (.tup a))
def yK(t:TA):TE:=λc H Q=>t c H λa b=>a.length<=sizeLine/\∀p,b p=none->Q (.ref p) (gI b p (.lst a))
def vj{i}(h:PA X c t):PE X (.Tuple c i a) (DH t):=by
 intro Z s j H Q I k;refine wpAny_Tuple_spliced (gY (h a Z s j H _ I k) λl d ⟨m,f,g,r,z,q⟩=>#[by rw[<-r.length];exact z,?_]);have n:f d.heap.objs.size=none:=g.hok.fresh (gS _);refine#[.ref d.heap.objs.size,gI f d.heap.objs.size (.tup m),g.laid (t':=d.toks) (λb u e=>ig _ e) (gS _) ?_,rZ,q _ n];exact#[z,l,r,#[_,i4 _ rZ,rZ,_,rZ,rZ]]
def mZ(h:PA X c t):PE X (.List c a) (yK t):=by
 intro Z s i H Q I j;refine wpAny_List_spliced (gY (h a Z s i H _ I j) λk d ⟨l,f,g,r,z,q⟩=>#[by rw[<-r.length];exact z,?_]);have m:f d.heap.objs.size=none:=g.hok.fresh (gS _);refine#[.ref d.heap.objs.size,gI f d.heap.objs.size (.lst l),g.laid (t':=d.toks) (λb u e=>ig _ e) (gS _) ?_,rZ,q _ m];exact#[z,k,0,r,i4 _ rZ]
end
abbrev Sp:=List V->Hp->VK->XK->Prop
abbrev qz:=List Env->Hp->Sh->XK->Vl->Sh->Prop
structure Env0(P:Pg)(w:World)(K:N2)(mg:SV)(base:Heap)(A:Ar)(outer:List Env)(s:Sh)(H:Hp):Prop where
 frames:A.frames=some outer
 mod:Mod K mg base
 bs:∀b o,base.get? b=some o->s.heap.get? b=some o/\H b=none
 bsz:base.objs.size<=s.heap.objs.size
 funs:s.heap.FunFrames base outer
 frf:∀b∈iF outer,H b=none
 hok:HOk P w H s.heap
 bare:AllBare s.gens
def CE(a:List Env)(P:Pg)(w:World)(H:Hp)(s:Sh)(Q:VK)(u:Vl)(b:Sh):Prop:=
 ∃v c,b.os=s.os/\AllBare b.gens/\Un (iF a) [] H c s.heap b.heap/\HOk P w c b.heap/\RelV v u/\Q v c
def CR(c:qz)(a:List Env)(P:Pg)(w:World)(H:Hp)(s:Sh)(Q:VK)(E:XK)(r:Result)(b:Sh):Prop:=
 match r with
 |.ok (.ret u)=>CE a P w H s Q u b
 |.ok _=>False
 |.error e=>c a H s E e b
structure FnOk(P:Pg)(w:World)(K:N2)(mg:SV)(base:Heap)(CX:qz)(k:Nat)(f:Ad)(fd:Fd)(ps:Ss)(sp:Sp):Prop where
 len:∀vs H Q E,sp vs H Q E->vs.length=ps.length
 run:∀(A:Ar) (outer:List Env) (s:Sh) (H:Hp) (args:Args) (us:Vs) (vs:List V) (Q:VK) (E:XK),Room k A->Env0 P w K mg base A outer s H->BindsTo s fd args (ps.zip us)->Vals vs us->sp vs H Q E->
  codeAny (model P w) A (.call (.ref f) args) (CR CX outer P w H s Q E) s
def FnOk.imp{P:Pg}{w:World}{K:N2}{mg:SV}{a:Heap}{e:qz}{k:Nat}{f:Ad}{g:Fd}{i:Ss}{j d:Sp}(F:FnOk P w K mg a e k f g i j)(h:∀c H Q E,d c H Q E->j c H Q E):FnOk P w K mg a e k f g i d:=
 #[λc H Q E q=>F.len c H Q E (h _ _ _ _ q),λA b s H args l c Q E m n o p r=>F.run A b s H args l c Q E m n o p (h _ _ _ _ r)]
def Env0.make{P:Pg}{w:World}{K:N2}{mg:SV}{b:Heap}{A:Ar}{a:List Env}{s:Sh}{H:Hp}(e:Env0 P w K mg b A a s H)(C:Ad)(c:Vs)(d:List (Str×Vl)):
  Env0 P w K mg b (A.under (.builtin "type.__call__" #[.ref C::c,d])) a s H:=#[by first|exact e.frames|(simpa[Around.under,Code.envs,Code.isFrame,pushEnvs]using e.frames),e.mod,e.bs,e.bsz,e.funs,e.frf,e.hok,e.bare]
def Env0.in1{P:Pg}{w:World}{K:N2}{mg:SV}{b:Heap}{A:Ar}{a:List Env}{s:Sh}{H:Hp}(e:Env0 P w K mg b A a s H):
  Env0 P w K mg b A.in1 a s H:=#[e.frames,e.mod,e.bs,e.bsz,e.funs,e.frf,e.hok,e.bare]
section
variable{X:Cx}{Z:AO}{c:St}{H:Hp}{s a:Sh}
def Inv.env0(I:Inv X Z c H s):Env0 X.prog X.w X.K X.mg X.base X.A X.stack s H:=
 #[I.ok.frames,I.ok.mod,I.bs,iP I.ok.bsz I.sz,I.stack,I.stkFree,I.hok,I.bare]
def Inv.after{Q:VK}{u:Vl}(I:Inv X Z c H s)(h:CE X.stack X.prog X.w H s Q u a):EP X Z c Q u a:=by
 obtain⟨v,H',os,e,un,f,r,q⟩:=h;obtain⟨j,g,d,t,i⟩:=a;obtain rfl:i=s.os:=os;exact#[v,H',I.call (h':=j) (g':=g) (d':=d) (t':=t) (ch:=[]) un f e (λb z=>wC z (by simp)),r,q]
end
def vZ(b:Sp)(a:List V)(E:XK)(t:TA):TE:=λc H Q=>t c H λd e=>b (d++a) e Q E
def Binds(K:N2)(d:Fd)(b:Ss)(c:Vs):Prop:=
 ∀(s:Sh) (a:Vs),K.In s.heap->(a++c).length=b.length->BindsTo s d #[a,[]] (b.zip (a++c))
def Binds.all{K:N2}{c:Fd}{b:Ss}(h:∀a:Vs,a.length=b.length->bindArgs c #[a,[]]=pure (b.zip a)):Binds K c b []:=λs a _ d=>by
 rw[mW]at d|-;exact .of_eq (h a d)
def ti(b:qz)(X:Cx)(E:XK):Prop:=∀(Z:AO) (c:St) (H:Hp) (s:Sh) (e:Vl) (a:Sh),Inv X Z c H s->b X.stack H s E e a->X.xe e a
section
variable{X:Cx}{g:qz}{k:Nat}{f C:Ad}{d:Fd}{c:Ss}{i:Sp}{dvs:List V}{ds:Vs}{E:XK}{x m:Str}{p a j:Pos}{e o:Expr}{b:List Expr}{l:TE}{t:TA}
def Fe{Z:AO}{l:St}{H:Hp}{s:Sh}{Q:VK}{a:Vs}{j:List V}(F:FnOk X.prog X.w X.K X.mg X.base g k f d c i)(n:Room k X.A)(o:Binds X.K d c ds)(p:Vals dvs ds)(q:ti g X E)(I:Inv X Z l H s) (r:Vals j a) (h:i (j++dvs) H Q E):wpAny (model X.prog X.w) X.A (call (.ref f) a) (EP X Z l Q) X.xe s:=by
 have m:Vals (j++dvs) (a++ds):=r.append p;have t:(a++ds).length=c.length:=by rw[<-m.length];exact F.len _ _ _ _ h
 refine pS (nG (F.run X.A X.stack s H #[a,[]] (a++ds) (j++dvs) Q E n I.env0 (o s a I.kIn t) m h) λr v b=>?_);cases r with
 |error e=>exact q Z l H s e v I b
 |ok w=>
  cases w with
  |ret u=>exact I.after b
  |next=>exact wE b
  |brk=>exact wE b
  |cont=>exact wE b
def Dr(F:FnOk X.prog X.w X.K X.mg X.base g k f d c i)(n:Room k X.A)(o:Gl X x)(u:X.mg x=some (.ref f))(v:PySem.W.keepIn X.K (.ref f)=true)(w:Binds X.K d c ds)(y:Vals dvs ds)(z:ti g X E)(A:PA X (e::b) t) (j:(x==("__debug__":Str))=false:=by decide) (B:starEach (e::b) X.env=(false,eval e X.env)::starEach b X.env:=by rfl) (l:(backTo a (starEach b X.env)).any (·.1)=false:=by rfl):
  PE X (.Call (.Name x p) (e::b) [] a) (vZ i dvs E t):=by
 intro Z s C H Q I h;refine q0 (uZ I o u ?_ j);refine zB (h₀:=X.base) I.ok.mod.kin v (gY (A a Z s C H _ I h) λD G ⟨J,L,m,r,q⟩=>#[m.kIn,?_]) B l;exact Fe F n w y z m r q
end
structure FnScope(N P:Ss)(sc:Scope):Prop where
 kind:sc.kind=.function:=by rfl
 co:sc.isCoroutine=false:=by rfl
 gen:sc.isGenerator=false:=by rfl
 nd:N.Nodup:=by decide+kernel
 pre:N.take P.length=P:=by rfl
 par:∀x∈P,sc.names.lookup x=some .local\/sc.names.lookup x=some .cell:=by decide+kernel
 nofree:∀y∈sc.names,y.2≠ .free:=by decide+kernel
theorem FQ{kindOf:Str->Option NameKind}{x:Str}:∀{binds:List (Str×Vl)} {m:SV},(∀v,(x,v)∉binds)->bindL kindOf binds m x=m x
 | [],_,_=>rfl
 | (n,v)::r,m,h=>by
  unfold bindL;rw[FQ λw hw=>h w (ja _ hw)];split
  .have:x≠n:=by rintro rfl;exact h v iO
   simp[this]
  .rfl
theorem Fb{kindOf:Str->Option NameKind}{x:Str}:∀{binds:List (Str×Vl)} {m:SV},(∀v,(x,v)∉binds)->bindC kindOf binds m x=m x
 | [],_,_=>rfl
 | (n,v)::r,m,h=>by
  unfold bindC;rw[Fb λw hw=>h w (ja _ hw)];split
  .rfl
  .have:x≠n:=by rintro rfl;exact h v iO
   simp[this]
theorem G3{kindOf:Str->Option NameKind}{x:Str}{v:Vl}:∀{P:Ss} {a:Vs} {i:Nat} {m:SV},P.Nodup->P[i]?=some x->a[i]?=some v->kindOf x=some .local->
  bindL kindOf (P.zip a) m x=some v
 | [],_,_,_,_,h,_,_=>by simp at h
 |_::_,[],_,_,_,_,h,_=>by simp at h
 |p::P,w::a,0,m,d,b,c,e=>by
  simp at b c;subst b;subst c;show bindL kindOf ((p,w)::P.zip a) m p=_;unfold bindL;rw[FQ λv f=>(nc.mp d).1 (At f).1,wB e];simp
 |p::P,w::a,i+1,m,d,b,c,e=>by
  show bindL kindOf ((p,w)::P.zip a) m x=_;unfold bindL;exact G3 (i:=i) (nc.mp d).2 (by simpa using b) (by simpa using c) e
theorem FD{kindOf:Str->Option NameKind}{x:Str}{v:Vl}:∀{P:Ss} {a:Vs} {i:Nat} {m:SV},P.Nodup->P[i]?=some x->a[i]?=some v->kindOf x≠some .local->
  bindC kindOf (P.zip a) m x=some v
 | [],_,_,_,_,h,_,_=>by simp at h
 |_::_,[],_,_,_,_,h,_=>by simp at h
 |p::P,w::a,0,m,d,b,c,e=>by
  simp at b c;subst b;subst c;show bindC kindOf ((p,w)::P.zip a) m p=_;unfold bindC;rw[Fb λv f=>(nc.mp d).1 (At f).1,wA e];simp
 |p::P,w::a,i+1,m,d,b,c,e=>by
  show bindC kindOf ((p,w)::P.zip a) m x=_;unfold bindC;exact FD (i:=i) (nc.mp d).2 (by simpa using b) (by simpa using c) e
def start(N:Ss)(a:List V):St:=a.map some++List.replicate (N.length-a.length) none
def pG(g:qz)(P:Pg)(w:World)(K:N2)(mg:SV)(base:Heap)(N:Ss)(b:Str)(a:Scope)(f:Ad)(d:Vl)(A:Ar)(outer:List Env)(s:Sh)(H:Hp)(E:XK):Cx where
 prog:=P
 w:=w
 K:=K
 mg:=mg
 base:=base
 A:=A.deeper (envOfC b a s.heap.objs.size f d)
 N:=N
 s₀:=s
 H₀:=H
 env:=envOfC b a s.heap.objs.size f d
 outer:=outer
 stack:=envOfC b a s.heap.objs.size f d::outer
 ex:=[]
 calm:=true
 fn:=λ_=>true
 pn:=[]
 xe:=λe h=>wpAny (model P w) (A.deeper (envOfC b a s.heap.objs.size f d)) (leaving (envOfC b a s.heap.objs.size f d) e) (λ_ c=>g outer H s E e c) (λi c=>g outer H s E i c) h
def G4{a:Scope}{n:Nat}{x:Str}(h:a.names.lookup x=some .cell):∃c,(cellsFrom n a.names []).lookup x=some c:=by
 have q:=PySem.W.cellsFrom_some a.names n [] (.inl h);exact Option.isSome_iff_exists.mp q
def Jj{O:qz}{P:Pg}{w:World}{K:N2}{mg:SV}{m:Heap}{N t:Ss}{j:Str}{d:Scope}{f:Ad}{I:Vl}{A:Ar}{g:List Env}{s Q:Sh}{H:Hp}{E:XK}{M:Vs}{B:List V}(S:FnScope N t d) (Y:A.handled=none) (o:Env0 P w K mg m A g s H) (hl:B.length=t.length) (r:Vals B M)(x:InCallC s s.heap.objs.size (bindL (envOfC j d s.heap.objs.size f I).kindOf (t.zip M) λ_=>none) (cellsFrom (s.heap.objs.size+1) d.names []) (bindC (envOfC j d s.heap.objs.size f I).kindOf (t.zip M) λ_=>none) Q):
  Inv (pG O P w K mg m N j d f I A g s H E) [] (start N B) H Q:=by
 have aa:t.length<=N.length:=by have:=iZ List.length S.pre;rw[lZ]at this;lia
 obtain⟨J,tk,rfl,T⟩:=x.done;have C:∀b:Ad,b∉(pG O P w K mg m N j d f I A g s H E).ex:=λb z=>wC (show b∈([]:As)from z) (by simp);refine#[#[o.mod,S.kind,rZ,rZ,gS _,λy z c J l=>?_,λy hy=>?_,λy c _ h=>?_,λ_=>Y,Around.frames_deeper o.frames,.inr #[rZ,rZ],λb z=>wC z (C b),o.bs,o.bsz,λb _ _=>C b,λb z=>wC z (C b),o.funs,o.frf],
  rfl,o.bare,Un.kept T,#[_,x.toInCall.ns,λi y v J l h3=>?_],λy c h=>#[_,x.cell y c h],o.hok.fresh (gS _),λy c h=>?_,λp D=>wC (show p∈([]:AO)from D) (by simp),o.hok.kept T,?_]
 .exact name_of_addr x.apart (rK J) (rK l)
 .have hy:d.names.lookup y=some .cell\/d.names.lookup y=some .free:=hy
  rcases hy with hy|hy
  .exact G4 hy
  .exact wC rZ (S.nofree _ (rK hy))
 .exact ng (x.above y c (rK h))
 .have L:i<B.length:=by
   unfold start at l;by_cases L:i<B.length
   .exact L
   .rw[ku (by simpa using L)]at l;rw[List.getElem?_replicate]at l;split at l<;>cases l
  have ha:B[i]?=some v:=by
   unfold start at l;rw[j0 (by simpa using L),List.getElem?_map]at l;cases e:B[i]? with
   |none=>rw[e]at l;cases l
   |some a=>rw[e]at l;cases l;rfl
  obtain⟨u,U,rv⟩:=r.get ha;have D:t[i]?=some y:=by
   rw[<-S.pre,List.getElem?_take_of_lt ()];exact J
  have G:t.Nodup:=by rw[<-S.pre];exact S.nd.sublist (vA _ _)
  refine#[u,rv,?_]
  rcases S.par y (iq D)with k|k
  .exact .inl #[k,G3 G D U k]
  .obtain⟨c,e⟩:=G4 (n:=s.heap.objs.size+1) k;refine .inr #[.inl k,c,e,?_];have q:=x.cell y c e;rw[FD G D U (by show d.names.lookup y≠_;rw[k];decide)]at q;exact q
 .exact o.hok.fresh (ng (x.above y c (rK h)))
 .unfold start;show _=N.length;rw[jc,gL,List.length_replicate];lia
def AM{M:qz}{P:Pg}{w:World}{K:N2}{mg:SV}{h:Heap}{k:Nat}{f:Ad}{name d:Str}{i:Arguments}{j:List Stmt}{a:Scope}{dV kV D pm g ct oc:Vl}{an od:Option Ad}{T:Array (Option Vl)} {N O:Ss} {U:Sp} (lk:K.lookup f=some #[oc,od,.func (PySem.W.fnOf name d i j a dV kV D pm an g ct),T]) (Y:PySem.W.codeIn K g d=true) (S:FnScope N O a)(len:∀l H Q E,U l H Q E->l.length=O.length)(z:∀(A:Ar) (c:List Env) (s:Sh) (H:Hp) (l:List V) (Q:VK) (E:XK),Room k (A.deeper (envOfC d a s.heap.objs.size f g))->U l H Q E->
   ∃t,PSs (pG M P w K mg h N d a f g A c s H E) j t/\t {nx:=λ_ p=>Q .non p,rt:=Q} (start N l) H):
  FnOk P w K mg h M (k+1) f (PySem.W.fnOf name d i j a dV kV D pm an g ct) O U:=by
 refine#[len,λA c s H args us l Q E hr G hb r L=>?_];have hl:=len _ _ _ _ L;have KX:K.In s.heap:=G.mod.kin.keeps λb o e=>(G.bs b o e).1;have aa:s.heap.NoLimit:=G.mod.nolimit.keeps λb o e=>(G.bs b o e).1;have B:∀y∈O.zip us,a.names.lookup y.1=some .local\/(a.names.lookup y.1=some .cell/\((cellsFrom (s.heap.objs.size+1) a.names []).lookup y.1).isSome=true):=λ⟨n,v⟩ hy=>by
  rcases S.par n (At hy).1 with q|q
  .exact .inl q
  .exact .inr #[q,PySem.W.cellsFrom_some _ _ _ (.inl q)]
 refine codeAny_call_function hr.depth (KX _ _ lk) rZ S.co S.gen rZ (PySem.W.codeRec_of KX Y) (hb _ _ _ _ ?_);refine wpAny_newFunctionEnv_cells S.kind B λab he s1 x=>?_;subst he;refine#[aa.keeps x.toInCall.keep,codeAny_func ?_];obtain⟨t,ht,hq⟩:=z A c s H l Q E (hr.deeper _) L;have I:Inv (pG M P w K mg h N d a f g A c s H E) [] (start N l) H s1:=Jj S hr.hd G hl r x;refine kS (ht [] s1 (start N l) H _ I hq) (λfl s' C=>?_) λe s' C=>C;have fin:∀{m:St} {p:Hp} {v:V} {u:Vl},Inv (pG M P w K mg h N d a f g A c s H E) [] m p s'->RelV v u->Q v p->CE c P w H s Q u s':=
  λ{m p v u} J rv q=>#[v,p,J.os,J.bare,J.base,J.hok,rv,q]
 cases fl with
 |ret u=>
  obtain⟨v,m,p,J,rv,q⟩:=C;exact fin J rv q
 |next=>
  obtain⟨m,p,J,q⟩:=C;exact fin (v:=V.non) (u:=Value.none) J rZ q
 |brk=>
  obtain⟨_,_,_,q⟩:=C;exact wE q
 |cont=>
  obtain⟨_,_,_,q⟩:=C;exact wE q
section
variable{X:Cx}{x:Str}{p a:Pos}{e:Expr}{b:List Expr}{t:TA}{id T:String}{r:List V->Hp->VK->Prop}
def GD(r:List V->Hp->VK->Prop)(t:TA):TE:=λa H Q=>t a H λb c=>r b c Q
def jv(g:mE X (.builtin id) r)(i:Gl X x)(j:X.mg x=none)(k:bootBuiltins x=some (.builtin id))(l:PA X (e::b) t)(m:x≠"__name__":=by decide)(c:(x==("__debug__":Str))=false:=by decide)
  (n:starEach (e::b) X.env=(false,eval e X.env)::starEach b X.env:=by rfl) (d:(backTo a (starEach b X.env)).any (·.1)=false:=by rfl):PE X (.Call (.Name x p) (e::b) [] a) (GD r t):=by
 intro Z s f H Q I h;refine q0 (yF I i j k ?_ m c);exact GH (gY (l a Z s f H _ I h) λo q ⟨u,v,w,y,z⟩=>g Z q f v u o Q w y z) n d
def m6(g:mE X (.type T) r)(i:Gl X x)(j:X.mg x=none)(k:bootBuiltins x=some (.type T))(l:PA X (e::b) t)(m:x≠"__name__":=by decide)(c:(x==("__debug__":Str))=false:=by decide)
  (n:starEach (e::b) X.env=(false,eval e X.env)::starEach b X.env:=by rfl) (d:(backTo a (starEach b X.env)).any (·.1)=false:=by rfl):PE X (.Call (.Name x p) (e::b) [] a) (GD r t):=by
 intro Z s f H Q I h;refine q0 (yF I i j k ?_ m c);exact EX (gY (l a Z s f H _ I h) λo q ⟨u,v,w,y,z⟩=>g Z q f v u o Q w y z) n d
end
end L2
namespace HT
open PySem PyProof.Rows
def yC:Zs->List Int->Bool
 | [],[]=>false
 | [],_::_=>true
 |_::_,[]=>false
 |x::a,y::b=>if x=y then yC a b else decide (x<y)
def lT(A:Ar)(s:Sh)(a:Int)(t:Tok)(c:Int)(u:Tok):∃e,SeqAt.EqAt A s (.int a t) (.int c u) e/\(e=true↔a=c):=
 #[(a==c),SeqAt.EqAt.int_int a t c u,by simp]
section
variable{a:Pg}{w:World}{A:Ar}{E:VP}{s:Sh}
def sIx(n d:Nat):Option Int->Nat
 |none=>d
 |some v=>if v<0 then(v+(n:Int)).toNat else min v.toNat n
end
end HT
namespace L2
open PySem PySem.Spec PyProof.Rows
abbrev TO:=St->Hp->(Option Int->Hp->Prop)->Prop
def PO(X:Cx)(e:Option Expr)(t:TO):Prop:=
 ∀(Z:AO) (s:Sh) (a:St) (H:Hp) (Q:Option Int->Hp->Prop),Inv X Z a H s->t a H Q->
  wpAny (model X.prog X.w) X.A (evalPart e X.env) (λu c=>∃o b,Inv X Z a b c/\IsPart u o/\Q o b) X.xe s
def xv(t:TE):TO:=λa H Q=>t a H λx b=>∃i,x=.int i/\Q (some i) b
section
variable{X:Cx}{e:Expr}{c:TE}{lo a:Option Expr}{f d:TO}{g j:Pos}
def Er(h:PE X e c):PO X (some e) (xv c):=by
 intro Z s a H Q I hw;rw[evalPart_some];refine gY (h Z s a H _ I hw) λu j ⟨x,b,d,f,g⟩=>?_;obtain⟨i,rfl,q⟩:=g;obtain⟨t,rfl⟩:=f;exact#[some i,b,d,.int i t,q]
def FH(X:Cx)(r:V->Option Int->Option Int->Hp->VK->Prop):Prop:=
 ∀(Z:AO) (s:Sh) (b:St) (H:Hp) (x:V) (v c d:Vl) (lo a:Option Int) (sl:Ad) (Q:VK),Inv X Z b H s->RelV x v->s.heap.IsSliceOf sl c d .none->IsPart c lo->IsPart d a->r x lo a H Q->
  ∃T id,typeLookup (.type T) "__getitem__"=pure (some (.builtin id))/\s.TypeIs v T/\wpAny (model X.prog X.w) X.A (getItem v (.ref sl)) (EP X Z b Q) X.xe s
def Nx(r:V->Option Int->Option Int->Hp->VK->Prop)(c:TE)(f d:TO):TE:=λa H Q=>c a H λx b=>f a b λl e=>d a e λu g=>r x l u g Q
def Ix{r:V->Option Int->Option Int->Hp->VK->Prop}(n:FH X r)(o:PE X e c)(p:PO X lo f)(t:PO X a d):PE X (.Subscript e (.Slice lo a none j) g) (Nx r c f d):=by
 intro Z s i H Q I h;refine Subscript_ (gY (o Z s i H _ I h) λv w ⟨x,y,z,A,B⟩=>?_);refine wpAny_Slice (gY (p Z w i y _ z B) λk C ⟨l,D,E,G,J⟩=>gY (t Z C i D _ E J) λvu s3 ⟨u,m,L,M,N⟩=>?_);rw[evalPart_none];refine gK ?_;have O:Inv X Z i m {s3 with heap:=s3.heap.push {cls:= .type "slice",data:= .fields #v[k,vu,.none]}}:=L.kept (t':=s3.toks) λb Y q=>ig _ q;obtain⟨T,id,hT,ht,U⟩:=n Z {s3 with heap:=s3.heap.push {cls:= .type "slice",data:= .fields #v[k,vu,.none]}} i m x v k vu l u s3.heap.objs.size Q O A (Heap.IsSliceOf.new ..) G M N;show wpAny (model X.prog X.w) X.A (subscriptTail e (.Slice lo a none j) v (.ref s3.heap.objs.size)) (EP X Z i Q) X.xe {s3 with heap:=s3.heap.push {cls:= .type "slice",data:= .fields #v[k,vu,.none]}};exact tail_any (ops:=[.ref s3.heap.objs.size,v]) ht hT U (by with_unfolding_all rfl)
def uo(b:List V)(lo a:Option Int):List V:=(b.drop (HT.sIx b.length 0 lo)).take (HT.sIx b.length b.length a-HT.sIx b.length 0 lo)
def KL(b:List V)(lo a:Option Int):(uo b lo a).length<=b.length:=by
 unfold uo;rw[lZ,wV];lia
end
def ri(n:Nat)(i:Int):Option Nat:=if 0<=i then(if i<n then some i.toNat else none)else if -(n:Int)<=i then some (i+n).toNat else none
def n9{a:Type}(b:List a)(i:Int):Option a:=(ri b.length i).bind λj=>b[j]?
def Gj{n:Nat}{i:Int}{j:Nat}(h:ri n i=some j):seqIndex? i n=some j/\j<n/\ -(n:Int)<=i/\i<n:=by
 unfold ri at h;by_cases b:0<=i
 .rw[wB b]at h;by_cases a:i<n
  .rw[wB a]at h;have e:i.toNat=j:=lX h;exact#[by rw[seqIndex_of b a,e],(),(),a]
  .rw[wA a]at h;cases h
 .rw[wA b]at h;by_cases a: -(n:Int)<=i
  .rw[wB a]at h;have e:(i+n).toNat=j:=lX h;exact#[by rw[seqIndex_neg () a,e],(),a,()]
  .rw[wA a]at h;cases h
def Ej{b:Type}{a:List b}{i:Int}{v:b}(h:n9 a i=some v):∃j,seqIndex? i a.length=some j/\a[j]?=some v/\j<a.length/\ -(a.length:Int)<=i/\i<a.length:=by
 unfold n9 at h;cases e:ri a.length i with
 |none=>rw[e]at h;cases h
 |some j=>
  rw[e]at h;obtain⟨c,d,f,g⟩:=Gj e;exact#[j,c,h,d,f,g]
def pH{b:Type}{a:List b}{j:Nat}{v:b}(h:a[j]?=some v):n9 a (j:Int)=some v:=by
 have c:j<a.length:=(gV.mp h).1;have e:ri a.length (j:Int)=some j:=by
  unfold ri;rw[wB (),wB ()];simp
 unfold n9;rw[e];exact h
def NO(b:Expr):Prop:=∀o i,subscripted b false o i=operate [o,i] (getItem o i)
def IxR(X:Cx)(r:R2):Prop:=
 ∀(b a:Expr) (Z:AO) (s:Sh) (c:St) (H:Hp) (x y:V) (v u:Vl) (Q:VK),Inv X Z c H s->RelV x v->RelV y u->r x y H Q->
  subscripted a false v u=operate [v,u] (getItem v u)->wpAny (model X.prog X.w) X.A (subscriptTail b a v u) (EP X Z c Q) X.xe s
def Au(X:Cx)(id:String)(r:V->List V->Hp->VK->Prop):Prop:=
 ∀(Z:AO) (s:Sh) (a:St) (H:Hp) (x:V) (b:List V) (v:Vl) (c:Vs) (Q:VK),Inv X Z a H s->RelV x v->Vals b c->r x b H Q->
  wpAny (model X.prog X.w) X.A (call (.builtin id) (v::c)) (EP X Z a Q) X.xe s
section
variable{X:Cx}{a b:Expr}{D C:TE}{B:Pos}
def jo{r:R2}(c:IxR X r)(d:PE X a D)(e:PE X b C)(f:NO b):PE X (.Subscript a b B) (xH r D C):=by
 intro Z s g H Q I h;exact Subscript_ (vH d e I h λv u i x y j k l m q=>c a b Z i g j x y v u Q k l m q (f _ _))
inductive nN(K:N2)(x y:V)(H:Hp)(Q:VK):Prop|mk:∀p a i v,x=.ref p->y=.int i->SqL K H p a->n9 a i=some v->Q v H->nN K x y H Q
inductive nR(K:N2)(x y:V)(H:Hp)(Q:VK):Prop|mk:∀p a i v,x=.ref p->y=.int i->SqT K H p a->n9 a i=some v->Q v H->nR K x y H Q
def ny:IxR X (nN X.K):=by
 intro b c Z s k H x y v u Q I o A h l;obtain⟨p,M,i,z,rfl,rfl,B,C,q⟩:=h;cases o;obtain⟨t,rfl⟩:=A;obtain⟨d,r,e,N⟩:=I.list B;obtain⟨j,a,D,O,E,G⟩:=Ej C;obtain⟨w,m,f⟩:=r.get D;have J:=r.length;have T:=yh;have fin:EP X Z k Q w s:=#[z,H,I,f,q];by_cases n:0<=i
 .have g:i.toNat=j:=by
   rw[seqIndex_of n G]at a;exact lX a
  exact item_listR e.isList n () (by rw[g];simpa using m) fin l
 .have g:(i+(d.toArray.size:Int)).toNat=j:=by
   rw[seqIndex_neg () E]at a;rw[iK,<-J];exact lX a
  exact subscriptTail_builtinR (x:=w) e.isList.typeIs slot_list_getitem.lookup
   (wpAny_getItem_list_neg (Q:=λr L=>r=w/\EP X Z k Q r L) e.isList () (by rw[iK]<;>lia) () (by rw[g];simpa using m) #[rZ,fin]) l
def nO:IxR X (nR X.K):=by
 intro a b Z s d H x y v u Q I f g h k;obtain⟨p,E,i,z,rfl,rfl,l,m,q⟩:=h;cases f;obtain⟨t,rfl⟩:=g;obtain⟨n,r,e,G⟩:=I.tuple l;obtain⟨j,o,A,J,L,M⟩:=Ej m;obtain⟨w,B,c⟩:=r.get A;have C:=r.length;have N:=yh;have fin:EP X Z d Q w s:=#[z,H,I,c,q];exact subscriptTail_builtinR (x:=w) e.typeIs slot_tuple_getitem.lookup
  (getItem_tuple (j:=j) (Q:=λr D=>r=w/\EP X Z d Q r D) e () () (by rw[iK,<-C];exact o) (by simpa using B) #[rZ,fin]) k
def Ly(a:Vs)(n j:Nat)(u:Vl):Obj.mapSeq (·.setIfInBounds j u) {cls:= .type "list",data:= .seq a.toArray n}={cls:= .type "list",data:= .seq (a.set j u).toArray n}:=by
 simp[Obj.mapSeq]
def Inv.lst{Z:AO}{b:St}{H:Hp}{s:Sh}{p:Ad}{a:List V}(I:Inv X Z b H s)(h:H p=some (.lst a)):
  ∃(its:Vs) (n:Nat),Vals a its/\s.heap.get? p=some {cls:= .type "list",data:= .seq its.toArray n}/\a.length<=sizeLine:=by
 obtain⟨z,its,n,r,e⟩:=I.hok p _ h;exact#[its,n,r,e,z]
def Inv.lstUpd{Z:AO}{i:St}{H:Hp}{s:Sh}{p:Ad}{k d:List V}{c a:Vs}{n g:Nat}{f:Obj->Obj}(I:Inv X Z i H s)(h:H p=some (.lst k))(l:s.heap.get? p=some {cls:= .type "list",data:= .seq c.toArray n}) (j:f {cls:= .type "list",data:= .seq c.toArray n}={cls:= .type "list",data:= .seq a.toArray g}) (r:Vals d a) (m:d.length<=sizeLine) (t:Nat):
  Inv X Z i (gI H p (.lst d)) {s with heap:=s.heap.update p f,toks:=t}:=by
 have e:(s.heap.update p f).get? p=some {cls:= .type "list",data:= .seq a.toArray g}:=by
  rw[rq f l (by rw[j]<;>rfl),j]
 refine I.write (x:=p) (e:=p) (by rw[h];trivial) (.inl rZ) (λb u o q=>(mM _ _ (jd o)).trans q) #[_,e] ?_;exact#[m,a,g,r,e]
inductive t5(o i v:V)(H:Hp)(Q:Hp->Prop):Prop|mk:∀p a k j,o=.ref p->i=.int k->H p=some (.lst a)->ri a.length k=some j->Q (gI H p (.lst (a.set j v)))->t5 o i v H Q
def zG:xF X t5:=by
 intro Z s x H o i v E G u Q I y z A h;obtain⟨p,B,k,j,rfl,rfl,f,C,q⟩:=h;cases y;obtain⟨t,rfl⟩:=z;obtain⟨a,n,r,c,D⟩:=I.lst f;obtain⟨b,J,g,l⟩:=Gj C;have d:=r.length;have L:=yh;have m:Inv X Z x (gI H p (.lst (B.set j v))) {s with heap:=s.heap.update p (Obj.mapSeq (·.setIfInBounds j u))}:=
  I.lstUpd f c (Ly a n j u) (r.set A j) (by rw[ux];exact D) s.toks
 by_cases w:0<=k
 .have e:k.toNat=j:=by
   rw[seqIndex_of w l]at b;exact lX b
  exact PySem.W.ki_setAt c w () (by rw[iK,<-d];exact l) (by rw[e];exact#[_,m,q])
 .have e:(k+(a.toArray.size:Int)).toNat=j:=by
   rw[seqIndex_neg () g]at b;rw[iK,<-d];exact lX b
  exact PySem.W.ki_setBack c () (by rw[iK,<-d];exact g) () (by rw[e];exact#[_,m,q])
def HZ(lo a:Option Int)(n:Nat):(sliceBounds lo a none n).1=((HT.sIx n 0 lo:Nat):Int)/\(sliceBounds lo a none n).2.1=((HT.sIx n n a:Nat):Int)/\(sliceBounds lo a none n).2.2=1:=by
 refine#[?_,?_,rZ]
 .cases lo with
  |none=>simp[sliceBounds,HT.sIx]
  |some i=>
   simp only[sliceBounds,HT.sIx,Option.getD_none,show(1:Int)>0 by decide,if_true];by_cases h:i<0
   .simp only[h,if_true]<;>lia
   .simp only[h,if_false]<;>lia
 .cases a with
  |none=>simp[sliceBounds,HT.sIx]
  |some i=>
   simp only[sliceBounds,HT.sIx,Option.getD_none,show(1:Int)>0 by decide,if_true];by_cases h:i<0
   .simp only[h,if_true]<;>lia
   .simp only[h,if_false]<;>lia
def Ls(a:Vs)(lo b:Option Int):slicePick a.toArray lo b none=((a.drop (HT.sIx a.length 0 lo)).take (HT.sIx a.length a.length b-HT.sIx a.length 0 lo)).toArray:=by
 obtain⟨c,d,e⟩:=HZ lo b a.toArray.size;unfold slicePick;rw[c,d,e];simp only[sliceRange_one,pick_run,List.size_toArray]<;>rfl
inductive yY(K:N2)(x:V)(lo b:Option Int)(H:Hp)(Q:VK):Prop|mk:∀a c,x=.ref a->SqL K H a c->(∀p,H p=none->Q (.ref p) (gI H p (.lst (uo c lo b))))->yY K x lo b H Q
def MA:FH X (yY X.K):=by
 intro Z s n H x v p t lo e sl Q I f g i j h;obtain⟨a,c,rfl,k,q⟩:=h;cases f;obtain⟨l,r,ht,m⟩:=I.list k;have d:=r.length;refine#["list",_,slot_list_getitem.lookup,ht.isList.typeIs,?_];refine wpAny_getItem_list_slice ht.isList g i j .none (by simp) ?_ (by rw[List.size_toArray]<;>lia);rw[Ls,<-d];refine#[.ref s.heap.objs.size,_,I.laid (t':=s.toks) (o:= .lst (uo c lo e)) (λb u q=>ig _ q) (gS _) ?_,rZ,q _ (I.hok.fresh (gS _))];exact#[iP (KL c lo e) m,_,0,(r.drop (HT.sIx c.length 0 lo)).take (HT.sIx c.length c.length e-HT.sIx c.length 0 lo),i4 _ rZ]
def nh:V->Bool
 |.non=>true
 |.bl _=>true
 |.int _=>true
 |.str _=>true
 |_=>false
def pK:V->V->Bool
 |.non,.non=>true
 |.bl a,.bl b=>a==b
 |.bl a,.int b=>(if a then 1 else 0)==b
 |.int a,.bl b=>a==(if b then 1 else 0)
 |.int a,.int b=>a==b
 |.str a,.str b=>a==b
 |_,_=>false
def A2{A:Ar}{s:Sh}{y x:V}{u v:Vl}(e:RelV y u)(c:RelV x v)(g:nh y=true)(f:nh x=true):SeqAt.EqAt A s u v (pK y x):=by
 cases y with
 |non=>
  cases e;cases x with
  |non=>cases c;exact SeqAt.EqAt.same _
  |bl b=>cases c;exact SeqAt.EqAt.none_bool b
  |int b=>obtain⟨t,rfl⟩:=c;exact SeqAt.EqAt.none_int b t
  |str b=>obtain⟨t,rfl⟩:=c;exact SeqAt.EqAt.none_str b t
  |_=>exact wC (show false=true from f) ky
 |bl a=>
  cases e;cases x with
  |non=>cases c;exact SeqAt.EqAt.bool_none a
  |bl b=>cases c;exact SeqAt.EqAt.bool_bool a b
  |int b=>obtain⟨t,rfl⟩:=c;exact SeqAt.EqAt.bool_int a b t
  |str b=>obtain⟨t,rfl⟩:=c;exact SeqAt.EqAt.bool_str a b t
  |_=>exact wC (show false=true from f) ky
 |int a=>
  obtain⟨d,rfl⟩:=e;cases x with
  |non=>cases c;exact SeqAt.EqAt.int_none a d
  |bl b=>cases c;exact SeqAt.EqAt.int_bool a d b
  |int b=>obtain⟨t,rfl⟩:=c;exact SeqAt.EqAt.int_int a d b t
  |str b=>obtain⟨t,rfl⟩:=c;exact SeqAt.EqAt.int_str a d b t
  |_=>exact wC (show false=true from f) ky
 |str a=>
  obtain⟨d,rfl⟩:=e;cases x with
  |non=>cases c;exact SeqAt.EqAt.str_none a d
  |bl b=>cases c;exact SeqAt.EqAt.str_bool a d b
  |int b=>obtain⟨t,rfl⟩:=c;exact SeqAt.EqAt.str_int a d b t
  |str b=>obtain⟨t,rfl⟩:=c;exact SeqAt.EqAt.str_str a d b t
  |_=>exact wC (show false=true from f) ky
 |_=>exact wC (show false=true from g) ky
def qX(x:V)(u:Vl):Bool:=match u with
 |.none=>pK .non x
 |.bool b=>pK (.bl b) x
 |.int i _=>pK (.int i) x
 |.str z _=>pK (.str z) x
 |_=>false
def Fv{x y:V}{u:Vl}(r:RelV y u)(f:nh y=true):qX x u=pK y x:=by
 cases y with
 |non=>cases r;rfl
 |bl b=>cases r;rfl
 |int i=>obtain⟨t,rfl⟩:=r;rfl
 |str z=>obtain⟨t,rfl⟩:=r;rfl
 |_=>exact wC (show false=true from f) ky
theorem Cc{x:V}:∀{a:List V} {b:Vs},Vals a b->a.all nh=true->b.any (qX x)=a.any λy=>pK y x
 |_,_,.nil,_=>rfl
 |y::a,u::b,.cons r t,f=>by
  rw[List.all_cons,rH]at f;rw[wD,wD,Fv r f.1,Cc t f.2]
theorem C5{A:Ar}{s:Sh}{x:V}{v:Vl}(c:RelV x v)(d:nh x=true):∀{a:List V} {b:Vs},Vals a b->a.all nh=true->∀u∈b,SeqAt.EqAt A s u v (qX x u)
 |_,_,.nil,_=>λu hu=>by cases hu
 |y::a,u::b,.cons r t,f=>λe hu=>by
  rw[List.all_cons,rH]at f
  rcases iu.mp hu with rfl|hu
  .rw[Fv r f.1];exact A2 r c f.1 d
  .exact C5 c d t f.2 e hu
def Aa(x:V)(a:List V):Bool:=a.any λy=>pK y x
inductive DI(K:N2)(a:Bool)(x y:V)(H:Hp)(Q:VK):Prop|mk:∀p b,y=.ref p->((SqL K H p b\/SqT K H p b))->nh x=true->b.all nh=true->(Q (.bl (if a then !Aa x b else Aa x b)) H)->DI K a x y H Q
def Il:OpR X (compareOp .In) (DI X.K false):=by
 intro Z s g H x y v u Q I c e h;obtain⟨p,i,rfl,hq,d,fs,q⟩:=h;cases e
 rcases hq with hq|hq
 .obtain⟨a,r,b,f⟩:=I.list hq;refine SeqAt.in_listAt (qX x) b.isList (λw hw=>C5 c d r fs w (by simpa using hw)) #[.bl _,H,I,rZ,?_];rw[show a.toArray.any (qX x)=a.any (qX x) by simp,Cc r fs];exact q
 .obtain⟨a,r,b,f⟩:=I.tuple hq;refine SeqAt.in_tupleAt (qX x) b (λw hw=>C5 c d r fs w (by simpa using hw)) #[.bl _,H,I,rZ,?_];rw[show a.toArray.any (qX x)=a.any (qX x) by simp,Cc r fs];exact q
def mO:mE X (.builtin "len") (λf H Q=>∃p b,f=[.ref p]/\(SqL X.K H p b\/SqT X.K H p b)/\Q (.int b.length) H):=by
 intro Z s j H f k Q I r h;obtain⟨p,b,rfl,hq,q⟩:=h;obtain⟨u,rfl,g⟩:=mi r;cases g;have l:=yh
 rcases hq with hq|hq
 .obtain⟨c,d,e,i⟩:=I.list hq;have a:=d.length;exact Calls.call_len_list e.isList (by simp only[List.size_toArray]<;>lia) #[.int b.length,H,I.tok _,#[s.toks+1,by rw[List.size_toArray,a]],q]
 .obtain⟨c,d,e,i⟩:=I.tuple hq;have a:=d.length;exact len_tuple e (by simp only[List.size_toArray]<;>lia) #[.int b.length,H,I.tok _,#[s.toks+1,by rw[List.size_toArray,a]],q]
def Ie:mE X (.type "list") (λx H Q=>∃p d,x=[.ref p]/\(SqL X.K H p d\/SqT X.K H p d)/\∀l,H l=none->Q (.ref l) (gI H l (.lst d))):=by
 intro Z s z H x B Q I r h;obtain⟨p,d,rfl,hq,q⟩:=h;obtain⟨u,rfl,A⟩:=mi r;cases A;have fin:∀(a:Vs),Vals d a->d.length<=sizeLine->∀(c:Heap) (f:Nat),(∀b y,s.heap.get? b=some y->c.get? b=some y)->
   c.get? s.heap.objs.size=some {cls:= .type "list",dict:=none,data:= .seq a.toArray f,slots:= #v[]}->EP X Z z Q (.ref s.heap.objs.size) {s with heap:=c}:=λa g i c f j e=>
  #[.ref s.heap.objs.size,_,I.laid (t':=s.toks) j (gS _) (show ObjOk X.prog X.w _ c _ (.lst d)from#[i,a,f,g,e]),rZ,q _ (I.hok.fresh (gS _))]
 rcases hq with hq|hq
 .obtain⟨a,g,m,i⟩:=I.list hq;have k:=g.length;obtain⟨o,t,v,n,w⟩:=m.isList;exact call_list_seq p (.inl rZ) t v w (λc f j e=>fin a g i c f j e) (by simp only[List.size_toArray]<;>lia)
 .obtain⟨a,g,m,i⟩:=I.tuple hq;have k:=g.length;obtain⟨o,t,v,n,w⟩:=m;exact call_list_seq p (.inr rZ) t v w (λc f j e=>fin a g i c f j e) (by simp only[List.size_toArray]<;>lia)
def xL:mE X (.type "tuple") (λj H Q=>∃p c,j=[.ref p]/\((SqL X.K H p c/\∀l,H l=none->Q (.ref l) (gI H l (.tup c)))\/(SqT X.K H p c/\Q (.ref p) H))):=by
 intro Z s k H j y Q I r h;obtain⟨p,c,rfl,h⟩:=h;obtain⟨u,rfl,v⟩:=mi r;cases v
 rcases h with⟨f,q⟩|⟨f,q⟩
 .obtain⟨a,g,i,m⟩:=I.list f;have n:=g.length;refine call_tuple_list i.isList (λd w=>?_) (by simp only[List.size_toArray]<;>lia);have t:Inv X Z k H {s with heap:=d}:=I.kept (t':=s.toks) w;have x:Inv X Z k (gI H d.objs.size (.tup c)) {s with heap:=d.push {cls:= .type "tuple",data:= .seq a.toArray}}:=
   t.laid (t':=s.toks) (λb o e=>ig _ e) (gS _) (show ObjOk X.prog X.w _ _ _ (.tup c)from#[m,a,g,TupD.new _ _])
  exact#[.ref d.objs.size,_,x,rZ,q _ (t.hok.fresh (gS _))]
 .obtain⟨a,g,i,m⟩:=I.tuple f;exact call_tuple_same i #[.ref p,H,I,rZ,q]
def CQ(K:N2)(T:String)(x:V)(H:Hp):Prop:=match x with
 |.str _=>T="str"
 |.int _=>T="int"
 |.ref p=>(T="list"/\∃b,SqL K H p b)\/(T="tuple"/\∃o,K.lookup p=some o/\o.cls=.type "tuple"/\o.dict=none)\/
   (T="dict"/\((∃a,H p=some (.dK a))\/∃a,H p=some (.dT a)))\/(T="set"/\∃S n,H p=some (.set S n))
 |_=>False
def G0{Z:AO}{l:St}{H:Hp}{s:Sh}{T:String}{x:V}{v:Vl}(I:Inv X Z l H s)(r:RelV x v)(ty:CQ X.K T x H):
  s.TypeIs v T/\∀a,v=.ref a->∃j,s.heap.get? a=some j/\j.dict=none:=by
 cases x with
 |str z=>
  obtain⟨t,rfl⟩:=r;cases(show T="str" from ty);exact#[typeIs_str s z t,λ_ e=>nomatch e]
 |int i=>
  obtain⟨t,rfl⟩:=r;cases(show T="int" from ty);exact#[typeIs_int s i t,λ_ e=>nomatch e]
 | ref p=>
  cases r
  rcases ty with⟨rfl,w,m⟩|⟨rfl,o,b,q,f⟩|⟨rfl,b⟩|⟨rfl,S,n,b⟩
  .obtain⟨u,_,k,_⟩:=I.list m;refine#[k.isList.typeIs,λa e=>?_];cases e;obtain⟨o,n,e,c,f,_⟩:=k;exact#[o,e,f]
  .refine#[#[o,I.kIn p o b,q],λa e=>?_];cases e;exact#[o,I.kIn _ o b,f]
  .have z:∃o,s.heap.get? p=some o/\o.ExactDict:=by
    rcases b with⟨g,b⟩|⟨g,b⟩
    .obtain⟨_,_,_,_,o,_,_,e,d,_⟩:=I.hok p _ b;exact#[o,e,d]
    .obtain⟨_,_,_,_,o,_,_,e,d,_⟩:=I.hok p _ b;exact#[o,e,d]
   obtain⟨o,e,d⟩:=z;refine#[#[o,e,d.1],λa h=>?_];cases h;exact#[o,e,d.2.1]
  .obtain⟨o,_,_,_,e,d,_⟩:=I.hok p _ b;refine#[#[o,e,d.1],λa h=>?_];cases h;exact#[o,e,d.2.1]
 |_=>exact wE ty
def Cr(K:N2)(T:String)(r:V->List V->Hp->VK->Prop)(to:TE):TE:=λb H Q=>to b H λx a=>CQ K T x a/\r x [] a Q
def zZ(K:N2)(T:String)(r:V->List V->Hp->VK->Prop)(to:TE)(t:TA):TE:=λa H Q=>to a H λx b=>CQ K T x b/\t a b λc d=>r x c d Q
variable{o e:Expr}{m:List Expr}{to:TE}{t:TA}{name:Str}{g d:Pos}{T id:String}{r:V->List V->Hp->VK->Prop}
def Ho(k:PlainAttrs T)(c:Slot T name id)(e:typeOf (.builtin id)=pure (.type "method_descriptor"))(l:Au X id r)(m:PE X o to)(a:attributeBase o name X.env (eval o X.env)=eval o X.env:=by rfl) (b:(g.endLine==d.line)=true:=by rfl):PE X (.Call (.Attribute o name g) [] [] d) (Cr X.K T r to):=by
 intro Z s f H Q I h;refine wpAny_Call_method0_late a b (gY (m Z s f H _ I h) λv n ⟨x,p,i,j,ty,q⟩=>?_);obtain⟨t,u⟩:=G0 i j ty;exact#[T,id,k,c,e,t,u,Calls.callWith_builtin rZ (PySem.evalArgs_none (l Z n f p x [] v [] Q i j .nil q))]
def uq(q:PlainAttrs T)(f:Slot T name id)(j:typeOf (.builtin id)=pure (.type "method_descriptor"))(u:Au X id r)(w:PE X o to)(y:PA X (e::m) t)(b:attributeBase o name X.env (eval o X.env)=eval o X.env:=by rfl)
  (i:((backTo d (starEach (e::m) X.env)).all (λx=> !x.1)&&(backToKw d (keywordEach [] X.env)).all (λx=>x.1.isSome)
   &&decide ((e::m).length+([]:List Keyword).length+(if([]:List Keyword).isEmpty then 0 else 1)<30))=true:=by rfl)
  (c:(g.endLine==d.line)=true:=by rfl) (z:starEach (e::m) X.env=(false,eval e X.env)::starEach m X.env:=by rfl) (a:(backTo d (starEach m X.env)).any (·.1)=false:=by rfl):
  PE X (.Call (.Attribute o name g) (e::m) [] d) (zZ X.K T r to t):=by
 intro Z s k H Q I h;refine wpAny_Call_method_late b i c rZ (gY (w Z s k H _ I h) λv A ⟨x,B,l,n,ty,C⟩=>?_);obtain⟨D,E⟩:=G0 l n ty;refine#[T,id,q,f,j,D,E,?_];have p:=y d Z A k B _ l C;rw[z]at p|-;refine Calls.callWith_builtin (by show(false || (backTo d (starEach m X.env)).any (·.1))=false;rw[a]<;>rfl) (Calls.evalArgs_plain ?_);exact gY p λG J ⟨L,M,N,O,U⟩=>u Z J k M x L v G Q N n O U
end
def JO(X:Cx)(id:String)(r:V->List V->Hp->VK->Prop):Prop:=
 ∀(Z:AO) (s:Sh) (a:St) (H:Hp) (x:V) (b:List V) (v:Vl) (c:Vs) (Q:VK),Inv X Z a H s->RelV x v->Vals b c->r x b H Q->
  wpAny (model X.prog X.w) X.A (call (.builtin id) (v::c)) (EP X Z a Q) X.xe s
theorem Vals.one:∀{x:V} {a:Vs},Vals [x] a->∃u,a=[u]/\RelV x u
 |_,_,.cons r .nil=>#[_,rZ,r]
section
variable{X:Cx}{Z:AO}{a:St}{H:Hp}{s:Sh}{l b:Ad}{d c g:List V}
def Inv.lset{b its':Vs}{n:Nat}{f:AV->Array Vl}{t':Nat}(I:Inv X Z a H s)(g:H l=some (.lst d))(e:s.heap.get? l=some {cls:= .type "list",data:= .seq b.toArray n}) (h:f b.toArray=its'.toArray) (i:Vals c its') (j:c.length<=sizeLine):
  Inv X Z a (gI H l (.lst c)) {s with heap:=s.heap.update l (Obj.mapSeq f),toks:=t'}:=by
 have q:=PySem.IsL.update e f;rw[h]at q;refine I.write (x:=l) (e:=l) (by rw[g];exact trivial) (.inl rZ) (λo u k m=>(mM s.heap (Obj.mapSeq f) (jd k)).trans m) #[_,q] ?_;exact#[j,its',_,i,q]
def Inv.lnew{b:Vs}{t':Nat}(I:Inv X Z a H s)(d:Vals c b)(e:c.length<=sizeLine):
  Inv X Z a (gI H s.heap.objs.size (.lst c)) {s with heap:=s.heap.push {cls:= .type "list",data:= .seq b.toArray},toks:=t'}:=
 I.laid (λ_ _ q=>ig _ q) (gS _) #[e,b,0,d,i4 _ rZ]
def Inv.fresh(I:Inv X Z a H s):H s.heap.objs.size=none:=I.hok.fresh (gS _)
def Inv.lstM(I:Inv X Z a H s)(c:H l=some (.lst d)):d.length<=sizeLine/\∃(b:Vs) (n:Nat),Vals d b/\d.length=b.length/\s.heap.get? l=some {cls:= .type "list",data:= .seq b.toArray n}:=by
 obtain⟨z,b,n,r,e⟩:=I.hok l _ c;exact#[z,b,n,r,r.length,e]
end
section
variable{X:Cx}
inductive mP(x:V)(b:List V)(H:Hp)(Q:VK):Prop|mk:∀l a y,x=.ref l->b=[y]->H l=some (.lst a)->a.length<sizeLine->Q .non (gI H l (.lst (a++[y])))->mP x b H Q
def wY:JO X "list.append" mP:=by
 intro Z s g H x i v j Q I c d h;obtain⟨l,k,y,rfl,rfl,b,m,q⟩:=h;cases c;obtain⟨u,rfl,f⟩:=d.one;obtain⟨z,a,n,r,o,e⟩:=I.lstM b;refine call_meets F.slot_list_append #[_,e,rZ] F.entry_list_append (F.args_list_append_2 _ _) (PySem.list_append l a.toArray n u (by rw[iK];lia)) #[e,?_];refine#[.non,_,I.lset (its':=a++[u]) b e (by simp) (r.append (.cons f .nil)) ?_,rZ,q];rw[jc,Cj];lia
end
end L2
namespace Att
open PySem PySem.W PySem.Calls PyProof.Rows
def IZ{P:Params}{h:Heap}:∀(c:Zs) (d:Vs),WellAll P h d (c.map WData.int)->IntsAre d c:=by
 intro c
 induction c with
 |nil=>
  intro d w;rw[List.map_nil]at w;cases w;exact .nil
 | cons n c e=>
  intro d w;rw[kz]at w;cases w with
  |cons a b=>
   cases a;exact .cons _ _ (e _ b)
def JX{l:OpenLaw}{n:Nat}(s:l.most=some n){P:Params}{h:Heap}{args:List WData}{c:Vs}(e:l.row.toRowW.claim.pre args=true) (k:WellAll P h c args):
  ∃a o b,c=[Value.ref a]/\args=[WData.list (b.map WData.int)]/\h.get? a=some {cls:= .type "list",data:= .seq o.toArray}/\IntsAre o b/\b.length<=n:=by
 have m:WShape.hasAll [] args [.list .int]=true:=(pre_splitW e).1;have p:l.pre.holds [] {args:=args}=true:=(pre_splitW e).2;obtain⟨d,r,rfl,t,u⟩:=hasAllW_cons m;obtain rfl:=hasAllW_nil u;obtain⟨A,rfl,v⟩:=hasW_list t;obtain⟨b,rfl⟩:=items_int v;have f:b.length<=n:=by
  unfold OpenLaw.pre at p;have i:(WTm.not (.lt (.lit (.int (n:Int))) (.len (.arg 0)))).holds [] {args:=[.list (b.map .int)]}=true:=by
   have i:=(holds_andW p).1;rw[s]at i;exact i
  have j:=condW_of i (w_not (w_lt w_lit (w_len_list (w_arg rZ))));rw[gL]at j;refine Aq λq=>?_;have w:(n:Int)<((b.length:Nat):Int):=by lia
  first
   |(rw[iG w]at j;exact wC j (by decide))
   |(simp at j;lia)
 cases k with
 |cons x y=>
  cases y;cases x with
  |list z g=>exact#[_,_,b,rZ,rZ,z,IZ b _ g,f]
def MB(l:OpenLaw)(args:List WData):l.row.toRowW.claim.post args (.bool true) args=true:=
 postW_of (r:=l.row.toRowW) (X:=(true==true))
  (show WShape.has [] (.bool true) .bool=true by first|rfl|decide|simp[WShape.has,WShape.arms,WShape.armsAll])
  (show(WTm.eq .res (.lit (.bool true))).value [] {args:=args,res:=some (.bool true),after:=args}=some (.bool (true==true))from w_eq_bool (w_res rZ) w_lit) rfl
def attach_call{l:OpenLaw}{n:Nat}{q:Pg}{c:Ss}{A:SV->Heap->Prop}{B:World->Heap->Prop}{d:DefRec}(H:l.most=some n) (u:d.params.defaults=[])(call:∀(w:World) (e b:Sh) (mg v:SV) (fa:Ad) (o:Obj) (x p g:Vl) (a:Ad) (i:Vs) (s:Zs),
   Ground q c [] A w e mg v b.heap->B w b.heap->
   b.heap.get? fa=some o->o.data=.func (docDef d.name d.params d.body d.scope x p g)->b.heap.CodeRec p d.name->mg d.name=some (.ref fa)->
   b.heap.get? a=some {cls:= .type "list",data:= .seq i.toArray}->IntsAre i s->s.length<=n->b.gens= #v[]->
   codeAny (model l.prog w) callerA (.call (.ref fa) #[[.ref a],[]]) (λr t=>r=.ok (.ret (.bool true))/\OldK b.heap t.heap/\t.os=b.os/\AllBare t.gens) b):
  WalkO q c A B l.row.toRowW d [] (λf i=>PySem.call f i):=by
 intro w e b mg v G Y fa o x p g I kV J L y C hmg M args D as j E N z O;obtain rfl:I=.none:=Dflts.none C u;obtain rfl:kV=.none:=Dflts.noKw C;obtain⟨a,i,s,rfl,rfl,k,h,m⟩:=JX H j z;refine enter_call (nG (call w e b mg v fa o x p g a i s G Y J (fd_plain L) y hmg k h m M) λr t Q=>?_);obtain⟨rfl,T,U,h4⟩:=Q;exact#[.inl #[.bool true,.bool true,[],rZ,λ_=>rfl,.bool true,MB l _,λ_=>#[List.Pairwise.nil,λ_ hm=>(nomatch hm)]],T,U,h4]
end Att
namespace L2
open PySem PySem.Spec PyProof.Rows
theorem Ek:∀{a:Vs} {b:Zs},IntsAre a b->Vals (b.map V.int) a
 |_,_,.nil=> .nil
 |_,_,.cons n t h=> .cons #[t,rZ] (Ek h)
abbrev N0{K:N2}{h:Heap}(_:K.In h):N2:=K
end L2
namespace L2
open PySem PySem.Spec PyProof.Rows
def iQ(s:Stmt):Arguments:=match s with
 | .FunctionDef _ a _ _ _ _ _ _ _ _=>a
 |_=>{posonlyargs:=[],args:=[],vararg:=none,kwonlyargs:=[],kw_defaults:=[],kwarg:=none,defaults:=[]}
def iE(s:Stmt):List Stmt:=match s with
 | .FunctionDef _ _ b _ _ _ _ _ _ _=>b
 |_=>[]
def gP(s:Stmt):Scope:=match s with
 | .FunctionDef _ _ _ _ _ _ a _ _ _=>a
 |_=>{kind:= .function,names:=[],isGenerator:=false,isCoroutine:=false}
abbrev im:qz:=λ_ _ _ _ _ _=>False
abbrev E0:XK:=λ_ _ _=>False
def E9{X:Cx}:ti im X E0:=λ_ _ _ _ _ _ _ h=>h.elim
structure Fun(K:N2)(x qual:Str)(st:Stmt)(f:Ad)(fd:Fd):Prop where
 ex:∃(oc:Vl) (od:Option Ad) (kV doc pm:Vl) (an:Option Ad) (cdv ct:Vl) (osl:Array (Option Vl)),
  fd=PySem.W.fnOf x qual (iQ st) (iE st) (gP st) .none kV doc pm an cdv ct/\K.lookup f=some #[oc,od,.func fd,osl]/\PySem.W.codeIn K cdv qual=true
 kp:PySem.W.keepIn K (.ref f)=true
section
variable{P:Pg}{w:World}{K:N2}{mg:SV}{base:Heap}
def Fun.ok{x b:Str}{st:Stmt}{f:Ad}{m:Fd}{N g:Ss}{k:Nat}{i:Sp}(F:Fun K x b st f m)(S:FnScope N g (gP st))(d:∀(c:Vl) (A:Ar) (a:List Env) (s:Sh) (H:Hp) (e:List V) (Q:VK) (E:XK),Room k (A.deeper (envOfC b (gP st) s.heap.objs.size f c))->i e H Q E->
   ∃t,PSs (pG im P w K mg base N b (gP st) f c A a s H E).nox (iE st) t/\t {nx:=λ_ H'=>Q .non H',rt:=Q} (start N e) H)(len:∀e H Q E,i e H Q E->e.length=g.length:=by (intro _ _ _ _ h;first|(cases h;subst_vars;rfl)|((repeat obtain⟨_,h⟩:=h);subst_vars;rfl))):FnOk P w K mg base im (k+1) f m g i:=by
 obtain⟨r,u,kV,n,v,y,c,z,o,rfl,lk,j⟩:=F.ex;refine AM lk j S len λA a s H e Q E p l=>?_;obtain⟨t,h,q⟩:=d c A a s H e Q E p l;exact#[t,h.nox,q]
def Fun.binds{x a:Str}{st:Stmt}{f:Ad}{j:Fd}{ps:Ss}(F:Fun K x a st f j)(h:∀(kV b d:Vl) (e:Option Ad) (c g:Vl) (i:Vs),i.length=ps.length->bindArgs (PySem.W.fnOf x a (iQ st) (iE st) (gP st) .none kV b d e c g) #[i,[]]=pure (ps.zip i)):Binds K j ps []:=by
 obtain⟨m,n,kV,b,d,e,c,g,k,rfl,lk,l⟩:=F.ex;exact .all (h kV b d e c g)
def jr{x a:Str}{st:Stmt}{f:Ad}{j:Vl}{m g:Option Ad}{e:Array (Option Vl)}{kV d h b i:Vl}(l:K.lookup f=some #[j,m,.func (PySem.W.fnOf x a (iQ st) (iE st) (gP st) .none kV d h g b i),e])(c:PySem.W.codeIn K b a=true) (k:PySem.W.keepIn K (.ref f)=true):Fun K x a st f (PySem.W.fnOf x a (iQ st) (iE st) (gP st) .none kV d h g b i):=#[#[j,m,kV,d,h,g,b,i,e,rZ,l,c],k]
end
def oO{A:Ar}{k:Nat}(a:Room k A):A.units+1<cLine:=yi (xw (by decide:1<=64) _) a.units
def Js{n:Nat}(h:n<=1000):n<sizeLine:=yi h (by decide)
section
variable{X:Cx}
def pv(i:Nat){x:Str}{a:Pos}(c:X.N[i]?=some x:=by rfl)(d:BY X.env.scope x:=by first|exact Or.inl rfl|exact Or.inr Z'|exact Or.inr Z0)(e:(x==("__debug__":Str))=false:=by decide)
  (b:(x==("__classdict__":Str))=false:=by decide):PE X (.Name x a) (ir i):=Ma c d e b
end
def j5{A B:Prop}(h:B):if false=true then A else B:=by
 rw[wA ky];exact h
def mH{A B:Prop}(h:A):if true=true then A else B:=by
 rw[wB rZ];exact h
def pz{c A B:Prop}[Decidable c](a:c->A)(b: ¬c->B):if c then A else B:=by
 by_cases h:c
 .rw[wB h];exact a h
 .rw[wA h];exact b h
def Same(H a:Hp):Prop:=∀b o,H b=some o->a b=some o
def Same.refl(H:Hp):Same H H:=λ_ _ h=>h
def Same.trans{H d e:Hp}(a:Same H d)(b:Same d e):Same H e:=λc o h=>b c o (a c o h)
def Same.free{H a:Hp}(e:Same H a){l:Ad}(h:a l=Option.none):H l=Option.none:=by
 cases q:H l with
 |none=>rfl
 |some o=>
  rw[e l o q]at h;cases h
def Same.seq{K:N2}{H b:Hp}{a:Ad}{c:List V}(e:Same H b)(h:SqL K H a c):SqL K b a c:=by
 rcases h with(h|⟨o,h⟩)|h
 .exact .inl (.inl (e _ _ h))
 .exact .inl (.inr #[o,e _ _ h])
 .exact .inr h
section
variable{a:Type}[DecidableEq a]
def lG(b:List (a×V))(k:a):Option V:=(b.find? λc=>decide (c.1=k)).map (·.2)
def nL(b:List (a×V))(k:a)(v:V):List (a×V):=
 if(b.any λc=>decide (c.1=k))=true then b.map (λc=>if c.1=k then(c.1,v)else c)else b++[(k,v)]
def xl{p:a×V}{r:List (a×V)}{k:a}(e:p.1=k):lG (p::r) k=some p.2:=by simp[lG,List.find?_cons,e]
def rG{p:a×V}{r:List (a×V)}{k:a}(e: ¬p.1=k):lG (p::r) k=lG r k:=by simp[lG,List.find?_cons,e]
theorem Dw(k:a):∀b:List (a×V),(b.any λc=>decide (c.1=k))=(lG b k).isSome
 | []=>rfl
 |p::r=>by
  rw[wD];by_cases e:p.1=k
  .simp only[xl e,decide_eq_true e,Bool.true_or,Option.isSome_some]
  .rw[rG e,jy e,Bool.false_or];exact Dw k r
def ED(b:List (a×V))(k:a)(v:V):(nL b k v).length<=b.length+1:=by
 unfold nL;split
 .rw[gL];lia
 .rw[jc,nq,zJ];lia
def zn{b:List (a×V)}{k:a}(v:V)(h:lG b k=none):nL b k v=b++[(k,v)]:=by
 unfold nL;rw[Dw,h];exact wA (by decide)
def RelO.isSome_eq{o:Option V}{u:Option Vl}(r:RelO o u):o.isSome=u.isSome:=by
 cases o with
 |none=>cases u with
  |none=>rfl
  |some _=>exact(show False from r).elim
 |some _=>cases u with
  |none=>exact(show False from r).elim
  |some _=>rfl
def KV.val{c:List (a×V)}{g:List (a×Vl)}(r:KV c g)(k:a):RelO (lG c k) (valueAt g k):=by
 unfold KV at r
 induction r with
 |nil=>exact True.intro
 | @cons p q m d h t j=>
  obtain⟨i,l⟩:=h;by_cases e:p.1=k
  .have f:q.1=k:=i.symm.trans e;have b:valueAt (q::d) k=some q.2:=by simp[valueAt,List.find?_cons,f]
   rw[xl e,b];exact l
  .have f: ¬q.1=k:=λz=>e (i.trans z);have b:valueAt (q::d) k=valueAt d k:=by simp[valueAt,List.find?_cons,f]
   rw[rG e,b];exact j
def KV.any{b:List (a×V)}{d:List (a×Vl)}(r:KV b d)(k:a):(b.any λc=>decide (c.1=k))=d.any λc=>decide (c.1=k):=by
 unfold KV at r
 induction r with
 |nil=>rfl
 |cons h t e=>rw[wD,wD,e,h.1]
def KV.repl{c:List (a×V)}{f:List (a×Vl)}(r:KV c f)(k:a){y:V}{u:Vl}(g:RelV y u):
  KV (c.map λb=>if b.1=k then(b.1,y)else b) (f.map λb=>if b.1=k then(b.1,u)else b):=by
 unfold KV at r|-
 induction r with
 |nil=>exact .nil
 | @cons p q l m h t i=>
  rw[kz,kz];refine .cons ?_ i;obtain⟨d,j⟩:=h;by_cases e:p.1=k
  .rw[wB e,wB (d.symm.trans e)];exact#[d,g]
  .rw[wA e,wA (λz=>e (d.trans z))];exact#[d,j]
def KV.put{b:List (a×V)}{c:List (a×Vl)}(r:KV b c)(k:a){y:V}{u:Vl}(d:RelV y u):KV (nL b k y) (stored c k u):=by
 unfold nL stored;rw[r.any k];by_cases e:(c.any λf=>decide (f.1=k))=true
 .rw[wB e,wB e];exact r.repl k d
 .rw[wA e,wA e];exact Paired.snoc r #[rZ,d]
def KV.length{b:List (a×V)}{c:List (a×Vl)}(r:KV b c):b.length=c.length:=rh r
end
def yG{P:Pg}{w:World}{k:ik}{u:Vl}(r:RelV (kV k) u):(oq P w).is k u=true:=by
 cases k with
 |inl i=>obtain⟨t,e⟩:=(show ∃t,u=Value.int i t from r);subst e;exact Ic P w i t
 |inr x=>obtain⟨t,e⟩:=(show ∃t,u=Value.str x t from r);subst e;exact Ln P w x t
theorem Hz{P:Pg}{w:World}:∀{a:List ik} {b:Vs},Vals (a.map kV) b->ItemsAre (oq P w) a b
 | [],_,r=>by rw[List.map_nil]at r;cases r;exact .nil
 |k::a,_,r=>by
  rw[kz]at r;cases r with
  |cons h t=>exact .cons (yG h) (Hz t)
abbrev KT(H:Hp):List (List ik×V)->List (List ik×Ad×Vl)->Prop:=Paired λp q=>p.1=q.1/\H q.2.1=some (.tup (p.1.map kV))/\RelV p.2 q.2.2
def KT.val{H:Hp}{a:List (List ik×V)}{f:List (List ik×Ad×Vl)}(r:KT H a f)(k:List ik):RelO (lG a k) ((atKey f k).map (·.2)):=by
 induction r with
 |nil=>exact True.intro
 | @cons p q l c h t i=>
  obtain⟨g,_,j⟩:=h;by_cases e:p.1=k
  .have d:q.1=k:=g.symm.trans e;have b:atKey (q::c) k=some q.2:=by simp[atKey,List.find?_cons,d]
   rw[xl e,b];exact j
  .have d: ¬q.1=k:=λz=>e (g.trans z);have b:atKey (q::c) k=atKey c k:=by simp[atKey,List.find?_cons,d]
   rw[rG e,b];exact i
def KT.repl{H:Hp}{a:List (List ik×V)}{d:List (List ik×Ad×Vl)}(r:KT H a d)(k:List ik){y:V}{u:Vl}(g:RelV y u):
  KT H (a.map λc=>if c.1=k then(c.1,y)else c) (d.map (putAt k u)):=by
 induction r with
 |nil=>exact .nil
 | @cons p q l m h t i=>
  rw[kz,kz];refine .cons ?_ i;obtain⟨b,f,j⟩:=h;unfold putAt;by_cases e:p.1=k
  .rw[wB e,wB (b.symm.trans e)];exact#[b,f,g]
  .rw[wA e,wA (λz=>e (b.trans z))];exact#[b,f,j]
def KT.put{H:Hp}{a:List (List ik×V)}{c:List (List ik×Ad×Vl)}(r:KT H a c)(k:List ik){b:Ad}{y:V}{u:Vl}(f:H b=some (.tup (k.map kV)))(d:RelV y u):
  KT H (nL a k y) (storedH c k b u):=by
 have e:(a.any λg=>decide (g.1=k))=(atKey c k).isSome:=by
  rw[Dw,(r.val k).isSome_eq,Cv]
 unfold nL storedH;rw[e];by_cases q:(atKey c k).isSome=true
 .rw[wB q,wB q];exact r.repl k d
 .rw[wA q,wA q];exact Paired.snoc r #[rZ,f,d]
def KT.keeps{H c:Hp}{a:List (List ik×V)}{d:List (List ik×Ad×Vl)}(r:KT H a d)(ht:∀b ys,H b=some (.tup ys)->c b=some (.tup ys)):KT c a d:=
 Paired.mapP r λ_ _ z=>#[z.1,ht _ _ z.2.1,z.2.2]
section
variable{P:Pg}{w:World}{H:Hp}{h:Heap}{a:Ad}
def Fm{u:HO}(ok:HOk P w H h)(e:Rd H a u):ObjOk P w H h a u:=e.ok ok
def yc{b:List (ik×V)}(ok:HOk P w H h)(e:Rd H a (.dK b)):b.length<=sizeLine/\(a==sysModules)=false/\∃c,KV b c/\h.DictOf (oq P w) a c:=
 show ObjOk P w H h a (.dK b)from Fm ok e
def y8{b:List (ik×V)}(ok:HOk P w H h)(e:H a=some (.dK b)):b.length<=sizeLine/\(a==sysModules)=false/\∃c,KV b c/\h.DictOf (oq P w) a c:=yc ok (.inl e)
def xi{b:List ik}(ok:HOk P w H h)(e:H a=some (.tup (b.map kV))):(tupleKind (oq P w)).is h b a:=by
 obtain⟨_,c,r,o,d,f,n,g,_⟩:=(show ObjOk P w H h a (.tup (b.map kV))from ok a _ e);exact#[o,c.toArray,n,d,f,g,by simpa using Hz r]
def zd{b:List (List ik×V)}(ok:HOk P w H h)(e:Rd H a (.dT b)):b.length<=sizeLine/\(a==sysModules)=false/\
  ∃c,KT H b c/\h.DictOfH (tupleKind (oq P w)) a c:=by
 obtain⟨z,y,c,r,o,f,g,i,j,k,n,s⟩:=(show ObjOk P w H h a (.dT b)from Fm ok e);refine#[z,y,c,r,o,f,g,i,j,k,n,λx hx=>?_,s];have all:∀{l:List (List ik×V)} {m:List (List ik×Ad×Vl)},KT H l m->∀x∈m,(tupleKind (oq P w)).is h x.1 x.2.1:=by
  intro l m q
  induction q with
  |nil=>intro x hx;exact nomatch hx
  | @cons p q v A d t u=>
   intro x hx
   rcases iu.mp hx with e|hx
   .subst e;exact xi ok (by rw[<-d.1];exact d.2.1)
   .exact u x hx
 exact all r x hx
def B4{b:List (List ik×V)}(ok:HOk P w H h)(e:H a=some (.dT b)):b.length<=sizeLine/\(a==sysModules)=false/\
  ∃c,KT H b c/\h.DictOfH (tupleKind (oq P w)) a c:=zd ok (.inl e)
end
def DGet(H:Hp)(a:Ad)(y:V)(r:Option V):Prop:=
 (∃c k,Rd H a (.dK c)/\y=kV k/\r=lG c k)\/∃c k b,Rd H a (.dT c)/\y=.ref b/\H b=some (.tup (k.map kV))/\r=lG c k
def DPut(H:Hp)(a:Ad)(y v:V)(d:Hp):Prop:=
 (∃c k,H a=some (.dK c)/\y=kV k/\c.length<sizeLine/\d=gI H a (.dK (nL c k v)))\/
 ∃c k b,H a=some (.dT c)/\y=.ref b/\H b=some (.tup (k.map kV))/\c.length<sizeLine/\d=gI H a (.dT (nL c k v))
def DGet.t{H:Hp}{a b:Ad}{c:List (List ik×V)}{k:List ik}(e:H a=some (.dT c))(d:H b=some (.tup (k.map kV))):DGet H a (.ref b) (lG c k):= .inr #[c,k,b,.inl e,rZ,d,rZ]
def DPut.t{H:Hp}{a b:Ad}{c:List (List ik×V)}{k:List ik}{v:V}(e:H a=some (.dT c))(d:H b=some (.tup (k.map kV)))(f:c.length<sizeLine):
  DPut H a (.ref b) v (gI H a (.dT (nL c k v))):= .inr #[c,k,b,e,rZ,d,f,rZ]
section
variable{X:Cx}{Z:AO}{d:St}{H:Hp}{s:Sh}{a:Ad}{y v:V}{u r:Vl}{o:Option V}{A:Ar}{E:VP}
def Inv.big(I:Inv X Z d H s):sysModules<s.heap.objs.size:=by
 have h:mainGlobals<s.heap.objs.size:=(I.mod.glob.keeps I.bk).lt;exact wk (by decide) h
def Ni{Q:VP}(w:A.units+1<cLine)(I:Inv X Z d H s)(g:DGet H a y (some v))(r:RelV y u)(h:∀i t,Inv X Z d H t->RelV v i->Q i t):
  wpAny (model X.prog X.w) A (getItem (.ref a) u) Q E s:=by
 rcases g with⟨j,k,e,m,l⟩|⟨j,k,b,e,m,x,l⟩
 .subst m;obtain⟨z,B,C,c,n⟩:=yc I.hok e;obtain⟨i,hw,f⟩:=RelO.some_of (v:=v) (o:=valueAt C k) (by rw[l];exact c.val k);exact wpAny_getItem_of (yG r) n.mapOf hw (h i _ (I.tok _) f)
 .subst m;cases(show u=Value.ref b from r);obtain⟨z,B,D,c,n⟩:=zd I.hok e;obtain⟨i,hw,f⟩:=RelO.some_of (v:=v) (o:=(atKey D k).map (·.2)) (by rw[l];exact c.val k);obtain⟨p,G,q⟩:=jb.mp hw;refine wpAny_getItem_heap (Bu w) (xi I.hok x) n G ?_;rw[q];exact h i _ (I.tok _) f
def BL{Q:VP}(r:A.units+1<cLine)(I:Inv X Z d H s)(g:DGet H a y o)(n:RelV y u)(h:∀p,Inv X Z d H p->Q (.bool o.isSome) p):
  wpAny (model X.prog X.w) A (compareOp .In u (.ref a)) Q E s:=by
 rcases g with⟨f,k,e,i,l⟩|⟨f,k,b,e,i,t,l⟩
 .subst i;obtain⟨z,j,v,c,m⟩:=yc I.hok e;refine wpAny_in_of (yG n) j m.mapOf ?_;rw[<-(c.val k).isSome_eq,<-l];exact h _ (I.tok _)
 .subst i;cases(show u=Value.ref b from n);obtain⟨z,j,w,c,m⟩:=zd I.hok e;refine wpAny_in_heap (Bu r) (xi I.hok t) j m ?_;have q:=(c.val k).isSome_eq;rw[Cv]at q;rw[<-q,<-l];exact h _ (I.tok _)
def Nv{Q:VP}(r:A.units+1<cLine)(I:Inv X Z d H s)(g:DGet H a y o)(n:RelV y u)(h:∀p,Inv X Z d H p->Q (.bool (!o.isSome)) p):
  wpAny (model X.prog X.w) A (compareOp .NotIn u (.ref a)) Q E s:=by
 rcases g with⟨f,k,e,i,l⟩|⟨f,k,b,e,i,t,l⟩
 .subst i;obtain⟨z,j,v,c,m⟩:=yc I.hok e;refine wpAny_notIn_of (yG n) j m.mapOf ?_;rw[<-(c.val k).isSome_eq,<-l];exact h _ (I.tok _)
 .subst i;cases(show u=Value.ref b from n);obtain⟨z,j,w,c,m⟩:=zd I.hok e;refine wpAny_notIn_heap (Bu r) (xi I.hok t) j m ?_;have q:=(c.val k).isSome_eq;rw[Cv]at q;rw[<-q,<-l];exact h _ (I.tok _)
def D2{c:Heap}{g:Nat}{f:HO}(I:Inv X Z d H s)(h:xK (H a))(i:Heap.SameBut a s.heap c)(j:∃q,c.get? a=some q)(new:ObjOk X.prog X.w (gI H a f) c a f):
  Inv X Z d (gI H a f) {s with heap:=c,toks:=g}:=
 I.write (x:=a) (e:=a) h (.inl rZ) (λb q k z=>(i.2 b k).trans z) j new
def Ip{P:Pg}{w:World}{f:Hp}{e:Heap}{b:List (ik×V)}{c:List (ik×Vl)}(z:b.length<=sizeLine)(g:(a==sysModules)=false)(d:KV b c)(h:e.DictOf (oq P w) a c):
  ObjOk P w f e a (.dK b):=#[z,g,c,d,h]
def Lc{C:Hp}{Q:Unit->Sh->Prop}(O:A.units+1<cLine)(I:Inv X Z d H s)(g:DPut H a y v C)(D:RelV y u)(G:RelV v r)(h:∀J,Inv X Z d C J->Q ⟨⟩ J):
  wpAny (model X.prog X.w) A (setItem (.ref a) u r) Q E s:=by
 rcases g with⟨f,k,e,n,l,o⟩|⟨f,k,b,e,n,L,l,o⟩
 .subst n o;obtain⟨z,p,T,i,t⟩:=y8 I.hok e;have w:T.length<=sizeLine:=by rw[<-i.length];exact z
  have x:(nL f k v).length<=sizeLine:=by have:=ED f k v;lia
  refine wpAny_setItem_pairs (hsz:=w) (yG D) t λM j B=>h _ ?_;have U:∃q,M.get? a=some q:=let⟨q,_,_,m,_⟩:=j;#[q,m]
  exact D2 I (by rw[e];exact True.intro) B U (Ip x p (i.put k G) j)
 .subst n o;cases(show u=Value.ref b from D);obtain⟨z,p,Y,i,t⟩:=B4 I.hok e;have w:Y.length<=sizeLine:=by rw[<-rh i];exact z
  have x:(nL f k v).length<=sizeLine:=by have:=ED f k v;lia
  refine wpAny_setItem_heap (hsz:=w) (Bu O) (xi I.hok L) t λM j B=>h _ ?_;obtain⟨q,es,ep,m,h2,h3,h4,_,h5⟩:=j;refine D2 I (by rw[e];exact True.intro) B #[q,m] #[x,p,_,(i.put k L G).keeps λc ys N=>?_,q,es,ep,m,h2,h3,h4,h5];rw[gM (nE N e)];exact N
end
def yd(i:Expr):Prop:=∀a b,subscripted i false a b=operate [a,b] (getItem a b)
def NM{a:Pg}{w:World}{A:Ar}{E:VP}{s:Sh}{j:Env}{c b:Expr}{m:Pos}{T id:String}{Q:VP}(n:typeLookup (.type T) "__getitem__"=pure (some (.builtin id))) (p:yd b)(h:wpAny (model a w) A (eval c j) (λo f=>wpAny (model a w) A (eval b j) (λi d=>d.TypeIs o T/\wpAny (model a w) A (getItem o i) Q E d) E f) E s):
  wpAny (model a w) A (eval (.Subscript c b m) j) Q E s:=by
 refine Subscript_ (kS h (λo f k=>kS k (λi d e=>?_) λ_ _ x=>x) λ_ _ x=>x);obtain⟨hT,e⟩:=e;unfold subscriptTail;refine gH ?_;rw[getitemInPython_of_ne hT.not_modules];refine gH (wpAny_specialOf hT n ?_);have fin:wpAny (model a w) A (subscripted b false o i) (λr g=>wpAny (model a w) A (letTemporaryGo c o r >>= λ_=>pure r) Q E g) E d:=by
  rw[p o i];exact wpAny_operating (kS e (λr g l=>gH (wpAny_letTemporaryGo (gK l))) λ_ _ x=>x)
 first
  |exact gK (gH fin)
  |exact gH (gK (gH fin))
  |exact gH fin
def LH{X:Cx}{Z:AO}{f:St}{H:Hp}{s:Sh}{a:Ad}{y:V}{o:Option V}(I:Inv X Z f H s)(g:DGet H a y o):s.TypeIs (.ref a) "dict":=by
 rcases g with⟨c,k,e,_,_⟩|⟨c,k,b,e,_,_,_⟩
 .obtain⟨_,_,h,_,d⟩:=yc I.hok e;exact d.typeIs
 .obtain⟨_,_,i,_,d⟩:=zd I.hok e;exact d.typeIs
def Gm(d ty:TE):TE:=λb H Q=>d b H λx e=>ty b e λy c=>∃a v,x=.ref a/\DGet c a y (some v)/\Q v c
def Cy(ty d:TE):TE:=λb H Q=>ty b H λy e=>d b e λx c=>∃a o,x=.ref a/\DGet c a y o/\Q (.bl o.isSome) c
def HK(ty d:TE):TE:=λb H Q=>ty b H λy e=>d b e λx c=>∃a o,x=.ref a/\DGet c a y o/\Q (.bl (!o.isSome)) c
def Gw(d ty e:TE):TS:=λD b H=>e b H λv f=>d b f λx g=>ty b g λy h=>∃a c,x=.ref a/\DPut h a y v c/\D.nx b c
section
variable{X:Cx}{o i e b:Expr}{f c k:Pos}{d ty j:TE}
def uu(j:X.A.units+1<cLine)(k:PE X o d)(l:PE X i ty)(m:yd i):PE X (.Subscript o i f) (Gm d ty):=by
 intro Z s c H Q I h;refine NM PySem.F.slot_dict_getitem.lookup m (gY (k Z s c H _ I h) λu n ⟨x,p,q,r,t⟩=>gY (l Z n c p _ q t) λD E ⟨y,w,e,z,a,v,A,g,B⟩=>?_);subst A;obtain rfl:u=Value.ref a:=r;exact#[LH e g,Ni j e g z λG J C b=>#[v,w,C,b,B]]
def Be(c:X.A.units+1<cLine)(e:PE X i ty)(f:PE X o d):PC X .In i o (Cy ty d):=by
 intro Z s b H Q I h;refine gY (e Z s b H _ I h) λA j ⟨y,k,l,m,n⟩=>gY (f Z j b k _ l n) λu B ⟨x,p,q,r,a,t,v,g,w⟩=>?_;subst v;obtain rfl:u=Value.ref a:=r;exact BL c q g m λC z=>#[.bl t.isSome,p,z,rZ,w]
def AF(c:X.A.units+1<cLine)(e:PE X i ty)(f:PE X o d):PC X .NotIn i o (HK ty d):=by
 intro Z s b H Q I h;refine gY (e Z s b H _ I h) λA j ⟨y,k,l,m,n⟩=>gY (f Z j b k _ l n) λu B ⟨x,p,q,r,a,t,v,g,w⟩=>?_;subst v;obtain rfl:u=Value.ref a:=r;exact Nv c q g m λC z=>#[.bl (!t.isSome),p,z,rZ,w]
def we(k:X.A.units+1<cLine)(l:PE X o d)(m:PE X i ty)(n:PE X b j)(p:swapsWith b (some (.Subscript o i c)) f.line X.env=pure false):
  PS X (.Assign [.Subscript o i c] b f) (Gw d ty j):=by
 intro Z s e H D I h;refine wpAny_Assign_Subscript (gY (n Z s e H _ I h) λr q ⟨v,t,w,z,A⟩=>gY (l Z q e t _ w A) λu B ⟨x,C,E,G,J⟩=>gY (m Z B e C _ E J) λU Y ⟨y,H3,L,M,a,N,O,g,Q⟩=>?_) p;subst O;obtain rfl:u=Value.ref a:=G;exact Lc k L g M z λs4 T=>#[e,N,T,Q]
end
def Hw{P:Pg}{w:World}{H:Hp}(h:Heap)(a:sysModules<h.objs.size):ObjOk P w H (h.push {cls:= .type "dict",data:= .dict #v[]}) h.objs.size (.dT []):=
 #[lV _,sk.mpr (jd (iW a)),[],.nil,_,#v[],0,i4 _ rZ,#[rZ,rZ,rZ],rZ,rZ,yg]
def KD:TE:=λ_ H Q=>∀p,H p=none->Q (.ref p) (gI H p (.dT []))
section
variable{X:Cx}{b:Pos}
def De:PE X (.Dict [] [] b) KD:=λZ s c H Q I h=>
 wpAny_Dict_empty #[.ref s.heap.objs.size,_,I.laid (a:=s.heap.objs.size) (o:= .dT []) (t':=s.toks) (λ_ _ q=>ig _ q) (gS _) (Hw s.heap I.big),rZ,h _ (I.hok.fresh (gS _))]
end
def Gc:List (TE×TE)->St->Hp->(List (V×V)->Hp->Prop)->Prop
 | [],_,H,Q=>Q [] H
 |(b,c)::r,a,H,Q=>b a H λx d=>c a d λy e=>Gc r a e λf g=>Q ((x,y)::f) g
abbrev VV:List (V×V)->List (Vl×Vl)->Prop:=Paired λp q=>RelV p.1 q.1/\RelV p.2 q.2
def CH(X:Cx)(b:Pos)(keys:List (Option Expr))(a:List Expr)(c:List (TE×TE)):Prop:=
 ∀(Z:AO) (s:Sh) (d:St) (H:Hp) (Q:List (V×V)->Hp->Prop),Inv X Z d H s->Gc c d H Q->
  wpAny (model X.prog X.w) X.A (evalPairs (pairTrees keys a X.env b)) (λg h=>∃e f,Inv X Z d f h/\VV e g/\Q e f) X.xe s
def LA{X:Cx}{a:Pos}:CH X a [] [] []:=λZ s b H Q I h=>pairTrees_nil_walk #[[],H,I,.nil,h]
def L6{X:Cx}{pos:Pos}{k v:Expr}{d:List (Option Expr)}{e:List Expr}{f g:TE}{a:List (TE×TE)}(i:PE X k f)(j:PE X v g)(l:CH X pos d e a):
  CH X pos (some k::d) (v::e) ((f,g)::a):=λZ s b H Q I h=>
 pairTrees_cons_walk (gY (i Z s b H _ I h) λu m ⟨x,n,o,p,q⟩=>gY (j Z m b n _ o q) λG r ⟨y,t,w,z,A⟩=>
  gY (l Z r b t _ w A) λJ L ⟨B,C,D,c,E⟩=>#[(x,y)::B,C,D,.cons #[p,z] c,E])
structure M1(X:Cx)(o:Expr)(m:Str)(apos:Pos)(e:Expr)(cpos:Pos):Prop where
 base:attributeBase o m X.env (eval o X.env)=eval o X.env
 few:((backTo cpos (starEach [e] X.env)).all (λx=> !x.1)&&(backToKw cpos (keywordEach [] X.env)).all (λx=>x.1.isSome)
  &&decide (([e]:List Expr).length+([]:List Keyword).length+(if([]:List Keyword).isEmpty then 0 else 1)<30))=true
 line:(apos.endLine==cpos.line)=true
 trees:backTo cpos (starEach [e] X.env)=[(false,eval e X.env)]
structure M2(X:Cx)(o:Expr)(m:Str)(apos:Pos)(e f:Expr)(cpos:Pos):Prop where
 base:attributeBase o m X.env (eval o X.env)=eval o X.env
 few:((backTo cpos (starEach [e,f] X.env)).all (λx=> !x.1)&&(backToKw cpos (keywordEach [] X.env)).all (λx=>x.1.isSome)
  &&decide (([e,f]:List Expr).length+([]:List Keyword).length+(if([]:List Keyword).isEmpty then 0 else 1)<30))=true
 line:(apos.endLine==cpos.line)=true
 trees:backTo cpos (starEach [e,f] X.env)=[(false,eval e X.env),(false,eval f X.env)]
theorem Fj{b a:Type}{f:b->a->Sem (ForInStep a)}{g:a->b->a}:∀{l:List b} (c:a),(∀x∈l,∀c,f x c=pure (.yield (g c x)))->forIn l c f=pure (l.foldl g c)
 | [],_,_=>rfl
 |x::l,c,h=>by
  rw[List.forIn_cons,h x (iO ..),pure_bind];exact Fj (g c x) λy d=>h y (ja _ d)
def qg(b:Env)(a:List (Str×Ad))(y:Str×NameKind):List (Str×Ad):=
 if y.2== .free then(match b.cells.lookup y.1 with|some c=>(y.1,c)::a|none=>a)else a
def sr(a:Env)(b:Scope):List (Str×Ad):=b.names.foldl (qg a) []
def MP{a:Env}{b:Scope}(h:∀y∈b.names,y.2=.free->∃c,a.cells.lookup y.1=some c):closureFor b a=pure (sr a b):=by
 simp only[closureFor];rw[Fj (g:=qg a) [] λx i c=>?_]
 .rfl
 .obtain⟨n,k⟩:=x;by_cases f:k=.free
  .subst f;obtain⟨d,j⟩:=h _ i rfl;have e:a.cells.lookup n=some d:=j;simp only[qg,cellOf,e,beq_self_eq_true,if_true,pure_bind]
  .have l:(k==NameKind.free)=false:=by simpa using f
   simp only[qg,l,Bool.false_eq_true,if_false]
theorem zi{a:Env}:∀(names:List (Str×NameKind)) (b:List (Str×Ad)),(∀y c,b.lookup y=some c->a.cells.lookup y=some c)->
  ∀y c,(names.foldl (qg a) b).lookup y=some c->a.cells.lookup y=some c
 | [],_,h=>h
 | (n,k)::r,b,h=>by
  refine zi r _ λy c e=>?_;unfold qg at e;split at e
  .split at e
   .rename_i d i
    rw[pW]at e;cases f:y==n with
    |true=>
     rw[f]at e;have g:y=n:=eq_of_beq f;cases e;rw[g];exact i
    |false=>rw[f]at e;exact h y c e
   .exact h y c e
  .exact h y c e
theorem Hv{e:Env}:∀(a:List (Str×NameKind)) (b:List (Str×Ad)) (y:Str),(∃c,b.lookup y=some c)->∃c,(a.foldl (qg e) b).lookup y=some c
 | [],_,_,h=>h
 | (n,k)::r,b,y,h=>by
  refine Hv r _ y ?_;unfold qg;split
  .split
   .rename_i d f
    rw[pW];cases g:y==n with
    |true=>exact#[_,rZ]
    |false=>exact h
   .exact h
  .exact h
theorem Hn{d:Env}:∀(a:List (Str×NameKind)) (b:List (Str×Ad)) (y:Str),a.lookup y=some .free->(∃c,d.cells.lookup y=some c)->∃c,(a.foldl (qg d) b).lookup y=some c
 | [],_,_,h,_=>by simp at h
 | (n,k)::r,b,y,h,e=>by
  rw[pW]at h;cases f:y==n with
  |true=>
   rw[f]at h;cases h;have g:y=n:=eq_of_beq f;subst g;obtain⟨c,e⟩:=e;refine Hv r _ y ?_;refine#[c,?_];unfold qg;rw[wB (by rfl)];show List.lookup y (match d.cells.lookup y with|some c=>(y,c)::b|none=>b)=_
   rw[e];simp
  |false=>
   rw[f]at h;exact Hn r _ y h e
theorem Ah{a:Env}:∀{names:List (Str×NameKind)} {y:Str} {k:NameKind},
  (names.map λ(n,k)=>if(k==NameKind.free&&a.scope.kind== .function&&a.kindOf n==some .cell)then(n,NameKind.cell)else(n,k)).lookup y=some k->
   names.lookup y=some k\/(names.lookup y=some .free/\k=.cell)
 | [],_,_,h=>by simp at h
 | (n,c)::r,y,k,h=>by
  have g:=@Ah a r y k;rw[kz]at h;by_cases f:(c==NameKind.free&&a.scope.kind== .function&&a.kindOf n==some .cell)=true
  .have b:List.lookup y ((n,NameKind.cell)::(r.map λ(n,k)=>if(k==NameKind.free&&a.scope.kind== .function&&a.kindOf n==some .cell)then(n,NameKind.cell)else(n,k)))=some k:=by
    have e:(if(c==NameKind.free&&a.scope.kind== .function&&a.kindOf n==some .cell)=true then(n,NameKind.cell)else(n,c))=(n,NameKind.cell):=wB f;rw[<-e];exact h
   rw[pW]at b|-;cases d:y==n with
   | true=>
    rw[d]at b;cases b;have i:c=.free:=by
     rw[rH,rH]at f;exact eq_of_beq f.1.1
    exact .inr #[by rw[i],rZ]
   |false=>rw[d]at b;exact g b
  .have b:List.lookup y ((n,c)::(r.map λ(n,k)=>if(k==NameKind.free&&a.scope.kind== .function&&a.kindOf n==some .cell)then(n,NameKind.cell)else(n,k)))=some k:=by
    have e:(if(c==NameKind.free&&a.scope.kind== .function&&a.kindOf n==some .cell)=true then(n,NameKind.cell)else(n,c))=(n,c):=wA f;rw[<-e];exact h
   rw[pW]at b|-;cases d:y==n with
   |true=>rw[d]at b;exact .inl b
   |false=>rw[d]at b;exact g b
def CK(y:Str):Str:=#[#v[46]++y.cps]
def qe(a:Ss)(y:Str):Str:=if a.contains y=true then CK y else y
structure CompScope(X:Cx)(vs:Ss)(sc:Scope):Prop where
 kind:sc.kind=.function
 cell:∀y∈sc.names,y.2≠ .cell
 locs:∀y∈sc.names,y.2=.local->sc.names.lookup y.1=some .local
 own:∀y∈X.N.map (qe vs),sc.names.lookup y≠some .local
 hid:∀y∈vs,sc.names.lookup (CK y)=none
 nd:(vs++X.N.map (qe vs)).Nodup
 free:∀y∈sc.names,y.2=.free->X.env.kindOf y.1=some .cell\/X.env.kindOf y.1=some .free
def lz(X:Cx)(a:Ss)(b:Scope)(C:Ad)(s:Sh)(H:Hp)(c:As):Cx where
 prog:=X.prog
 w:=X.w
 K:=X.K
 mg:=X.mg
 base:=X.base
 A:=X.A
 N:=a++X.N.map (qe a)
 s₀:=s
 H₀:=H
 env:=compEnvC b (sr X.env b) C X.env
 outer:=X.stack
 stack:=X.stack
 ex:=c
 fn:=λ_=>false
 calm:=X.calm
 pn:=X.pn
 xe:=λ_ _=>False
def nP(a:Ss)(b:St):St:=List.replicate a.length none++b
section
variable{X:Cx}{Z:AO}{f:St}{H:Hp}{s:Sh}{vs:Ss}{a:Scope}
def MZ{C:Ad}{G:As}{B:Heap}{tk:Nat}{Y:SV}(S:CompScope X vs a)(I:Inv X Z f H s)(J:∀b∈G,FpOk X Z H b)(ho:∀b∈G,∃o,s.heap.get? b=some o)(k:∀b o,s.heap.get? b=some o->B.get? b=some o) (L:B.Ns C Y) (D:s.heap.objs.size<=C):Inv (lz X vs a C s H G) Z (nP vs f) H {s with heap:=B,toks:=tk}:=by
 have g:∀y c,(sr X.env a).lookup y=some c->X.env.cells.lookup y=some c:=zi a.names [] λy c e=>by simp at e
 have fr:∀y,a.names.lookup y=some .free->X.env.kindOf y=some .cell\/X.env.kindOf y=some .free:=λy e=>S.free (y,.free) (rK e) rfl;have M:∀y,(X.env.kindOf y=some .cell\/X.env.kindOf y=some .free)->∃c,X.env.cells.lookup y=some c:=λy e=>I.ok.has y e;have h:∀{y:Str} {E:NameKind},(relabel a X.env).names.lookup y=some E->E=.cell\/E=.free->a.names.lookup y=some .free:=λ{y E} e hk=>by
  rcases Ah (names:=a.names) e with z|⟨z,_⟩
  .rcases hk with q|q
   .subst q;exact wC rZ (S.cell _ (rK z))
   .subst q;exact z
  .exact z
 have has:∀y,a.names.lookup y=some .free->∃c,(sr X.env a).lookup y=some c:=λy e=>Hn a.names [] y e (M y (fr y e));have aa:∀y c,X.env.cells.lookup y=some c->c<s.heap.objs.size:=λy c e=>let⟨_,z⟩:=I.cell y c e;z.lt
 have kc:∀{c v},s.heap.IsCell c v->B.IsCell c v:=λ{c v} ⟨o,e,d⟩=>#[o,k _ _ e,d];refine#[#[I.ok.mod,S.kind,I.ok.glob,I.ok.blt,D,λy z c N O=>I.ok.inj y z c (g y c N) (g z c O),λy hy=>?_,λy c z _=>(nomatch z),I.ok.hd,I.ok.frames,.inl rZ,λb w=>#[?_,λy c e=>?_],I.bs,iP I.ok.bsz I.sz,λb o e w=>?_,λb w hs=>?_,I.stack,I.stkFree],
  rfl,I.bare,Un.kept k,#[Y,L,λi y v e1 x e3=>?_],λy c e=>?_,I.hok.fresh D,λy c e=>I.freeC y c (g y c e),λp hp=>?_,I.hok.kept k,?_]
 .have Q:(relabel a X.env).names.lookup y=some .cell\/(relabel a X.env).names.lookup y=some .free:=hy
  rcases Q with z|z
  .exact has y (h z (.inl rZ))
  .exact has y (h z (.inr rZ))
 .obtain⟨o,e⟩:=ho b w;exact iW (j4 (hV e) D)
 .exact(J b w).2.2.2.2.1 y c (g y c e)
 .obtain⟨_,_,_,z,_⟩:=J b w
  rcases z with z|z
  .exact I.ok.noex b o e z
  .exact wC (j4 (hV (I.ok.bs b o e).1) z) (oC _)
 .obtain⟨_,N,O,_⟩:=J b w
  rcases iu.mp (I.stkSub b hs)with z|z
  .exact N z
  .exact O z
 .have j:(vs++X.N.map (qe vs))[i]?=some y:=e1;have l:(List.replicate vs.length none++f)[i]?=some (some v):=x;have hi:vs.length<=i:=by
   by_cases z:i<vs.length
   .rw[j0 (by simpa using z),List.getElem?_replicate]at l;split at l<;>cases l
   .lia
  rw[ku hi]at j;rw[ku (by simpa using hi),List.length_replicate]at l;have yN:y∈X.N.map (qe vs):=iq j;have A:(relabel a X.env).names.lookup y=some .local\/(relabel a X.env).names.lookup y=some .cell\/(relabel a X.env).names.lookup y=some .free:=e3;have t:a.names.lookup y=some .free:=by
   rcases A with z|z|z
   .rcases Ah (names:=a.names) z with q|⟨_,q⟩
    .exact wC q (S.own y yN)
    .cases q
   .exact h z (.inl rZ)
   .exact h z (.inr rZ)
  have j:X.N[i-vs.length]?=some y:=by
   rw[hA]at j;cases e:X.N[i-vs.length]? with
   |none=>rw[e]at j;cases j
   | some y0=>
    rw[e]at j;have x:qe vs y0=y:=lX j;unfold qe at x
    split at x
    .rename_i T
     rw[<-x,S.hid y0 (by simpa using T)]at t;cases t
    .rw[x]
  have ok:=fr y t;obtain⟨m,_,hl⟩:=I.loc;obtain⟨u,r,lk⟩:=hl (i-vs.length) y v j l (.inr ok);refine#[u,r,?_]
  rcases lk with⟨q,_⟩|⟨_,c,ec,T⟩
  .rcases ok with z|z<;>rw[z]at q<;>cases q
  .obtain⟨U,e'⟩:=has y t;have:U=c:=lX ((g y U e').symm.trans ec);subst this;refine .inr #[?_,U,e',kc T]
   rcases A with z|z|z
   .rcases Ah (names:=a.names) z with q|⟨_,q⟩
    .exact wC q (S.own y yN)
    .cases q
   .exact .inl z
   .exact .inr z
 .obtain⟨v,z⟩:=I.cell y c (g y c e);exact#[v,kc z]
 .obtain⟨e,n,ne,nf,d⟩:=I.pin p hp;refine#[k _ _ e,n,iW (j4 (hV e) D),λz=>?_,d]
  rcases iu.mp (I.stkSub p.1 z)with q|q
  .exact ne q
  .exact nf q
 .show(List.replicate vs.length none++f).length=(vs++X.N.map (qe vs)).length;rw[jc,jc,List.length_replicate,gL,I.len]
def Inv.adopt{D:Ad}{h:List V}{a:Vs}{n:Nat}(I:Inv X Z f H s)(i:h.length<=sizeLine)(j:Vals h a)(k:H D=none)(e:s.heap.get? D=some {cls:= .type "list",data:= .seq a.toArray n})
  (l:X.s₀.heap.objs.size<=D) (r:D≠X.env.locals) (t:∀x c,X.env.cells.lookup x=some c->c≠D) (v:∀p∈X.pn++Z,p.1≠D):Inv X Z f (gI H D (.lst h)) s:=by
 have g:∀b u,H b=some u->b≠D:=λb u q z=>by rw[z,k]at q;cases q
 have q:=I.step (h':=s.heap) (H':=gI H D (.lst h)) (g':=s.gens) (t':=s.toks) (d':=s.drawn) (ch:=[D]) (λb d=>by
   have z:b=D:=by simpa using d
   subst z;exact#[.inr l,r,t,v])
  (λb o _ _ _ e _=>e) (λb o _ _ _ e _=>#[o.slots,e]) (λb o d _ n=>by rw[gM (λz=>d (by simp[z]))];exact n) (λb o _ e=>#[o,e])
  (λb w q=>by rw[gM (g b _ q)];exact q) (λb o u q=>by rw[gM (g b _ q)];exact q) (λb A q=>#[#v[],by rw[gM (g b _ q),q];simp]) (λm y=>y) (λb u q=>?_) I.bare
 .exact q
 .by_cases d:b=D
  .subst d;rw[gO]at q;cases q;exact#[i,a,n,j,e]
  .rw[gM d]at q;exact(I.hok b u q).stay (λ_ _ _ z=>z) (λc z=>by rw[gM (g c _ z)];exact z) λc w z=>by rw[gM (g c _ z)];exact z
end
def vx(X:Cx)(a:List Expr)(t:TT):Prop:=
 ∀(Z:AO) (s:Sh) (b:St) (H:Hp) (Q:Bool->Hp->Prop),Inv X Z b H s->t b H Q->
  wpAny (model X.prog X.w) X.A (forIn a true λc r=>if r=true then do let ok <-isTrue c X.env (eval c X.env);pure (ForInStep.yield ok)else pure (ForInStep.yield r)) (TP X Z b Q) X.xe s
def y4:TT:=λ_ H Q=>Q true H
def ph{c:St}{H:Hp}{F G:Hp->Prop}(h:F H):y4 c H (λb a=>if b=true then F a else G a):=by
 show(if true=true then F H else G H);exact mH h
def nC{X:Cx}:vx X [] y4:=λ_ _ _ H _ I h=>gK #[H,I,h]
def sg{X:Cx}{c:Expr}{t:TT}(h:PT X c t):vx X [c] t:=λZ s a H Q I q=>wpAny_tests_one (h Z s a H Q I q)
theorem HW{a:Pg}{w:World}{A:Ar}{R:Result->Sh->Prop}{s:Sh}{e l d:Expr}{f:List Expr}{p:Scope}{i:Pos}{it g:Vl}{b:Env}(j:Nat->Sh->Prop)(turn:∀n s,j n s->wpAny (model a w) A (pyNext it) (λr k=>match r with
   |none=>R (.ok .next) k
   | some v=>wpAny (model a w) A (letOwnedTupleGo l it v) (λ_ k=>wpAny (model a w) A (assign l b v) (λ_ t=>
     wpAny (model a w) A (forIn f true λc r=>if r=true then do let ok <-isTrue c b (eval c b);pure (ForInStep.yield ok)else pure (ForInStep.yield r)) (λok o=>
      if ok=true then wpAny (model a w) A (eval e b) (λy u=>wpAny (model a w) A (call (.builtin "list.append") [g,y]) (λ_ B=>∃m,m<n/\j m B) (λ_ _=>False) u) (λ_ _=>False) o
      else ∃m,m<n/\j m o) (λ_ _=>False) t) (λ_ _=>False) k) (λ_ _=>False) k) (λ_ _=>False) s)(n:Nat) (h:j n s):codeAny (model a w) A (.compLoop (.ListComp e [#[l,d,f,0]] p i) 0 it g b) R s:=by
 refine codeAny_loop rZ j (λn s G=>?_) n h;show wpAny _ A ((compTurn (.ListComp e [#[l,d,f,0]] p i) 0 it g b).onRaise (λx=>do noteFrame x b;theTreesLotGoes x)) _ _ s;refine wpAny_noted (kS (E:=λ_ _=>False) ?_ (λ_ _ q=>q) λ_ _ z=>z.elim);rw[compTurn_list];refine gH (ww (gH (gY (turn n s G) λr k C=>?_)));cases r with
 |none=>exact gK C
 |some v=>
  refine gH (gY C λ_ t H=>gH (gY H λ_ o I=>gH (gY I λok u D=>?_)));cases ok with
  |false=>exact gK #[rZ,D]
  |true=>exact gH (gH (gY D λy B J=>gH (gY J λ_ M L=>gK (gK #[rZ,L]))))
def va(b a:St):Prop:=∀(i:Nat) v,b[i]?=some (some v)->a[i]?=some (some v)
theorem mX{a:St}{x:Option V}:va (none::a) (x::a):=λi v e=>by
 cases i with
 |zero=>cases e
 |succ i=>exact e
theorem B6{a:St}{x y:Option V}:va (none::none::a) (x::y::a):=λi v e=>by
 match i,e with
 |0,e=>cases e
 |1,e=>cases e
 |_+2,e=>exact e
section
variable{X:Cx}{Z:AO}{w:St}{H:Hp}{s:Sh}{l:Ss}{k:Scope}{L t f:Expr}{q:List Expr}{A:Pos}{g:TG}{B:TT}{G:TE}
def rb(l:Ss)(g:TG)(B:TT)(G:TE)(w:St)(J:It)(H:Hp)(Fin:List V->Hp->Prop):Prop:=
 ∃W:Nat->Nat->List V->Hp->Prop,(∃m,W 0 m [] H)/\∀i m c H,W i m c H->
  (J.stop i H/\c.length<=sizeLine/\Fin c H)\/(J.go i H/\c.length<sizeLine/\∃N:List V->Hp->Prop,(∀e d,N e d->∃f,f<m/\W (i+1) f e d)/\
   ∀v d,J.yld i H v d->g v (nP l w) d λa j=>va (nP l w) a/\B a j λb h=>if b=true then G a h λy k=>N (c++[y]) k else N c h)
def G2{J:It}{h:As}{it:Ad}{tn:Nat->Heap->Prop}{E:VP}{RR:Vl->Ad->Result->Sh->Prop}{Fin:List V->Hp->Prop}(S:CompScope X l k) (hc:X.calm=true) (hg:∀C s H h,PG (lz X l k C s H h) L g) (ht:∀C s H h,vx (lz X l k C s H h) q B) (he:∀C s H h,PE (lz X l k C s H h) t G)(I:Inv X Z w H s) (T:Turn X.prog X.w X.K L J h it tn) (st:tn 0 s.heap) (hf:∀b∈h,FpOk X Z H b) (hW:rb l g B G w J H Fin)(av:∀D C O a Q m',Inv X Z w (gI a D (.lst Q)) O->a D=none->FpOk X Z (gI a D (.lst Q)) C->O.heap.Ns C m'->Fin Q a->RR (.ref D) C (.ok .next) O):
  wpAny (model X.prog X.w) X.A (newList []) (λar s3=>wpAny (model X.prog X.w) X.A (newFunctionEnv k X.env.globals (sr X.env k) [] X.env.qual none .none (some X.env)) (λcenv s4=>
   codeAny (model X.prog X.w) X.A (.compStart (.ListComp t [#[L,f,q,0]] k A) 0 (.ref it) ar {cenv with scope:=relabel k X.env}) (RR ar cenv.locals) s4) E s3) E s:=by
 obtain⟨W,⟨m0,w0⟩,turn⟩:=hW;refine pq (wpAny_newFunctionEnv S.cell (by intro y hy;simp at hy) (λh1 ab U=>?_) S.kind);dsimp only at ab U|-;generalize am:s.heap.push {cls:= .type "list",dict:=none,data:= .seq ([]:Vs).toArray}=H2 at ab U|-;have hC:H2.objs.size=s.heap.objs.size+1:=by rw[<-am,yO]
 generalize aI:H2.objs.size=C at ab U hC|-;generalize ae:s.heap.objs.size=D at hC|-;have af:D≠C:=by lia
 have below:∀b o,s.heap.get? b=some o->b≠D/\b≠C:=λb o e=>by
  have z:b<s.heap.objs.size:=hV e;rw[ae]at z;exact#[iW z,iW (by rw[hC];exact ya z)]
 have old:∀b o,s.heap.get? b=some o->h1.get? b=some o:=λb o e=>U.extBut b o (below b o e).2 (ig _ (am▸ig _ e));have aw:h1.get? D=some {cls:= .type "list",data:= .seq ([]:Vs).toArray}:=
  U.extBut _ _ af (ig _ (by rw[<-am,<-ae];exact i4 _ rZ))
 have ai:∀b∈h,∃o,s.heap.get? b=some o:=λb m=>let⟨o,e,_⟩:=T.obj 0 _ st b m;#[o,e]
 have an:∀b∈h,b≠D/\b≠C:=λb m=>let⟨o,e⟩:=ai b m;below b o e
 have fD:∀a,a D=none->FpOk X Z a D:=λa n=>I.fpOk () n;have fC:∀a,a C=none->FpOk X Z a C:=λa n=>I.fpOk () n;have ax:∀p∈X.pn++Z,p.1≠D:=λp hp=>(below _ _ (I.pin p hp).1).1;have ao:∀y c,(sr X.env k).lookup y=some c->c≠D:=λy c e=>by
  have e':=zi k.names [] (λy c e=>by simp at e) y c e;obtain⟨v,z⟩:=I.cell y c e';have z':c<s.heap.objs.size:=z.lt;rw[ae]at z';exact iW z'
 have ay:∀b,b∈iF X.stack->∃o,s.heap.get? b=some o:=λb m=>let⟨_,o,ho,_⟩:=I.stack.mem m;#[o,ho]
 have az:D∉iF X.stack:=λz=>let⟨o,e⟩:=ay D z;(below _ _ e).1 rfl
 have ap:∀{pl:AO} {a:Hp},(∀p∈pl,p.1=D)->(∀b∈h,a b=none)->∀b∈h,FpOk (lz X l k C s H h) (Z++pl) a b:=λ{pl a} aA hn b m=>by
  obtain⟨_,q1,q2,q3,q4,q5⟩:=hf b m;refine#[hn b m,(an b m).2,λz=>?_,.inl m,λy c e=>q4 y c (zi k.names [] (λy c e=>by simp at e) y c e),λp hp=>?_]
  .rcases iu.mp (I.stkSub b z)with y|y
   .exact q1 y
   .exact q2 y
  .rcases iC.mp hp with z|z
   .exact q5 p (rB _ z)
   .rcases iC.mp z with y|y
    .exact q5 p (j6 _ y)
    .rw[aA p y];exact jd (an b m).1
 have aj:∀s3:Sh,s3={s with heap:=h1,toks:=s.toks+([]:List (Str×Vl)).length}->
   codeAny (model X.prog X.w) X.A (.compLoop (.ListComp t [#[L,f,q,0]] k A) 0 (.ref it) (.ref D) (compEnvC k (sr X.env k) C X.env)) (RR (.ref D) C) s3:=by
  rintro s3 rfl;have I0:Inv (lz X l k C s H h) Z (nP l w) H {s with heap:=h1,toks:=s.toks+([]:List (Str×Vl)).length}:=MZ S I hf ai old ab ();refine HW (λn O=>∃i Q j Y a,Inv (lz X l k C s H h) Z (nP l w) a O/\tn i O.heap/\(∀b∈h,a b=none)/\a D=none/\
   O.heap.get? D=some {cls:= .type "list",data:= .seq j.toArray Y}/\Vals Q j/\W i n Q a) ?_ m0
   #[0,[],[],0,H,I0,T.keep 0 _ _ st λb m o e=>old b o e,λb m=>(hf b m).1,I.hok.fresh (),aw,.nil,w0]
  rintro n O ⟨i,Q,j,Y,a,I1,as,au,ag,aB,ah,w1⟩;have ak:Inv (lz X l k C s H h) (Z++[(D,{cls:= .type "list",data:= .seq j.toArray Y})]) (nP l w) a O:=I1.pins_of λp hp=>by
   rcases iC.mp hp with z|z
   .exact I1.pin p (j6 _ z)
   .have e:p=(D,{cls:= .type "list",data:= .seq j.toArray Y}):=by simpa using z
    subst e;exact#[aB,ag,af,az,λv z=>by have z':Data.seq _ _=Data.cell v:=z;cases z']
  have M:∀p∈[((D,{cls:= .type "list",data:= .seq j.toArray Y}):Ad×Obj)],p.1=D:=λp hp=>by
   have e:p=(D,{cls:= .type "list",data:= .seq j.toArray Y}):=by simpa using hp
   rw[e]
  rcases turn i n Q a w1 with⟨stop,hz,fin⟩|⟨go,hz,N,hN,step⟩
  .refine gY (T.done (lz X l k C s H h) rZ rZ rZ hc i _ O _ a (λ_ _=>False) ak (ap M au) as stop) λr s4 ⟨hr,I4⟩=>?_;subst hr;have d4:s4.heap.get? D=some {cls:= .type "list",data:= .seq j.toArray Y}:=(I4.pin (D,_) (j6 _ (j6 _ (iO ..)))).1;have Io:Inv X Z w a s4:=I.call' (H':=a) (ch:=h) I4.os I4.base I4.hok I4.bare λb m=>by
    obtain⟨_,q1,_,q3,q4,q5⟩:=hf b m;exact#[q3,q1,q4,q5]
   obtain⟨_,a1,_,a3,a4,a5⟩:=fD a ag;have Ia:=Io.adopt hz ah ag d4 (iP I.sz ()) a1 a4 a5;obtain⟨m4,aC,_⟩:=I4.loc;refine av D C s4 a Q m4 Ia ag (fC _ ?_) aC fin;rw[gM (jd af)];exact I4.free
  .refine gY (T.item (lz X l k C s H h) rZ rZ rZ hc i _ O _ a (λ_ _=>False) ak (ap M au) as go) λr s4 ⟨u,hr,h4⟩=>?_;subst hr;refine gY h4 λ_ s5 ⟨x,H5,I5,r5,y5,aq,aD⟩=>?_;have aE:=I5.pinned (ap M aD) (T.obj _ _ aq);refine gY (hg C s H h _ s5 _ H5 x u _ aE r5 (step x H5 y5)) λ_ s6 ⟨aa,H6,I6,k6,q6⟩=>?_;refine gY (ht C s H h _ s6 aa H6 _ I6 q6) λok s7 ⟨H7,I7,q7⟩=>?_;have al:(nP l w).length=aa.length:=by rw[I1.len,I6.len]
   have pinned:∀{H8:Hp} {s8:Sh},Inv (lz X l k C s H h) (Z++[(D,{cls:= .type "list",data:= .seq j.toArray Y})]++yD h s5.heap) aa H8 s8->
     tn (i+1) s8.heap/\(∀b∈h,H8 b=none)/\H8 D=none/\s8.heap.get? D=some {cls:= .type "list",data:= .seq j.toArray Y}:=λ{H8 s8} I8=>by
    refine#[T.keep _ _ _ aq λb m o e=>(I8.pin (b,o) (j6 _ (j6 _ (Az m e)))).1,λb m=>?_,?_,?_]
    .obtain⟨o,e,d⟩:=T.obj _ _ aq b m;exact(I8.pin (b,o) (j6 _ (j6 _ (Az m e)))).2.1
    .exact(I8.pin (D,_) (j6 _ (rB _ (j6 _ (iO ..))))).2.1
    .exact(I8.pin (D,_) (j6 _ (rB _ (j6 _ (iO ..))))).1
   cases ok with
   |false=>
    rw[wA (by decide)]at q7|-;obtain⟨m',hm,w7⟩:=hN _ _ q7;obtain⟨a1,a2,a3,a4⟩:=pinned I7;exact#[m',hm,i+1,Q,j,Y,H7,(I7.unpinned.unpinned).weak al k6,a1,a2,a3,a4,ah,w7]
   | true=>
    rw[wB rZ]at q7|-;refine gY (he C s H h _ s7 aa H7 _ I7 q7) λyv s8 ⟨y,H8,I8,r8,n8⟩=>?_;obtain⟨m',hm,w8⟩:=hN _ _ n8;obtain⟨a1,a2,a3,a4⟩:=pinned I8;have aF:j.toArray.size<=sizeLine:=by
     have:=ah.length;rw[iK];lia
    refine wpAny_list_append_plain #[Y,a4] (λh' pl sb=>?_) aF;obtain⟨aG,aH⟩:=pl;have I9:Inv (lz X l k C s H h) Z aa H8 {s8 with heap:=h'}:=(I8.unpinned.unpinned).turned (t':=s8.toks) (it:=D) (λb o m e=>(sb.2 b m).trans e) a3 af (.inr (vo ae)) ao ax;refine#[m',hm,i+1,Q++[y],j++[yv],aG,H8,I9.weak al k6,T.keep _ _ _ a1 λb m o e=>(sb.2 b (an b m).1).trans e,a2,a3,?_,ah.append (.cons r8 .nil),w8];rw[aH]
    simp
 exact codeAny_compStart_list (aj _ rZ) (T.self _ 0 _ _ _ (T.keep 0 _ _ st λb m o e=>old b o e) (aj _ rZ))
def A'(l:Ss)(b:TI)(g:TG)(B:TT)(G:TE):TE:=λw H Q=>b w H λJ c=>rb l g B G w J c λd a=>∀p,a p=none->Q (.ref p) (gI a p (.lst d))
def CompScope.clos{Z:AO}{w:St}{H:Hp}{s:Sh}(S:CompScope X l k)(I:Inv X Z w H s):closureFor k X.env=pure (sr X.env k):=
 MP λy a b=>I.ok.has y.1 (S.free y a b)
def AS{i:TI}(S:CompScope X l k)(j:X.calm=true)(m:PI X L f i)(n:∀C s H a,PG (lz X l k C s H a) L g)(ht:∀C s H a,vx (lz X l k C s H a) q B)(p:∀C s H a,PE (lz X l k C s H a) t G) (r:∀x,foldedSetIterable f X.env x=pure x:=by intro _;rfl):PE X (.ListComp t [#[L,f,q,0]] k A) (A' l i g B G):=by
 intro Z s w H Q I h;rw[eval_ListComp];refine wpAny_comprehension_free (use:=none) rZ r (S.clos I) S.kind S.locs ?_;refine gY (m Z s w H _ I h) λv s1 u=>gY u λy s2 z=>?_;obtain⟨it,a,tn,J,H2,e,E,T,c,M,N⟩:=z;subst e;refine G2 (RR:=λd C=>compPost (model X.prog X.w) X.A X.xe none (EP X Z w Q) d C) S j n ht p E T c M N λD C O H' ys U Y hD fC ns fin=>?_;obtain⟨c0,c1,c2,c3,c4,c5⟩:=fC;refine#[U,ns,λh' sb=>#[.ref D,_,?_,rZ,fin D hD]];exact Y.turned (t':=O.toks) (it:=C) (λb o hb e=>(sb.2 b hb).trans e) c0 c1 c3 c4 c5
def EU{x:Str}{p:Pos}(S:CompScope X [x] k)(a:k.names.lookup x=some .local):∀C s H b,PG (lz X [x] k C s H b) (.Name x p) (mD 0):=λC s H b=>
 md S.nd rZ (.inl (v7 a)) (.inr (v7 a))
def np{b:TI}{x:Str}{p:Pos}(S:CompScope X [x] k)(c:X.calm=true)(d:k.names.lookup x=some .local)(e:PI X (.Name x p) f b)(ht:∀C s H a,vx (lz X [x] k C s H a) q B)(g:∀C s H a,PE (lz X [x] k C s H a) t G) (h:∀x,foldedSetIterable f X.env x=pure x:=by intro _;rfl):PE X (.ListComp t [#[.Name x p,f,q,0]] k A) (A' [x] b (mD 0) B G):=
 AS S c e (EU S d) ht g h
def MS{N:TI}{j:Nat}{y:Str}{d c:Pos}(S:CompScope X l k)(U:X.calm=true)(Y:X.N.Nodup)(hj:X.N[j]?=some y)(O:X.env.scope.names.lookup y=some .local)(hi:PI X L f N)(hg:∀C s H i,PG (lz X l k C s H i) L g)(ht:∀C s H i,vx (lz X l k C s H i) q B)(he:∀C s H i,PE (lz X l k C s H i) t G) (p:swapsWith (.ListComp t [#[L,f,q,0]] k A) (some (.Name y d)) c.line X.env=pure true:=by rfl) (hs:∀x,foldedSetIterable f X.env x=pure x:=by intro _;rfl):
  PS X (.Assign [.Name y d] (.ListComp t [#[L,f,q,0]] k A) c) (rR (A' l N g B G) (mD j)):=by
 intro Z s w H D I h;rw[exec_Assign_Name_used _ _ _ _ p];refine gH (ww (gH ?_));show wpAny _ X.A (do let _ <-comprehension (.ListComp t [#[L,f,q,0]] k A) k X.env _ (newList []) false (eval f X.env) (some (assign (.Name y d) X.env))) _ _ s;refine gH (kS (wpAny_comprehension_free (use:=some (assign (.Name y d) X.env)) (Q:=λ_ m=>SP X Z D .next m) rZ hs (S.clos I) S.kind S.locs ?_) (λ_ m hq=>gK (gK hq)) λ_ _ e=>e);refine gY (hi Z s w H _ I h) λv s1 h1=>gY h1 λaa s2 h2=>?_;obtain⟨it,i,tn,J,H2,e,I2,T,r,f2,hW⟩:=h2;subst e;refine G2 (RR:=λu C=>compPost (model X.prog X.w) X.A X.xe (some (assign (.Name y d) X.env)) (λ_ m=>SP X Z D .next m) u C) S U hg ht he I2 T r f2 hW λn C m H' ys m' I' hD fC ns fin=>?_;obtain⟨c0,c1,c2,c3,c4,c5⟩:=fC;show wpAny _ X.A (assign (.Name y d) X.env (.ref n)) _ _ _;refine wpAny_assign_Name (EA (v:= .ref n) I' Y hj (.inl O) (show RelV (.ref n) (.ref n)from rfl) (λs3 I3 ⟨a,sb,ha⟩=>?_) (.inr O));have E:a≠C:=by
  rcases ha with z|z
  .rw[z];exact jd c1
  .exact c4 y a z
 refine#[m',ns.sameBut sb (jd E),λh' M=>#[_,_,I3.turned (t':=s3.toks) (it:=C) (λb o hb e=>(M.2 b hb).trans e) c0 c1 c3 c4 c5,fin n hD]]
def yx{d:TI}{j:Nat}{x y:Str}{p e a:Pos}(S:CompScope X [x] k)(g:X.calm=true)(h:k.names.lookup x=some .local)(i:X.N.Nodup)(l:X.N[j]?=some y)(m:X.env.scope.names.lookup y=some .local)(n:PI X (.Name x p) f d)(ht:∀C s H b,vx (lz X [x] k C s H b) q B) (o:∀C s H b,PE (lz X [x] k C s H b) t G)(c:swapsWith (.ListComp t [#[.Name x p,f,q,0]] k A) (some (.Name y e)) a.line X.env=pure true:=by rfl) (r:∀x,foldedSetIterable f X.env x=pure x:=by intro _;rfl):
  PS X (.Assign [.Name y e] (.ListComp t [#[.Name x p,f,q,0]] k A) a) (rR (A' [x] d (mD 0) B G) (mD j)):=MS S g i l m n (EU S h) ht o c r
end
section
variable{K:N2}{a:Ad}{xs:List V}{h:Ss}{g:TG}{j:TT}{d:TE}{c:St}{H:Hp}{Fin:List V->Hp->Prop}
def Hm(Pv:Nat->List V->Hp->Prop)(B:xs.length<=sizeLine)(o:Pv 0 [] H)(r:∀i f H,i<=xs.length->Pv i f H->SqT K H a xs/\f.length<=i)(s:∀i v f H,xs[i]?=some v->Pv i f H->g v (nP h c) H λk t=>va (nP h c) k/\j k t λb n=>if b=true then d k n λy u=>Pv (i+1) (f++[y]) u else Pv (i+1) f n)(w:∀f H,Pv xs.length f H->Fin f H):rb h g j d c (Am K a) H Fin:=by
 refine#[λi m f H=>m=xs.length-i/\i<=xs.length/\Pv i f H,#[xs.length,by simp,Nat.zero_le _,o],?_];rintro i m f H ⟨rfl,x,p⟩;obtain⟨q,C⟩:=r i f H x p;by_cases l:i<xs.length
 .refine .inr #[#[xs,xs[i],q,by simp[l]],(),Pv (i+1),λD z A=>#[xs.length-(i+1),Nat.sub_succ_lt_self _ _ l,rZ,l,A],λv z y=>?_];obtain⟨e,y⟩:=y;subst e;exact s i v f _ (y xs q) p
 .have e:i=xs.length:=by lia
  subst e;exact .inl #[#[xs,q,gS _],(),w f H p]
def n'(Pv:Nat->List V->Hp->Prop)(B:xs.length<=sizeLine)(o:Pv 0 [] H)(r:∀i f H,i<=xs.length->Pv i f H->SqL K H a xs/\f.length<=i)(s:∀i v f H,xs[i]?=some v->Pv i f H->g v (nP h c) H λk t=>va (nP h c) k/\j k t λb n=>if b=true then d k n λy u=>Pv (i+1) (f++[y]) u else Pv (i+1) f n)(w:∀f H,Pv xs.length f H->Fin f H):rb h g j d c (uh K a) H Fin:=by
 refine#[λi m f H=>m=xs.length-i/\i<=xs.length/\Pv i f H,#[xs.length,by simp,Nat.zero_le _,o],?_];rintro i m f H ⟨rfl,x,p⟩;obtain⟨q,C⟩:=r i f H x p;by_cases l:i<xs.length
 .refine .inr #[#[xs,xs[i],q,by simp[l]],(),Pv (i+1),λD z A=>#[xs.length-(i+1),Nat.sub_succ_lt_self _ _ l,rZ,l,A],λv z y=>?_];obtain⟨e,y⟩:=y;subst e;exact s i v f _ (y xs q) p
 .have e:i=xs.length:=by lia
  subst e;exact .inl #[#[xs,q,gS _],(),w f H p]
def BN{lo:Int}{n:Nat}(Pv:Nat->List V->Hp->Prop)(A:n<=sizeLine)(o:Pv 0 [] H)(q:∀i a H,i<=n->Pv i a H->a.length<=i)(r:∀i a H,i<n->Pv i a H->g (.int (lo+i)) (nP h c) H λk s=>va (nP h c) k/\j k s λb l=>if b=true then d k l λy t=>Pv (i+1) (a++[y]) t else Pv (i+1) a l)(u:∀a H,Pv n a H->Fin a H):rb h g j d c (tc lo n) H Fin:=by
 refine#[λi m a H=>m=n-i/\i<=n/\Pv i a H,#[n,by simp,Nat.zero_le _,o],?_];rintro i m a H ⟨rfl,w,p⟩;have B:=q i a H w p;by_cases f:i<n
 .refine .inr #[f,(),Pv (i+1),λC x z=>#[n-(i+1),Nat.sub_succ_lt_self _ _ f,rZ,f,z],λv x y=>?_];obtain⟨e,y⟩:=y;subst e y;exact r i a _ f p
 .have e:i=n:=by lia
  subst e;exact .inl #[gS _,(),u a H p]
def xx{x:Str}{xs:List V}{f:V->V}(k:xs.length<=sizeLine)(l:SqT K H a xs)(m:∀v (Q:VK),v∈xs->Q (f v) H->d (some v::c) H Q)(n:Fin (xs.map f) H):
  rb [x] (mD 0) y4 d c (Am K a) H Fin:=by
 refine Hm (λi g h=>h=H/\g=(xs.take i).map f) k #[rZ,rZ] (λi g h o ⟨e,b⟩=>?_) (λi v g h j ⟨e,b⟩=>#[mX,?_]) (λg h ⟨e,b⟩=>?_)
 .subst e b;exact#[l,by simp;lia]
 .subst e b;refine ph (m v _ (iq j) #[rZ,?_]);rw[om,j,kg];rfl
 .subst e b;rw[mh];exact n
def Kn{x:Str}{xs:List V}{f:V->V}(k:xs.length<=sizeLine)(l:SqL K H a xs)(m:∀v (Q:VK),v∈xs->Q (f v) H->d (some v::c) H Q)(n:Fin (xs.map f) H):
  rb [x] (mD 0) y4 d c (uh K a) H Fin:=by
 refine n' (λi g h=>h=H/\g=(xs.take i).map f) k #[rZ,rZ] (λi g h o ⟨e,b⟩=>?_) (λi v g h j ⟨e,b⟩=>#[mX,?_]) (λg h ⟨e,b⟩=>?_)
 .subst e b;exact#[l,by simp;lia]
 .subst e b;refine ph (m v _ (iq j) #[rZ,?_]);rw[om,j,kg];rfl
 .subst e b;rw[mh];exact n
def Jt{x:Str}{lo:Int}{n:Nat}{f:Nat->V}(h:n<=sizeLine)(j:∀i (Q:VK),i<n->Q (f i) H->d (some (.int (lo+(i:Nat)))::c) H Q)(k:Fin ((List.range n).map f) H):
  rb [x] (mD 0) y4 d c (tc lo n) H Fin:=by
 refine BN (λi b g=>g=H/\b=(List.range i).map f) h #[rZ,rZ] (λi b g m ⟨e,a⟩=>?_) (λi b g l ⟨e,a⟩=>#[mX,?_]) (λb g ⟨e,a⟩=>?_)
 .subst e a;simp
 .subst e a;refine ph (j i _ l #[rZ,?_]);rw[w9,kg];rfl
 .subst e a;exact k
end
inductive Dt where
 |non|int (i:Int)|str (x:Str)|lst (ds:List Dt)|tup (ds:List Dt)
inductive Rep (K:N2) (H:Hp):Nat->Dt->V->Prop where
 |non (n:Nat):Rep K H n .non .non
 |int (n:Nat) (i:Int):Rep K H n (.int i) (.int i)
 |str (n:Nat) (x:Str):Rep K H n (.str x) (.str x)
 |lst {n:Nat} {ds:List Dt} {a:Ad} {xs:List V} (h:SqL K H a xs) (hl:xs.length=ds.length) (hi:∀(i:Nat) d v,ds[i]?=some d->xs[i]?=some v->Rep K H n d v):Rep K H (n+1) (.lst ds) (.ref a)
 |tup {n:Nat} {ds:List Dt} {a:Ad} {xs:List V} (h:SqT K H a xs) (hl:xs.length=ds.length) (hi:∀(i:Nat) d v,ds[i]?=some d->xs[i]?=some v->Rep K H n d v):Rep K H (n+1) (.tup ds) (.ref a)
def x6{e:Type}{c d:List e}(f:c.length=d.length)(h:∀(i:Nat) a b,c[i]?=some a->d[i]?=some b->a=b):c=d:=by
 refine vt f λi g j=>?_;exact h i _ _ (by simp[g]) (by simp[j])
section
variable{X:Cx}{Z:AO}{c:St}{H:Hp}{s:Sh}
def GP{a:Ad}{b d:List V}(I:Inv X Z c H s)(h:SqL X.K H a b)(e:SqT X.K H a d):False:=by
 obtain⟨_,_,p,_⟩:=I.list h;obtain⟨_,_,q,_⟩:=I.tuple e;exact SeqAt.ne_of_list_tuple p.isList (show s.heap.IsTuple a _ from q) rfl
def Fy(I:Inv X Z c H s):∀(n:Nat) {d f:Dt} {v:V},Rep X.K H n d v->Rep X.K H n f v->d=f:=by
 intro n
 induction n with
 |zero=>
  intro d f v r g;cases r<;>cases g<;>rfl
 | succ n x=>
  intro d f v r g;cases r with
  |non=>cases g;rfl
  |int=>cases g;rfl
  |str=>cases g;rfl
  | @lst _ y a j h o q=>
   cases g with
   | @lst _ t _ u k l m=>
    have e:=I.list_inj h k;subst e;refine iZ Dt.lst (x6 (o.symm.trans l) λi d f p w=>?_);have b:i<j.length:=by rw[o];exact(gV.mp p).1
    exact x (q i d j[i] p (gN b)) (m i f j[i] w (gN b))
   |tup k _ _=>exact(GP I h k).elim
  | @tup _ y a j h o q=>
   cases g with
   |lst k _ _=>exact(GP I k h).elim
   | @tup _ t _ u k l m=>
    have e:=I.tuple_inj h k;subst e;refine iZ Dt.tup (x6 (o.symm.trans l) λi d f p w=>?_);have b:i<j.length:=by rw[o];exact(gV.mp p).1
    exact x (q i d j[i] p (gN b)) (m i f j[i] w (gN b))
def Ft{f c:List Dt}(n:f.length=c.length){e:Nat->Bool}{N:Nat}(o:N=f.length)(k:∀(j:Nat) d l,f[j]?=some d->c[j]?=some l->(e j=true↔d=l)):((List.range N).all e=true↔f=c):=by
 subst o;rw[CA];constructor
 .intro h;refine x6 n λi a b m p=>?_;exact(k i a b m p).mp (h i (lY.mpr (gV.mp m).1))
 .intro h i q;have g:=lY.mp q;subst h;exact(k i f[i] f[i] (by simp[g]) (by simp[g])).mpr rfl
def ND{P:Nat->Bool->Prop}(h:∀j,∃b,P j b):∃e:Nat->Bool,∀j,P j (e j):=#[λj=>Classical.choose (h j),λj=>xM (h j)]
def EJ{A:Ar}{its its':Vs}{ds ds':List Dt}(o:its.length=ds.length)(p:its'.length=ds'.length)(h:∀(j:Nat) u f d a,its[j]?=some u->its'[j]?=some f->ds[j]?=some d->ds'[j]?=some a->∃b,SeqAt.EqAt A s u f b/\(b=true↔d=a)):
  ∃e:Nat->Bool,(∀j (i:j<its.toArray.size) (k:j<its'.toArray.size),SeqAt.EqAt A s its.toArray[j] its'.toArray[j] (e j))/\∀(j:Nat) d a,ds[j]?=some d->ds'[j]?=some a->(e j=true↔d=a):=by
 obtain⟨e,l⟩:=ND (P:=λj b=>(∀u f,its[j]?=some u->its'[j]?=some f->SeqAt.EqAt A s u f b)/\∀d a,ds[j]?=some d->ds'[j]?=some a->(b=true↔d=a)) λj=>by
  by_cases g:j<its.length/\j<its'.length
  .obtain⟨b,m,n⟩:=h j its[j] its'[j] (ds[j]'()) (ds'[j]'()) (by simp[g.1]) (by simp[g.2]) (List.getElem?_eq_getElem _) (List.getElem?_eq_getElem _);refine#[b,λu f q c=>?_,λd a q c=>?_]
   .rw[gN g.1]at q;rw[gN g.2]at c;cases q;cases c;exact m
   .rw[gN ()]at q;rw[gN ()]at c;cases q;cases c;exact n
  .refine#[true,λu f q c=>wC #[(gV.mp q).1,(gV.mp c).1] g,λd a q c=>?_];have r:=(gV.mp q).1;have t:=(gV.mp c).1;exact wC #[(),()] g
 refine#[e,λj i k=>?_,λj=>(l j).2];simp only[List.size_toArray]at i k;exact(l j).1 _ _ (by simp[i]) (by simp[k])
def Dj(I:Inv X Z c H s){n:Nat}{A:Ar}(l:A.units<cLine){d m:Dt}{a q:Ad}(r:Rep X.K H (n+1) d (.ref a))(T:Rep X.K H (n+1) m (.ref q))(U:∀{d m:Dt} {v Y:V} {u G:Vl},Rep X.K H n d v->Rep X.K H n m Y->RelV v u->RelV Y G->∃b,SeqAt.EqAt A.in1 s u G b/\(b=true↔d=m)):
  ∃b,SeqAt.RcAt A s (.ref a) (.ref q) b/\SeqAt.RcNeAt A s (.ref a) (.ref q) (!b)/\(b=true↔d=m):=by
 cases r with
 | @lst _ ds _ x h hl J=>
  obtain⟨its,y,p,_⟩:=I.list h;have l1:=y.length;cases T with
  | @lst _ ds' _ f t w k=>
   obtain⟨its',g,i,_⟩:=I.list t;have l2:=g.length;by_cases B:ds.length=ds'.length
   .obtain⟨e,C,L⟩:=EJ (A:=A.in1) (s:=s) (its:=its) (its':=its') (ds:=ds) (ds':=ds') () () λj u G d m M N D E=>by
     have g1:=(gV.mp D).1;have g2:=(gV.mp E).1;have k1:x[j]?=some (x[j]'()):=gN _;have k2:f[j]?=some (f[j]'()):=gN _;obtain⟨w1,z1,O⟩:=y.get k1;obtain⟨w2,z2,Q⟩:=g.get k2;rw[M]at z1;rw[N]at z2;cases z1;cases z2;exact U (J j d _ D k1) (k j m _ E k2) O Q
    have o:its.toArray.size=its'.toArray.size:=by simp only[List.size_toArray];lia
    refine#[_,SeqAt.RcAt.lists p.isList i.isList o l C,SeqAt.RcNeAt.lists p.isList i.isList o l C,?_];rw[Ft B (by simp only[List.size_toArray];lia) L];exact#[λz=>by rw[z],λz=>by cases z;rfl]
   .have o:(its.toArray.size != its'.toArray.size)=true:=by
     rw[bne_iff_ne];simp only[List.size_toArray];lia
    refine#[false,SeqAt.RcAt.lists_lengths p.isList i.isList o l,SeqAt.RcNeAt.lists_lengths p.isList i.isList o l,#[λz=>(by cases z),λz=>?_]];cases z;exact wC rZ B
  | @tup _ ds' _ f t w k=>
   obtain⟨its',g,i,_⟩:=I.tuple t;exact#[false,SeqAt.RcAt.list_tuple p.isList (show s.heap.IsTuple q _ from i) l,SeqAt.RcNeAt.list_tuple p.isList (show s.heap.IsTuple q _ from i) l,#[λz=>(by cases z),λz=>(by cases z)]]
 | @tup _ ds _ x h hl J=>
  obtain⟨its,y,p,_⟩:=I.tuple h;have l1:=y.length;cases T with
  | @lst _ ds' _ f t w k=>
   obtain⟨its',g,i,_⟩:=I.list t;exact#[false,SeqAt.RcAt.tuple_list (show s.heap.IsTuple a _ from p) i.isList l,SeqAt.RcNeAt.tuple_list (show s.heap.IsTuple a _ from p) i.isList l,#[λz=>(by cases z),λz=>(by cases z)]]
  | @tup _ ds' _ f t w k=>
   obtain⟨its',g,i,_⟩:=I.tuple t;have l2:=g.length;obtain⟨e,C,L⟩:=EJ (A:=A.in1) (s:=s) (its:=its) (its':=its') (ds:=ds) (ds':=ds') () () λj u G d m M N D E=>by
     have g1:=(gV.mp D).1;have g2:=(gV.mp E).1;have k1:x[j]?=some (x[j]'()):=gN _;have k2:f[j]?=some (f[j]'()):=gN _;obtain⟨w1,z1,O⟩:=y.get k1;obtain⟨w2,z2,Q⟩:=g.get k2;rw[M]at z1;rw[N]at z2;cases z1;cases z2;exact U (J j d _ D k1) (k j m _ E k2) O Q
   refine#[_,SeqAt.RcAt.tuples (show s.heap.IsTuple a _ from p) (show s.heap.IsTuple q _ from i) l C,SeqAt.RcNeAt.tuples (show s.heap.IsTuple a _ from p) (show s.heap.IsTuple q _ from i) l C,?_];by_cases B:ds.length=ds'.length
   .have o:(its.toArray.size==its'.toArray.size)=true:=by
     rw[beq_iff_eq];simp only[List.size_toArray];lia
    rw[o,Bool.and_true,Ft B (by simp only[List.size_toArray];lia) L];exact#[λz=>by rw[z],λz=>by cases z;rfl]
   .have o:(its.toArray.size==its'.toArray.size)=false:=by
     rw[sk];simp only[List.size_toArray];lia
    rw[o,Bool.and_false];refine#[λz=>(by cases z),λz=>?_];cases z;exact wC rZ B
def EF{n m:Nat}{d b:Dt}{v a:V}(r:Rep X.K H n d v)(c:Rep X.K H m b a)(f:nh v=true)(e:nh a=true):(pK v a=true↔d=b):=by
 cases r<;>first|(cases f;done)|skip
 all_goals (cases c<;>first|(cases e;done)|skip)
 all_goals first|exact#[λ_=>rfl,λ_=>rfl]|exact#[λz=>Bool.noConfusion z,λz=>by cases z]|exact#[λz=>iZ Dt.int (eq_of_beq z),λz=>by injection z with z;exact beq_iff_eq.mpr z]|exact#[λz=>iZ Dt.str (eq_of_beq z),λz=>by injection z with z;exact beq_iff_eq.mpr z]
def Bq(I:Inv X Z c H s):∀(n:Nat) {A:Ar},A.units+n<cLine->∀{d w:Dt} {v l:V} {u y:Vl},Rep X.K H n d v->Rep X.K H n w l->RelV v u->RelV l y->∃b,SeqAt.EqAt A s u y b/\(b=true↔d=w):=by
 intro n
 induction n with
 |zero=>
  intro A L d w v l u y r g q j;have f:nh v=true:=by cases r<;>rfl
  have e:nh l=true:=by cases g<;>rfl
  exact#[_,A2 q j f e,EF r g f e]
 | succ n M=>
  intro A L d w v l u y r g q j;by_cases f:nh v=true
  .by_cases e:nh l=true
   .exact#[_,A2 q j f e,EF r g f e]
   .refine#[false,?_,#[λz=>(by cases z),λz=>?_]]
    .cases g with
     |non=>exact wC rZ e
     |int=>exact wC rZ e
     |str=>exact wC rZ e
     | @lst _ B a C h D E=>
      cases j;obtain⟨k,_,p,_⟩:=I.list h;cases r with
      |non=>cases q;exact SeqAt.EqAt.none_list p.isList ()
      |int _ i=>obtain⟨t,rfl⟩:=q;exact SeqAt.EqAt.int_list i t p.isList ()
      |str _ x=>obtain⟨t,rfl⟩:=q;exact SeqAt.EqAt.str_list x t p.isList ()
      |lst _ _ _=>cases f
      |tup _ _ _=>cases f
     | @tup _ B a C h D E=>
      cases j;obtain⟨k,_,p,_⟩:=I.tuple h;have o:s.heap.IsTuple a k.toArray:=p;cases r with
      |non=>cases q;exact SeqAt.EqAt.none_tuple o ()
      |int _ i=>obtain⟨t,rfl⟩:=q;exact SeqAt.EqAt.int_tuple i t o ()
      |str _ x=>obtain⟨t,rfl⟩:=q;exact SeqAt.EqAt.str_tuple x t o ()
      |lst _ _ _=>cases f
      |tup _ _ _=>cases f
    .subst z;cases r<;>first|(cases f;done)|skip
     all_goals (cases g;exact wC rZ e)
  .by_cases e:nh l=true
   .refine#[false,?_,#[λz=>(by cases z),λz=>?_]]
    .cases r with
     |non=>exact wC rZ f
     |int=>exact wC rZ f
     |str=>exact wC rZ f
     | @lst _ B a C h D E=>
      cases q;obtain⟨k,_,p,_⟩:=I.list h;cases g with
      |non=>cases j;exact SeqAt.EqAt.list_none p.isList ()
      |int _ i=>obtain⟨t,rfl⟩:=j;exact SeqAt.EqAt.list_int i t p.isList ()
      |str _ x=>obtain⟨t,rfl⟩:=j;exact SeqAt.EqAt.list_str x t p.isList ()
      |lst _ _ _=>cases e
      |tup _ _ _=>cases e
     | @tup _ B a C h D E=>
      cases q;obtain⟨k,_,p,_⟩:=I.tuple h;have o:s.heap.IsTuple a k.toArray:=p;cases g with
      |non=>cases j;exact SeqAt.EqAt.tuple_none o ()
      |int _ i=>obtain⟨t,rfl⟩:=j;exact SeqAt.EqAt.tuple_int i t o ()
      |str _ x=>obtain⟨t,rfl⟩:=j;exact SeqAt.EqAt.tuple_str x t o ()
      |lst _ _ _=>cases e
      |tup _ _ _=>cases e
    .subst z;cases g<;>first|(cases e;done)|skip
     all_goals (cases r;exact wC rZ f)
   .have G:∀{m:Nat} {d:Dt} {v:V},Rep X.K H m d v-> ¬nh v=true->∃a,v=.ref a:=λ{m d v} r f=>by
     cases r<;>first|exact#[_,rZ]|exact wC rZ f
    obtain⟨a,rfl⟩:=G r f;obtain⟨N,rfl⟩:=G g e;cases q;cases j;by_cases J:a=N
    .subst J;exact#[true,SeqAt.EqAt.same _,#[λ_=>Fy I (n+1) r g,λ_=>rfl]]
    .obtain⟨b,O,_,Q⟩:=Dj I (A:=A) () r g λr g q j=>M (A:=A.in1) (by show A.units+1+n<cLine;lia) r g q j;exact#[b,.of_refs J O,Q]
inductive nz(K:N2)(c:Bool)(x y:V)(H:Hp)(Q:VK):Prop|mk:∀a e n d f,x=.ref a->y=.ref e->Rep K H (n+1) d (.ref a)->Rep K H (n+1) f (.ref e)->n<=30->(∀b,(b=true↔d=f)->Q (.bl (if c then !b else b)) H)->nz K c x y H Q
def wZ(l:X.A.units+64<cLine):OpR X (compareOp .Eq) (nz X.K false):=by
 intro Z s c H x y v u Q I f g h;obtain⟨a,m,n,d,o,rfl,rfl,r,e,p,q⟩:=h;cases f;cases g;obtain⟨b,i,_,j⟩:=Dj I (A:=X.A) () r e λr e q k=>Bq I n (A:=X.A.in1) (by show X.A.units+1+n<cLine;lia) r e q k;exact i _ _ _ _ #[.bl b,H,I,rZ,q b j]
def tr(l:X.A.units+64<cLine):OpR X (compareOp .NotEq) (nz X.K true):=by
 intro Z s c H x y v u Q I f g h;obtain⟨a,m,n,d,o,rfl,rfl,r,e,p,q⟩:=h;cases f;cases g;obtain⟨b,_,i,j⟩:=Dj I (A:=X.A) () r e λr e q k=>Bq I n (A:=X.A.in1) (by show X.A.units+1+n<cLine;lia) r e q k;exact i _ _ _ _ #[.bl (!b),H,I,rZ,q b j]
end
def E4{K:N2}{H:Hp}{n:Nat}{is:Zs}(i:Nat)(d:Dt)(v:V)(a:(is.map Dt.int)[i]?=some d)(b:(is.map V.int)[i]?=some v):Rep K H n d v:=by
 rw[hA]at a b;cases e:is[i]? with
 |none=>rw[e]at a;cases a
 |some k=>
  rw[e]at a b;cases a;cases b;exact .int n k
def C1{K:N2}{H:Hp}{n:Nat}{is:Zs}{a:Ad}(h:SqL K H a (is.map V.int)):Rep K H (n+1) (.lst (is.map Dt.int)) (.ref a):= .lst h (by simp) E4
def BV{K:N2}{H:Hp}{n:Nat}{is:Zs}{a:Ad}(h:SqT K H a (is.map V.int)):Rep K H (n+1) (.tup (is.map Dt.int)) (.ref a):= .tup h (by simp) E4
theorem vp{e i:Type}{f:e->i}(g:∀a b,f a=f b->a=b):∀{c d:List e},c.map f=d.map f->c=d
 | [],[],_=>rfl
 | [],_::_,h=>by simp at h
 |_::_,[],h=>by simp at h
 |a::c,b::d,h=>by
  simp only[List.map_cons,List.cons.injEq]at h;rw[g a b h.1,vp g h.2]
def rT{c d:Zs}:Dt.lst (c.map Dt.int)=Dt.lst (d.map Dt.int)↔c=d:=
 #[λh=>by injection h with h;exact vp (λa b e=>by injection e) h,λh=>by rw[h]]
def pL{c d:Zs}:Dt.tup (c.map Dt.int)=Dt.tup (d.map Dt.int)↔c=d:=
 #[λh=>by injection h with h;exact vp (λa b e=>by injection e) h,λh=>by rw[h]]
def nI(n:Nat):List V:=(List.range n).map λ(i:Nat)=>V.int (i:Int)
section
variable{X:Cx}
inductive pU(a:List V)(H:Hp)(Q:VK):Prop|mk:∀j:Int,a=[.int j]->(∀p,H p=none->Q (.ref p) (gI H p (.rng 0 j)))->pU a H Q
def C4:mE X (.type "range") pU:=by
 intro Z s a H c d Q I r h;obtain⟨j,rfl,q⟩:=h;obtain⟨u,rfl,t,rfl⟩:=mi r;refine call_range_1 #[.ref s.heap.objs.size,_,I.laid (t':=s.toks+1+1) (λb o e=>ig _ e) (gS _) (show ObjOk X.prog X.w _ _ _ (.rng 0 j)from#[_,_,_,i4 _ rZ]),rZ,q _ (I.hok.fresh (gS _))]
def G7{n:Nat}{f:AV}(h:ItemsOf (λi v=>∃t,v=Value.int ((0:Int)+(i:Nat) * 1) t) f n):Vals (nI n) f.toList:=by
 obtain⟨l,m⟩:=h;have go:∀(d:List V) (c:Vs),d.length=c.length->(∀(j:Nat) x u,d[j]?=some x->c[j]?=some u->RelV x u)->Vals d c:=by
  intro d
  induction d with
  |nil=>intro c g _;cases c with
   |nil=>exact .nil
   |cons=>simp at g
  |cons x d o=>
   intro c g h;cases c with
   |nil=>simp at g
   |cons u c=>exact .cons (h 0 x u rZ rZ) (o c (by simpa using g) λj a b e k=>h (j+1) a b (by simpa using e) (by simpa using k))
 refine go _ _ (by simp[nI,l]) λj x u e k=>?_;obtain⟨t,rfl⟩:=m j u (by simpa using k);unfold nI at e;rw[hA]at e;have p:j<n:=by
  have:=(gV.mp k).1;simpa[l]using this
 rw[tF p]at e;cases e;refine#[t,?_]
 congr 1
 lia
def Fh{j:Int}(a:0<=j)(b:j<=1000000):Builtin.Range.small 0 j 1=true:=small_one (by decide) (by decide) () ()
def Ev{j:Int}(a:0<=j):Builtin.Range.rangeSize 0 j 1=(j.toNat:Nat):=by
 rw[rangeSize_one];split<;>lia
inductive m9(a:List V)(H:Hp)(Q:VK):Prop|mk:∀p j,a=[.ref p]->H p=some (.rng 0 j)->0<=j->j<=1000000->(∀l,H l=none->Q (.ref l) (gI H l (.lst (nI j.toNat))))->m9 a H Q
def Jq(g:X.calm=true):mE X (.type "list") m9:=by
 intro Z s w H x y Q I r h;obtain⟨p,j,rfl,i,c,k,q⟩:=h;obtain⟨u,rfl,l⟩:=mi r;cases l;obtain⟨z,A,B,e⟩:=I.hok p _ i;refine call_list_range (I.ok.hd g) e (Fh c k) (Ev c) () λd m a f n o b=>?_;have t:=G7 b;have v:d.get? s.heap.objs.size=some {cls:= .type "list",data:= .seq a.toList.toArray f}:=by simpa using o
 exact#[.ref s.heap.objs.size,_,I.laid (t':=m) n (gS _) (show ObjOk X.prog X.w _ d _ (.lst (nI j.toNat))from#[by rw[iv];simp[nI];lia,a.toList,f,t,v]),rZ,q _ (I.hok.fresh (Nat.le_refl _))]
end
section
open AutoSeq1 (wpAny_loadPart')
abbrev Ag(j:Int)(a:AV):Prop:=ItemsOf (λi v=>∃t,v=Value.int ((0:Int)+(i:Nat) * 1) t) a j.toNat
def Jy{k:Pg}{w:World}{A:Ar}{E:VP}{s:Sh}{Q:Vs->Sh->Prop}{r:Ad}{j:Int}{t u v:Tok}(C:A.handled=none)(y:IsRange s.heap r 0 j 1 t u v)(B:0<=j)(D:j<=1000000)(G:∀d i c,(∀b o,s.heap.get? b=some o->d.get? b=some o)->Ag j c->Q c.toList {s with heap:=d,toks:=i}):wpAny (model k w) A (collect (.ref r)) Q E s:=by
 have H:(s.heap.push {cls:= .type "list",data:= .seq ([]:Vs).toArray}).get? s.heap.objs.size=some {cls:= .type "list",data:= .seq #v[] 0}:=by exact i4 _ rfl
 unfold collect;refine wpAny_bind (wpAny_runValue (codeAny_builtin F.entry_proto_collect ?_));rw[Around.under_plainId F.plain_proto_collect _];show wpAny _ A.in1 (newList [] >>= λl=>again (.builtin "list.__iadd__" #[[l,.ref r],[]])) _ _ s;refine gH (pq (gK #[pb F.plain_list_iadd _,n6 F.entry_list_iadd ?_]));rw[pC F.plain_list_iadd _];show wpAny _ A.in1 (Builtin.List.listExtendWith (.ref s.heap.objs.size) (.ref r) (.ref s.heap.objs.size)) _ _ _;have m:∀n,(∃d i c p,n={s with heap:=d,toks:=i}/\(∀b o,s.heap.get? b=some o->d.get? b=some o)/\d.get? s.heap.objs.size=some {cls:= .type "list",dict:=none,data:= .seq c p,slots:= #v[]}/\Ag j c)->
   wpAny (model k w) A (match Value.ref s.heap.objs.size with
    | Value.ref a=>do
     let o <-load a
     match o.data with
      |Data.seq I _=>pure I.toList
      |_=>unsupported "internal:collect"
    |_=>unsupported "internal:collect") Q E n:=by
  rintro n ⟨d,i,c,p,rfl,z,q,x⟩;show wpAny _ A (load s.heap.objs.size >>= _) _ _ _;exact gH (wpAny_load q (gK (G d i c z x)))
 refine kS (wpAny_extend_range (A:=A) (R:=λr n=>r=.ok (.ret (.ref s.heap.objs.size))/\∃d i c p,n={s with heap:=d,toks:=i}/\(∀b o,s.heap.get? b=some o->d.get? b=some o)/\d.get? s.heap.objs.size=some {cls:= .type "list",dict:=none,data:= .seq c p,slots:= #v[]}/\Ag j c)
  (s:={s with heap:=s.heap.push {cls:= .type "list",data:= .seq ([]:Vs).toArray}}) C (ig _ y) (Fh B D) (Ev B) () _ (.ref s.heap.objs.size) 0 H λd i c p z q x=>
   #[rZ,d,i,c,p,rZ,λb o e=>z b o (iW (hV e)) (ig _ e),q,x]) (λfin n h=>?_) (λe n h=>wC h.1 (by simp))
 cases fin with
 |done f=>obtain⟨e,g⟩:=h;cases e;exact m _ g
 |again p=>exact#[h.1,nG h.2 λr J y=>by obtain⟨rfl,g⟩:=y;exact m _ g]
def LG(r:Ad)(j:Int)(t u v:Tok)(q:0<=j)(x:j<=1000000):Meets (Builtin.«tuple.__new__» #[[.type "tuple",.ref r],[]]) (λA R s=>A.handled=none/\IsRange s.heap r 0 j 1 t u v/\∀(c:Heap) i a,(∀b o,s.heap.get? b=some o->c.get? b=some o)->Ag j a->
   R (.ok (.ret (.ref c.objs.size))) {s with heap:=c.push {cls:= .type "tuple",data:= .seq a},toks:=i}):=
 .of_wp λn w A R s h=>by
  obtain⟨y,g,d,i,os⟩:=s;obtain⟨z,k,h⟩:=h;have p:=sub_tuple_self;have l:=init_tuple_lookup;have B:=madeHere_tuple
  have hT:Shared.TypeIs #[y,g,d,i,os] (.ref r) "range":=#[_,k,rZ]
  wp_walk using BC k,wpAny_typeOf hT,Jy (A:=A.in1) z k q x
  intro c m a C f;show wpAny _ _ (Builtin.Tuple.tupleExact a.toList.toArray >>= λv=>ret v) _ _ _;have D:a.toList.toArray.size<=sizeLine:=by
   have:=f.1;rw[iv];simp only[List.size_toArray,Array.length_toList];lia
  unfold Builtin.Tuple.tupleExact;refine wpAny_bind (wpAny_newObj_type (wpAny_pure #[_,rZ,?_]) D);have e:a.toList.toArray=a:=by simp
  rw[e];exact h c m a C f
end
section
variable{X:Cx}
inductive ou(a:List V)(H:Hp)(Q:VK):Prop|mk:∀p j,a=[.ref p]->H p=some (.rng 0 j)->0<=j->j<=1000000->(∀l,H l=none->Q (.ref l) (gI H l (.tup (nI j.toNat))))->ou a H Q
def EQ(k:X.calm=true):mE X (.type "tuple") ou:=by
 intro Z s g H C D Q I r h;obtain⟨p,j,rfl,l,m,n,q⟩:=h;obtain⟨u,rfl,t⟩:=mi r;cases t;obtain⟨v,w,x,e⟩:=I.hok p _ l;refine callType_new F.called_tuple (by decide) (F.typeCall_tuple_1 _) (F.newCall_tuple_1 _) (λobj=>F.args_object_init_2 obj _) F.entry_tuple_new (LG p j v w x m n) #[I.ok.hd k,e,λc d a y f=>#[#[_,i4 _ rZ,rZ],?_]];have z:=G7 f;have i:Inv X Z g H {s with heap:=c,toks:=d}:=I.kept y;have A:(nI j.toNat).length<=sizeLine:=by rw[iv];simp[nI];lia
 have B:Inv X Z g (gI H c.objs.size (.tup (nI j.toNat))) {s with heap:=c.push {cls:= .type "tuple",data:= .seq a},toks:=d}:=
  i.laid (t':=d) (λb o e=>ig _ e) (gS _) (show ObjOk X.prog X.w _ _ _ (.tup (nI j.toNat))from#[A,a.toList,z,by simpa using TupD.new c a])
 exact#[.ref c.objs.size,_,B,rZ,q _ (i.hok.fresh (gS _))]
end
structure CompSc(N:Ss)(osc:Scope)(vs:Ss)(sc:Scope):Prop where
 kind:sc.kind=.function:=by rfl
 cell:∀y∈sc.names,y.2≠ .cell:=by decide+kernel
 locs:∀y∈sc.names,y.2=.local->sc.names.lookup y.1=some .local:=by decide+kernel
 own:∀y∈N.map (qe vs),sc.names.lookup y≠some .local:=by decide+kernel
 hid:∀y∈vs,sc.names.lookup (CK y)=none:=by decide+kernel
 nd:(vs++N.map (qe vs)).Nodup:=by decide+kernel
 free:∀y∈sc.names,y.2=.free->osc.names.lookup y.1=some .cell\/osc.names.lookup y.1=some .free:=by decide+kernel
def CompSc.to{X:Cx}{N:Ss}{osc:Scope}{vs:Ss}{a:Scope}(h:CompSc N osc vs a)(b:X.N=N:=by rfl)(c:X.env.scope=osc:=by rfl):CompScope X vs a:=by
 subst b c;exact#[h.kind,h.cell,h.locs,h.own,h.hid,h.nd,h.free]
def hZ(P:Pg)(w:World)(K:N2)(mg:SV)(base:Heap)(x:Str)(k:Nat)(a:Ss)(c:Sp):Prop:=
 ∃f b,FnOk P w K mg base im k f b a c/\mg x=some (.ref f)/\PySem.W.keepIn K (.ref f)=true/\Binds K b a []
def iV{X:Cx}{x:Str}{k:Nat}{h:Ss}{g:Sp}{e:Expr}{a:List Expr}{t:TA}{p d:Pos}(c:hZ X.prog X.w X.K X.mg X.base x k h g)(i:Room k X.A)(j:Gl X x)(l:PA X (e::a) t)(n:(x==("__debug__":Str))=false:=by decide) (o:starEach (e::a) X.env=(false,eval e X.env)::starEach a X.env:=by rfl) (q:(backTo d (starEach a X.env)).any (·.1)=false:=by rfl):
  PE X (.Call (.Name x p) (e::a) [] d) (vZ g [] E0 t):=by
 obtain⟨f,s,F,m,r,b⟩:=c;exact Dr F i j m r b .nil E9 l n o q
def IxR.k{X:Cx}{K:N2}(r:N2->R2)(h:IxR X (r X.K))(a:X.K=K):IxR X (r K):=a▸h
def OpR.k{X:Cx}{K:N2}{f:Vl->Vl->Sem Vl}(r:N2->R2)(h:OpR X f (r X.K))(a:X.K=K):OpR X f (r K):=a▸h
def g0{H:Hp}{p:Ad}(h:H p=none)(o:HO):Same H (gI H p o):=λb u q=>by rw[gM (iU q h)];exact q
def small{n:Nat}(h:n<=1000):n<=sizeLine:=ng (Js h)
abbrev nv(n:Nat):V:= .int (n:Int)
def i8(a:f'):a.map nv=(a.map λ(n:Nat)=>(n:Int)).map V.int:=by rw[lE];rfl
def EB{c d:f'}:(c.map λ(n:Nat)=>(n:Int))=(d.map λ(n:Nat)=>(n:Int))↔c=d:=
 #[λh=>vp (λa b e=>Int.ofNat.inj e) h,λh=>by rw[h]]
def wy{K:N2}{H:Hp}{n:Nat}{is:f'}{a:Ad}(h:SqL K H a (is.map nv)):Rep K H (n+1) (.lst ((is.map λ(n:Nat)=>(n:Int)).map Dt.int)) (.ref a):=C1 (by rw[<-i8];exact h)
def lP{K:N2}{H:Hp}{n:Nat}{is:f'}{a:Ad}(h:SqT K H a (is.map nv)):Rep K H (n+1) (.tup ((is.map λ(n:Nat)=>(n:Int)).map Dt.int)) (.ref a):=BV (by rw[<-i8];exact h)
def rM{a b:f'}:Dt.lst ((a.map λ(n:Nat)=>(n:Int)).map Dt.int)=Dt.lst ((b.map λ(n:Nat)=>(n:Int)).map Dt.int)↔a=b:=rT.trans EB
def gZ{a b:f'}:Dt.tup ((a.map λ(n:Nat)=>(n:Int)).map Dt.int)=Dt.tup ((b.map λ(n:Nat)=>(n:Int)).map Dt.int)↔a=b:=pL.trans EB
def vc{a:f'}{k:Nat}(h:k<a.length):n9 (a.map nv) (k:Int)=some (nv (a.getD k 0)):=pH (by rw[hA,gN h,iD,gN h];rfl)
def rc(H:Hp)(b:List V)(Q:VK):Prop:=∀r a,Same H a->a r=some (.tup b)->Q (.ref r) a
def BK(t:TS):TS:=λD c H=>∃S:St->Hp->Prop,t {D with nx:=S} c H/\∀a b,S a b->D.nx a b
def Fu{X:Cx}{st:Stmt}{t:TS}(h:PS X st t):PS X st (BK t):=by
 intro Z s c H D I q;obtain⟨S,d,e⟩:=q;refine gY (h Z s c H _ I d) λf i z=>?_;cases f with
 |next=>obtain⟨a,b,g,z⟩:=z;exact#[a,b,g,e a b z]
 |brk=>exact z
 |cont=>exact z
 |ret u=>exact z
def oY{H a:Hp}{l:Ad}{o:HO}(g:Same H a)(c:H l=none):Same H (gI a l o):=λb u e=>by rw[gM (iU e c)];exact g b u e
def LI{a:Zs}{k:Nat}(h:k<a.length):n9 (a.map V.int) (k:Int)=some (.int (a.getD k 0)):=pH (by rw[hA,gN h,iD,gN h];rfl)
def zq{n k:Nat}(h:k<n):ri n (k:Int)=some k:=by
 unfold ri;rw[wB (),wB (),pN]
def yu(c:Int){n:Nat}(h:1<=n):V.int (c%(n:Int))=nv (c%(n:Int)).toNat/\(c%(n:Int)).toNat<n:=by
 have a:=Bf c (by lia:(n:Int)≠0);have b:=A1 c (by lia:(0:Int)<(n:Int));refine#[?_,()];show V.int _=V.int (((c%(n:Int)).toNat:Nat):Int);rw[Int.toNat_of_nonneg a]
def zN(a:f')(j v:Nat):(a.map nv).set j (nv v)=(a.set j v).map nv:=(List.map_set).symm
def zW{a:f'}{j v n:Nat}(h:∀y∈a,y<n)(b:v<n):∀y∈a.set j v,y<n:=by
 intro y c
 rcases List.mem_or_eq_of_mem_set c with z|z
 .exact h y z
 .rw[z];exact b
def iS{a:f'}{j n:Nat}(h:∀y∈a,y<n)(b:j<a.length):a.getD j 0<n:=by
 rw[iD,gN b];exact h _ (oU b)
def Mv{P:Pg}{w:World}{a:Ad}{c:Type}[DecidableEq c]{kd:HeapKind P w c}(d:(a==sysModules)=false):
  MeetsIn P w (Builtin.«dict.__len__» #[[.ref a],[]]) λ_ R s=>∃b,s.heap.DictOfH kd a b/\R (.ok (.ret (.int b.length s.toks))) {s with toks:=s.toks+1}:=
 .of_wp λA R s ⟨b,e,q⟩=>by
  obtain⟨k,f,l,g,m,h,i,_⟩:=e;have j:f.size=b.length:=zx i;show wpAny _ _ (dictSize a >>= _) _ _ s;unfold dictSize;refine gH (gH (u5 g h (gK (gH (wpAny_pendingCount_other d (wpAny_ret_mkInt ?_))))));rw[xS,j];exact q
def JB{P:Pg}{w:World}{A:Ar}{E:VP}{s:Sh}{a:Ad}{c:Type}[DecidableEq c]{e:HeapKind P w c}{b:List (c×Ad×Vl)}{Q:VP}(f:(a==sysModules)=false)(d:s.heap.DictOfH e a b) (few:(b.length:Int)<2 ^ 63) (q:Q (.int b.length (s.toks+1)) {s with toks:=s.toks+1+1}):wpAny (model P w) A (Builtin.«len» #[[.ref a],[]]) (λfin g=>∃r,fin=.done (.ret r)/\Q r g) E s:=by
 have h: ¬((b.length:Nat):Int)<0:=by lia
 have i: ¬((b.length:Nat):Int)>=2 ^ 63:=by lia
 unfold Builtin.«len»;refine gH (m:=oneArg "len" _) (gK (gH (m:=callSpecial? (.ref a) (Str.ofString "__len__")) ?_));refine rP (name:=Str.ofString "__len__") d.typeIs F.slot_dict_len (call_meetsIn F.slot_dict_len d.typeIs F.entry_dict_len (F.args_dict_len_1 _) (Mv (kd:=e) f) #[b,d,?_]);show wpAny _ _ _ _ _ {s with toks:=s.toks+1};refine gH (lq (gK (gH (u9 ?_))));show wpAny _ _ (if((b.length:Nat):Int)<0 then _ else(if((b.length:Nat):Int)>=2 ^ 63 then _ else _)) _ _ _;rw[wA h,wA i];exact gH (wpAny_mkInt (gK #[_,rZ,q]))
section
variable{X:Cx}
def Hu:mE X (.builtin "len") (λd H Q=>∃a b,d=[V.ref a]/\H a=some (.dT b)/\Q (.int b.length) H):=by
 intro Z s l H d m Q I r h;obtain⟨a,b,rfl,f,q⟩:=h;obtain⟨u,rfl,g⟩:=mi r;cases g;obtain⟨z,i,j,c,k⟩:=B4 I.hok f;have e:b.length=j.length:=rh c;refine Dm kind_len plain_len entry_len (args_len1 _) (JB i k (by rw[<-e];rw[iv]at z;lia) ?_);exact#[.int b.length,H,I.tok _,#[_,by rw[e]],q]
end
def nk(a:f'):List ik:=a.map λ(n:Nat)=>(Sum.inl (n:Int):ik)
def mJ(a:f'):(nk a).map kV=a.map nv:=by
 unfold nk;rw[lE];rfl
def uc{c d:f'}(h:nk c=nk d):c=d:=by
 unfold nk at h;exact vp (λa b e=>by injection e with e;exact Int.ofNat.inj e) h
section
variable{X:Cx}
inductive pZ(K:N2)(x y:V)(H:Hp)(Q:VK):Prop|mk:∀l b a c,x=.ref l->y=.ref b->SqL K H l a->SqL K H b c->a.length+c.length<=sizeLine->(∀p,H p=none->Q (.ref p) (gI H p (.lst (a++c))))->pZ K x y H Q
def zU:OpR X (binaryOp .Add) (pZ X.K):=by
 intro Z s E H x y v u Q I p t h;obtain⟨l,b,G,J,rfl,rfl,w,z,L,q⟩:=h;cases p;cases t;obtain⟨c,r,⟨⟨c1,M,k1,A⟩,n,e,i,j,k⟩,_⟩:=I.list w;obtain⟨a,m,⟨⟨c2,N,k2,B⟩,C,o,d,f,g⟩,_⟩:=I.list z;simp only at i j k d f g;subst i j k d f g;have l1:=r.length;have l2:=m.length;have D:c.toArray++a.toArray=(c++a).toArray:=by simp
 refine concat_meets #[_,e,rZ] #[_,o,rZ] noFill_list_add seq_list_add F.slot_list_add F.entry_list_add (F.args_list_add_2 _ _) (list_addW l b c.toArray a.toArray n C none none A B (by simp only[List.size_toArray];lia)) #[e,o,?_];rw[D];exact#[.ref _,_,I.lnew (t':=s.toks) (r.append m) (by rw[jc];lia),rZ,q _ I.fresh]
end
section
variable{X:Cx}
inductive yS(K:N2)(a:List V)(H:Hp)(Q:VK):Prop|mk:∀(p:Ad) (bs:List Bool),a=[.ref p]->SqL K H p (bs.map V.bl)->Q (.bl (bs.all id)) H->yS K a H Q
def KZ(n:X.calm=true):mE X (.builtin "all") (yS X.K):=by
 intro Z s G H J L Q I r h;obtain⟨p,bs,rfl,t,q⟩:=h;obtain⟨u,rfl,w⟩:=mi r;cases w;obtain⟨a,g,j,_⟩:=I.list t;have k:=j.isList;have f:p<s.heap.objs.size:=j.lt;have c:a.length=bs.length:=by rw[<-g.length,gL]
 refine call_all_walk (w6 k #[_,_,_,_,_,_,λi=>bs.getD i false,rZ,Walks.list (A:=X.A.in1) (I.ok.hd n) _ p (iW f) a.toArray,#[#[_,i4 _ rZ,rZ,rZ],k.push _],?_,λM N y=>?_])
 .intro i v O T U B C;have d:a[i]?=some v:=by simpa using B
  have l:i<bs.length:=by rw[<-c];exact(gV.mp d).1
  obtain⟨Y,m,D⟩:=g.get (i:=i) (x:= .bl (bs.getD i false)) (by rw[hA,gN l,iD,gN l];rfl);rw[d]at m;cases m;cases(show v=Value.bool _ from D);exact tq C
 .have e:(List.range a.toArray.size).all (λi=>bs.getD i false)=bs.all id:=by
   rw[iK,c];have:bs=(List.range bs.length).map λi=>bs.getD i false:=by
    refine vt (by simp) λi E h2=>?_;simp[List.getD_eq_getElem?_getD,E]
   conv=>rhs;rw[this,List.all_map]
   rfl
  rw[e];exact#[.bl (bs.all id),H,I.kept λb o z=>y b o (by simp only[List.mem_singleton];exact Nat.ne_of_lt (Heap.lt_size z)) (Heap.get?_push_of_some _ z),rZ,q]
abbrev TJ:=Str->St->Hp->(Str->Hp->Prop)->Prop
def PJ(X:Cx)(d:List Expr)(t:TJ):Prop:=∀(Z:AO) (s:Sh) (b:St) (H:Hp) (a:Str) (Q:Str->Hp->Prop),Inv X Z b H s->t a b H Q->
 wpAny (model X.prog X.w) X.A (joinParts a (evalEach d X.env)) (λu e=>∃x c,Inv X Z b c e/\RelV (.str x) u/\Q x c) X.xe s
def Ct:TJ:=λa _ H Q=>a.length<=sizeLine/\Q a H
def DU(x:Str)(t:TJ):TJ:=λa b H Q=>(a++x).length<=sizeLine/\t (a++x) b H Q
def BZ(c:TE)(t:TJ):TJ:=λa b H Q=>c b H λv d=>∃i:Int,v=.int i/\i.natAbs.log2<1920/\(a++Str.ofString (toString i)).length<=sizeLine/\t (a++Str.ofString (toString i)) b d Q
def Nf:PJ X [] Ct:=λZ s b H a Q I h=>joinParts_nil #[a,H,I.tok _,#[_,rZ],h.2] h.1
def LZ{x:Str}{j:Nat}{a:Pos}{b:List Expr}{t:TJ}(d:PJ X b t):PJ X (.Constant (.str x) j a::b) (DU x t):=by
 intro Z s e H c Q I h;show wpAny _ _ (joinParts c (eval (.Constant (.str x) j a) X.env::evalEach b X.env)) _ _ s;exact joinParts_cons (Calls.Constant_str #[h.1,d Z _ e H _ Q (I.tok _) h.2])
def IP{e:Expr}{a:Pos}{b:List Expr}{d:TE}{t:TJ}(g:PE X e d)(j:PJ X b t):PJ X (.FormattedValue e (-1) none a::b) (BZ d t):=by
 intro Z s f H c Q I h;show wpAny _ _ (joinParts c (eval (.FormattedValue e (-1) none a) X.env::evalEach b X.env)) _ _ s;refine joinParts_cons (FormattedValue_plain (gY (g Z s f H _ I h) λv r ⟨y,k,l,m,i,n,o,p,q⟩=>?_));subst n;obtain⟨u,rfl⟩:=m;exact formatField_int_small o #[p,j Z _ f k _ Q (l.tok _) q]
def MK{c d:Expr}{e:List Expr}{a:Pos}{t:TJ}(h:PJ X (c::d::e) t):PE X (.JoinedStr (c::d::e) a) (λb H Q=>t Str.empty b H λx f=>Q (.str x) f):=by
 intro Z s b H Q I g;exact JoinedStr_many (gY (h Z s b H Str.empty _ I g) λu k ⟨x,i,j,r,q⟩=>#[.str x,i,j,r,q])
end
structure PL(X:Cx)(es:List Expr)(t:TA):Prop where
 pa:PA X es t
section
variable{X:Cx}{e a b:Expr}{c:List Expr}{d i g:TE}{t:TA}{f:Pos}
def iM:PL X [] oA:=#[gX]
def gU(a:PE X e d)(b:PL X c t)(f:starEach (e::c) X.env=(false,eval e X.env)::starEach c X.env):PL X (e::c) (nA d t):=#[g9 a b.pa f]
def iL(h:PL X c t):PA X c t:=h.pa
end
end L2
namespace Cyc
def beh(a b:f'):f':=a.map λx=>b.getD x 0
def Turn(t:f'):Prop:=∀x∈t,x<t.length
def it(t:f')(r:Nat):Nat->Nat
 |0=>r
 |k+1=>t.getD (it t r k) 0
def pw(t:f'):Nat->List Nat
 |0=>List.range t.length
 |k+1=>beh (pw t k) t
def iS{t:f'}(h:Turn t){x:Nat}(a:x<t.length):t.getD x 0<t.length:=by
 rw[iD,gN a];exact h _ (oU a)
theorem yw{t:f'}(h:Turn t){r:Nat}(a:r<t.length):∀k,it t r k<t.length
 |0=>a
 |k+1=>iS h (yw h a k)
theorem yp(t:f'):∀k,pw t k=(List.range t.length).map λr=>it t r k
 |0=>by
  show List.range t.length=_;have:(List.range t.length).map (λr=>it t r 0)=(List.range t.length).map id:=qf λr _=>rfl;rw[this,zY]
 |k+1=>by
  show beh (pw t k) t=_;rw[yp t k];unfold beh;rw[lE];rfl
def Eb{t:f'}{i j:Nat}:pw t i=pw t j↔ ∀r,r<t.length->it t r i=it t r j:=by
 rw[yp,yp];constructor
 .intro h r a;have e:=iZ (λl:f'=>l[r]?) h;simpa[List.getElem?_map,List.getElem?_range a]using e
 .intro h;exact qf λr a=>h r (lY.mp a)
def pw_len(t:f')(k:Nat):(pw t k).length=t.length:=by rw[yp];simp
def pw_lt{t:f'}(h:Turn t)(k:Nat):∀x∈pw t k,x<t.length:=by
 intro x a;rw[yp]at a;obtain⟨r,b,rfl⟩:=hX.mp a;exact yw h (lY.mp b) k
theorem C2:∀(n:Nat) (f:Nat->Nat),(∀k,k<=n->f k<n)->∃i j,i<j/\j<=n/\f i=f j
 |0,f,h=>wC (h 0 (gS _)) (pk _)
 | n+1,f,h=>by
  by_cases e:∃i,i<=n/\f i=f (n+1)
  .obtain⟨i,l,e⟩:=e;exact#[i,n+1,(),gS _,e]
  .have g:∀i,i<=n->f i≠f (n+1):=λi l q=>e #[i,l,q];obtain⟨i,j,m,o,p⟩:=C2 n (λk=>if f k=n then f (n+1)else f k) λk r=>by
    have a:=h k ();have b:=h (n+1) (gS _);have c:=g k r;show(if f k=n then f (n+1)else f k)<n
    split<;>lia
   refine#[i,j,m,(),?_];have c1:=g i ();have c2:=g j o;have d:(if f i=n then f (n+1)else f i)=(if f j=n then f (n+1)else f j):=p
   split at d<;>split at d<;>lia
structure Ring{α:Type}(x:Nat->α)(i c:Nat):Prop where
 pos:0<c
 back:x (i+c)=x i
 apart:∀a b,a<b->b<i+c->x a≠x b
def wP{o:Type}{x:Nat->o}{F:o->o}(q:∀k,x (k+1)=F (x k)){i c:Nat}(R:Ring x i c):∀b a,a<b->(x a=x b↔(i<=a/\c ∣ b-a)):=by
 have f:∀k,x (i+k+c)=x (i+k):=by
  intro k
  induction k with
  |zero=>exact R.back
  |succ k d=>
   have g:i+(k+1)+c=(i+k+c)+1:=by lia
   have j:i+(k+1)=(i+k)+1:=by lia
   rw[g,j,q,q,d]
 have l:∀m k,x (i+k+m * c)=x (i+k):=by
  intro m
  induction m with
  |zero=>intro k;simp
  |succ m d=>
   intro k;have e:i+k+(m+1) * c=i+(k+m * c)+c:=by rw[Nat.add_mul];lia
   rw[e,f,<-d k]
   congr 1
   lia
 intro b
 induction b using Nat.strongRecOn with
 | ind b d=>
  intro a n;constructor
  .intro h;by_cases t:b<i+c
   .exact wC h (R.apart a b n t)
   .have u:=R.pos;have e:x b=x (b-c):=by
     have g:b=i+(b-c-i)+c:=by lia
     have j:b-c=i+(b-c-i):=by lia
     rw[j]
     conv=>lhs;rw[g]
     exact f _
    rw[e]at h;by_cases r:a<b-c
    .obtain⟨s,p⟩:=(d (b-c) () a r).mp h;refine#[s,?_];have:b-a=(b-c-a)+c:=by lia
     rw[this];exact Nat.dvd_add p (vI c)
    .by_cases v:a=b-c
     .refine#[(),?_];have:b-a=c:=by lia
      rw[this];exact vI c
     .obtain⟨s,p⟩:=(d a n (b-c) ()).mp h.symm;have:=Nat.le_of_dvd () p;lia
  .rintro⟨r,m,w⟩;have g:a=i+(a-i):=by lia
   have j:b=i+(a-i)+m * c:=by
    rw[A4];lia
   conv=>rhs;rw[j]
   rw[l,<-g]
def El{d:Type}[DecidableEq d](x:Nat->d):∀(N:Nat),(∃a b,a<b/\b<=N/\x a=x b)->∃i c,Ring x i c/\i+c<=N:=by
 intro N
 induction N with
 |zero=>rintro⟨a,b,e,g,_⟩;lia
 | succ N j=>
  rintro⟨a,b,e,g,f⟩;by_cases h:∃a b,a<b/\b<=N/\x a=x b
  .obtain⟨i,c,R,o⟩:=j h;exact#[i,c,R,()]
  .have p:b=N+1:=by
    by_cases q:b<=N
    .exact wC #[a,b,e,q,f] h
    .lia
   refine#[a,b-a,#[(),?_,λk l m r n=>h #[k,l,m,(),n]],()];have:a+(b-a)=b:=by lia
   rw[this,f]
def Hd{t:f'}(h:Turn t){r:Nat}(a:r<t.length):∃i c,Ring (it t r) i c/\i+c<=t.length:=
 El _ _ (let⟨i,j,b,d,e⟩:=C2 t.length (it t r) λk _=>yw h a k;#[i,j,b,d,e])
def sv:Nat->Nat
 |0=>1
 |n+1=>(n+1) * sv n
theorem F0:∀(n c:Nat),0<c->c<=n->c ∣ sv n
 |0,c,a,b=>by lia
 | n+1,c,a,b=>by
  by_cases h:c=n+1
  .rw[h];exact Nat.dvd_mul_right _ _
  .exact Nat.dvd_trans (F0 n c a ()) (Nat.dvd_mul_left _ _)
theorem BO:∀n,0<sv n
 |0=>Nat.one_pos
 |n+1=>Nat.mul_pos (Nat.succ_pos n) (BO n)
def NN{t:f'}(h:Turn t):pw t t.length=pw t (t.length+sv t.length):=by
 rw[Eb];intro r a;obtain⟨i,c,R,d⟩:=Hd h a;have b:=R.pos;refine(wP (F:=λy=>t.getD y 0) (λ_=>rfl) R _ _ (by have:=BO t.length;lia)).mpr #[(),?_];have:t.length+sv t.length-t.length=sv t.length:=by lia
 rw[this];exact F0 _ _ b ()
theorem DL(t:f')(r a:Nat):∀k,it t r (a+k)=it t (it t r a) k
 |0=>rfl
 |k+1=>by
  show t.getD (it t r (a+k)) 0=t.getD (it t (it t r a) k) 0;rw[DL t r a k]
def Cw{t:f'}{r i c:Nat}(R:Ring (it t r) i c){x k:Nat}(a:i<=x)(b:0<k):it t r (x+k)=it t r x↔c ∣ k:=by
 have:=wP (F:=λy=>t.getD y 0) (λ_=>rfl) R (x+k) x ();rw[xk]at this;exact#[λh=>(this.mp h.symm).2,λh=>(this.mpr #[a,h]).symm]
def JM{t:f'}(h:Turn t){r s i c j d:Nat}(m:r<t.length)(n:s<t.length)(R:Ring (it t r) i c)(S:Ring (it t s) j d):c=d\/c+d<=t.length:=by
 by_cases e:c+d<=t.length
 .exact .inr e
 .refine .inl ?_;have o:=R.pos;have p:=S.pos;obtain⟨x,y,q,u,a⟩:=C2 t.length (λk=>if k<c then it t r (i+k)else it t s (j+(k-c))) λk _=>by
   try dsimp only
   split
   .exact yw h m _
   .exact yw h n _
  try dsimp only at a
  by_cases f:y<c
  .rw[wB (),wB f]at a;exact wC a (R.apart _ _ () ())
  .rw[wA f]at a;by_cases g:x<c
   .rw[wB g]at a;have b:∀k,0<k->(c ∣ k↔d ∣ k):=by
     intro k l;rw[<-Cw R (x:=i+x) () l,<-Cw S (x:=j+(y-c)) () l,DL t r (i+x) k,DL t s (j+(y-c)) k,a]
    exact Nat.dvd_antisymm ((b d p).mpr (vI d)) ((b c o).mp (vI c))
   .rw[wA g]at a;exact wC a (S.apart _ _ () ())
def Jw{n:Nat}(c:Nat->Nat)(m:n<=5)(f:∀r,r<n->0<c r)(l:∀r,r<n->c r<=n)(h:∀r s,r<n->s<n->c r=c s\/c r+c s<=n):∃L,0<L/\L<=6/\∀r,r<n->c r ∣ L:=by
 by_cases i:∃r,r<n/\c r=5
 .obtain⟨r,g,e⟩:=i;refine#[5,(),(),λs d=>?_];have a:=h r s g d;have b:=f s d;have:c s=5:=by lia
  rw[this];exact vI _
 .by_cases j:∃r,r<n/\c r=4
  .obtain⟨r,g,e⟩:=j;refine#[4,(),(),λs d=>?_];have a:=h r s g d;have b:=f s d;have:c s=4\/c s=1:=by lia
   rcases this with z|z<;>rw[z]<;>decide
  .by_cases k:∃r,r<n/\c r=3
   .obtain⟨r,g,e⟩:=k;refine#[6,(),(),λs d=>?_];have a:=h r s g d;have b:=f s d;have:c s=3\/c s=1\/c s=2:=by lia
    rcases this with z|z|z<;>rw[z]<;>decide
   .refine#[2,(),(),λs d=>?_];have a:=l s d;have b:=f s d;have o:c s≠5:=λz=>i #[s,d,z]
    have p:c s≠4:=λz=>j #[s,d,z];have q:c s≠3:=λz=>k #[s,d,z];have:c s=1\/c s=2:=by lia
    rcases this with z|z<;>rw[z]<;>decide
def ring_five{t:f'}(h:Turn t)(y:1<=t.length)(m:t.length<=5){b c:Nat}(R:Ring (pw t) b c):b<t.length/\c<=6:=by
 have j:∀r,∃q:Nat×Nat,r<t.length->Ring (it t r) q.1 q.2/\q.1+q.2<=t.length:=λr=>by
  by_cases a:r<t.length
  .obtain⟨i,c,R,o⟩:=Hd h a;exact#[(i,c),λ_=>#[R,o]]
  .exact#[(0,0),λz=>wC z a]
 obtain⟨f,d⟩:∃f:Nat->Nat×Nat,∀r,r<t.length->Ring (it t r) (f r).1 (f r).2/\(f r).1+(f r).2<=t.length:=#[λr=>Classical.choose (j r),λr=>xM (j r)];obtain⟨L,g,u,v⟩:=Jw (n:=t.length) (λr=>(f r).2) m (λr a=>(d r a).1.pos) (λr a=>by have:=(d r a).2;lia) (λr s a k=>JM h a k (d r a).1 (d s k).1);have e:pw t (t.length-1)=pw t (t.length-1+L):=by
  rw[Eb];intro r a;obtain⟨l,A⟩:=d r a;have:=l.pos;exact((Cw l (x:=t.length-1) () g).mpr (v r a)).symm
 have:=(wP (F:=λp=>beh p t) (λ_=>rfl) R (t.length-1+L) (t.length-1) ()).mp e;rw[xk]at this;have w:=Nat.le_of_dvd g this.2;lia
def Tn(n:Nat)(t:f'):Prop:=t.length=n/\∀x∈t,x<n
def Tn.turn{n:Nat}{t:f'}(h:Tn n t):Turn t:=λx a=>by rw[h.1];exact h.2 x a
def hO{x y z:f'}(h:∀a∈x,a<y.length):beh (beh x y) z=beh x (beh y z):=by
 unfold beh;rw[lE];refine qf λa b=>?_;have c:=h a b;show z.getD (y.getD a 0) 0=(y.map λx=>z.getD x 0).getD a 0;rw[iD (l:=y),iD (l:=y.map _),hA,gN c];rfl
def xI{n:Nat}{x y z:f'}(b:Tn n x)(c:Tn n y):beh (beh x y) z=beh x (beh y z):=hO λa d=>by rw[c.1];exact b.2 a d
def jh{n:Nat}{y:f'}(a:y.length=n):beh (List.range n) y=y:=by
 refine uy λi=>?_;unfold beh;rw[hA];by_cases h:i<n
 .rw[tF h,gN ()];show some (y.getD i 0)=_;rw[iD,gN ()];rfl
 .rw[ot (by simp;lia),List.getElem?_eq_none ()];rfl
def pw_one(t:f'):pw t 1=t:=jh rfl
def Cn{n:Nat}{t:f'}(h:Tn n t)(k:Nat):Tn n (pw t k):=#[by rw[pw_len,h.1],λx a=>by have:=pw_lt h.turn k x a;rw[h.1]at this;exact this]
theorem mz{n:Nat}{t:f'}(h:Tn n t)(a:Nat):∀b,beh (pw t a) (pw t b)=pw t (a+b)
 | 0=>by
  show beh (pw t a) (List.range t.length)=pw t a;unfold beh;have:(pw t a).map (λx=>(List.range t.length).getD x 0)=(pw t a).map id:=qf λx c=>by
   have d:=pw_lt h.turn a x c;rw[iD,tF d];rfl
  rw[this,zY]
 |b+1=>by
  show beh (pw t a) (beh (pw t b) t)=beh (pw t (a+b)) t;rw[<-mz h a b,xI (Cn h a) (Cn h b)]
def Idem(e:f'):Prop:=beh e e=e
instance (e:f'):Decidable (Idem e):=inferInstanceAs (Decidable (beh e e=e))
theorem idem_mul{n:Nat}{t:f'}(h:Tn n t){k:Nat}(i:Idem (pw t k)):∀m,pw t (k * (m+1))=pw t k
 |0=>by rw[qh,Nat.mul_one]
 |m+1=>by
  rw[Nat.mul_succ,<-mz h,idem_mul h i m];exact i
def idem_uniq{n:Nat}{t:f'}(h:Tn n t){k j:Nat}(d:1<=k)(e:1<=j)(i:Idem (pw t k))(c:Idem (pw t j)):pw t k=pw t j:=by
 obtain⟨a,rfl⟩:∃a,k=a+1:=#[k-1,()];obtain⟨b,rfl⟩:∃b,j=b+1:=#[j-1,()];rw[<-idem_mul h i b,<-idem_mul h c a,A4]
def ring_of{t:f'}(h:Turn t):∃b c,Ring (pw t) b c/\b+c<=t.length+sv t.length:=El _ _ #[t.length,t.length+sv t.length,by have:=BO t.length;lia,gS _,NN h]
def idem_ex{n:Nat}{t:f'}(h:Tn n t){b c:Nat}(R:Ring (pw t) b c):Idem (pw t (c * (b+1))):=by
 show beh _ _=_;have a:=R.pos;have d:c * (b+1)>=b+1:=Nat.le_mul_of_pos_left _ a;rw[mz h];refine((wP (F:=λp=>beh p t) (λ_=>rfl) R _ _ ()).mpr #[(),?_]).symm;rw[Nat.add_sub_cancel];exact Nat.dvd_mul_right _ _
def He(t:f'):Prop:=∃c,1<=c/\pw t (c+1)=t
def again_ring{t:f'}{b c:Nat}(R:Ring (pw t) b c):He t↔b<=1:=by
 constructor
 .rintro⟨d,h,e⟩;have a:pw t 1=pw t (d+1):=by rw[e,pw_one]
  exact((wP (F:=λp=>beh p t) (λ_=>rfl) R _ _ ()).mp a).1
 .intro f;have g:=R.pos;have:=(wP (F:=λp=>beh p t) (λ_=>rfl) R (c+1) 1 ()).mpr #[f,by rw[Nat.add_sub_cancel];exact vI _];exact#[c,g,by rw[<-this,pw_one]]
def In(t e:f'):Prop:=He t/\∃k,1<=k/\pw t k=e
def Jv(n:Nat)(e t:f'):Prop:=Tn n t/\beh t e=t/\beh e t=t/\∃s,Tn n s/\beh s e=s/\beh e s=s/\beh t s=e/\beh s t=e
def in_unit{n:Nat}{t e:f'}(h:Tn n t)(b:Idem e)(i:In t e):Jv n e t:=by
 obtain⟨⟨c,r,j⟩,k,s,rfl⟩:=i;have d:∀m,pw t (m * c+1)=t:=λm=>by
  induction m with
  |zero=>rw[Nat.zero_mul,pw_one]
  |succ m l=>
   rw[show(m+1) * c+1=(m * c+1)+c by rw[Nat.succ_mul];lia,<-mz h,l];have z:=mz h 1 c;rw[pw_one]at z;rw[z,wL,j]
 have f:beh t (pw t k)=t:=by
  have z:k * c+1=(k * c+1):=rfl;have o:pw t (k * c+1)=t:=d k;obtain⟨a,rfl⟩:∃a,c=a+1:=#[c-1,()];have p:pw t (k * (a+1))=pw t k:=idem_mul h b a;have g:beh t (pw t (k * (a+1)))=pw t (1+k * (a+1)):=by
   have z:=mz h 1 (k * (a+1));rw[pw_one]at z;exact z
  rw[p,wL,o]at g;exact g
 have q:beh (pw t k) t=t:=by
  have z1:=mz h 1 k;have z2:=mz h k 1;rw[pw_one]at z1 z2;rw[z2,wL,<-z1];exact f
 refine#[h,f,q,pw t (k+(k-1)),Cn h _,?_,?_,?_,?_]
 .rw[mz h,show k+(k-1)+k=k+k+(k-1) by lia,<-mz h,<-mz h,show beh (pw t k) (pw t k)=pw t k from b,mz h]
 .rw[mz h,show k+(k+(k-1))=k+k+(k-1) by lia,<-mz h,<-mz h,show beh (pw t k) (pw t k)=pw t k from b,mz h]
 .have z1:=mz h 1 (k+(k-1));rw[pw_one]at z1;rw[z1,show 1+(k+(k-1))=k+k by lia,<-mz h];exact b
 .have z1:=mz h (k+(k-1)) 1;rw[pw_one]at z1;rw[z1,show(k+(k-1))+1=k+k by lia,<-mz h];exact b
end Cyc
namespace PySem
def Runs.det{M:Model}{Γ:Ctx}{p:Pos}{t:Sem Fin}{fs:List Frame}{s:Sh}{e:End}{z:Sh}(A:Runs M Γ p t fs s e z):∀{l:End} {m:Sh},Runs M Γ p t fs s l m->e=l/\z=m:=by
 induction A with
 |done=>intro l m a;cases a;exact#[rZ,rZ]
 |raise=>intro l m a;cases a;exact#[rZ,rZ]
 |again q h d=>intro l m a;cases a with|again y a=>exact d a
 |rule h d=>intro l m a;cases a with|rule a=>exact d a
 |«at» h d=>intro l m a;cases a with|«at» a=>exact d a
 |load e h d=>intro l m a;cases a with|load w a=>rw[e]at w;cases w;exact d a
 |update e h d=>intro l m a;cases a with|update w a=>exact d a
 |loadIfAlive h d=>intro l m a;cases a with|loadIfAlive a=>exact d a
 |point h d=>intro l m a;cases a with|point a=>exact d a
 |alloc h d=>intro l m a;cases a with|alloc a=>exact d a
 |fresh h d=>intro l m a;cases a with|fresh a=>exact d a
 |ask h d=>intro l m a;cases a with|ask a=>exact d a
 |choose n h d=>intro l m a;cases a with|choose B a=>exact d a
 |os h d=>intro l m a;cases a with|os a=>exact d a
 |handled h d=>intro l m a;cases a with|handled a=>exact d a
 |genState e h d=>intro l m a;cases a with|genState w a=>rw[e]at w;cases w;exact d a
 |stack h d=>intro l m a;cases a with|stack a=>exact d a
 |thread h d=>intro l m a;cases a with|thread a=>exact d a
 |newGen h d=>intro l m a;cases a with|newGen a=>exact d a
 |call h k i o=>
  intro l m a;cases a with
  |call f c=>obtain⟨j,u⟩:=i f;cases j;cases u;exact o c
  |callSusp f=>obtain⟨j,_⟩:=i f;cases j
 |callSusp h d=>
  intro l m a;cases a with
  |call f c=>obtain⟨j,_⟩:=d f;cases j
  |callSusp f=>obtain⟨j,u⟩:=d f;cases j;cases u;exact#[rZ,rZ]
 |yield=>intro l m a;cases a;exact#[rZ,rZ]
 |resumeFresh g h q k i o=>
  intro l m a;cases a with
  |resumeFresh b f r c=>rw[g]at b;cases b;obtain⟨j,u⟩:=i f;cases j;cases u;exact o c
  |resumeSuspended b f r c=>rw[g]at b;cases b
  |resumeJustStarted b x c=>exact wC rZ x
  |resumeRunning b c=>rw[g]at b;cases b
  |resumeFinished b c=>rw[g]at b;cases b
 |resumeSuspended g h q k i o=>
  intro l m a;cases a with
  |resumeFresh b f r c=>rw[g]at b;cases b
  |resumeSuspended b f r c=>rw[g]at b;cases b;obtain⟨j,u⟩:=i f;cases j;cases u;exact o c
  |resumeJustStarted b x c=>rw[g]at b;cases b
  |resumeThrowFresh b c=>rw[g]at b;cases b
  |resumeRunning b c=>rw[g]at b;cases b
  |resumeFinished b c=>rw[g]at b;cases b
 |resumeJustStarted g v k d=>
  intro l m a;cases a with
  |resumeFresh b f r c=>exact wC rZ v
  |resumeSuspended b f r c=>rw[g]at b;cases b
  |resumeJustStarted b x c=>exact d c
  |resumeRunning b c=>rw[g]at b;cases b
  |resumeFinished b c=>rw[g]at b;cases b
 |resumeThrowFresh g k d=>
  intro l m a;cases a with
  |resumeSuspended b f r c=>rw[g]at b;cases b
  |resumeThrowFresh b c=>exact d c
  |resumeRunning b c=>rw[g]at b;cases b
  |resumeFinished b c=>rw[g]at b;cases b
 |resumeRunning g k d=>
  intro l m a;cases a with
  |resumeFresh b f r c=>rw[g]at b;cases b
  |resumeSuspended b f r c=>rw[g]at b;cases b
  |resumeJustStarted b x c=>rw[g]at b;cases b
  |resumeThrowFresh b c=>rw[g]at b;cases b
  |resumeRunning b c=>exact d c
  |resumeFinished b c=>rw[g]at b;cases b
 |resumeFinished g k d=>
  intro l m a;cases a with
  |resumeFresh b f r c=>rw[g]at b;cases b
  |resumeSuspended b f r c=>rw[g]at b;cases b
  |resumeJustStarted b x c=>rw[g]at b;cases b
  |resumeThrowFresh b c=>rw[g]at b;cases b
  |resumeRunning b c=>rw[g]at b;cases b
  |resumeFinished b c=>exact d c
 |segRet h k i o=>
  intro l m a;cases a with
  |segRet f c=>obtain⟨j,u⟩:=i f;cases j;cases u;exact o c
  |segSuspOut q f=>obtain⟨j,_⟩:=i f;cases j
  |segSuspGen q f y c=>obtain⟨j,_⟩:=i f;cases j
 |segGen h k i o=>
  intro l m a;cases a with
  |segGen f c=>obtain⟨j,u⟩:=i f;cases j;cases u;exact o c
  |segSuspOut q f=>obtain⟨j,_⟩:=i f;cases j
  |segSuspGen q f y c=>obtain⟨j,_⟩:=i f;cases j
 |segSuspOut q h d=>
  intro l m a;cases a with
  |segRet f c=>obtain⟨j,_⟩:=d f;cases j
  |segGen f c=>obtain⟨j,_⟩:=d f;cases j
  |segSuspOut r f=>obtain⟨j,u⟩:=d f;cases j;cases u;exact#[rZ,rZ]
  |segSuspGen r f y c=>rw[q]at r;cases r
 |segSuspGen q h y k i o=>
  intro l m a;cases a with
  |segRet f c=>obtain⟨j,_⟩:=i f;cases j
  |segGen f c=>obtain⟨j,_⟩:=i f;cases j
  |segSuspOut r f=>rw[q]at r;cases r
  |segSuspGen r f C c=>rw[q]at r;cases r;obtain⟨j,u⟩:=i f;cases j;cases u;exact o c
def Wakes.det{M:Model}{Γ:Ctx}{p:Pos}{g:Nat}{r:Resume}{s:Sh}{i d:GenResult}{j k:Sh}(f:Wakes M Γ p g r s i j)(h:Wakes M Γ p g r s d k):i=d/\j=k:=by
 have l:∀{Γ':Ctx} {m:Pos} {n:Sem Fin} {fs:List Frame} {o:Sh},(∃a b,Runs M Γ' m n fs o a b/\a.quiet=true/\i=a.result/\j=b.setGen g a.genState)->(∃a b,Runs M Γ' m n fs o a b/\a.quiet=true/\d=a.result/\k=b.setGen g a.genState)->i=d/\j=k:=by
  intro _ _ _ _ _ ⟨w,y,a1,_,a3,a4⟩ ⟨z,A,q,_,t,u⟩;obtain⟨z1,z2⟩:=a1.det q;subst z1 z2;exact#[a3.trans t.symm,a4.trans u.symm]
 unfold Wakes at f h;cases e:s.gens[g]? with
 |none=>rw[e]at f;exact f.elim
 | some st=>
  rw[e]at f h;cases st with
  |fresh c=>
   cases r with
   |send v=>cases v<;>first|exact l f h|exact#[f.1.trans h.1.symm,f.2.trans h.2.symm]
   |throw x=>exact#[f.1.trans h.1.symm,f.2.trans h.2.symm]
  |suspended B C D E fs G=>exact l f h
  |running=>exact#[f.1.trans h.1.symm,f.2.trans h.2.symm]
  |finished=>exact#[f.1.trans h.1.symm,f.2.trans h.2.symm]
def Sem.wp_and{w:Type}{M:Model}{Γ:Ctx}{t:Sem w}{Q y:w->Pos->Sh->Prop}{E z:Vl->Pos->Sh->Prop}:∀{p:Pos} {s:Sh},Sem.wp M Γ t Q E p s->Sem.wp M Γ t y z p s->Sem.wp M Γ t (λa p s=>Q a p s/\y a p s) (λe p s=>E e p s/\z e p s) p s:=by
 induction t with
 |pure x=>intro p s i j;exact#[i,j]
 |raise v=>intro p s i j;exact#[i,j]
 |unsupported|finish|yield|fork|await|register=>intro p s i _;exact i
 |rule _ k d|«at» _ k d|alloc _ k d|loadIfAlive _ k d|point _ k d|fresh k d|ask k d|os _ _ k d|handled _ k d|newGen _ k d|stack k d|thread k d=>intro p s i j;exact d _ i j
 |load a _ k d|genState a k d=>
  intro p s ⟨o,h,i⟩ ⟨D,A,j⟩;rw[h]at A;cases A;exact#[o,h,d _ i j]
 |update a _ f k d|choose _ _ k d=>intro p s ⟨h,i⟩ ⟨_,j⟩;exact#[h,d _ i j]
 |call c h g l k d=>
  intro p s ⟨r,m,a,i⟩ ⟨G,C,b,j⟩;obtain⟨n,q⟩:=Runs.det a b;cases n;cases q;exact#[r,m,a,d _ i j]
 |resume g r l k d=>
  intro p s ⟨u,m,a,i⟩ ⟨B,C,b,j⟩;obtain⟨n,q⟩:=a.det b;cases n;cases q;exact#[u,m,a,d _ i j]
def Gu{b:Type}{M:Model}{A:Ar}{t:Sem b}{Q Q2:b->Sh->Prop}{E E2:VP}{s:Sh}(c:wpAny M A t Q E s)(d:wpAny M A t Q2 E2 s):wpAny M A t (λa s=>Q a s/\Q2 a s) (λe s=>E e s/\E2 e s) s:=
 λΓ p i=>Sem.wp_and (c Γ p i) (d Γ p i)
end PySem
namespace L2
open PySem PySem.Spec PyProof.Rows
def td(e:Ad)(a:Option Ad)(h:Heap):Prop:=∃o,h.get? e=some o/\o.dict=a
section
variable{M:Model}{A:Ar}{E:VP}{s:Sh}
def GN{i:Heap}{d:Env}{c:List Env}{L e:Ad}{j:Obj}{p:AV}{head:Vl}{f:Bool}{Q:Unit->Sh->Prop}(q:A.frames=some (d::c))(v:s.heap.FunFrames i (d::c))(G:d.frame=some L)(w:s.heap.get? e=some j) (k:j.data=.fields p) (l:1<p.size)(h:∀(r:Heap) (o:Obj) (x:AV) (T:Ad) (y:Obj) (z:AV),r.get? e=some o->o.dict=j.dict->o.data=.fields x->x[1]?=some (.ref T)->T≠e->r.get? T=some y->y.data=.fields z->3<z.size->Q ⟨⟩ {s with heap:=r}):
  wpAny M A (do let a <-frameOf d;let B <-entryPlaceOf L f;let b <-EntryCells.newEntry head a .none (rawInt L) .none B;setField (.ref e) 1 b) Q E s:=by
 have m:e∉(d::c).filterMap (·.frame):=λH=>by
  obtain⟨_,o,C,t⟩:=v.mem H;rw[w]at C;cases C;exact t p k
 refine gH (wpAny_frameOf_fun q v G λn I=>gH (wpAny_entryPlaceOf λB u=>?_));unfold EntryCells.newEntry newFields;refine gH (pq ?_ (u.sizeOk5 _ _ _ _ _));have g:n.get? e=some j:=(I.2.1 e m).trans w;have D:n.objs.size≠e:=pp (hV g);refine wpAny_setField (ig _ g) k l (h _ _ _ n.objs.size _ _ (rq _ (ig _ g) (Obj.isFreed_of_fields (Obj.data_mapFields k _))) ?_ (Obj.data_mapFields k _) (by simp[l]) D ((Heap.get?_update_other _ _ (Ne.symm D)).trans (Heap.get?_push_size n rZ)) rZ ?_)
 .obtain⟨O,U,J,N⟩:=j;cases k;rfl
 .simp only[List.size_toArray,List.length_append,List.length_cons,List.length_nil];lia
def GO{e T:Ad}{o b:Obj}{c d:AV}{Q:Unit->Sh->Prop}(f:s.heap.get? e=some o)(i:o.data=.fields c)(j:c[1]?=some (.ref T))(k:T≠e)(hT:s.heap.get? T=some b)(a:b.data=.fields d)(l:3<d.size)(h:∀g,td e o.dict g->Q ⟨⟩ {s with heap:=g}):wpAny M A (setFlight (.ref e) none) Q E s:=by
 unfold setFlight;refine gH (qx f i j ?_);rw[wB (show(Value.ref T != Value.none)=true from by simp)];exact wpAny_setField hT a l (h _ #[o,(mM _ _ k).trans f,rZ])
def LK{k:Heap}{d:Env}{a:List Env}{L e:Ad}{p I:Vl}{y:Option Ad}{Q:Unit->Sh->Prop}(r:A.frames=some (d::a))(z:d.frame=some L)(J:Heap.FlyingW k (d::a) e p I s.heap)(f:td e y s.heap)(h:∀(l:Heap) (o:Obj) (m:AV) (T:Ad) (t:Obj) (n:AV),l.get? e=some o->o.dict=y->o.data=.fields m->m[1]?=some (.ref T)->T≠e->l.get? T=some t->t.data=.fields n->3<n.size->Q ⟨⟩ {s with heap:=l}):wpAny M A (noteFrame (.ref e) d) Q E s:=by
 obtain⟨_,_,N,oe,B,T,t,n,u,_,C,D,_,v,hT,g,G⟩:=J;obtain⟨o',H,f⟩:=f;rw[u]at H;cases H;unfold noteFrame;simp only[z];refine gH (qx u C D ?_);rw[wB (show(Value.ref T != Value.none)=true from by simp)];refine gH (qx hT g G ?_);rw[wA (show ¬((Value.none==rawInt L)=true)from by simp[rawInt])];refine gH (wpAny_setField hT g (nj.mp G).1 ?_);have c:∀b,b≠T->(s.heap.update T (Obj.mapFields (·.setIfInBounds 3 Value.none))).get? b=s.heap.get? b:=λb i=>mM _ _ (jd i);have O:∀b o,s.heap.get? b=some o->(∀B,o.data≠ .fields B)->b≠T:=λb o i j q=>by
  rw[q,hT]at i;cases i;exact j n g
 refine GN r (N.of_keeps λb o i j=>#[o,(c b (O b o i j)).trans i,rZ]) z ((c e (jd v)).trans u) C (nj.mp D).1 λl o m U w x Y q2=>h l o m U w x Y (q2.trans f)
def LB{base:Heap}{b:Env}{a:List Env}{L e:Ad}{f:Obj}{j:AV}{a0:Vl}{Q:Unit->Sh->Prop}(g:A.frames=some (b::a))(t:s.heap.FunFrames base (b::a))(k:b.frame=some L)(l:s.heap.get? e=some f) (m:base.StaysIn s.heap) (n:base.get? e=none) (p:f.data=.fields j) (r:j[1]?=some .none) (u:j[0]?=some a0)(h:∀c,Heap.LeftW base (b::a) e f.cls a0 s.heap c->td e f.dict c->Q ⟨⟩ {s with heap:=c}):wpAny M A (leaving b (.ref e)) Q E s:=by
 refine kS (Gu (wpAny_leaving_firstW (Q:=λ_ i=>∃c,i={s with heap:=c}/\Heap.LeftW base (b::a) e f.cls a0 s.heap c) (E:=E) g t k l m n p r u λc q=>#[c,rfl,q]) (Q2:=λ_ i=>td e f.dict i.heap) (E2:=λ_ _=>True) ?_) (λ_ i ⟨⟨c,v,q⟩,d⟩=>by subst v;exact h c q d) λ_ _ z=>z.1;unfold leaving noteFrame;simp only[k];refine gH (gH (qx l p r ?_));rw[wA (by decide)];exact GN g t k l p (nj.mp r).1 λc o J T N O w x y B C D G H=>GO (s:={s with heap:=c}) w y B C D G H λI d=>x▸d
def Nu{c:Heap}{f:Env}{a:List Env}{L e:Ad}{g k:Vl}{l:Option Ad}{Q:Unit->Sh->Prop}(i:A.frames=some (f::a))(n:f.frame=some L)(p:Heap.FlyingW c (f::a) e g k s.heap)(m:td e l s.heap)(h:∀b,Heap.FlyingW c a e g k b->s.heap.UpToSlots b->td e l b->Q ⟨⟩ {s with heap:=b}):wpAny M A (leaving f (.ref e)) Q E s:=by
 refine kS (Gu (wpAny_leaves_onW (Q:=λ_ j=>∃b,j={s with heap:=b}/\Heap.FlyingW c a e g k b/\s.heap.UpToSlots b) (E:=E) i n p λb q u=>#[b,rfl,q,u]) (Q2:=λ_ j=>td e l j.heap) (E2:=λ_ _=>True) ?_) (λ_ j ⟨⟨b,r,q,u⟩,d⟩=>by subst r;exact h b q u d) λ_ _ z=>z.1;unfold leaving;exact gH (LK i n p m λb o H T I J t v w x y B C D=>GO (s:={s with heap:=b}) t w x y B C D λG d=>v▸d)
end
section
variable{P:Pg}{w:World}{H H':Hp}{h h':Heap}{a:Ad}{o:HO}
def ObjOk.has(x:ObjOk P w H h a o):∃b,h.get? a=some b:=by
 induction o with
 |lst d=>obtain⟨_,_,_,_,e⟩:=x;exact#[_,e]
 |tup d=>obtain⟨_,_,_,b,e,_⟩:=x;exact#[b,e]
 |dK c=>obtain⟨_,_,_,_,b,_,_,e,_⟩:=x;exact#[b,e]
 |dT c=>obtain⟨_,_,_,_,b,_,_,e,_⟩:=x;exact#[b,e]
 |set S n=>obtain⟨b,_,_,_,e,_⟩:=x;exact#[b,e]
 |ins C g fs=>obtain⟨_,_,_,e,_⟩:=x;exact#[_,e]
 |own y=>exact x
 |xd fs=>obtain⟨_,⟨b,_,_,e,_⟩,_⟩:=x;exact#[b,e]
 |rng lo i=>obtain⟨_,_,_,e⟩:=x;exact#[_,e]
 |frz b u _=>obtain⟨e,_⟩:=x;exact#[_,e]
 |tbl j=>exact#[_,x]
 |met f y=>exact#[_,x]
 |ext k=>exact x.2.1
def HOk.gone(x:HOk P w H h)(e:h.get? a=none):H a=none:=by
 cases q:H a with
 |none=>rfl
 |some u=>
  obtain⟨b,z⟩:=(x a u q).has;rw[e]at z;cases z
end
structure Fl(h0:Heap)(H:Hp)(h:Heap)(e:Ad)(cls:Vl)(d:Option Ad):Prop where
 ne:h0.get? e=none
 fe:H e=none
 ex:∃oe vs T oT ts a0,h.get? e=some oe/\oe.cls=cls/\oe.dict=d/\oe.data=.fields vs/\vs[0]?=some a0/\vs[1]?=some (.ref T)/\h0.get? T=none/\H T=none/\T≠e/\h.get? T=some oT/\oT.data=.fields ts/\ts[3]?=some .none
def CX1(P:Pg)(w:World):qz:=λa H s E v b=>∃e C d c,v=.ref e/\b.os=s.os/\AllBare b.gens/\Un (iF a) [] H c s.heap b.heap/\HOk P w c b.heap/\Fl s.heap c b.heap e (.ref C) d/\E (.ref C) d c
section
variable{X:Cx}{Z:AO}{f:St}{H a:Hp}{s:Sh}
def Ci(ok:X.Ok):∀b∈iF X.outer,b∈iF X.stack:=λb a=>by
 rcases ok.stk with e|⟨e,c⟩
 .rw[e];exact a
 .rw[e];unfold iF;rw[List.filterMap_cons,c];exact ja _ a
def HY{g i:Heap}{S:As}(I:Inv X Z f H s)(x:X.ex=[])(u:Un (iF X.stack) [] H a s.heap g)(y:HOk X.prog X.w a g)(keep:∀b o,g.get? b=some o->b∉iF X.stack->b∉S->i.get? b=some o) (j:∀b o,g.get? b=some o->b∈iF X.stack->∃sl,i.get? b=some {o with slots:=sl})
  (G:∀b∈S,s.heap.get? b=none/\a b=none):Un (iF X.outer) [] X.H₀ a X.s₀.heap i/\HOk X.prog X.w a i:=by
 have l:∀b:Ad,b∉X.ex:=λb z=>by rw[x]at z;cases z
 have m:∀b:Ad,b∉([]:As):=λb z=>by cases z
 have A:∀b∈iF X.stack,a b=none:=λb d=>by
  obtain⟨_,L,M,_⟩:=I.stack.mem d;exact u.free b L M (I.stkFree b d) (m b)
 have B:∀b o,X.s₀.heap.get? b=some o->b≠X.env.locals:=λb o e=>iW (j4 (hV e) I.ok.above);have p:∀b o,X.s₀.heap.get? b=some o->b∉iF X.outer->b∉iF X.stack:=λb o e n z=>by
  rcases iu.mp (I.stkSub b z)with q|q
  .exact B b o e q
  .exact n q
 have J:∀b o,s.heap.get? b=some o->b∉S:=λb o e z=>by
  have:=(G b z).1;rw[e]at this;cases this
 refine#[#[λb o e n d _=>?_,λb o e n d _=>?_,λb o e n _=>?_,λb o e _=>?_,λb r e=>u.tups b r (I.base.tups b r e),λb o r e=>u.frzs b o r (I.base.frzs b o r e),λb N e=>?_],λb o e=>?_]
 .have h:=I.base.keep b o e n d (l b);have k:=u.keep b o h (I.base.free b o e n (l b)) (p b o e d) (m b);exact keep b o k (p b o e d) (J b o h)
 .obtain⟨sl,h⟩:=I.base.slot b o e n d (l b);obtain⟨O,k⟩:=u.slot b _ h (I.base.free b o e n (l b)) (Ci I.ok b d) (m b);obtain⟨C,D⟩:=j b _ k (Ci I.ok b d);exact#[C,D]
 .obtain⟨t,h⟩:=I.base.there b o e (l b);exact u.free b t h (I.base.free b o e n (l b)) (m b)
 .obtain⟨t,h⟩:=I.base.there b o e (l b);obtain⟨E,k⟩:=u.there b t h (m b);by_cases d:b∈iF X.stack
  .obtain⟨sl,D⟩:=j b E k d;exact#[_,D]
  .exact#[E,keep b E k d (J b t h)]
 .obtain⟨Q,h⟩:=I.base.tbls b N e;obtain⟨T,k⟩:=u.tbls b _ h;exact#[Q++T,by rw[k,Array.append_assoc]]
 .have w:∀c v,a c=some v->c∉iF X.stack/\c∉S:=λc v q=>#[λz=>(by rw[A c z]at q;cases q),λz=>(by rw[(G c z).2]at q;cases q)];refine(y b o e).stay (λc v U q=>?_) (λ_ q=>q) λ_ _ q=>q
  rcases U with z|z
  .rw[z]at q|-;exact keep b v q (w b o e).1 (w b o e).2
  .exact keep c v q (w c _ z).1 (w c _ z).2
def GK:∀{l:List Env},∀a∈l,∀b,a.frame=some b->b∈iF l:=λ{l} a c b d=>AZ.mpr #[a,c,d]
def yo{E:XK}{v:Vl}{c:Sh}(I:Inv X Z f H s)(J:CX1 X.prog X.w X.stack H s E v c):∃e C d a T k,v=.ref e/\c.os=s.os/\AllBare c.gens/\Un (iF X.stack) [] H a s.heap c.heap/\HOk X.prog X.w a c.heap/\E (.ref C) d a/\td e d c.heap/\
  s.heap.get? e=none/\a e=none/\s.heap.get? T=none/\a T=none/\Heap.FlyingW (PySem.W.hideAll c.heap (e::T::iF X.stack)) X.stack e (.ref C) k c.heap:=by
 obtain⟨e,C,d,a,rfl,os,g,u,m,⟨M,N,A,O,T,Q,U,k,B,Y,n,p,h0,h1,nT,fT,t,w,x,h3⟩,hE⟩:=J;refine#[e,C,d,a,T,k,rZ,os,g,u,m,hE,#[A,B,n],M,N,nT,fT,λb o q=>DW _ q,zT _ (.head _),?_,A,O,T,Q,U,B,#[Y,h0],p,h1,zT _ (.tail _ (.head _)),t,w,x,h3];refine PySem.W.funFrames_hide (base:=X.base) ?_ λh i b j=> .tail _ (.tail _ (GK h i b j));have all:∀(l:List Env),(∀b∈iF l,b∈iF X.stack)->s.heap.FunFrames X.base l->c.heap.FunFrames X.base l:=by
  intro l
  induction l with
  |nil=>intro _ _;trivial
  |cons h r ih=>
   intro D hl;obtain⟨hk,⟨L,o,y,hn,ho,p⟩,hr⟩:=hl;have G:L∈iF X.stack:=D L (by unfold iF;rw[List.filterMap_cons,y];exact List.mem_cons_self);obtain⟨sl,e1⟩:=u.slot L o ho (I.stkFree L G) G (by intro z;cases z);exact#[hk,#[L,_,y,hn,e1,p],ih (λb j=>D b (by unfold iF;rw[List.filterMap_cons,y];exact List.mem_cons_of_mem _ j)) hr]
 exact all X.stack (λ_ j=>j) I.stack
end
section
variable{X:Cx}{Z:AO}{c:St}{H a:Hp}{s:Sh}
def L9{M:Model}{E1:VP}{E:XK}{v:Vl}{j:Sh}(I:Inv X Z c H s)(l:X.ex=[])(k:X.stack=X.env::X.outer)(hf:X.env.frame=some X.env.locals)(hx:CX1 X.prog X.w X.stack H s E v j):
  wpAny M X.A (leaving X.env v) (λ_ N=>CX1 X.prog X.w X.outer X.H₀ X.s₀ E v N) E1 j:=by
 obtain⟨e,C,d,a,T,a0,rfl,os,m,u,n,hE,dc,ne,fe,nT,fT,fl⟩:=yo I hx;have t:∀b∈iF X.stack,∃o,j.heap.get? b=some o/\∀O,o.data≠ .fields O:=λb w=>(fl.2.2.1.mem w).2;have x:=fl;rw[k]at x;refine Nu (by rw[I.ok.frames,k]) hf x dc λQ U up Y=>?_;obtain⟨st,_,_,oe,O,f,oT,ts,he,⟨hc,h0⟩,hd,h1,hT,A,B,D,h3⟩:=U;obtain⟨ab,G,aa⟩:=Y;rw[he]at G;cases G;rw[<-k]at st hT;have i:∀b o,j.heap.get? b=some o->b∈iF X.stack->∃sl,Q.get? b=some {o with slots:=sl}:=λb o q w=>by
  obtain⟨L,h,e2⟩:=t b w;rw[q]at h;cases h;exact up b o q e2
 obtain⟨u2,hk⟩:=HY (S:=[e,T]) (g:=j.heap) I l u n (λb o q w hS=>st b o (yP _ q λz=>by
   rcases iu.mp z with y|z
   .exact hS (by rw[y];exact .head _)
   .rcases iu.mp z with y|z
    .exact hS (by rw[y];exact .tail _ (.head _))
    .exact w z)) i λb z=>by
  rcases iu.mp z with y|z
  .rw[y];exact#[ne,fe]
  .rw[h9.mp z];exact#[nT,fT]
 have n0:∀b,s.heap.get? b=none->X.s₀.heap.get? b=none:=λb q=>by
  cases z:X.s₀.heap.get? b with
  |none=>rfl
  |some o=>
   obtain⟨L,h⟩:=I.base.there b o z (by rw[l];intro y;cases y);rw[q]at h;cases h
 have J:s.heap.get? f=none/\a f=none:=by
  by_cases z:f=T
  .rw[z];exact#[nT,fT]
  .have g2:j.heap.get? f=none:=by
    cases q:j.heap.get? f with
    |none=>rfl
    | some o=>
     by_cases y:f∈iF X.stack
     .obtain⟨L,h,e2⟩:=t f y;obtain⟨sl,e3⟩:=i f L h y;rw[B]at e3;cases e3;exact wC D (e2 ts)
     .rw[yP _ q (λr=>by
       rcases iu.mp r with p|r
       .exact A p
       .rcases iu.mp r with p|r
        .exact z p
        .exact y r)]at hT
      cases hT
   refine#[?_,n.gone g2];cases q:s.heap.get? f with
   |none=>rfl
   |some o=>
    obtain⟨L,h⟩:=u.there f o q (by intro y;cases y);rw[g2]at h;cases h
 exact#[e,C,d,a,rZ,os.trans I.os,m,u2,hk,#[n0 e ne,fe,oe,O,f,oT,ts,a0,he,hc,aa,hd,h0,h1,n0 f J.1,J.2,A,B,D,h3],hE]
end
section
variable{P:Pg}{w:World}{K:N2}{mg:SV}{a:Heap}
def wr{N:Ss}{d:Str}{b:Scope}{f:Ad}{e:Vl}{A:Ar}{c:List Env}{s:Sh}{H:Hp}{E:XK}:ti (CX1 P w) (pG (CX1 P w) P w K mg a N d b f e A c s H E) E:=
 λ_ _ _ _ _ _ I g=>L9 I rZ rZ rZ g
def Fun.okX{x c:Str}{st:Stmt}{f:Ad}{m:Fd}{N h:Ss}{k:Nat}{i:Sp}(F:Fun K x c st f m)(S:FnScope N h (gP st))(len:∀e H Q E,i e H Q E->e.length=h.length)(g:∀(d:Vl) (A:Ar) (b:List Env) (s:Sh) (H:Hp) (e:List V) (Q:VK) (E:XK),Room k (A.deeper (envOfC c (gP st) s.heap.objs.size f d))->i e H Q E->
   ∃t,PSs (pG (CX1 P w) P w K mg a N c (gP st) f d A b s H E) (iE st) t/\t {nx:=λ_ n=>Q .non n,rt:=Q} (start N e) H):FnOk P w K mg a (CX1 P w) (k+1) f m h i:=by
 obtain⟨r,u,kV,o,v,y,d,z,p,rfl,lk,j⟩:=F.ex;exact AM lk j S len λA b s H e Q E q l=>g d A b s H e Q E q l
end
abbrev veMro:Vs:=[.type "ValueError",.type "Exception",.type "BaseException",.type "object"]
def ErrC(K:N2)(C:Ad):Prop:=PySem.W.excIn K C veMro "ValueError.__new__"=true
def ErrC.obj{K:N2}{h:Heap}{C:Ad}(X:K.In h)(q:ErrC K C):∃c N e f bs b g sub i a j d k1 k2 k3 k5 k,
  h.get? C=some (excClassObj e f C N bs c b g sub i a j d k1 k2 k3 k5 "ValueError.__new__")/\h.Ns N k/\k "__init__"=none/\OwnTail h veMro c/\K.lookup C=some (excClassObj e f C N bs c b g sub i a j d k1 k2 k3 k5 "ValueError.__new__"):=by
 unfold ErrC PySem.W.excIn at q;split at q
 .rename_i j t sl lk
  split at q
  .rename_i z c d k1 k2 k3 n k5 m o
   simp only[Bool.and_eq_true,beq_iff_eq,Bool.not_eq_true']at q;obtain⟨⟨⟨⟨⟨rfl,rfl⟩,p⟩,u⟩,ok⟩,r⟩:=q;obtain⟨e,bs,v,s,f,w,g,sub,i,a,x⟩:=t;dsimp only at m p ok r;subst m p;have y:sl= #v[d,k1,k2,k3,some (.builtin "ValueError.__new__"),k5]:=by
    obtain⟨l⟩:=sl;simp only at o;rw[o]
   subst y;exact#[c,s,e,f,bs,w,g,sub,i,a,j,d,k1,k2,k3,k5,h.nsMap s,X _ _ lk,.of_isNs (PySem.W.isNs_of_in X ok),PySem.W.nsMap_none_of_in X ok r,PySem.W.tail_of_in X u,lk]
  .cases q
 .cases q
section
variable{X:Cx}
def gone(i:Nat)(D:Ends):Ends:={nx:=λa b=>D.nx (a.set i none) b,rt:=D.rt,bk:=λa b=>D.bk (a.set i none) b,ct:=λa b=>D.ct (a.set i none) b}
end
section
variable{P:Pg}{w:World}{A:Ar}{E:VP}{h:Heap}{g:Array GenState}{d:Drawn}{t:Nat}{os:OsState}{e C:Ad}{o:Obj}{K:N2}
def D0{M:Model}{a:Vl}{b:Str}{r:Option Vl}{Q:Option Vl->Sh->Prop}(X:K.In h)(e:PySem.W.findIn K a b=some r)(c:Q r #[h,g,d,t,os]):wpAny M A (typeLookup a b) Q E #[h,g,d,t,os]:=
 PySem.W.looks_findIn X e _ _ _ _ (λ_ _ z=>z) c
end
def vT(K:N2)(C D:Ad):Prop:=ErrC K D/\∃N b c bs d sub e a f g k1 k2 k3 k5,K.lookup C=some (excClassObj b c C N bs (.ref D::veMro) true d sub e a f g k1 k2 k3 k5 "ValueError.__new__")
structure MkE(K:N2)(C D f:Ad):Prop where
 cls:vT K C D
 init:PySem.W.findIn K (.ref C) "__init__"=some (some (.ref f))
 fn:PySem.W.isFn K (.ref f)=true
 kp:PySem.W.keepIn K (.ref C)=true
def xf{K:N2}{h:Heap}{C D:Ad}(X:K.In h)(q:vT K C D):∃N b c bs d sub e a f g k1 k2 k3 k5,
  h.get? C=some (excClassObj b c C N bs (.ref D::veMro) true d sub e a f g k1 k2 k3 k5 "ValueError.__new__")/\OwnTail h veMro (.ref D::veMro)/\K.lookup C=some (excClassObj b c C N bs (.ref D::veMro) true d sub e a f g k1 k2 k3 k5 "ValueError.__new__"):=by
 obtain⟨up,N,b,c,bs,d,sub,e,a,f,g,k1,k2,k3,k5,lk⟩:=q;obtain⟨_,_,_,_,_,_,_,_,_,_,_,_,_,_,_,_,_,j,k,i,_,_⟩:=up.obj X;exact#[N,b,c,bs,d,sub,e,a,f,g,k1,k2,k3,k5,X _ _ lk,.own j k i .base,lk]
section
variable{P:Pg}{w:World}{A:Ar}{E:VP}{h:Heap}{g:Array GenState}{d:Drawn}{t:Nat}{os:OsState}{C D f:Ad}{K:N2}
def HS{c:Vs}{Q:Fin->Sh->Prop}(X:K.In h)(m:MkE K C D f)(u:c.length<=sizeLine)(v:∀p e,Heap.MadeExcOf h p e (.ref C) c->wpAny (model P w) A (call (.ref f) (.ref e::c)) (λr q=>r=.none/\Q (.done (.ret (.ref e))) q) E #[p,g,d,t,os]):
    wpAny (model P w) A (Builtin.«type.__call__» #[.ref C::c,[]]) Q E #[h,g,d,t,os]:=by
  obtain⟨N,H,I,bs,J,sub,L,y,M,O,k1,k2,k3,k5,i,T,_⟩:=xf X m.cls;have s:veMro.contains (.type "ValueError")=true:=by rfl
  have j:=F.excBase_ValueError
  repeat (first|with_reducible refine uf i ?_|with_reducible refine wpAny_madeBy_exc i ?_|wp_step)
  refine codeAny_call_builtin_code (xY _ j.quiet) (wpAny_check_new_subU j s T i ?_);refine codeAny_exc_new_subU j s j T i ?_ u;show wpAny _ _ _ _ _ _;have k:∀b o,h.get? b=some o->((h.push {cls:= .type "tuple",data:= .seq c.toArray}).push {cls:= .ref C,data:= .fields #v[.ref h.objs.size,.none,.none,.none,.bool false,.none]}).get? b=some o:=λb o z=>ig _ (ig _ z);have l:=k _ _ i;have a:((h.push {cls:= .type "tuple",data:= .seq c.toArray}).push {cls:= .ref C,data:= .fields #v[.ref h.objs.size,.none,.none,.none,.bool false,.none]}).get? (h.objs.size+1)=some
      {cls:= .ref C,data:= .fields #v[.ref h.objs.size,.none,.none,.none,.bool false,.none]}:=by heap_get
  have n:(Value.ref C:: .ref D::veMro).contains (.ref C)=true:=by simp
  unfold isInstance
  repeat (first|with_reducible refine uf a ?_|(with_reducible refine C6 l ?_;rw[n])|wp_step)
  show wpAny _ _ (typeLookup (.ref C) _) _ _ _;refine D0 (X.keeps k) m.init ?_;refine lq (gH ?_);unfold bindSpecial;have ty:=beq_iff_eq.mp m.fn;refine gH ((PySem.W.looks_typeIn (X.keeps k) ty).at ?_);rw[wB (by decide)];refine gK (gH (kS (v _ (h.objs.size+1) #[k,An (vv _),h.objs.size,a,An (gS _),?_]) (λr q B=>?_) λ_ _ x=>x))
  · exact ig _ (Heap.get?_push_at rZ rZ)
  · obtain⟨rfl,G⟩:=B
    wp_walk
    exact G
def JR{a:Vs}{Q:VP}(X:K.In h)(m:MkE K C D f)(i:a.length<=sizeLine)(j:∀b e,Heap.MadeExcOf h b e (.ref C) a->wpAny (model P w) (A.under (.builtin "type.__call__" #[.ref C::a,[]])) (call (.ref f) (.ref e::a)) (λr k=>r=.none/\Q (.ref e) k) E #[b,g,d,t,os]):
  wpAny (model P w) A (call (.ref C) a) Q E #[h,g,d,t,os]:=by
 obtain⟨N,o,p,bs,q,sub,s,l,u,v,k1,k2,k3,k5,c,T,_⟩:=xf X m.cls;have x:=tc_lookup;have y:=tc_bind (.ref C);have hT:(#[h,g,d,t,os]:Sh).TypeIs (.ref C) "type":=#[_,c,rZ];refine pS (xQ ?_);show wpAny _ _ (callAny (.ref C) _) _ _ _
 repeat (any_goals (first|assumption|with_reducible refine uf c ?_|wp_step))
 refine#[rZ,?_];refine codeAny_call_builtin_at (xY _ (by decide+kernel)) entry_typeCall (wpAny_check_type_call_sub c (HS X m i λb e n=>?_));exact j b e n
end
def mY(e C:Ad)(d:Option Ad):Heap->Prop:=λh=>∃a,h.get? e=some {cls:= .ref C,dict:=d,data:= .fields #v[.ref a,.none,.none,.none,.bool false,.none]}
def CW{P:Pg}{w:World}{H:Hp}{h:Heap}{e C:Ad}{d:Option Ad}(x:mY e C d h):ObjOk P w H h e (.ext (mY e C d)):=by
 obtain⟨b,a⟩:=x;exact#[#[b,a],#[_,a],λg i ⟨c,f⟩ k=>#[c,k _ f]]
structure SetE(K:N2)(C:Ad)(a:Str):Prop where
 sa:PySem.W.findIn K (.ref C) "__setattr__"=some (some (.builtin "object.__setattr__"))
 na:PySem.W.findIn K (.ref C) a=some none
section
variable{P:Pg}{w:World}{A:Ar}{E:VP}{h:Heap}{g:Array GenState}{d:Drawn}{t:Nat}{os:OsState}{e C D:Ad}{K:N2}{a:Str}{v:Vl}{f:Ad}
def Jd{M:Model}{nv:Vl}{Q:Unit->Sh->Prop}(X:K.In h)(m:vT K C D)(c:h.get? e=some {cls:= .ref C,data:= .fields #v[.ref f,.none,.none,.none,.bool false,.none]})(i:Q ⟨⟩ #[h,g,d,t,os]):
  wpAny M A (checkBuiltinCall "object.__setattr__" #[[.ref e,nv,v],[]]) Q E #[h,g,d,t,os]:=by
 obtain⟨N,l,n,bs,o,sub,p,j,q,r,k1,k2,k3,k5,k,T,_⟩:=xf X m;have a:(Value.ref C:: .ref D::veMro).contains (.type "object")=true:=by rw[Bi,T.hasType (b:=true) (by rfl),Bool.or_true]
 have s:=yU.args (.ref e) nv v;simp only[checkBuiltinCall,F.store_ValueError.kind,F.store_ValueError.split];refine gH ?_;unfold isInstance
 repeat (first|with_reducible refine uf c ?_|(with_reducible refine C6 k ?_;rw[a])|wp_step)
 exact i
def JL{M:Tok}{Q:Fin->Sh->Prop}(X:K.In h)(m:vT K C D)(Y:SetE K C a)(l:h.get? e=some {cls:= .ref C,data:= .fields #v[.ref f,.none,.none,.none,.bool false,.none]})
  (hq:∀n s,n.get? e=some {cls:= .ref C,dict:=some h.objs.size,data:= .fields #v[.ref f,.none,.none,.none,.bool false,.none]}->n.Ns1 h.objs.size (λy=>if y=a then some v else none)->(∀b o,b≠e->h.get? b=some o->n.get? b=some o)->Q (.done (.ret .none)) #[n,g,d,s,os]):
  wpAny (model P w) A (Builtin.«object.__setattr__» #[[.ref e,.str a M,v],[]]) Q E #[h,g,d,t,os]:=by
 obtain⟨N,nm,qn,bs,sn,sub,ab,aa,dd,k0,k1,k2,k3,k5,hC,T,_⟩:=xf X m;have j:=yU.passes (.ref e);obtain⟨o,p⟩:∃o:Obj,o={cls:= .ref C,data:= .fields #v[.ref f,.none,.none,.none,.bool false,.none]}:=#[_,rZ];rw[<-p]at l;have hc:o.cls=.ref C:=by rw[p]
 have u:o.dict=none:=by rw[p]
 have x:∀c,o.data≠ .cls c:=λc z=>by rw[p]at z;cases z
 unfold Builtin.«object.__setattr__»
 repeat (first|rw[refuse_eq]|(rw[refuseLoop_ref,refuseLoop_ref,j])|(with_reducible refine uf l ?_;rw[hc])|with_reducible refine wpAny_mroOf_exc hC ?_|with_reducible refine D0 X Y.na ?_|wp_step)
 rw[u,wA (by simp[typeHasDict])];split
 .rename_i k
  cases k
 split
 .rename_i c k
  exact wC k (x c)
 .have i:(h.push {cls:= .type "dict",data:= .dict #v[]}).get? e=some o:=ig _ l;have q:e≠h.objs.size:=iW (hV l);refine gH (wpAny_alloc' ?_);refine gH (wpAny_update' i ?_);refine gK ?_;have B:((h.push {cls:= .type "dict",data:= .dict #v[]}).update e λo=>{cls:=o.cls,dict:=some h.objs.size,data:=o.data,slots:=o.slots}).get? h.objs.size=some {cls:= .type "dict",data:= .dict #v[]}:=
   (B9 _ _ _ _ q.symm).trans (Heap.get?_push_at rZ rZ)
  have G:((h.push {cls:= .type "dict",data:= .dict #v[]}).update e λo=>{cls:=o.cls,dict:=some h.objs.size,data:=o.data,slots:=o.slots}).Ns h.objs.size (λ_=>none):=#[_,#v[],_,B,rZ,λe l=>wC l (by simp),λ_=>rfl];show wpAny _ _ (Builtin.ObjectAttr.storeInDict h.objs.size (.str a M) a v) _ _ _;unfold Builtin.ObjectAttr.storeInDict Builtin.ObjectAttr.newKeyGuard;refine gH (gK (gH (wpAny_nsSet1 (Heap.Ns1.of_empty G) λn r O=>?_)));obtain⟨oD,ae,af,H,I,J⟩:=r.count (Within.cons a v Within.nil);refine gH (wpAny_lookBehind H (by rw[I];exact pastItsLine_dict (iP J (by rw[nq,zJ,iv];lia))) ?_)
  wp_walk
  refine hq n _ ?_ r λb ob L U=>(O.2 b (iW (hV U))).trans ((B9 _ _ _ _ L).trans (ig _ U));refine(O.2 e q).trans ((rq _ i ?_).trans ?_)
  .rw[p];rfl
  .rw[p]
def Mn{Q:Unit->Sh->Prop}(X:K.In h)(m:vT K C D)(k:SetE K C a)(j:h.get? e=some {cls:= .ref C,data:= .fields #v[.ref f,.none,.none,.none,.bool false,.none]})
  (l:∀c i,c.get? e=some {cls:= .ref C,dict:=some h.objs.size,data:= .fields #v[.ref f,.none,.none,.none,.bool false,.none]}->c.Ns1 h.objs.size (λy=>if y=a then some v else none)->(∀b o,b≠e->h.get? b=some o->c.get? b=some o)->Q ⟨⟩ #[c,g,d,i,os]):
  wpAny (model P w) A (setAttr (.ref e) a v) Q E #[h,g,d,t,os]:=by
 have r:=yU.slot.bind (.ref e);unfold setAttr callSpecial? specialOf
 repeat (any_goals (first|assumption|with_reducible refine uf j ?_|with_reducible refine D0 X k.sa ?_|wp_step))
 refine yr yU.slot.plain yU.entry (Jd X m j (JL X m k j λc i n p q=>?_))
 repeat (any_goals (first|assumption|wp_step))
 exact l c _ n p q
end
section
variable{X:Cx}{Z:AO}{d:St}{H:Hp}{s:Sh}
def Inv.takeO{a:Ad}{o:HO}(I:Inv X Z d H s)(ok:ObjOk X.prog X.w (gI H a o) s.heap a o)(j:H a=none)(k:X.s₀.heap.get? a=none)(l:a≠X.env.locals)(r:∀x c,X.env.cells.lookup x=some c->c≠a)(t:∀p∈X.pn++Z,p.1≠a):
  Inv X Z d (gI H a o) s:=by
 have f:∀b u,H b=some u->b≠a:=λb u q z=>by rw[z,j]at q;cases q
 have v:∀b o,X.s₀.heap.get? b=some o->b≠a:=λb o q z=>by rw[z,k]at q;cases q
 refine#[I.ok,I.os,I.bare,#[I.base.keep,I.base.slot,λb o q n w=>?_,I.base.there,λb e q=>?_,λb o e q=>?_,λb y q=>?_],I.loc,I.cell,?_,λx c q=>?_,λp g=>?_,λb u q=>?_,I.len]
 .rw[gM (v b _ q)];exact I.base.free b _ q n w
 .rw[gM (f b _ (I.base.tups b e q))];exact I.base.tups b e q
 .rw[gM (f b _ (I.base.frzs b o e q))];exact I.base.frzs b o e q
 .obtain⟨m,h⟩:=I.base.tbls b y q;exact#[m,by rw[gM (f b _ h)];exact h]
 .rw[gM (jd l)];exact I.free
 .rw[gM (r x c q)];exact I.freeC x c q
 .obtain⟨a1,a2,a3⟩:=I.pin p g;exact#[a1,by rw[gM (t p g)];exact a2,a3]
 .by_cases i:b=a
  .subst i;rw[gO]at q;cases q;exact ok
  .rw[gM i]at q;exact(I.hok b u q).stay (λ_ _ _ z=>z) (λc z=>by rw[gM (f c _ z)];exact z) λc e z=>by rw[gM (f c _ z)];exact z
def Inv.newO{a:Ad}{o:HO}{s1:Sh}{j:Hp}(f:Inv X Z d j s1)(g:X.ex=[])(h:s1.heap.get? a=none):X.s₀.heap.get? a=none/\a≠X.env.locals/\(∀x c,X.env.cells.lookup x=some c->c≠a)/\∀p∈X.pn++Z,p.1≠a:=by
 refine#[?_,λz=>?_,λy c q z=>?_,λp k z=>?_]
 .cases z:X.s₀.heap.get? a with
  |none=>rfl
  |some o=>
   obtain⟨l,i⟩:=f.base.there a o z (by rw[g];intro y;cases y);rw[h]at i;cases i
 .obtain⟨m,⟨n,_,_,b,_⟩,_⟩:=f.loc;rw[<-z,h]at b;cases b
 .obtain⟨r,s,e,_⟩:=f.cell y c q;rw[z,h]at e;cases e
 .have:=(f.pin p k).1;rw[z,h]at this;cases this
def Inv.forget{a:Ad}{h:Heap->Prop}(I:Inv X Z d (gI H a (.ext h)) s)(i:H a=none):Inv X Z d H s:=by
 have up:∀b,(gI H a (.ext h)) b=none->H b=none:=λb q=>by
  by_cases f:b=a
  .rw[f];exact i
  .rw[gM f]at q;exact q
 have of:∀b o,(∀j,o≠HO.ext j)->(gI H a (.ext h)) b=some o->H b=some o:=λb o k q=>by
  by_cases f:b=a
  .subst f;rw[gO]at q;cases q;exact wC rZ (k _)
  .rw[gM f]at q;exact q
 refine#[I.ok,I.os,I.bare,#[I.base.keep,I.base.slot,λb o q n l=>up _ (I.base.free b o q n l),I.base.there,λb g q=>of _ _ (λ_ e=>nomatch e) (I.base.tups b g q),λb o g q=>of _ _ (λ_ e=>nomatch e) (I.base.frzs b o g q),λb r q=>?_],
  I.loc,I.cell,up _ I.free,λx c q=>up _ (I.freeC x c q),λp t=>?_,λb u q=>?_,I.len]
 .obtain⟨m,v⟩:=I.base.tbls b r q;exact#[m,of _ _ (λ_ e=>nomatch e) v]
 .obtain⟨a1,a2,a3⟩:=I.pin p t;exact#[a1,up _ a2,a3]
 .have w:b≠a:=λz=>by rw[z,i]at q;cases q
  exact(I.hok b u (by rw[gM w];exact q)).stay (λ_ _ _ z=>z) (λc z=>of _ _ (λ_ e=>nomatch e) z) λc g z=>of _ _ (λ_ e=>nomatch e) z
def IG{H:Hp}{a:Ad}{o:HO}(h:H a=some o):gI H a o=H:=by
 funext b
 by_cases c:b=a
 .rw[c,gO,h]
 .rw[gM c]
end
structure BaseI(K:N2)(D:Ad):Prop where
 ga:PySem.W.specialIn K (.ref D) "__getattribute__"=some (some (.builtin "type.__getattribute__"))
 rd:PySem.W.readsIn K D (.type "type")=true
 fi:PySem.W.findCls K (.ref D) (.type "type") "__init__"=some (.val (.builtin "ValueError.__init__"))
def M6(C:Ad)(t:TA):TE:=λb H Q=>t b H λc a=>∃e y,c=[.ref e,y]/\a e=some (.ext (mY e C none))/\Q .non a
def yk(C:Ad)(a:Str)(f g:TE):TS:=λD c H=>g c H λy h=>f c h λx d=>∃e,x=.ref e/\d e=some (.ext (mY e C none))/\∀b,d b=none->b≠e->D.nx c (gI (gI d b (.xd [(a,y)])) e (.ext (mY e C (some b))))
section
variable{X:Cx}{C D f:Ad}{x a:Str}{n l o i:Expr}{t:TA}{w v:TE}{p j c k:Pos}
def L1{L:Sem Bool}(m:MkE X.K C D f)(b:BaseI X.K D)(Y:Gl X x)(hm:X.mg x=some (.ref D))(ha:PA X [n,l] t)(k:(x==("__debug__":Str))=false:=by decide)
  (v:starEach [n,l] X.env=(false,eval n X.env)::starEach [l] X.env:=by rfl) (w:(backTo c (starEach [l] X.env)).any (·.1)=false:=by rfl)
  (ht:eval (.Call (.Attribute (.Name x p) "__init__" j) [n,l] [] c) X.env=(do
   let M <-eval (.Name x p) X.env
   standAt j.atName
   let(f,first) <-holding [M] (getMethod M "__init__" L)
   callWith c f first (backTo c (starEach [n,l] X.env)) (backToKw c (keywordEach [] X.env))):=by rfl):
  PE X (.Call (.Attribute (.Name x p) "__init__" j) [n,l] [] c) (M6 C t):=by
 intro Z s σ H Q I h;refine PySem.W.methodCall_KW (pl:=L) (uZ I Y hm ?_ k) ht;refine PySem.W.method_cls I.kIn b.ga (PySem.W.cls_value I.kIn b.rd b.fi rZ ?_);have I0:=I.tok (s.toks+1);refine GH (gY (ha c Z _ σ H _ I0 h) λus s1 ⟨vs,H1,A,r,e,y,ev,B,q⟩=>?_) v w;subst ev;obtain⟨v1,E,rfl,r1,r2⟩:=yX r;cases r1;obtain⟨⟨t0,O⟩,_⟩:=A.hok e _ B;obtain⟨N,nm,qn,bs,sn,sub,ab,aa,dd,k0,k1,k2,k3,k5,hC,T,_⟩:=xf A.kIn m.cls;obtain⟨a,g,d,tk,os⟩:=s1;have G:=F.excBase_ValueError;refine pS (yr G.init.plain G.initEntry (wpAny_check_init_subU G T hC O rZ ?_))
 wp_walk
 have J:(a.push {cls:= .type "tuple",data:= .seq #v[E]}).get? e=some {cls:= .ref C,data:= .fields #v[.ref t0,.none,.none,.none,.bool false,.none]}:=ig _ O;have i:((a.push {cls:= .type "tuple",data:= .seq #v[E]}).update e (Obj.mapFields λx=>x.setIfInBounds 0 (.ref a.objs.size))).get? e=some {cls:= .ref C,data:= .fields #v[.ref a.objs.size,.none,.none,.none,.bool false,.none]}:=rq _ J rfl;have U:=A.write (x:=e) (e:=e) (o:= .ext (mY e C none)) (t':=tk) (h':=(a.push {cls:= .type "tuple",data:= .seq #v[E]}).update e (Obj.mapFields λx=>x.setIfInBounds 0 (.ref a.objs.size))) (by rw[B];exact True.intro) (.inl rfl)
  (λb u hb z=>(B9 _ _ _ _ hb).trans (ig _ z)) #[_,i] (CW #[_,i])
 rw[IG B]at U;exact#[.non,H1,U,rZ,q]
def IS(J:X.ex=[])(m:MkE X.K C D f)(O:SetE X.K C a)(Q:PE X o w)(T:PE X i v)(U:swapsWith i (some (.Attribute o a k)) c.line X.env=pure false:=by rfl):PS X (.Assign [.Attribute o a k] i c) (yk C a w v):=by
 intro Z s A H E I h;refine plainObj_wpAny_Assign_Attribute (gY (T Z s A H _ I h) λu Y ⟨y,H1,I1,ry,q⟩=>gY (Q Z Y A H1 _ I1 q) λov s2 ⟨z,B,n,rx,e,ex,L,q2⟩=>?_) U;subst ex;cases rx;obtain⟨⟨t0,M⟩,_⟩:=n.hok e _ L;obtain⟨j,g,d,tk,os⟩:=s2;refine Mn n.kIn m.cls O M λh' p N g2 g3=>?_;have dn:j.get? j.objs.size=none:=An (gS _);have r:B j.objs.size=none:=n.hok.fresh (gS _);have l:j.objs.size≠e:=pp (hV M);obtain⟨n1,n2,n3,n4⟩:=n.newO (o:= .xd []) J dn;have I3:Inv X Z A (gI B e (.ext (mY e C (some j.objs.size)))) #[h',g,d,p,os]:=n.write (x:=e) (e:=e) (o:= .ext (mY e C (some j.objs.size))) (t':=p) (by rw[L];exact True.intro) (.inl rfl) (λb u hb q=>g3 b u hb q) #[_,N] (CW #[t0,N]);have I4:=I3.takeO (a:=j.objs.size) (o:= .xd [(a,y)]) #[_,g2,λf=>?_] (by rw[gM l];exact r) n1 n2 n3 n4
 .refine#[A,_,I4,?_];have e3:gI (gI B e (.ext (mY e C (some j.objs.size)))) j.objs.size (.xd [(a,y)])=gI (gI B j.objs.size (.xd [(a,y)])) e (.ext (mY e C (some j.objs.size))):=by
   funext b
   unfold gI;by_cases t:b=e
   .rw[wB t,wB t,wA (by rw[t];exact jd l)]
   .rw[wA t,wA t]
  rw[e3];exact q2 _ r l
 .show RelO (List.lookup f [(a,y)]) (if f=a then some u else none);by_cases G:f=a
  .rw[wB G,pW,G,xR];exact ry
  .rw[wA G,pW,sk.mpr G];exact True.intro
end
section
variable{X:Cx}{Z:AO}{a:St}{H f:Hp}{s:Sh}
def MM{f:Heap}{S:As}(I:Inv X Z a H s)(k:X.ex=[])(keep:∀b o,s.heap.get? b=some o->b∉iF X.stack->b∉S->f.get? b=some o)(g:∀b o,s.heap.get? b=some o->b∈iF X.stack->∃sl,f.get? b=some {o with slots:=sl})
  (w:∀b∈S,X.s₀.heap.get? b=none/\H b=none):Un (iF X.outer) [] X.H₀ H X.s₀.heap f/\HOk X.prog X.w H f:=by
 have h:∀b:Ad,b∉X.ex:=λb z=>by rw[k]at z;cases z
 have l:∀b∈iF X.stack,H b=none:=λb d=>I.stkFree b d;have m:∀b o,X.s₀.heap.get? b=some o->b≠X.env.locals:=λb o e=>iW (j4 (hV e) I.ok.above);have p:∀b o,X.s₀.heap.get? b=some o->b∉iF X.outer->b∉iF X.stack:=λb o e n z=>by
  rcases iu.mp (I.stkSub b z)with q|q
  .exact m b o e q
  .exact n q
 have x:∀b o,X.s₀.heap.get? b=some o->b∉S:=λb o e z=>by
  have:=(w b z).1;rw[e]at this;cases this
 refine#[#[λb o e n d _=>?_,λb o e n d _=>?_,λb o e n _=>I.base.free b o e n (h b),λb o e _=>?_,I.base.tups,I.base.frzs,I.base.tbls],λb o e=>?_]
 .exact keep b o (I.base.keep b o e n d (h b)) (p b o e d) (x b o e)
 .obtain⟨sl,i⟩:=I.base.slot b o e n d (h b);obtain⟨r,t⟩:=g b _ i (Ci I.ok b d);exact#[r,t]
 .obtain⟨u,i⟩:=I.base.there b o e (h b);by_cases d:b∈iF X.stack
  .obtain⟨sl,t⟩:=g b u i d;exact#[_,t]
  .exact#[u,keep b u i d (x b o e)]
 .have j:∀c v,H c=some v->c∉iF X.stack/\c∉S:=λc v q=>#[λz=>(by rw[l c z]at q;cases q),λz=>(by rw[(w c z).2]at q;cases q)];refine(I.hok b o e).stay (λc v y q=>?_) (λ_ q=>q) λ_ _ q=>q
  rcases y with z|z
  .rw[z]at q|-;exact keep b v q (j b o e).1 (j b o e).2
  .exact keep c v q (j c _ z).1 (j c _ z).2
def Kt{M:Model}{E1:VP}{E:XK}{e C:Ad}{d:Option Ad}(I:Inv X Z a (gI H e (.ext (mY e C d))) s)(x:H e=none)(U:X.s₀.heap.get? e=none)(h:X.ex=[])(i:X.stack=X.env::X.outer)(hf:X.env.frame=some X.env.locals)(hE:E (.ref C) d H):wpAny M X.A (leaving X.env (.ref e)) (λ_ A=>CX1 X.prog X.w X.outer X.H₀ X.s₀ E (.ref e) A) E1 s:=by
 obtain⟨⟨t0,he⟩,_⟩:=I.hok e _ gO;have B:=I.forget x;have j:=B.stack;have aa:e∉iF X.stack:=λz=>by
  have:=I.stkFree e z;rw[gO]at this;cases this
 have k:∀b∈iF X.stack,∃o,s.heap.get? b=some o/\∀D,o.data≠ .fields D:=λb f=>(j.mem f).2;refine LB (base:=PySem.W.hideAll s.heap (e::iF X.stack)) (a0:= .ref t0) (by rw[I.ok.frames,i]) (by rw[<-i];exact PySem.W.funFrames_hide j λG l b f=> .tail _ (GK G l b f)) hf he (λb o q=>DW _ q) (zT _ (.head _)) rZ rZ rZ λJ hL dc=>?_;obtain⟨st,_,⟨oe,D,T,oT,Y,m,⟨hc,h0⟩,hd,h1,hT,n,t,v,h3⟩,up⟩:=hL;obtain⟨ab,w,L⟩:=dc;rw[m]at w;cases w;have c:∀b o,s.heap.get? b=some o->b∈iF X.stack->∃sl,J.get? b=some {o with slots:=sl}:=λb o q f=>by
  obtain⟨N,g,O⟩:=k b f;rw[q]at g;cases g;exact up b o q O
 obtain⟨u,hk⟩:=MM (S:=[e]) B h (λb o q f hS=>st b o (yP _ q λz=>by
   rcases iu.mp z with y|z
   .exact hS (by rw[y];exact .head _)
   .exact f z)) c λb z=>by rw[h9.mp z];exact#[U,x]
 have gT:s.heap.get? T=none:=by
  cases q:s.heap.get? T with
  |none=>rfl
  | some o=>
   by_cases y:T∈iF X.stack
   .obtain⟨N,g,O⟩:=k T y;obtain⟨sl,e3⟩:=c T N g y;rw[t]at e3;cases e3;exact wC v (O Y)
   .rw[yP _ q (λr=>by
     rcases iu.mp r with p|r
     .exact n p
     .exact y r)]at hT
    cases hT
 have Q:X.s₀.heap.get? T=none:=by
  cases z:X.s₀.heap.get? T with
  |none=>rfl
  |some o=>
   obtain⟨N,g⟩:=I.base.there T o z (by rw[h];intro y;cases y);rw[gT]at g;cases g
 exact#[e,C,d,H,rZ,I.os,I.bare,u,hk,#[U,x,oe,D,T,oT,Y,_,m,hc,L,hd,h0,h1,Q,B.hok.gone gT,n,t,v,h3],hE]
end
def Cb(X:Cx)(E:XK):Prop:=∀(Z:AO) (a:St) (H:Hp) (s:Sh) (e C:Ad) (d:Option Ad),Inv X Z a (gI H e (.ext (mY e C d))) s->H e=none->X.s₀.heap.get? e=none->E (.ref C) d H->X.xe (.ref e) s
def Kd{P:Pg}{w:World}{K:N2}{mg:SV}{c:Heap}{N:Ss}{d:Str}{a:Scope}{f:Ad}{e:Vl}{A:Ar}{b:List Env}{s:Sh}{H:Hp}{E:XK}:Cb (pG (CX1 P w) P w K mg c N d a f e A b s H E) E:=
 λ_ _ _ _ _ _ _ I g h i=>Kt I g h rZ rZ rZ i
section
variable{M:Model}{A:Ar}{E:VP}{s:Sh}{a:Env}{K:N2}{C D:Ad}
def LW{x:Sem Vl}{Q:Flow->Sh->Prop}(m:vT K C D)(k:A.handled=none)(h:wpAny M A x (λv c=>∃e d,v=.ref e/\K.In c.heap/\mY e C d c.heap/\E (.ref e) c) E s):wpAny M A (raiseStmt a (some x) none) Q E s:=by
 unfold raiseStmt;refine gH (kS h (λv c f=>?_) λ_ _ x=>x);obtain⟨e,d,rfl,X,⟨p,l⟩,n⟩:=f;obtain⟨N,q,r,bs,t,sub,u,o,w,y,k1,k2,k3,k5,j,T,_⟩:=xf X m;have i:(Value.ref C:: .ref D::veMro).contains (.type "BaseException")=true:=by rw[Bi,T.hasType (b:=true) (by rfl),Bool.or_true]
 obtain⟨z,g,B,G,os⟩:=c
 repeat (first|with_reducible refine uf l ?_|with_reducible refine uf j ?_|(with_reducible refine C6 j ?_;rw[i])|wp_step)
 exact xZ k n
end
def FM(C:Ad)(f:Sp)(E:XK)(t:TA):TS:=λ_ g H=>t g H λb c=>b.length<=sizeLine/\∀e,c e=none->f (.ref e::b) (gI c e (.ext (mY e C none))) (λv h=>v=.non/\∃d a,h=gI a e (.ext (mY e C d))/\a e=none/\E (.ref C) d a) E0
section
variable{X:Cx}{k:Nat}{C D f:Ad}{j:Fd}{i:Ss}{l:Sp}{E:XK}{x:Str}{p n a:Pos}{e:Expr}{b:List Expr}{t:TA}
def Mj(hc:X.calm=true)(L:X.ex=[])(th:Cb X E)(m:MkE X.K C D f)(F:FnOk X.prog X.w X.K X.mg X.base im k f j i l)(hr:Room (k+1) X.A)(hb:Binds X.K j i [])(hg:Gl X x)(hm:X.mg x=some (.ref C))(ha:PA X (e::b) t)(M:(x==("__debug__":Str))=false:=by decide) (he:starEach (e::b) X.env=(false,eval e X.env)::starEach b X.env:=by rfl) (N:(backTo a (starEach b X.env)).any (·.1)=false:=by rfl):
  PS X (.Raise (some (.Call (.Name x p) (e::b) [] a)) none n) (FM C l E t):=by
 intro Z s O H D' I h;rw[arm_exec_Raise];refine gH (ww (LW m.cls (I.ok.hd hc) (gH (kS (q0 (uZ I hg hm ?_ M)) (λv s3 Q=>gH (ww (gK Q))) λ_ _ x=>x))));refine zB (h₀:=X.base) I.ok.mod.kin m.kp (gY (ha a Z s O H _ I h) λy s1 ⟨vs,H1,A,r,z,q⟩=>#[A.kIn,?_]) he N;obtain⟨hp,g,d,T,os⟩:=s1;refine JR A.kIn m (by rw[Cd,<-r.length];exact z) λh' c J=>?_;obtain⟨t0,B,_,_⟩:=J.there;have hn:H1 c=none:=A.hok.gone J.new;obtain⟨n1,n2,n3,n4⟩:=A.newO (o:= .xd []) L J.new;have U:Inv X Z O (gI H1 c (.ext (mY c C none))) #[h',g,d,T,os]:=(A.kept (t':=T) J.keeps).takeO (CW #[t0,B]) hn n1 n2 n3 n4;have hq:=q c hn;have r2:Vals (V.ref c::vs) (Value.ref c::y):= .cons rZ r;have hl:(Value.ref c::y++([]:Vs)).length=i.length:=by
  have e:=r2.length;rw[F.len _ _ _ _ hq]at e;rw[mW];exact e.symm
 have G:=hb #[h',g,d,T,os] (Value.ref c::y) U.kIn hl;rw[mW]at G;refine pS (nG (F.run _ X.stack _ _ #[Value.ref c::y,[]] (Value.ref c::y) _ _ E0 (hr.make C y []) (U.env0.make C y []) G r2 hq) λr s' w=>?_);cases r with
 |error e=>exact w.elim
 | ok fl=>
  cases fl with
  |ret u=>
   obtain⟨v,H',Y,rv,ev,d',H3,eH,Q,hE⟩:=U.after w;subst ev eH;exact#[rv,c,d',rZ,Y.kIn,(Y.hok c _ gO).1,th Z O H3 s' c C d' Y Q n1 hE]
  |next=>exact wE w
  |brk=>exact wE w
  |cont=>exact wE w
def Cf(P:Pg)(w:World)(K:N2)(mg:SV)(base:Heap)(x:Str)(k:Nat)(i:Ss)(l:Sp)(C:Ad):Prop:=∃D f j,MkE K C D f/\FnOk P w K mg base im k f j i l/\Binds K j i []/\mg x=some (.ref C)
def IB(o:X.calm=true)(d:X.ex=[])(q:Cb X E)(c:Cf X.prog X.w X.K X.mg X.base x k i l C)(r:Room (k+1) X.A)(s:Gl X x)(u:PA X (e::b) t)(g:(x==("__debug__":Str))=false:=by decide) (v:starEach (e::b) X.env=(false,eval e X.env)::starEach b X.env:=by rfl) (h:(backTo a (starEach b X.env)).any (·.1)=false:=by rfl):
  PS X (.Raise (some (.Call (.Name x p) (e::b) [] a)) none n) (FM C l E t):=by
 obtain⟨D,f,j,m,F,w,y⟩:=c;exact Mj o d q m F r w s y u g v h
end
def xN(op:CmpOp)(A:Ar)(s:Sh)(x y:Vl)(r:Bool):Prop:=
 ∀(P:Pg) (w:World) (E:VP) (Q:VP),Q (.bool r) s->wpAny (model P w) A (richCompare op x y) Q E s
inductive Cmp (op:CmpOp) (A:Ar) (s:Sh):List (Vl×Vl)->Option Bool->Prop where
 |nil:Cmp op A s [] none
 |eq {x y zs o}:SeqAt.EqAt A s x y true->Cmp op A s zs o->Cmp op A s ((x,y)::zs) o
 |ne {x y zs r}:SeqAt.EqAt A s x y false->xN op A s x y r->Cmp op A s ((x,y)::zs) (some r)
def SeqObj(c:String)(h:Heap)(a:Ad)(b:Vs):Prop:=∃n d sl,h.get? a=some #[.type c,d,.seq b.toArray n,sl]
section
variable{P:Pg}{w:World}{A:Ar}{E:VP}{s:Sh}{a:CmpOp}
def Ms{i:Type}{f:Vl×Vl->i->Sem (ForInStep i)}{d:i}{Q:i->Sh->Prop}{j:List (Vl×Vl)}{o:Option Bool}(h:Cmp a A s j o)(k:∀x y Q,SeqAt.EqAt A s x y true->Q (.yield d) s->wpAny (model P w) A (f (x,y) d) Q E s)(l:∀x y r,SeqAt.EqAt A s x y false->xN a A s x y r->o=some r->wpAny (model P w) A (f (x,y) d) (λt g=>match t with|.yield _=>False|.done b=>Q b g) E s)(fin:o=none->Q d s):wpAny (model P w) A (forIn j d f) Q E s:=by
 refine wpAny_forIn_list f (λrest b g=>b=d/\g=s/\Cmp a A s rest o) Q (λz rest b g q=>?_) (λb g q=>?_) j d #[rZ,rZ,h]
 .obtain⟨rfl,rfl,c⟩:=q;cases c with
  |eq e c=>exact k _ _ _ e #[rZ,rZ,c]
  |ne e c=>
   refine kS (l _ _ _ e c rZ) (λt m z=>?_) λ_ _ z=>z;cases t with
   |yield _=>exact z.elim
   |done _=>exact z
 .obtain⟨rfl,rfl,c⟩:=q;cases c;exact fin rfl
end
section
open AutoSeq1
open MeetsSeq MeetsSeq2 MeetsSeq3 SeqRoads2 SeqAt
variable{l b:Ad}{a d:Vs}
def IX:Meets (Builtin.«tuple.__lt__» #[[.ref l,.ref b],[]]) (λA R s=>SeqObj "tuple" s.heap l a/\SeqObj "tuple" s.heap b d/\∃o,Cmp .Lt A.in1 s (a.zip d) o/\R (.ok (.ret (.bool (o.getD (decide (a.length<d.length)))))) s):=by
 refine .of_wp λP w A R ⟨h,p,t,k,os⟩ ⟨⟨n,u,sl,f⟩,⟨m,v,B,i⟩,o,c,q⟩=>?_;have sub:=AutoSeq1.sub_tuple_tuple
 wp_walk using BC f,BC i
 refine Ms c (λx y Q e z=>?_) (λx y r e j z=>?_) (λz=>?_)
 .refine gH (e P w _ _ ?_)
  wp_walk
  exact z
 .refine gH (e P w _ _ ?_);generalize g:richCompare .Lt x y=ask
  wp_walk
  subst g;refine j P w _ _ ?_
  wp_walk
  subst z;exact#[_,rZ,q]
 .subst z
  wp_walk
  exact#[_,rZ,by simpa[Builtin.Tuple.tupleCompareSizes]using q]
end
def ni:f'->List Nat->Option Bool
 |a::c,b::d=>if a=b then ni c d else some (decide (a<b))
 |_,_=>none
def ki(a b:f'):Bool:=(ni a b).getD (decide (a.length<b.length))
def ze(b:f'):ki b b=false:=by
 have c:ni b b=none:=by
  induction b with
  |nil=>rfl
  |cons a b d=>rw[ni,wB rZ,d]
 unfold ki;rw[c];simp
section
variable{A:Ar}{s:Sh}{l b:Ad}{a d:Vs}{o:Option Bool}
def NP{i j:Int}{t u:Tok}:xN .Lt A s (.int i t) (.int j u) (decide (i<j)):=λP w E Q q=>show wpAny _ _ (compareOp .Lt _ _) _ _ _ from PyProof.Rows.lt_int q
def lT{i j:Int}{t u:Tok}:SeqAt.EqAt A s (.int i t) (.int j u) (decide (i=j)):=by
 have z:=A2 (A:=A) (s:=s) (y:= .int i) (x:= .int j) (u:= .int i t) (v:= .int j u) #[t,rZ] #[u,rZ] rZ rfl;have e:pK (.int i) (.int j)=decide (i=j):=by
  show(i==j)=_;by_cases h:i=j<;>simp[h]
 rwa[e]at z
theorem GC{op:CmpOp}{F:Bool->Bool}(f:∀(i j:Nat) (t u:Tok),i≠j->xN op A s (.int (i:Int) t) (.int (j:Int) u) (F (decide (i<j)))):
  ∀{c b:f'} {a d:Vs},Vals (c.map nv) a->Vals (b.map nv) d->Cmp op A s (a.zip d) ((ni c b).map F)
 | [],b,_,_,.nil,_=>by rw[List.zip_nil_left,show ni [] b=none by cases b<;>rfl];exact .nil
 |n::c,[],_,_,.cons _ _,.nil=>by rw[List.zip_nil_right];exact .nil
 | n::c,m::b,_,_,.cons ⟨t,g⟩ h,.cons ⟨u,k⟩ l=>by
  subst g k;have z:=lT (A:=A) (s:=s) (i:=(n:Int)) (j:=(m:Int)) (t:=t) (u:=u);by_cases e:n=m
  .rw[iG ()]at z;rw[ni,wB e];exact .eq z (GC f h l)
  .rw[jy ()]at z;rw[ni,wA e];exact .ne z (f n m t u e)
def NF{c f:f'}(g:Vals (c.map nv) a)(h:Vals (f.map nv) d):Cmp .Lt A s (a.zip d) (ni c f):=by
 have z:=GC (A:=A) (s:=s) (op:= .Lt) (F:=λb=>b) (λi j t u _=>by
  have e:decide ((i:Int)<(j:Int))=decide (i<j):=by simp
  exact e▸NP) g h
 rwa[Option.map_id']at z
def K4(h:s.heap.IsTuple l a.toArray):SeqObj "tuple" s.heap l a:=by
 obtain⟨⟨c,b,g,sl⟩,e,d,n,f⟩:=h;cases d;cases f;exact#[n,b,sl,e]
def SeqObj.ty{c:String}(h:SeqObj c s.heap l a):s.TypeIs (.ref l) c:=let⟨_,_,_,e⟩:=h;#[_,e,rZ]
def Mi(e:SeqObj "tuple" s.heap l a)(f:SeqObj "tuple" s.heap b d)(g:A.units<cLine)(c:Cmp .Lt A.in1 s (a.zip d) o):xN .Lt A s (.ref l) (.ref b) (o.getD (decide (a.length<d.length))):=λP w E Q q=>
 richCompare_meets_room (op:= .Lt) e.ty f.ty F.slot_tuple_lt F.entry_tuple_lt (F.args_tuple_lt_2 _ _) IX #[e,f,o,c,(λz=>nomatch z),q] g
end
section
variable{X:Cx}
def yj(i:Int)(a:f')(j:Int)(b:f'):Bool:=if i=j then ki a b else decide (i<j)
end
def gQ(m:Nat):f':=(List.range 5).filter λi=>m.testBit i
def kr(led:Bool)(a:f'):SetTable:={mask:=if a.length=5 then 31 else 7,place:=a.toArray,dummies:= #v[],finger:=0,led,moves:=if a.length=5 then 1 else 0,plain:=true}
def pI(a:f')(k:Nat):Nat:=(a.filter (· <k)).length
def oX(a:Bool)(m k:Nat):SetTable:={kr a (gQ m)with place:=(gQ (m |||2 ^ k)).toArray}
def x8:∀(a:Bool) (m:Fin 32),(kr a (gQ m)).fits (gQ m).length=true:=by decide+kernel
def Ih:∀(a:Bool) (m:Fin 32) (k:Fin 5),(m:Nat).testBit k=false->(kr a (gQ m)).freeSlot ((k:Nat):Int)=some ((k:Nat),false):=by decide+kernel
def Ik:∀(a:Bool) (m:Fin 32) (k:Fin 5),(m:Nat).testBit k=false->(kr a (gQ m)).put k=(oX a m k,pI (gQ m) k)/\(oX a m k).fits ((gQ m).length+1)=true:=by decide+kernel
def JY:∀(m:Fin 32) (k:Fin 5),(m:Nat).testBit k=false->gQ (m |||2 ^ (k:Nat))=(gQ m).take (pI (gQ m) k)++(k:Nat)::(gQ m).drop (pI (gQ m) k):=by decide+kernel
def Kz:∀(m:Fin 32) (k:Fin 5),(k:Nat)∈gQ m->(m |||2 ^ (k:Nat):Nat)=m:=by decide+kernel
def IL:∀(m:Fin 32) (k:Fin 5),(k:Nat)∉gQ m->(m:Nat).testBit k=false:=by decide+kernel
def GZ:∀(m:Fin 32) (k:Fin 5),(m |||2 ^ (k:Nat):Nat)<32:=by decide+kernel
def zf:∀m:Fin 32,(gQ m).length<=5:=by decide+kernel
def HM:∀(a:Bool) (m:Fin 32) (k:Fin 5),(m:Nat).testBit k=false->(gQ m).length≠4->oX a m k=kr a (gQ (m |||2 ^ (k:Nat)))/\(oX a m k).tooFull=false:=by decide+kernel
def MQ:∀(a:Bool) (m:Fin 32) (k:Fin 5),(m:Nat).testBit k=false->(gQ m).length=4->(oX a m k).tooFull=true/\
  (oX a m k).relaid #v[0,1,2,3,4] (SetTable.grown 5)=some (kr a (gQ (m |||2 ^ (k:Nat))),#v[0,1,2,3,4])/\gQ (m |||2 ^ (k:Nat))=[0,1,2,3,4]/\(kr a (gQ (m |||2 ^ (k:Nat)))).fits 5=true:=by decide+kernel
def BI:∀k:Fin 5,hashInt ((k:Nat):Int)=((k:Nat):Int):=by decide+kernel
def Ents:f'->List (Int×Vl)->Prop:=Paired λn e=>e.1=(n:Int)/\∃t,e.2=.int (n:Int) t
def mU(a:List (Int×Vl))(b:Nat)(t:SetTable):Obj:={cls:= .type "set",data:= .set a.toArray b t}
def IsSet5(h:Heap)(a:Ad)(b:Bool)(m:Nat):Prop:=m<32/\∃c d,h.get? a=some (mU c d (kr b (gQ m)))/\Ents (gQ m) c
theorem Ents.take:∀{a:f'} {b:List (Int×Vl)} (p:Nat),Ents a b->Ents (a.take p) (b.take p)
 |_,_,0,_=> .nil
 |_,_,_+1,.nil=> .nil
 |_,_,p+1,.cons r t=> .cons r (Ents.take p t)
theorem Ents.drop:∀{a:f'} {b:List (Int×Vl)} (p:Nat),Ents a b->Ents (a.drop p) (b.drop p)
 |_,_,0,r=>r
 |_,_,_+1,.nil=> .nil
 |_,_,p+1,.cons _ t=>Ents.drop p t
theorem Ents.app:∀{a b:f'} {c fs:List (Int×Vl)},Ents a c->Ents b fs->Ents (a++b) (c++fs)
 |_,_,_,_,.nil,r=>r
 |_,_,_,_,.cons q t,r=> .cons q (Ents.app t r)
def Ents.len{a:f'}{b:List (Int×Vl)}(h:Ents a b):b.length=a.length:=(rh h).symm
theorem Ents.keys:∀{a:f'} {b:List (Int×Vl)},Ents a b->b.map (·.1)=a.map λ(n:Nat)=>(n:Int)
 |_,_,.nil=>rfl
 |_,_,.cons q t=>by rw[kz,kz,q.1,Ents.keys t]
theorem Ents.mem:∀{a:f'} {b:List (Int×Vl)} {e:Int×Vl},Ents a b->e∈b->∃n∈a,e.1=(n:Int)/\∃t,e.2=.int (n:Int) t
 | _,_,_,.cons q t,h=>by
  rcases iu.mp h with z|z
  .subst z;exact#[_,iO,q]
  .obtain⟨n,c,d⟩:=Ents.mem t z;exact#[n,ja _ c,d]
theorem Ents.has:∀{a:f'} {b:List (Int×Vl)} {n:Nat},Ents a b->n∈a->∃e∈b,∃t,e.2=.int (n:Int) t
 | _,_,_,.cons q t,h=>by
  rcases iu.mp h with z|z
  .subst z;exact#[_,iO,q.2]
  .obtain⟨e,c,d⟩:=Ents.has t z;exact#[e,ja _ c,d]
def Ents.elems{P:Pg}{w:World}{m:Fin 32}{b:List (Int×Vl)}(h:Ents (gQ m) b):ElemsOf (intKind P w) b:=λe d=>by
 obtain⟨n,f,g,t,c⟩:=h.mem d;have a:n<5:=lY.mp (ji.mp f).1;exact#[#[(n:Int),by rw[c];exact pO _ _ _ _,by rw[g];exact(BI #[n,a]).symm],by rw[c];rfl]
def zR{b:Type}(a:List b)(p:Nat)(x:b):(SetTable.insertAt a.toArray p x)=(a.take p++x::a.drop p).toArray:=by
 unfold SetTable.insertAt;apply Array.ext';simp;exact Ac (by simp)
section
variable{P:Pg}{w:World}{A:Ar}{E:VP}{s:Sh}{a:Ad}{b:Bool}{m k:Nat}{t:Tok}
def zp{h:Heap}{c fs:List (Int×Vl)}{b:Nat}{t u:SetTable}(e:h.get? a=some (mU c b t)):(h.update a (Obj.putSet fs.toArray u)).get? a=some (mU fs (b+1) u):=rq _ e rfl
def yA{b:Type}{fs:List b}{n:Nat}(h:fs.length=n+1):∃a r,fs=a::r/\r.length=n:=by
 cases fs with
 |nil=>cases h
 |cons a r=>exact#[a,r,rZ,Nat.succ.inj h]
def yM{a:Type}{fs:List a}(h:fs.length=5):(#v[0,1,2,3,4]:Array Nat).filterMap (fs.toArray[·]?)=fs.toArray:=by
 obtain⟨_,_,rfl,b⟩:=yA h;obtain⟨_,_,rfl,c⟩:=yA b;obtain⟨_,_,rfl,d⟩:=yA c;obtain⟨_,_,rfl,e⟩:=yA d;obtain⟨_,_,rfl,f⟩:=yA e;cases rD.mp f;rfl
def KE{Q:Sh->Prop}(l:k<5)(hS:IsSet5 s.heap a b m)(q:∀G,IsSet5 G a b (m |||2 ^ k)->Heap.SameBut a s.heap G->Q {s with heap:=G}):
  wpAny (model P w) A (setAddHashed a (.int (k:Int) t) (k:Int)) (λ_ s'=>Q s') E s:=by
 obtain⟨f,c,H,e,r⟩:=hS;have I:=r.len;have J:=x8 b #[m,f];have Y:ElemsOf (intKind P w) c.toArray.toList:=Ents.elems (m:=#[m,f]) r;have m5:(gQ m).length<=5:=zf #[m,f];have p:(kr b (gQ m)).fits c.toArray.size=true:=by rw[iK,I];exact J
 have sc:byScan (.int (k:Int) t) c.toArray=true:=by
  unfold byScan;have e3:c.toArray.all (·.2.scannable)=true:=by
   rw[EC];exact λx L=>(Y x (by simpa using L)).2
  rw[e3];have e4:decide (c.toArray.size<scanBound)=true:=iG (by rw[iK,I];unfold scanBound;lia);rw[e4];rfl
 have hh:(intKind P w).hash (k:Int)=(k:Int):=BI #[k,l];unfold setAddHashed setAddHashedIn;refine lq (gH (oE e rZ p ?_));dsimp only;rw[sc,wB rZ];unfold setAddByScan;refine gH (gH (qu (gH ?_)));have scan:∀{R:ScanMet->Sh->Prop},R (match c.toArray.toList.findIdx? (λe=>(intKind P w).is (k:Int) e.2)with|some j=> .found (0+j)|none=> .absent) s->wpAny (model P w) A (setScan a (.int (k:Int) t) (k:Int) true c.toArray) R E s:=λz=>by
  have y:=wpAny_setScan_of (prog:=P) (w:=w) (A:=A) (E:=E) (knd:=intKind P w) (k:=(k:Int)) (x:= .int (k:Int) t) (adding:=true) (pO _ _ _ _) e rZ p Y z;rw[hh]at y;exact y
 refine scan ?_;rw[tz];by_cases o:k∈gQ m
 .obtain⟨x,L,tx,ex⟩:=r.has o;cases M:c.findIdx? λe=>(intKind P w).is (k:Int) e.2 with
  |none=>
   have z:=List.findIdx?_eq_none_iff.mp M x L;rw[ex,pO]at z;cases z
  |some j=>
   refine gK (gK ?_);have z:=q s.heap (by rw[Kz #[m,f] #[k,l] o];exact#[f,c,H,e,r]) (Heap.SameBut.refl a s.heap);cases s;exact z
 .have B:=IL #[m,f] #[k,l] o;cases M:c.findIdx? λe=>(intKind P w).is (k:Int) e.2 with
  |some j=>
   obtain⟨hj,C,_⟩:=Gq.mp M;obtain⟨n,hn,_,tn,N⟩:=r.mem (oU hj);rw[N]at C;have z:(k:Int)=(n:Int):=(intKind P w).inj _ _ _ C (pO _ _ _ tn);have z':k=n:=by lia
   exact wC (z'▸hn) o
  | none=>
   obtain⟨pu,pf⟩:=Ik b #[m,f] #[k,l] B;have sa:=JY #[m,f] #[k,l] B;have d:=GZ #[m,f] #[k,l];dsimp only at pu pf sa d;have g:Ents (gQ (m |||2 ^ k)) (c.take (pI (gQ m) k)++((k:Int),Value.int (k:Int) t)::c.drop (pI (gQ m) k)):=by
    rw[sa];exact(r.take _).app (.cons #[rZ,t,rZ] (r.drop _))
   have pQ:layNew (kr b (gQ m)) c.toArray (k:Int) (.int (k:Int) t)=((c.take (pI (gQ m) k)++((k:Int),Value.int (k:Int) t)::c.drop (pI (gQ m) k)).toArray,oX b m k,false,false):=by
    unfold layNew;rw[Ih b #[m,f] #[k,l] B];dsimp only;rw[pu];dsimp only;rw[zR];have sz:(c.take (pI (gQ m) k)++((k:Int),Value.int (k:Int) t)::c.drop (pI (gQ m) k)).toArray.size=(gQ m).length+1:=by
     rw[iK,jc,nq,lZ,wV,I];lia
    rw[sz];unfold SetTable.orStandIn;rw[pf];rfl
   generalize c.take (pI (gQ m) k)++((k:Int),Value.int (k:Int) t)::c.drop (pI (gQ m) k)=fs at g pQ;have lf:=g.len;have f5:fs.length<=5:=by rw[lf];exact zf #[_,d]
   dsimp only;rw[pQ];dsimp only;refine gH (show wpAny _ _ (pure Unit.unit) _ _ _ from gK ?_);refine gH (show wpAny _ _ (pure true) _ _ _ from gK ?_);refine gH (AQ e rZ ?_ (by rw[iK,iv];lia));have O:=zp (h:=s.heap) (fs:=fs) (u:=oX b m k) e;have i:Heap.SameBut a s.heap (s.heap.update a (Obj.putSet fs.toArray (oX b m k))):=Aw ..;by_cases h4:(gQ m).length=4
   .obtain⟨D,rl,T,ff⟩:=MQ b #[m,f] #[k,l] B h4;dsimp only at D rl T ff;have l5:fs.length=5:=by rw[lf,T];rfl
    have ks:fs.toArray.map (·.1)= #v[0,1,2,3,4]:=by
     rw[List.map_toArray,g.keys,T];rfl
    have pick:(#v[0,1,2,3,4]:Array Nat).filterMap (fs.toArray[·]?)=fs.toArray:=yM l5;have U:relayAll (oX b m k) fs.toArray (SetTable.grown fs.toArray.size)=(fs.toArray,kr b (gQ (m |||2 ^ k)),false):=by
     unfold relayAll;rw[ks,iK,l5,rl];dsimp only;rw[pick,iK,l5,ff,Bool.and_true,wB (by decide+kernel)]
    show wpAny _ _ (if(!false&&(oX b m k).tooFull)=true then _ else _) _ _ _;rw[D,wB (by decide)];simp only[if_true];rw[U];dsimp only;refine gH (show wpAny _ _ (pure Unit.unit) _ _ _ from gK ?_);refine gH (AQ O rZ ?_ (by rw[iK,iv];lia));have N:=zp (fs:=fs) (u:=kr b (gQ (m |||2 ^ k))) O;have v:=Heap.SameBut.trans i (Aw (s.heap.update a (Obj.putSet fs.toArray (oX b m k))) a (Obj.putSet fs.toArray (kr b (gQ (m |||2 ^ k)))));exact gK (gK (q _ #[d,fs,H+1+1,N,g] v))
   .obtain⟨te,D⟩:=HM b #[m,f] #[k,l] B h4;dsimp only at te D;show wpAny _ _ (if(!false&&(oX b m k).tooFull)=true then _ else _) _ _ _
    rw[D,wA (by decide)];refine gK (gK (q _ #[d,fs,H+1,?_,g] i));rw[<-te];exact O
end
def o0(m:Nat)(a:f'):Nat:=a.foldl (λm n=>m |||2 ^ n) m
section
variable{P:Pg}{w:World}{A:Ar}{E:VP}{S it l:Ad}{led:Bool}{a:f'}{vs:Vs}
theorem Gf{R:Result->Sh->Prop}(L:A.handled=none)(h:S≠it)(M:S≠l)(N:it≠l)(r:Vals (a.map nv) vs)(O:∀n∈a,n<5):
  ∀(rest:f') (i m:Nat) (s:Sh),a.drop i=rest->s.heap.IsListIter it l i->s.heap.IsList l vs.toArray->IsSet5 s.heap S led m->
   (∀c v,IsSet5 c S led (o0 m rest)->(∀b o,b≠S->b≠it->s.heap.get? b=some o->c.get? b=some o)->R (.ok (.ret .none)) {s with heap:=c,toks:=v})->
   codeAny (model P w) A (.builtin "set.update.loop" #[[.ref S,.ref it],[]]) R s
 | [],i,m,s,j,y,p,z,q=>by
  have Q:vs.length<=i:=by
   have T:vs.length=a.length:=by simpa using r.length.symm
   have B:=BS.mp j;lia
  refine n6 xg ?_;rw[pC rW _];show wpAny _ A.in1 (pyNext (.ref it) >>= _) _ _ s;refine gH (zm (by simpa using L) y p (by simp;lia) λc keep=>?_);refine gK (q c s.toks ?_ λb o _ B e=>keep b o B e);obtain⟨C,D,E,e,G⟩:=z;exact#[C,D,E,keep _ _ h e,G]
 | n::rest,i,m,s,j,y,p,z,q=>by
  have g:a[i]?=some n:=by rw[<-zO,j];rfl
  have next:a.drop (i+1)=rest:=by rw[<-zk,j];rfl
  have U:=O n (iq g);obtain⟨u,hu,t,rfl⟩:=r.get (i:=i) (x:=nv n) (by rw[hA,g];rfl);refine n6 xg ?_;rw[pC rW _];show wpAny _ A.in1 (pyNext (.ref it) >>= _) _ _ s;refine gH (zK y p (x:= .int (n:Int) t) (by simpa using hu) λT oM d=>?_);show wpAny _ A.in1 (holding [Value.int (n:Int) t] (setAdd S (.int (n:Int) t)) >>= _) _ _ _;refine gH (lq ?_);unfold setAdd;refine lq (gH ((intKind P w).pyHash (k:=(n:Int)) (pO _ _ _ _) ?_));rw[show(intKind P w).hash (n:Int)=(n:Int)from BI #[n,U]];have H:IsSet5 T S led m:=by
   obtain⟨C,D,E,e,G⟩:=z;exact#[C,D,E,d.extBut _ _ h e,G]
  refine KE U H λB I f=>?_;refine gK #[pb rW _,Gf L h M N r O rest (i+1) (m |||2 ^ n) _ next (oM.extBut f.extBut h.symm) ((p.extBut d.extBut N.symm).extBut f.extBut M.symm) I λc v J keep=>?_];exact q c v J λb o Y b2 e=>keep b o Y b2 (f.extBut _ _ Y (d.extBut _ _ b2 e))
def Hb{s:Sh}{x:Vl}{Q:VP}(q:Q (.ref s.heap.objs.size) {s with heap:=s.heap.push (mU [] 0 (kr (!w.params.followText "set-order") []))}):
  codeAny (model P w) A (.call (.builtin "set.__new__") #[[.type "set",x],[]]) (wants Q E) s:=by
 refine xQ ?_;show wpAny _ A.in1 (checkBuiltinCall "set.__new__" #[[.type "set",x],[]] >>= λ_=>again (.builtin "set.__new__" #[[.type "set",x],[]])) _ _ s;refine gH (vN (F.newCall_set_1 x) (gK #[pb F.plain_set_new _,n6 F.entry_set_new ?_]));rw[pC F.plain_set_new _];have sub:=sub_set_self;unfold Builtin.«set.__new__» Builtin.Frozenset.newClass
 wp_walk
 refine se (gK ?_);dsimp only;simp only[newObj];refine gH (wpAny_alloc (gK (gK ?_)));exact q
abbrev qv(led:Bool):Obj:={cls:= .type "set",dict:=none,data:= .set #v[] 0 (.fresh 0 0 led)}
set_option maxHeartbeats 4000000 in
def KY{h:Heap}{i:Array GenState}{j:Drawn}{k:Nat}{os:OsState}{R:PySem.Fin->Sh->Prop}(u:A.handled=none)(m:h.IsList l vs.toArray)(v:Vals (a.map nv) vs)(x:∀n∈a,n<5)(q:∀c f,IsSet5 c h.objs.size led (o0 0 a)->(∀b o,h.get? b=some o->c.get? b=some o)->R (.done (.ret .none)) #[c,i,j,f,os]):
  wpAny (model P w) A (Builtin.«set.__init__» #[[.ref h.objs.size,.ref l],[]]) R E #[h.push (qv led),i,j,k,os]:=by
 obtain⟨⟨C,dl,y,sl⟩,p,c2,z,r⟩:=id m;simp only at c2 r;subst c2 r;have D:(h.push (qv led)).get? l=some #[.type "list",dl,.seq vs.toArray z,sl]:=ig _ p;have B:(h.push (qv led)).get? h.objs.size=some {cls:= .type "set",dict:=none,data:= .set #v[] 0 (.fresh 0 0 led)}:=i4 _ rfl;have G:=F.sub_list_set;have H:=F.sub_list_frozenset;have I:(Value.type "list"==Value.type "dict")=false:=by decide
 unfold Builtin.«set.__init__» noKeywords Builtin.Frozenset.updateFrom;generalize g:pyIter=s
 wp_walk
 subst g;have d:(h.push (qv led)).IsList l vs.toArray:=m.push _;refine w6 d (gH (wpAny_runValue ?_));have lt:l<h.objs.size:=hV p;have sz:(h.push (qv led)).objs.size=h.objs.size+1:=yO ..;refine Gf (vs:=vs) (led:=led) (by simpa using u) (by rw[sz];exact Nat.ne_of_lt (Nat.lt_succ_self _)) (Nat.ne_of_gt lt) (by rw[sz];exact Nat.ne_of_gt (Nat.lt_succ_of_lt lt)) v x a 0 0 _ rZ #[_,Heap.get?_push_size _ rZ,rZ,rZ] (d.push _) #[by decide,[],0,Heap.get?_push_of_some _ B,.nil] λc f z1 z2=>?_;refine gK (gK (q c f z1 λb o e=>?_));have t:=hV e;exact z2 b o (iW t) (by rw[sz];exact iW (ya t)) (ig _ (ig _ e))
def Mq{s:Sh}{Q:VP}(B:A.handled=none)(p:s.heap.IsList l vs.toArray)(C:Vals (a.map nv) vs)(D:∀n∈a,n<5)(q:∀d g,IsSet5 d s.heap.objs.size (!w.params.followText "set-order") (o0 0 a)->(∀b o,s.heap.get? b=some o->d.get? b=some o)->Q (.ref s.heap.objs.size) {s with heap:=d,toks:=g}):
  wpAny (model P w) A (call (.type "set") [.ref l]) Q E s:=by
 have lt:l<s.heap.objs.size:=let⟨_,e,_⟩:=p;hV e
 obtain⟨c,L,G⟩:=lC.mro;have t:=lC.made;have sub:=lC.sub;have h:=lC.notType;have H:=lC.canCreate;have args:=Dc (.ref l);have u:=lC.init.lookup;have I:=lC.init.bind (.ref s.heap.objs.size);generalize i:mU [] 0 (kr (!w.params.followText "set-order") [])=j;have J:(s.heap.push j).get? s.heap.objs.size=some j:=i4 _ (by rw[<-i];rfl);have ty:Shared.TypeIs {s with heap:=s.heap.push j} (.ref s.heap.objs.size) "set":=#[_,J,by rw[<-i];rfl];refine pS (xQ (show wpAny _ _ (callAny (.type "set") _) _ _ _ from gK #[xY _ (by decide+kernel),n6 C0 ?_]));rw[Cs (CS "set" [.ref l] []) rZ]
 repeat (any_goals (first|assumption|wp_step))
 refine nG (Hb (w:=w) (E:=E) (Q:=λv x=>v=.ref s.heap.objs.size/\x={s with heap:=s.heap.push j}) (by rw[i];exact#[rZ,rZ])) λr x z=>?_;cases r with
 |error _=>exact z
 | ok f=>
  cases f<;>first|exact z.elim|skip
  obtain⟨k,m⟩:=z;subst k m
  repeat (any_goals (first|assumption|wp_step))
  refine nG (yr (R:=wants (λv y=>v=.none/\∃d g,y={s with heap:=d,toks:=g}/\IsSet5 d s.heap.objs.size (!w.params.followText "set-order") (o0 0 a)/\∀b o,s.heap.get? b=some o->d.get? b=some o) E)
   lC.init.plain BD (DA ty ?_)) λr y z=>?_
  .subst i;exact KY (A:=A.in1.in1) (by simpa using B) p C D λd g z1 z2=>#[rZ,d,g,rZ,z1,z2]
  .cases r with
   |error _=>exact z
   |ok f=>
    cases f<;>first|exact z.elim|skip
    obtain⟨k,d,g,m,z1,z2⟩:=z;subst k m
    repeat (any_goals (first|assumption|wp_step))
    exact q d g z1 z2
end
def io:Slot "set_iterator" "__next__" "set_iterator.__next__":=Slot.of (owner:="set_iterator") (n:="__next__") (by rw[typeLookup_type,builtinLookup_eq_fast];kernel_rfl) (by decide+kernel) (by decide+kernel) (by decide+kernel) (by first|exact .inl (by decide+kernel)|exact .inr (by decide+kernel)) (by rw[isSubtype_type];kernel_rfl)
def zv:Slot "set_iterator" "__iter__" "set_iterator.__iter__":=Slot.of (owner:="set_iterator") (n:="__iter__") (by rw[typeLookup_type,builtinLookup_eq_fast];kernel_rfl) (by decide+kernel) (by decide+kernel) (by decide+kernel) (by first|exact .inl (by decide+kernel)|exact .inr (by decide+kernel)) (by rw[isSubtype_type];kernel_rfl)
def zC:entryFor table "set_iterator.__next__"=some Builtin.«set_iterator.__next__»:=entryFor_of_tree (by kernel_rfl)
def GR:entryFor table "set_iterator.__iter__"=some Builtin.«dict_keyiterator.__iter__»:=entryFor_alias (id':="dict_keyiterator.__iter__") (by kernel_rfl) (by first|rfl|decide+kernel|(unfold String.splitOn;simp+decide [String.splitOnAux])) (by decide+kernel) (by kernel_rfl)
def GW:entryFor table "set.__iter__"=some Builtin.«frozenset.__iter__»:=entryFor_alias (id':="frozenset.__iter__") (by kernel_rfl) (by first|rfl|decide+kernel|(unfold String.splitOn;simp+decide [String.splitOnAux])) (by decide+kernel) (by kernel_rfl)
def A9(a:Vl):argsOk "set_iterator.__next__" #[[a],[]]:=by unfold argsOk;kernel_rfl
def EK(a:Vl):argsOk "set_iterator.__iter__" #[[a],[]]:=by unfold argsOk;kernel_rfl
theorem HH{c:Type}(f:Nat->Nat):∀(fuel k:Nat) (left:List c) (b:Array c),left.length=fuel->(pickOrder.go f fuel k left b).toList.Perm (b.toList++left)
 |0,k,left,b,h=>by
  rw[List.eq_nil_of_length_eq_zero h];simp[pickOrder.go]
 | fuel+1,k,left,b,h=>by
  have lt:f k%left.length<left.length:=sd _ ();unfold pickOrder.go;rw[gN lt];dsimp only;refine(HH f fuel (k+1) (left.eraseIdx (f k%left.length)) (b.push left[f k%left.length]) (by rw[List.length_eraseIdx_of_lt lt];lia)).trans ?_;rw[xh,lU];refine yJ _ ?_;rw[List.eraseIdx_eq_take_drop_succ];have e:left=left.take (f k%left.length)++left[f k%left.length]::left.drop (f k%left.length+1):=by
   rw[<-zy lt,oK]
  have z:=(CI (a:=left[f k%left.length]) (l₁:=left.take (f k%left.length)) (l₂:=left.drop (f k%left.length+1))).symm;rw[<-e]at z;exact z
def lA(w:World)(a:Ad)(c:Nat)(b:List (Int×Vl)):List (Int×Vl):=if w.params.followText "set-order" then(pickOrder (w.params.setOrder a c) b.toArray).toList else b
def vW(w:World)(a:Ad)(c:Nat)(b:List (Int×Vl)):(lA w a c b).Perm b:=by
 unfold lA;cases w.params.followText "set-order" with
 |true=>
  have z:=HH (w.params.setOrder a c) b.toArray.size 0 b.toArray.toList #v[] (by simp);simpa[pickOrder]using z
 |false=>exact List.Perm.refl _
def pr(a:Bool)(b:f'):Nat->Nat
 |0=>0
 |i+1=>if a then 0 else b.getD i 0+1
def JF:∀(m:Fin 32) (i:Fin 6),(i:Nat)<=(gQ m).length->SetTable.below (gQ m).toArray (pr false (gQ m) i)=i:=by decide+kernel
def oJ(b i n c:Nat)(a:Ad):Obj:={cls:= .type "set_iterator",data:= .fields #v[rawInt b,rawInt i,.ref a,rawInt n,rawInt c]}
section
variable{P:Pg}{w:World}{A:Ar}{E:VP}{s:Sh}{a it:Ad}{m c i:Nat}{b:List (Int×Vl)}
def E8{Q:Option (Vl×Nat)->Sh->Prop}(g:m<32)(h:s.heap.get? a=some (mU b c (kr (!w.params.followText "set-order") (gQ m))))(k:Ents (gQ m) b)(l:i<=(gQ m).length)(q:Q (((lA w a c b)[i]?).map λe=>(e.2,pr (w.params.followText "set-order") (gQ m) (i+1))) s):wpAny (model P w) A (setNext a (pr (w.params.followText "set-order") (gQ m) i) i c) Q E s:=by
 have n:=k.len;have d:(kr (!w.params.followText "set-order") (gQ m)).fits b.toArray.size=true:=by rw[iK,n];exact x8 _ #[m,g]
 have r:(gQ m).length<=5:=zf #[m,g];unfold setNext setsByText;refine gH (oE h rZ d ?_);refine gH (gH (se (gK ?_)));show wpAny _ _ (if w.params.followText "set-order"=true then _ else _) _ _ _;unfold lA at q;generalize o:w.params.followText "set-order"=p at q h d|-;cases p with
 |true=>
  rw[wB rZ];rw[wB rZ]at q;rw[wA (by simp)];unfold setWalk setsByText;refine gH (gH (oE h rZ d (gH (gH (se (gK ?_))))));show wpAny _ _ (if w.params.followText "set-order"=true then _ else _) _ _ _;rw[o,wB rZ];refine gH (se (gK (gK ?_)));rw[mv]at q;cases i<;>exact q
 | false=>
  rw[wA (by decide)];rw[wA (by decide)]at q;rw[wA (by show ¬((!true&&_)=true);simp)];refine gH ?_;show wpAny _ _ (if(!true&& !b.toArray.isEmpty)=true then _ else _) _ _ _;rw[wA (by simp)];refine gK (gK ?_);show Q (match b.toArray[SetTable.below (gQ m).toArray (pr false (gQ m) i)]?,(gQ m).toArray[SetTable.below (gQ m).toArray (pr false (gQ m) i)]? with|some (_,x),some j=>some (x,j+1)|_,_=>none) s;rw[JF #[m,g] #[i,()] l]
  rcases Nat.lt_or_ge i (gQ m).length with z|z
  .have f:i<b.length:=by lia
   rw[gN f]at q;simp only[List.getElem?_toArray,List.getElem?_eq_getElem f,List.getElem?_eq_getElem z];have e:pr false (gQ m) (i+1)=(gQ m)[i]+1:=by
    show(if false=true then 0 else(gQ m).getD i 0+1)=_;rw[wA (by decide),iD,gN z];rfl
   rw[e]at q;exact q
  .have f:b.length<=i:=by lia
   rw[ot f]at q;simp only[List.getElem?_toArray,List.getElem?_eq_none f];exact q
end
section
variable{P:Pg}{w:World}{A:Ar}{E:VP}{a it:Ad}{m d:Nat}{c:List (Int×Vl)}
def Ks{s:Sh}{i:Nat}{e:Int×Vl}{Q:Option Vl->Sh->Prop}(p:a≠it)(k:m<32)(l:Ents (gQ m) c)(b:s.heap.get? it=some (oJ (pr (w.params.followText "set-order") (gQ m) i) i (gQ m).length d a))(n:s.heap.get? a=some (mU c d (kr (!w.params.followText "set-order") (gQ m))))(r:i<(gQ m).length) (t:(lA w a d c)[i]?=some e)(q:∀f,f.get? it=some (oJ (pr (w.params.followText "set-order") (gQ m) (i+1)) (i+1) (gQ m).length d a)->Heap.SameBut it s.heap f->Q (some e.2) {s with heap:=f}):wpAny (model P w) A (pyNext (.ref it)) Q E s:=by
 have ty:s.TypeIs (.ref it) "set_iterator":=#[_,b,rZ];have o:=l.len;have g:(kr (!w.params.followText "set-order") (gQ m)).fits c.toArray.size=true:=by rw[iK,o];exact x8 _ #[m,k]
 unfold pyNext;refine gH (qd (rP (name:=Str.ofString "__next__") ty io (m7 io ty zC ?_ (A9 _))));unfold oJ at b;unfold Builtin.«set_iterator.__next__»;refine gH (m:=slotArgs _ _ _) (gK ?_);refine gH (tp b rZ ?_);show wpAny _ _ (setEntries a >>= _) _ _ _;unfold setEntries;refine gH (gH (oE n rZ g (gK ?_)));have u:((((c.toArray.size:Nat):Int) != (((gQ m).length:Nat):Int)))=false:=by rw[iK,o];simp
 show wpAny _ _ (if((((c.toArray.size:Nat):Int) != (((gQ m).length:Nat):Int)))=true then _ else _) _ _ _;rw[u,wA (by decide)];show wpAny _ _ (setNext a ((pr (w.params.followText "set-order") (gQ m) i:Nat):Int).toNat ((i:Nat):Int).toNat ((d:Nat):Int).toNat >>= _) _ _ _;simp only[Int.toNat_natCast];refine gH (E8 k n l (ng r) ?_);rw[t];show wpAny _ _ (setField (.ref it) 0 (rawInt _) >>= _) _ _ _;refine gH (oS b (by simp) λz v h=>?_);refine gH (oS v (by simp) λx y j=>?_);exact gK #[_,rZ,gK (q x y (h.trans j))]
def Mt{s:Sh}{Q:Option Vl->Sh->Prop}(p:A.handled=none)(r:a≠it)(i:m<32)(j:Ents (gQ m) c)(f:s.heap.get? it=some (oJ (pr (w.params.followText "set-order") (gQ m) (gQ m).length) (gQ m).length (gQ m).length d a))(k:s.heap.get? a=some (mU c d (kr (!w.params.followText "set-order") (gQ m))))(q:∀l,Heap.ExtBut it s.heap l->Q none {s with heap:=l}):wpAny (model P w) A (pyNext (.ref it)) Q E s:=by
 have ty:s.TypeIs (.ref it) "set_iterator":=#[_,f,rZ];have n:=j.len;have g:(kr (!w.params.followText "set-order") (gQ m)).fits c.toArray.size=true:=by rw[iK,n];exact x8 _ #[m,i]
 have t:(lA w a d c)[(gQ m).length]?=none:=ot (by rw[(vW w a d c).length_eq];lia);unfold pyNext;refine gH (qd (rP (name:=Str.ofString "__next__") ty io (m7 io ty zC ?_ (A9 _))));unfold oJ at f;unfold Builtin.«set_iterator.__next__»;refine gH (m:=slotArgs _ _ _) (gK ?_);refine gH (tp f rZ ?_);show wpAny _ _ (setEntries a >>= _) _ _ _;unfold setEntries;refine gH (gH (oE k rZ g (gK ?_)));have u:((((c.toArray.size:Nat):Int) != (((gQ m).length:Nat):Int)))=false:=by rw[iK,n];simp
 show wpAny _ _ (if((((c.toArray.size:Nat):Int) != (((gQ m).length:Nat):Int)))=true then _ else _) _ _ _;rw[u,wA (by decide)];show wpAny _ _ (setNext a ((pr (w.params.followText "set-order") (gQ m) (gQ m).length:Nat):Int).toNat (((gQ m).length:Nat):Int).toNat ((d:Nat):Int).toNat >>= _) _ _ _;simp only[Int.toNat_natCast];refine gH (E8 i k j (gS _) ?_);rw[t];show wpAny _ _ (setField (.ref it) 2 .none >>= _) _ _ _;refine gH (oS f (by simp) λx y h=>?_);refine gH (m:=newExc _ _) ?_;simp only[newExc,newTuple];refine gH (pq ?_ (by size_fits));refine gH (m:=firstArgMember _ _) (vN (a:=Value.none) (by first|rfl|(unfold firstArgMember;rfl)) (wpAny_newObj_type ?_ (by size_fits)));refine xZ (by simpa using p) (wpAny_bind (wpAny_isInstance (T:="StopIteration") (b:=true) #[_,Heap.get?_push_size _ rZ,rZ] isSubtype_stop (wpAny_pure ?_)));exact q _ λb o v e=>ig _ (ig _ (h.extBut b o v e))
def J5(t:A.handled=none)(f:a≠it)(n:m<32)(j:Ents (gQ m) c):Walks P w A it [it,a] [it] (gQ m).length (λi v=>∃e,(lA w a d c)[i]?=some e/\v=e.2) (λi h=>h.get? it=some (oJ (pr (w.params.followText "set-order") (gQ m) i) i (gQ m).length d a)/\h.get? a=some (mU c d (kr (!w.params.followText "set-order") (gQ m)))) where
 sub:=λb u=>iu.mpr (.inl (h9.mp u))
 frame:=λi h g st k=>#[k it (iO ..) _ st.1,k a (ja _ (h9.mpr rZ)) _ st.2]
 item:=λi s Q E y st q=>by
  have l1:(lA w a d c).length=(gQ m).length:=by rw[(vW w a d c).length_eq,j.len]
  obtain⟨e,p⟩:∃e,(lA w a d c)[i]?=some e:=#[_,gN ()];refine Ks f n j st.1 st.2 y p λg B r=>q e.2 g s.toks #[e,p,rZ] #[B,r.extBut _ _ f st.2] λb o l e=>r.extBut _ _ (λz=>l (h9.mpr z)) e
 done:=λs Q E st q=>Mt t f n j st.1 st.2 λg x=>q g s.toks λb o l e=>x b o (λz=>l (h9.mpr z)) e
 self:=λi s Q E st q=>by
  have ty:s.TypeIs (.ref it) "set_iterator":=#[_,st.1,rZ];refine t9 ty zv (m7 zv ty GR ?_ (EK _));exact show wpAny _ _ (ret (.ref it)) _ _ s from gK #[_,rZ,"set_iterator",_,ty,io.lookup,q]
def xB{s:Sh}{Q:VP}(g:m<32)(h:Ents (gQ m) c)(e:s.heap.get? a=some (mU c d (kr (!w.params.followText "set-order") (gQ m))))(q:Q (.ref s.heap.objs.size) {s with heap:=s.heap.push (oJ 0 0 (gQ m).length d a)}):wpAny (model P w) A (pyIter (.ref a)) Q E s:=by
 have ty:s.TypeIs (.ref a) "set":=#[_,e,rZ];have f:=h.len;have b:(kr (!w.params.followText "set-order") (gQ m)).fits c.toArray.size=true:=by rw[iK,f];exact x8 _ #[m,g]
 refine t9 ty AG (m7 AG ty GW ?_ (F.args_set_iter_1 _));unfold Builtin.«frozenset.__iter__»;refine gH (m:=Builtin.Frozenset.slot0 _ _) (gK ?_);unfold Builtin.Frozenset.sizeOf setEntries;refine gH (gH (gH (oE e rZ b (gK (gK ?_)))));unfold setDrawn setsByText;refine gH (gH (oE e rZ b (gH (gH (se (gK (gK ?_)))))));have i:(!w.params.followText "set-order"&&(!true&&decide (c.toArray.size>1)))=false:=by simp
 show wpAny _ _ (if(!w.params.followText "set-order"&&(!true&&decide (c.toArray.size>1)))=true then _ else _) _ _ _;rw[i,wA (by decide)];refine gH (gK (gH (wpAny_setEpoch_of e rZ b ?_)));refine gH (m:=newFields _ _) ?_;unfold newFields;refine pq ?_ (by size_fits);rw[<-f]at q;exact gK #[_,rZ,"set_iterator",_,#[_,i4 _ rZ,rZ],io.lookup,q]
def FR{s:Sh}{Q:Bool->Sh->Prop}(ty:s.TypeIs (.ref a) "set")(q:Q false s):wpAny (model P w) A (Builtin.List.listLengthHint (.ref a)) Q E s:=by
 unfold Builtin.List.listLengthHint;refine gH (wpAny_specialOf ty F.slot_set_len.lookup ?_);generalize g:("set.__len__":String)=name
 wp_delta
 rw[show splitId name=some ("set","__len__") by subst g;decide+kernel];subst g;refine gH (wpAny_isInstance (T:="set") (b:=true) ty (by rw[isSubtype_type];kernel_rfl) (BG (λz=>wC z (by decide)) λ_=>?_));exact BG (λ_=>gH (wpAny_typeOf ty (gK q))) λz=>wC (by decide+kernel) z
def DZ(b:m<32)(f:Ents (gQ m) c):PySem.W.KdlSrc P w "set" a a (gQ m).length (λi v=>∃e,(lA w a d c)[i]?=some e/\v=e.2) (λh=>h.get? a=some (mU c d (kr (!w.params.followText "set-order") (gQ m)))) where
 type:=λ_ e=>#[_,e,rZ]
 there:=λ_ e=>#[hV e,hV e]
 keep:=λ_ _ e k=>k a (.inl rZ) _ e
 notList:=by decide
 notTuple:=by decide
 hint:=λ_ _ _ _ e q=>FR #[_,e,rZ] q
 iter:=λ_ _ g e=>#[_,_,λ_ _ q=>xB b f e q,J5 g (iW (hV e)) b f,i4 _ rZ,ig _ e]
end
def lB(a:f'):f':=(List.range 5).filter λi=>a.contains i
theorem Ht(i:Nat):∀(ns:f') (m:Nat),(o0 m ns).testBit i=(m.testBit i || ns.contains i)
 | [],m=>by simp[o0]
 |n::ns,m=>by
  show(o0 (m |||2 ^ n) ns).testBit i=_;rw[Ht i ns,Nat.testBit_or,Nat.testBit_two_pow,Bi,Bool.or_assoc]
  congr 2
  by_cases h:n=i
  .simp[h]
  .simp[h,Ne.symm h]
def CD(a:f'):gQ (o0 0 a)=lB a:=by
 unfold gQ lB
 congr 1
 funext i
 rw[Ht];simp
def Nc(m:Nat):(gQ m).Pairwise (· <= ·):=by
 unfold gQ;exact List.Pairwise.filter _ (by decide)
theorem wF:∀{a:Vs} {is:Zs},IntsAre a is->Vals (is.map V.int) a
 |_,_,.nil=> .nil
 |_,_,.cons n t h=> .cons #[t,rZ] (wF h)
theorem Hx:∀{a:List (Int×Vl)},(∀e∈a,∃t,e.2=.int e.1 t)->IntsAre (a.map (·.2)) (a.map (·.1))
 | [],_=> .nil
 |e::a,h=>by
  obtain⟨t,b⟩:=h e (iO ..);rw[kz,kz,b];exact .cons _ _ (Hx λx c=>h x (ja _ c))
section
variable{P:Pg}{w:World}{A:Ar}{E:VP}{a:Ad}{m:Nat}
def NW{s:Sh}{Q:VP}(M:A.handled=none)(N:IsSet5 s.heap a (!w.params.followText "set-order") m)(q:∀(j r:Heap) u d n,Vals ((gQ m).map nv) d->(∀b o,s.heap.get? b=some o->j.get? b=some o)->(∀b o,j.get? b=some o->r.get? b=some o)->r.get? j.objs.size=some {cls:= .type "list",data:= .seq d.toArray n}->Q (.ref j.objs.size) {s with heap:=r,toks:=u}):
  wpAny (model P w) A (call (.builtin "sorted") [.ref a]) Q E s:=by
 obtain⟨I,v,B,O,p⟩:=N;have m5:(gQ m).length<=5:=zf #[m,I];have J:=p.len;have c:=vW w a B v;refine Dm kind_sorted plain_sorted entry_sorted (args_sorted1 _) ?_;unfold Builtin.«sorted»;refine gH (m:=checkCount "sorted" 1 1 _) (gK ?_);refine gH (PySem.W.kdu_collect (A:=A.in1) (DZ I p) (by simpa using M) O (by rw[sizeLine_eq];lia) λj u f keep l=>?_);have g:f.toList=(lA w a B v).map (·.2):=by
  refine x6 (by rw[iH,l.1,gL,c.length_eq];exact J.symm) λi x y T L=>?_;obtain⟨e,C,D⟩:=l.2 i x (by rw[<-mv];exact T);rw[hA,C]at L;cases L;exact D
 have G:IntsAre f.toList ((lA w a B v).map (·.1)):=by
  rw[g];refine Hx λe U=>?_;obtain⟨n,_,C,t,D⟩:=p.mem (c.mem_iff.mp U);exact#[t,by rw[C,D]]
 have Y:f.toList.length=(gQ m).length:=by rw[g,gL,c.length_eq,J]
 refine gH (wm ?_ (by rw[Y,iv];lia));have H:(j.push (seqObj "list" f.toList.toArray 0)).get? j.objs.size=some (seqObj "list" f.toList.toArray 0):=i4 _ rfl;refine gH (lq (m7 slot_list_sort #[_,H,rZ] Dl (list_sort_tree H G () λd js o1 o2 o3=>#[_,rZ,?_]) (args_list_sort _)));have k:js=(gQ m).map λ(n:Nat)=>(n:Int):=by
  refine List.Perm.eq_of_pairwise (le:=(· <= ·)) (λx y _ _=>Int.le_antisymm) o3 ?_ (o2.trans ?_)
  .exact uv.mpr ((Nc m).imp λh=>by lia)
  .rw[<-p.keys];exact c.map _
 obtain⟨n,eN⟩:=sortedHeap_at (out:=d) H;refine gK #[_,rZ,q j _ u d.toList n ?_ keep (λb o e=>?_) (by simpa using eN)]
 .have z:=wF o1;rw[k,lE]at z;exact z
 .have lt:=hV e;rw[sortedHeap_old (iW lt) (j4 lt (by rw[yO];exact vv _))];exact ig _ e
end
section
variable{X:Cx}
def ra(w:World)(a:Ad)(m:Nat):HO:= .ext λh=>IsSet5 h a (!w.params.followText "set-order") m
def IsSet5.ok{w:World}{h:Heap}{a:Ad}{m:Nat}{P:Pg}{d:World}{H:Hp}(x:IsSet5 h a (!w.params.followText "set-order") m):ObjOk P d H h a (ra w a m):=by
 obtain⟨j,l,n,e,o⟩:=id x;exact#[x,#[_,e],λp q ⟨f,b,c,g,i⟩ k=>#[f,b,c,k _ g,i]]
def Inv.track{Z:AO}{f:St}{H:Hp}{s:Sh}{D:Ad}{o:HO}(I:Inv X Z f H s)(g:H D=none)(ok:ObjOk X.prog X.w (gI H D o) s.heap D o)(h:X.s₀.heap.objs.size<=D) (i:D≠X.env.locals) (j:∀x c,X.env.cells.lookup x=some c->c≠D) (k:∀p∈X.pn++Z,p.1≠D):Inv X Z f (gI H D o) s:=by
 have d:∀b u,H b=some u->b≠D:=λb u q z=>by rw[z,g]at q;cases q
 have q:=I.step (h':=s.heap) (H':=gI H D o) (g':=s.gens) (t':=s.toks) (d':=s.drawn) (ch:=[D]) (λb a=>by
   have z:b=D:=by simpa using a
   subst z;exact#[.inr h,i,j,k])
  (λb o _ _ _ e _=>e) (λb o _ _ _ e _=>#[o.slots,e]) (λb o a _ n=>by rw[gM (λz=>a (by simp[z]))];exact n) (λb o _ e=>#[o,e])
  (λb l q=>by rw[gM (d b _ q)];exact q) (λb o u q=>by rw[gM (d b _ q)];exact q) (λb t q=>#[#v[],by rw[gM (d b _ q),q];simp]) (λm r=>r) (λb u q=>?_) I.bare
 .exact q
 .by_cases a:b=D
  .subst a;rw[gO]at q;cases q;exact ok
  .rw[gM a]at q;exact(I.hok b u q).stay (λ_ _ _ z=>z) (λc z=>by rw[gM (d c _ z)];exact z) λc l z=>by rw[gM (d c _ z)];exact z
def Inv.trackNew{Z:AO}{a:St}{H:Hp}{s s1:Sh}{o:HO}(I:Inv X Z a H s)(c:Inv X Z a H s1)(ok:ObjOk X.prog X.w (gI H s.heap.objs.size o) s1.heap s.heap.objs.size o):Inv X Z a (gI H s.heap.objs.size o) s1:=by
 obtain⟨d,e,h,i,f,g⟩:=I.fpOk (b:=s.heap.objs.size) (H':=H) (gS _) (I.hok.fresh (gS _));exact c.track d ok I.sz e f g
inductive sm(K:N2)(w:World)(c:List V)(H:Hp)(Q:VK):Prop|mk:∀p b,c=[.ref p]->SqL K H p (b.map nv)->(∀n∈b,n<5)->(∀a,H a=none->Q (.ref a) (gI H a (ra w a (o0 0 b))))->sm K w c H Q
def Eo(a:X.calm=true):mE X (.type "set") (sm X.K X.w):=by
 intro Z s b H m n Q I r h;obtain⟨p,o,rfl,c,d,q⟩:=h;obtain⟨u,rfl,e⟩:=mi r;cases e;obtain⟨f,g,i,_⟩:=I.list c;refine Mq (I.ok.hd a) i.isList g d λj k z keep=>?_;have l:Inv X Z b H {s with heap:=j,toks:=k}:=I.kept keep;exact#[.ref s.heap.objs.size,_,Inv.trackNew I l z.ok,rZ,q _ I.fresh]
inductive pJ(w:World)(b:List V)(H:Hp)(Q:VK):Prop|mk:∀a m,b=[.ref a]->H a=some (ra w a m)->(∀l,H l=none->Q (.ref l) (gI H l (.lst ((gQ m).map nv))))->pJ w b H Q
def E6(j:X.calm=true):mE X (.builtin "sorted") (pJ X.w):=by
 intro Z s f H t v Q I r h;obtain⟨a,m,rfl,k,q⟩:=h;obtain⟨u,rfl,l⟩:=mi r;cases l;obtain⟨z,_,_⟩:=I.hok a _ k;refine NW (I.ok.hd j) z λb g i c n o k1 k2 e=>?_;have d:Inv X Z f H {s with heap:=b,toks:=i}:=I.kept k1;have p:Inv X Z f H {s with heap:=g,toks:=i}:=d.kept k2;have w:(gQ m).length<=5:=zf #[m,z.1];have ok:ObjOk X.prog X.w (gI H b.objs.size (.lst ((gQ m).map nv))) g b.objs.size (.lst ((gQ m).map nv)):=#[by rw[gL,iv];lia,c,n,o,e];exact#[.ref b.objs.size,_,Inv.trackNew d p ok,rZ,q _ d.fresh]
end
section
variable{X:Cx}
inductive xz(K:N2)(a:List V)(H:Hp)(Q:VK):Prop|mk:∀(p:Ad) (bs:List Bool),a=[.ref p]->SqL K H p (bs.map V.bl)->Q (.bl (bs.any id)) H->xz K a H Q
def Hr(n:X.calm=true):mE X (.builtin "any") (xz X.K):=by
 intro Z s G H J L Q I r h;obtain⟨p,bs,rfl,t,q⟩:=h;obtain⟨u,rfl,w⟩:=mi r;cases w;obtain⟨a,g,j,_⟩:=I.list t;have k:=j.isList;have f:p<s.heap.objs.size:=j.lt;have c:a.length=bs.length:=by rw[<-g.length,gL]
 refine call_any_walk (w6 k #[_,_,_,_,_,_,λi=>bs.getD i false,rZ,Walks.list (A:=X.A.in1) (I.ok.hd n) _ p (iW f) a.toArray,#[#[_,i4 _ rZ,rZ,rZ],k.push _],?_,λM N y=>?_])
 .intro i v O T U B C;have d:a[i]?=some v:=by simpa using B
  have l:i<bs.length:=by rw[<-c];exact(gV.mp d).1
  obtain⟨Y,m,D⟩:=g.get (i:=i) (x:= .bl (bs.getD i false)) (by rw[hA,gN l,iD,gN l];rfl);rw[d]at m;cases m;cases(show v=Value.bool _ from D);exact tq C
 .have e:(List.range a.toArray.size).any (λi=>bs.getD i false)=bs.any id:=by
   rw[iK,c];have:bs=(List.range bs.length).map λi=>bs.getD i false:=by
    refine vt (by simp) λi E h2=>?_;simp[List.getD_eq_getElem?_getD,E]
   conv=>rhs;rw[this,AH]
   rfl
  rw[e];exact#[.bl (bs.any id),H,I.kept λb o z=>y b o (by simp only[List.mem_singleton];exact Nat.ne_of_lt (Heap.lt_size z)) (Heap.get?_push_of_some _ z),rZ,q]
end
def drop(H:Hp)(c:Ad):Hp:=λb=>if b=c then none else H b
def wQ{H:Hp}{c:Ad}:drop H c c=none:=by unfold drop;rw[wB rZ]
def jm{H:Hp}{b c:Ad}(h:b≠c):drop H c b=H b:=by unfold drop;rw[wA h]
def rA{H:Hp}{b c:Ad}(h:H b=none):drop H c b=none:=by
 by_cases e:b=c
 .rw[e];exact wQ
 .rw[jm e];exact h
def jf(c m:Ad)(o:Obj):HO:= .ext λh=>h.get? c=some o/\o.data=.cell (some (.ref m))
def oj(c:Ad)(q:Str):HO:= .ext λh=>h.CodeRec (.ref c) q
def mj(f:Ad)(a:Fd):HO:= .ext λh=>h.get? f=some {cls:= .type "function",data:= .func a}
def HOk.drop{P:Pg}{w:World}{H:Hp}{h:Heap}{c:Ad}{g:Heap->Prop}(x:HOk P w H h)(a:H c=some (.ext g)):HOk P w (drop H c) h:=λb o e=>by
 by_cases f:b=c
 .rw[f,wQ]at e;cases e
 .rw[jm f]at e;refine(x b o e).stay (λ_ _ _ z=>z) (λd z=>?_) λd i z=>?_
  .rw[jm (λq=>by rw[q,a]at z;cases z)];exact z
  .rw[jm (λq=>by rw[q,a]at z;cases z)];exact z
def HOk.back{P:Pg}{w:World}{H:Hp}{h:Heap}{c:Ad}{o:HO}(x:HOk P w H h)(a:H c=none)(ok:ObjOk P w (gI H c o) h c o):HOk P w (gI H c o) h:=λb u e=>by
 by_cases f:b=c
 .subst f;rw[gO]at e;cases e;exact ok
 .rw[gM f]at e;exact(x b u e).stay (λ_ _ _ z=>z) (λd z=>by rw[gM (iU z a)];exact z) λd g z=>by rw[gM (iU z a)];exact z
def CO{P:Pg}{w:World}{H:Hp}{h:Heap}{c m:Ad}{o:Obj}(x:h.get? c=some o)(d:o.data=.cell (some (.ref m))):ObjOk P w H h c (jf c m o):=#[#[x,d],#[o,x],λa b e k=>#[k _ e.1,e.2]]
def GB{P:Pg}{w:World}{H:Hp}{h:Heap}{f:Ad}{a:Fd}(x:h.get? f=some {cls:= .type "function",data:= .func a}):ObjOk P w H h f (mj f a):=#[x,#[_,x],λb c e k=>k _ e]
def L'{P:Pg}{w:World}{H:Hp}{h:Heap}{c:Ad}{q:Str}(x:h.CodeRec (.ref c) q):ObjOk P w H h c (oj c q):=by
 obtain⟨b,o,m,t,d,e,n⟩:=id x;cases d;refine#[x,#[o,e],λp r ⟨b,f,a,g,i,j,l⟩ k=>?_];cases i;exact#[c,f,a,g,rZ,k _ j,l]
structure LamScope(ps:Ss)(y:Str)(sc:Scope):Prop where
 kind:sc.kind=.function
 co:sc.isCoroutine=false
 gen:sc.isGenerator=false
 nd:(ps++[y]).Nodup
 par:∀x∈ps,sc.names.lookup x=some .local
 fre:sc.names.lookup y=some .free
 only:∀z∈sc.names,z.2≠ .cell/\(z.2=.free->z.1=y)
abbrev lO(d:Str)(a:Arguments)(e:Expr)(b:Scope)(y:Str)(c:Ad)(f g h:Vl):Fd:=PySem.W.kla_fn "<lambda>" d a e b [(y,c)] f g h
def sf(P:Pg)(w:World)(K:N2)(mg:SV)(base:Heap)(N:Ss)(b:Str)(a:Scope)(f:Ad)(c:Vl)(d:List (Str×Ad))(A:Ar)(outer:List Env)(s:Sh)(H:Hp):Cx where
 prog:=P
 w:=w
 K:=K
 mg:=mg
 base:=base
 A:=A.deeper (PySem.W.envX b a s.heap.objs.size f c d)
 N:=N
 s₀:=s
 H₀:=H
 env:=PySem.W.envX b a s.heap.objs.size f c d
 outer:=outer
 stack:=PySem.W.envX b a s.heap.objs.size f c d::outer
 ex:=[]
 calm:=true
 fn:=λ_=>false
 pn:=[]
 xe:=λ_ _=>False
theorem F'{x:Str}{u:Vl}:∀{l:List (Str×Vl)},(l.map (·.1)).Nodup->(x,u)∈l->l.lookup x=some u
 | (a,b)::l,c,h=>by
  rw[kz,nc]at c;rw[pW]
  rcases iu.mp h with e|e
  .cases e;rw[xR]
  .have d:(x==a)=false:=sk.mpr λq=>c.1 (hX.mpr #[(x,u),e,q]);rw[d];exact F' c.2 e
def IQ{c:Ss}{d:Vs}{i:Nat}{x:Str}{u:Vl}(e:c.Nodup)(f:c[i]?=some x)(g:d[i]?=some u):(c.zip d).reverse.lookup x=some u:=by
 refine F' ?_ (pR.mpr (jk.mpr #[i,List.getElem?_zip_eq_some.mpr #[f,g]]));have sub:∀(c:Ss) (d:Vs),((c.zip d).map (·.1)).Sublist c:=λc=>by
  induction c with
  |nil=>intro d;simp
  |cons a c h=>
   intro d;cases d with
   |nil=>simp
   |cons b d=>rw[CV,kz];exact(h d).cons₂ a
 rw[List.map_reverse];show List.Pairwise (· ≠ ·) _;rw[List.pairwise_reverse];exact(e.sublist (sub c d)).imp jd
def J4{P:Pg}{w:World}{K:N2}{mg:SV}{l:Heap}{n:Ss}{y B:Str}{g:Scope}{f c m:Ad}{O:Vl}{A:Ar}{k:List Env}{s:Sh}{H:Hp}{Q:Vs}{I:List V}{E:Heap}{U:Nat}(S:LamScope n y g) (Y:A.handled=none) (t:Env0 P w K mg l A k s H) (T:I.length=n.length) (r:Vals I Q) (hc:H c=none) (ic:s.heap.IsCell c (some (.ref m)))(L:E.Ns s.heap.objs.size (λx=>(n.zip Q).reverse.lookup x)) (sb:Heap.SameBut s.heap.objs.size (s.heap.push {cls:= .type "frame",data:= .dict #v[]}) E):
  Inv (sf P w K mg l (n++[y]) B g f O [(y,c)] A k s H) [] (I.map some++[some (.ref m)]) H {s with heap:=E,toks:=U}:=by
 have M:∀b o,s.heap.get? b=some o->E.get? b=some o:=λb o e=>sb.extBut _ _ (iW (hV e)) (ig _ e);have J:E.IsCell c (some (.ref m)):=let⟨o,e,d⟩:=ic;#[o,M _ _ e,d]
 have one:∀{x:Str} {d:Ad},([(y,c)]:List (Str×Ad)).lookup x=some d->x=y/\d=c:=λ{x d} h=>by
  rw[pW]at h;cases q:x==y with
  |true=>rw[q]at h;cases h;exact#[eq_of_beq q,rZ]
  |false=>rw[q]at h;cases h
 have C:([(y,c)]:List (Str×Ad)).lookup y=some c:=by rw[pW,xR]
 have G:∀b:Ad,b∉(sf P w K mg l (n++[y]) B g f O [(y,c)] A k s H).ex:=λb z=>wC (show b∈([]:As)from z) (by simp);refine#[#[t.mod,S.kind,rZ,rZ,gS _,λa b d E h2=>(one E).1.trans (one h2).1.symm,λa ha=>?_,λa d h _=>wC (show false=true from h) ky,λ_=>Y,Around.frames_deeper t.frames,.inr #[rZ,rZ],λb z=>wC z (G b),t.bs,t.bsz,λb _ _=>G b,λb z=>wC z (G b),t.funs,t.frf],
  rfl,t.bare,Un.kept M,#[_,L,λi x v q1 D q3=>?_],λa d h=>?_,t.hok.fresh (gS _),λa d h=>?_,λp hp=>wC (show p∈([]:AO)from hp) (by simp),t.hok.kept M,?_]
 .have N:g.names.lookup a=some .cell\/g.names.lookup a=some .free:=ha
  rcases N with z|z
  .exact wC rZ (S.only _ (rK z)).1
  .have e:=(S.only _ (rK z)).2 rfl;exact#[c,by rw[show a=y from e];exact C]
 .have j:(n++[y])[i]?=some x:=q1
  rcases Nat.lt_or_ge i n.length with z|z
  .rw[j0 z]at j;rw[j0 (by rw[gL];lia),hA]at D;cases e:I[i]? with
   |none=>rw[e]at D;cases D
   |some a=>
    rw[e]at D;cases D;obtain⟨u,hu,rv⟩:=r.get e;have kx:=S.par x (iq j);refine#[u,rv,.inl #[kx,?_]];exact IQ (S.nd.sublist (List.sublist_append_left _ _)) j hu
  .rw[ku z]at j;rw[ku (by rw[gL];lia),gL]at D;have e:i-n.length=0:=by
    rcases Nat.eq_zero_or_pos (i-n.length)with y0|y0
    .exact y0
    .rw[ot (by simp;lia)]at j;cases j
   rw[e]at j;rw[T,e]at D;cases j;cases D;exact#[.ref m,rZ,.inr #[.inr S.fre,c,C,J]]
 .obtain⟨rfl,rfl⟩:=one (show([(y,c)]:List (Str×Ad)).lookup a=some d from h);exact#[_,J]
 .obtain⟨rfl,rfl⟩:=one (show([(y,c)]:List (Str×Ad)).lookup a=some d from h);exact hc
 .show(I.map some++[some (V.ref m)]).length=(n++[y]).length;simp[T]
def G6{P:Pg}{w:World}{K:N2}{mg:SV}{j:Heap}{k:Nat}{D:Ss}{y g:Str}{l:Arguments}{p:Expr}{a:Scope}{f c m G:Ad}{oc:Obj}{pm ct:Vl}{Y:Sp}(S:LamScope D y a) (len:∀B H Q E,Y B H Q E->B.length=D.length) (here:∀B H Q E,Y B H Q E->H f=some (mj f (lO g l p a y c pm (.ref G) ct))/\H c=some (jf c m oc)/\H G=some (oj G g))(L:∀(A:Ar) (d:List Env) (s:Sh) (H:Hp) (B:List V) (Q:VK) (E:XK),Room k (A.deeper (PySem.W.envX g a s.heap.objs.size f (.ref G) [(y,c)]))->Y B H Q E->
   ∃t,PE (sf P w K mg j (D++[y]) g a f (.ref G) [(y,c)] A d s (drop H c)) p t/\t (B.map some++[some (.ref m)]) (drop H c) λv U=>U c=none->Q v (gI U c (jf c m oc))):
  FnOk P w K mg j im (k+1) f (lO g l p a y c pm (.ref G) ct) D Y:=by
 refine#[len,λA d s H args us B Q E hr h M r N=>?_];obtain⟨hf,O,aa⟩:=here _ _ _ _ N;have hl:=len _ _ _ _ N;obtain⟨ef,_,_⟩:=h.hok f _ hf;obtain⟨i,_,_⟩:=h.hok c _ O;obtain⟨T,_,_⟩:=h.hok G _ aa;have e1:Env0 P w K mg j A d s (drop H c):=#[h.frames,h.mod,λb o e=>#[(h.bs b o e).1,rA (h.bs b o e).2],h.bsz,h.funs,λb M=>rA (h.frf b M),h.hok.drop O,h.bare];have ab:s.heap.NoLimit:=h.mod.nolimit.keeps λb o e=>(h.bs b o e).1;refine PySem.W.kla_callFunE hr.depth ef rZ S.co S.gen rZ T (M _ _ _ _ ?_);refine wpAny_newFunctionEnv (λx hx=>(S.only x hx).1) (λx hx=>S.par _ (At hx).1) (λh1 ae sb=>?_) S.kind;have hk:∀b o,s.heap.get? b=some o->h1.get? b=some o:=λb o e=>sb.extBut _ _ (iW (hV e)) (ig _ e);refine#[ab.keeps hk,PySem.W.kla_codeExpr ?_];obtain⟨t,ht,hq⟩:=L A d s H B Q E (hr.deeper _) N;have I:Inv (sf P w K mg j (D++[y]) g a f (.ref G) [(y,c)] A d s (drop H c)) [] (B.map some++[some (.ref m)]) (drop H c) {s with heap:=h1,toks:=s.toks+(D.zip us).length}:=J4 S hr.hd e1 hl r wQ #[oc,i] ae sb;refine kS (ht [] _ _ _ _ I hq) (λv s' ⟨x,U,J,rx,q⟩=>?_) λe s' z=>wE z;have Hc:U c=none:=J.freeC y c (by show([(y,c)]:List (Str×Ad)).lookup y=some c;rw[pW,xR]);have af:s'.heap.get? c=some oc:=J.base.keep c oc i.1 wQ (λz=>?_) (by simp[sf])
 .refine#[x,gI U c (jf c m oc),J.os,J.bare,#[λb o e n M _=>?_,λb o e n M _=>?_,λb o e n _=>?_,λb o e _=>J.base.there b o e (by simp[sf]),λb xs e=>?_,λb o u e=>?_,λb D e=>?_],J.hok.back Hc (CO af i.2),rx,q Hc]
  .exact J.base.keep b o e (rA n) M (by simp[sf])
  .exact J.base.slot b o e (rA n) M (by simp[sf])
  .have C:b≠c:=λz=>by rw[z,O]at n;cases n
   rw[gM C];exact J.base.free b o e (rA n) (by simp[sf])
  .have C:b≠c:=λz=>by rw[z,O]at e;cases e
   rw[gM C];exact J.base.tups b xs (by show drop H c b=_;rw[jm C];exact e)
  .have C:b≠c:=λz=>by rw[z,O]at e;cases e
   rw[gM C];exact J.base.frzs b o u (by show drop H c b=_;rw[jm C];exact e)
  .have C:b≠c:=λz=>by rw[z,O]at e;cases e
   rw[gM C];exact J.base.tbls b D (by show drop H c b=_;rw[jm C];exact e)
 .have:=h.frf c z;rw[O]at this;cases this
section
variable{X:Cx}
def Ex(X:Cx)(i:Nat)(t:TA):TE:=λb H Q=>ir i b H λv c=>∃st a,v=.ref st/\c st=some (mj st a)/\t b c λg d=>d st=some (mj st a)/\∃k e f,FnOk X.prog X.w X.K X.mg X.base im k st a e f/\Room k X.A/\Binds X.K a e []/\f g d Q E0
def Em{Z:AO}{a:St}{H:Hp}{s:Sh}{st:Ad}{b:Fd}(I:Inv X Z a H s)(h:H st=some (mj st b)):PySem.W.FnAt st s.heap:=by
 obtain⟨e,_,_⟩:=I.hok st _ h;exact#[_,_,_,_,e]
def Ff(i:Nat){x:Str}{e:Expr}{b:List Expr}{t:TA}{p a:Pos}(j:PE X (.Name x p) (ir i))(l:PA X (e::b) t)(m:starEach (e::b) X.env=(false,eval e X.env)::starEach b X.env:=by rfl)(c:(backTo a (starEach b X.env)).any (·.1)=false:=by rfl):
  PE X (.Call (.Name x p) (e::b) [] a) (Ex X i t):=by
 intro Z s d H Q I h;refine q0 (gY (j Z s d H _ I h) λu n ⟨v,o,f,w,st,J,y,A,q⟩=>?_);subst y;cases w;refine PySem.W.callWith_F (Em f A) (gY (l a Z n d o _ f q) λL M B=>?_) m c;obtain⟨N,O,g,r,C,k,T,U,F,D,E,G⟩:=B;refine#[Em g C,?_];have z:=Fe (dvs:=[]) (ds:=[]) F D E .nil E9 g r (by rw[mW];exact G);exact z
def Gz(g:Sp)(a:List V)(j:Nat)(c:Ad)(t:TA):TE:=λb H Q=>t b H λh d=>∃m,b[j]?=some (some (.ref m))/\∀e,d c=none->g (h++a) (gI d c (jf c m e)) (λr f=>f c=some (jf c m e)/\Q r (drop f c)) E0
def Inv.afterC{Z:AO}{p:St}{H:Hp}{s t:Sh}{c m:Ad}{i:Obj}{Q:VK}{u:Vl}(I:Inv X Z p H s)(k:H c=none)(x:s.heap.get? c=some i)(h:CE X.stack X.prog X.w (gI H c (jf c m i)) s (λr j=>j c=some (jf c m i)/\Q r (drop j c)) u t):EP X Z p Q u t:=by
 obtain⟨v,j,os,a,un,d,A,y,q⟩:=h;obtain⟨⟨f,_⟩,_,_⟩:=d c _ y;refine I.after #[v,drop j c,os,a,#[λb o e n l g=>?_,λb o e n l g=>?_,λb o e n g=>?_,un.there,λb B e=>?_,λb o w e=>?_,λb C e=>?_],d.drop y,A,q]
 .by_cases z:b=c
  .subst z;rw[x]at e;cases e;exact f
  .exact un.keep b o e (by rw[gM z];exact n) l g
 .by_cases z:b=c
  .subst z;rw[x]at e;cases e;exact#[i.slots,f]
  .exact un.slot b o e (by rw[gM z];exact n) l g
 .by_cases z:b=c
  .rw[z];exact wQ
  .exact rA (un.free b o e (by rw[gM z];exact n) g)
 .have z:b≠c:=λz=>by rw[z,k]at e;cases e
  rw[jm z];exact un.tups b B (by rw[gM z];exact e)
 .have z:b≠c:=λz=>by rw[z,k]at e;cases e
  rw[jm z];exact un.frzs b o w (by rw[gM z];exact e)
 .have z:b≠c:=λz=>by rw[z,k]at e;cases e
  rw[jm z];exact un.tbls b C (by rw[gM z];exact e)
def Jx{x:Str}{k j:Nat}{N:Ss}{Y:Sp}{f c:Ad}{fd:Fd}{g:List V}{A:Vs}{y:Str}{e:Expr}{B:List Expr}{t:TA}{p l:Pos}(F:FnOk X.prog X.w X.K X.mg X.base im k f fd N Y)(hr:Room k X.A)(hg:Gl X x)(hm:X.mg x=some (.ref f))(hk:PySem.W.keepIn X.K (.ref f)=true) (v:Binds X.K fd N A) (hd:Vals g A) (hN:X.N[j]?=some y) (L:X.env.cells.lookup y=some c) (C:X.env.scope.names.lookup y=some .cell) (O:X.fn y=true) (ha:PA X (e::B) t)(T:(x==("__debug__":Str))=false:=by decide) (he:starEach (e::B) X.env=(false,eval e X.env)::starEach B X.env:=by rfl) (U:(backTo l (starEach B X.env)).any (·.1)=false:=by rfl):
  PE X (.Call (.Name x p) (e::B) [] l) (Gz Y g j c t):=by
 intro Z s σ H Q I h;refine q0 (uZ I hg hm ?_ T);refine zB (h₀:=X.base) I.ok.mod.kin hk (gY (ha l Z s σ H _ I h) λD M ⟨vs,H1,a,r,m,hj,q⟩=>#[a.kIn,?_]) he U;have n:H1 c=none:=a.freeC y c L;obtain⟨mm,hn,E⟩:=a.loc;obtain⟨u,ru,lk⟩:=E j y (.ref m) hN hj (.inr (.inl C));cases ru;obtain⟨oc,ec,dc⟩:M.heap.IsCell c (some (.ref m)):=by
  rcases lk with⟨z,_⟩|⟨_,c',G,ic⟩
  .have z':X.env.scope.names.lookup y=some .local:=z;rw[C]at z';cases z'
  .rw[L]at G;cases G;exact ic
 have q1:=q oc n;have r2:Vals (vs++g) (D++A):=r.append hd;have hl:(D++A).length=N.length:=by rw[<-r2.length];exact F.len _ _ _ _ q1
 have e1:Env0 X.prog X.w X.K X.mg X.base X.A X.stack M (gI H1 c (jf c m oc)):=by
  have i:=a.env0;have d:=a.ok.cab y c O L;have nb:∀b o,X.base.get? b=some o->b≠c:=λb o e z=>by
   subst z;exact wC (j4 (hV e) (iP a.ok.bsz d)) (oC _)
  have nf:∀b∈iF X.stack,b≠c:=λb v z=>by
   subst z
   rcases iu.mp (a.stkSub b v)with w|w
   .exact a.cne y b L w
   .obtain⟨_,o,ho,_⟩:=a.ok.funs.mem w;exact wC (j4 (hV ho) d) (oC _)
  exact#[i.frames,i.mod,λb o e=>#[(i.bs b o e).1,by rw[gM (nb b o e)];exact(i.bs b o e).2],i.bsz,i.funs,λb v=>by rw[gM (nf b v)];exact i.frf b v,i.hok.back n (CO ec dc),i.bare]
 refine pS (nG (F.run X.A X.stack M _ #[D,[]] (D++A) (vs++g) _ E0 hr e1 (v M D a.kIn hl) r2 q1) λr s' J=>?_);cases r with
 |error e=>exact J.elim
 |ok fl=>
  cases fl with
  |ret u=>exact a.afterC n ec J
  |next=>exact wE J
  |brk=>exact wE J
  |cont=>exact wE J
end
section
variable{X:Cx}
def rF(mg:SV)(h:Heap):Prop:=∃a o,mg "__builtins__"=some (.ref a)/\a≠builtinsNs/\h.get? a=some o/\o.cls=.type "module"/\o.dict=some builtinsNs/\o.data=.plain
abbrev nZ(a:Pos)(b:Ad):AV:= #v[rawInt a.line,rawInt a.col,.ref b]
def zc(P:Ad)(a:Str)(b:Arguments)(g:Expr)(d:Scope)(y:Str)(c:Ad)(j:Vl)(h:Pos):TE:=λ_ H Q=>
 (H P=some (.tbl #v[])/\∀f e i,H f=none->H e=none->f≠e->Q (.ref f) (gI (gI (gI H P (.tbl (nZ h e))) e (oj e a)) f (mj f (lO a b g d y c j (.ref e) i))))\/
 ∃e,H P=some (.tbl (nZ h e))/\H e=some (oj e a)/\∀f i,H f=none->Q (.ref f) (gI H f (mj f (lO a b g d y c j (.ref e) i)))
def EH{P cd c:Ad}{qual y:Str}{a:Arguments}{g:Expr}{f:Scope}{i:Pos}(E:X.env.code=.ref cd)(C:PySem.W.CodeHd X.base cd P)(bm:rF X.mg X.base)(G:∀Z D H s,Inv X Z D H s->closureFor f X.env=pure [(y,c)])(aa:defaultsOf a X.env=([],[])) (hq:X.env.qual++"<lambda>"=qual):PE X (.Lambda a g f i) (zc P qual a g f y c ((X.mg "__name__").getD .none) i):=by
 intro Z s D H Q I h;rw[arm_eval_Lambda,aa,hq];have C':PySem.W.CodeHd s.heap cd P:=C.keeps I.bk;have hg:s.heap.Ns mainGlobals X.mg:=I.mod.glob.keeps I.bk;refine gH (m:=evalAll []) (gK (gH (m:=holding _ (evalAllOpt [])) (lq (gK ?_))));have track:∀J,H P=some (.tbl J)->s.heap.get? P=some (PySem.W.tabObj J)/\mainGlobals≠P/\s.heap.BuiltinsAt X.mg P:=λJ e=>by
  have L:s.heap.get? P=some (PySem.W.tabObj J):=I.hok P _ e;have Y:mainGlobals≠P:=λz=>by
   obtain⟨o,es,ep,e1,_⟩:=I.mod.glob;have:=(I.bs _ _ e1).2
   rw[z,e]at this;cases this
  obtain⟨b,o,b1,b2,b3,b4,b5,b6⟩:=bm;refine#[L,Y,b,o,b1,b2,λz=>?_,λz=>?_,I.bk _ _ b3,b4,b5,b6]
  .obtain⟨o',es,ep,e1,d1,_⟩:=I.mod.glob;rw[z,e1]at b3;cases b3;rw[d1]at b6;cases b6
  .have:=(I.bs _ _ b3).2;rw[z,e]at this;cases this
 rcases h with⟨e,q⟩|⟨j,e,ag,q⟩
 .obtain⟨L,Y,hb⟩:=track _ e;refine PySem.W.kla_makeFunction (G Z D H s I) I.ok.glob hg E C' L (by trivial) rZ Y hb λj p k tk hx r t M ab=>?_;have x:H j=none:=I.hok.fresh r;have A:H k.objs.size=none:=I.hok.fresh (iP r (ng t));have ae:P≠j:=iU e x;have af:P≠k.objs.size:=iU e A;have N:k.objs.size≠j:=pp t;generalize eo:PySem.W.kla_obj "<lambda>" qual a g f [(y,c)] ((X.mg "__name__").getD .none) j p=ob;have old:∀b u,H b=some u->b≠j/\b≠k.objs.size:=λb u z=>#[iU z x,iU z A];have O:∀b o,s.heap.get? b=some o->b≠j/\b≠k.objs.size:=λb o z=>#[iW (j4 (hV z) r),iW (j4 (hV z) (iP r (ng t)))];have T:∀b o,b≠P->s.heap.get? b=some o->(k.push ob).get? b=some o:=λb o n z=>ig _ (hx b o n z);have l:∀b,b≠P->b≠j->b≠k.objs.size->gI (gI (gI H P (.tbl (nZ i j))) j (oj j qual)) k.objs.size (mj k.objs.size (lO qual a g f y c ((X.mg "__name__").getD .none) (.ref j) p)) b=H b:=λb n1 n2 n3=>by rw[gM n3,gM n2,gM n1]
  have U:gI (gI (gI H P (.tbl (nZ i j))) j (oj j qual)) k.objs.size (mj k.objs.size (lO qual a g f y c ((X.mg "__name__").getD .none) (.ref j) p)) P=some (.tbl (nZ i j)):=by rw[gM af,gM ae,gO]
  have tP:(k.push ob).get? P=some (PySem.W.tabObj (nZ i j)):=by
   refine ig _ ?_;rw[ab];rfl
  refine#[.ref k.objs.size,_,?_,rZ,q k.objs.size j p A x N];refine I.step (ch:=[]) (λ_ z=>nomatch z) (λb o _ _ _ z n=>T b o (λw=>by rw[w,e]at n;cases n) z) (λb o _ _ _ z n=>#[o.slots,T b o (λw=>by rw[w,e]at n;cases n) z])
   (λb o _ z n=>?_) (λb o _ z=>?_) (λb xs z=>?_) (λb o u z=>?_) (λb J z=>?_) (λm hm=>?_) (λb u z=>?_) I.bare
  .rw[l b (λw=>by rw[w,e]at n;cases n) (O b o z).1 (O b o z).2];exact n
  .by_cases w:b=P
   .rw[w];exact#[_,tP]
   .exact#[o,T b o w z]
  .rw[l b (λw=>by rw[w,e]at z;cases z) (old b _ z).1 (old b _ z).2];exact z
  .rw[l b (λw=>by rw[w,e]at z;cases z) (old b _ z).1 (old b _ z).2];exact z
  .by_cases w:b=P
   .subst w;rw[e]at z;cases z;exact#[nZ i j,by rw[U];rfl]
   .exact#[#v[],by rw[l b w (old b _ z).1 (old b _ z).2,z];simp]
  .exact hm.at' λo z=>T _ o (λw=>by have:=I.free;rw[w,e]at this;cases this) z
  .by_cases w3:b=k.objs.size
   .rw[w3,gO]at z;cases z;rw[w3];exact GB (by rw[<-eo];exact i4 _ rZ)
   .by_cases w2:b=j
    .rw[w2,gM N.symm,gO]at z;cases z;rw[w2];exact L' (M.push _)
    .by_cases w1:b=P
     .rw[w1,U]at z;cases z;rw[w1];exact tP
     .rw[l b w1 w2 w3]at z;refine(I.hok b u z).stay (λd o hd y=>T d o (λw=>?_) y) (λd y=>?_) λd xs y=>?_
      .rcases hd with v|v
       .exact w1 (v.symm.trans w)
       .rw[w,e]at v;cases v
      .rw[l d (λw=>by rw[w,e]at y;cases y) (old d _ y).1 (old d _ y).2];exact y
      .rw[l d (λw=>by rw[w,e]at y;cases y) (old d _ y).1 (old d _ y).2];exact y
 .obtain⟨L,Y,hb⟩:=track _ e;have B:codeAmong i (nZ i j).toList=some (.ref j):=by
   show(if((i.line:Int)==(i.line:Int)&&(i.col:Int)==(i.col:Int))=true then _ else _)=_;rw[wB (by simp)]
  refine PySem.W.kla_makeFunctionHit (G Z D H s I) I.ok.glob hg E C' L (by trivial) B hb λp k tk keep sz=>?_;have I1:Inv X Z D H {s with heap:=k,toks:=tk}:=I.kept keep;have I2:Inv X Z D H {s with heap:=k.push {cls:= .type "function",data:= .func (lO qual a g f y c ((X.mg "__name__").getD .none) (.ref j) p)},toks:=tk}:=I1.kept λb o z=>ig _ z;have ok:ObjOk X.prog X.w (gI H k.objs.size (mj k.objs.size (lO qual a g f y c ((X.mg "__name__").getD .none) (.ref j) p))) (k.push {cls:= .type "function",data:= .func (lO qual a g f y c ((X.mg "__name__").getD .none) (.ref j) p)}) k.objs.size (mj k.objs.size (lO qual a g f y c ((X.mg "__name__").getD .none) (.ref j) p)):=GB (i4 _ rZ);exact#[.ref k.objs.size,_,Inv.trackNew I1 I2 ok,rZ,q _ p I1.fresh]
end
def Jo(K:N2)(c:As)(a:Ad)(o:Obj)(d:Zs):Hp:=λb=>if b∈c then some (.tbl #v[])else if b=a/\K.lookup a=none then some (.frz o (.lst (d.map V.int)))else none
def J6{P:Pg}{w:World}{K:N2}{mg mb:SV}{k:Nat}{fa a:Ad}{fd:Fd}{x:Str}{sp:Sp}{f:Sh}{A:Vs}{D:Zs}{tabs:As}(KX:K.In f.heap) (I:f.heap.Ns mainGlobals mg) (g:f.heap.Ns builtinsNs mb) (aa:∀x:Str,x≠"__name__"->mb x=bootBuiltins x) (J:f.heap.NoLimit) (hg:f.gens= #v[]) (ab:rF mg f.heap)(E:f.heap.get? a=some {cls:= .type "list",data:= .seq A.toArray}) (hi:IntsAre A D) (hl:D.length<=sizeLine) (hr:Room k callerA) (hT:∀q∈tabs,K.lookup q=none/\∃c,f.heap.TableAt c q #v[])
  (F:∀l:Heap,K.In l->l.Ns mainGlobals mg->rF mg l->FnOk P w K mg l im k fa fd [x] sp) (G:∀(s:Sh) (u:Vl),BindsTo s fd #[[u],[]] [(x,u)])
  (ae:∀H:Hp,(∀q∈tabs,H q=some (.tbl #v[]))->SqL K H a (D.map V.int)->sp [.ref a] H (λv _=>v=.bl true) λ_ _ _=>False):
  codeAny (model P w) callerA (.call (.ref fa) #[[.ref a],[]]) (λr L=>r=.ok (.ret (.bool true))/\OldK f.heap L.heap/\L.os=f.os/\AllBare L.gens) f:=by
 have rv:=Ek hi;have M:=hi.length;have i:∀q∈tabs,f.heap.get? q=some (PySem.W.tabObj #v[]):=λq N=>let⟨_,c,t⟩:=hT q N;t.2
 have na:a∉tabs:=λN=>by
  have:=i a N;rw[E]at this;cases this
 generalize eH:Jo K tabs a {cls:= .type "list",data:= .seq A.toArray} D=H;have O:∀q∈tabs,H q=some (.tbl #v[]):=λq N=>by rw[<-eH];exact wB N
 have B:∀b,b∉tabs->H b=if b=a/\K.lookup a=none then some (.frz {cls:= .type "list",data:= .seq A.toArray} (.lst (D.map V.int)))else none:=λb g=>by rw[<-eH];exact wA g
 have j:∀b u,H b=some u->(b∈tabs/\u=.tbl #v[])\/(b=a/\K.lookup a=none/\u=.frz {cls:= .type "list",data:= .seq A.toArray} (.lst (D.map V.int))):=λb u e=>by
  by_cases g:b∈tabs
  .rw[O b g]at e;cases e;exact .inl #[g,rZ]
  .rw[B b g]at e;by_cases h:b=a/\K.lookup a=none
   .rw[wB h]at e;cases e;exact .inr #[h.1,h.2,rZ]
   .rw[wA h]at e;cases e
 have af:HOk P w H f.heap:=λb u e=>by
  rcases j b u e with⟨g,rfl⟩|⟨rfl,_,rfl⟩
  .exact i b g
  .exact#[E,by rw[gL];exact hl,A,_,rv,E]
 have hS:SqL K H a (D.map V.int):=by
  cases Q:K.lookup a with
  |some o=>
   have e:=KX a o Q;rw[E]at e;cases e;exact .inr #[_,A.toArray,_,Q,rZ,rZ,rZ,by rw[iK,M];exact hl,by simpa using rv]
  |none=>exact .inl (.inr #[{cls:= .type "list",data:= .seq A.toArray},by rw[B a na,wB #[rZ,Q]]])
 have free:∀{b:Ad} {o:Obj},f.heap.get? b=some o->o.cls≠ .none->(∀T n,o.data≠ .seq T n)->H b=none:=λ{b o} e hc hd=>by
  cases q:H b with
  |none=>rfl
  | some u=>
   rcases j b u q with⟨g,_⟩|⟨rfl,_,_⟩
   .rw[i b g]at e;cases e;exact wC rZ hc
   .rw[E]at e;cases e;exact wC rZ (hd _ _)
 have p:∀{b:Ad} {m:SV},f.heap.Ns b m->(r3 f.heap H).Ns b m:=λ{b m} ⟨o,es,ep,e,d,r⟩=>by
  refine#[o,es,ep,DP e ?_,d,r];cases q:H b with
  |none=>rfl
  | some u=>
   rcases j b u q with⟨g,_⟩|⟨rfl,_,_⟩
   .rw[i b g]at e;cases e;cases d
   .rw[E]at e;cases e;cases d
 have U:K.In (r3 f.heap H):=λb o e=>DP (KX b o e) (by
  cases q:H b with
  |none=>rfl
  | some u=>
   rcases j b u q with⟨g,_⟩|⟨rfl,Q,_⟩
   .rw[(hT b g).1]at e;cases e
   .rw[Q]at e;cases e)
 have ag:rF mg (r3 f.heap H):=by
  obtain⟨bm,o,b1,b2,b3,b4,b5,b6⟩:=ab;exact#[bm,o,b1,b2,DP b3 (free b3 (by rw[b4];nofun) (λT n z=>by rw[b6]at z;cases z)),b4,b5,b6]
 have hM:Mod K mg (r3 f.heap H):=#[U,p I,#[mb,p g,aa],let⟨mc,h1,h2⟩:=J;#[mc,p h1,h2]];have e0:Env0 P w K mg (r3 f.heap H) callerA [] f H:=#[rZ,hM,λb o e=>LC e,vo (M7 _ _),trivial,λb g=>wC (show b∈([]:As)from g) (by simp),af,.of_eq hg];refine nG ((F _ U (p I) ag).run callerA [] f H #[[.ref a],[]] [.ref a] [.ref a] _ _ hr e0 (G f (.ref a)) (.cons rZ .nil) (ae H O hS)) λr L h=>?_;cases r with
 |error e=>exact h.elim
 | ok fl=>
  cases fl with
  |next=>exact wE h
  |brk=>exact wE h
  |cont=>exact wE h
  | ret u=>
   obtain⟨v,H',os,Y,un,C,r',q⟩:=h;have q':v=.bl true:=q;subst q'
   obtain rfl:u=Value.bool true:=r';refine#[rZ,#[λb o e=>?_,λb o e=>un.there b o e (by simp)],os,Y];cases z:H b with
   |none=>exact .inl (un.keep b o e z (by intro y;exact wC (show b∈([]:As)from y) (by simp)) (by simp))
   | some u=>
    rcases j b u z with⟨g,rfl⟩|⟨rfl,_,rfl⟩
    .obtain⟨more,z2⟩:=un.tbls b _ z;have e2:L.heap.get? b=some (PySem.W.tabObj (#v[]++more)):=C b _ z2;rw[i b g]at e;cases e;obtain⟨_,c,t⟩:=hT b g;exact .inr (.inl #[t.isCodeTable,rZ,#v[],more,rZ,e2])
    .obtain⟨e2,_⟩:=C b _ (un.frzs b _ _ z);rw[E]at e;cases e;exact .inl e2
def sl(u v:f'):Prop:=u.length<v.length\/(u.length=v.length/\ki u v=true)
def nS{a b:Nat}{c d:f'}(h:a≠b):ki (a::c) (b::d)=decide (a<b):=by
 unfold ki;rw[ni,wA h];rfl
def ud{a:Nat}{c d:f'}:ki (a::c) (a::d)=ki c d:=by
 unfold ki;rw[ni,wB rZ];cases ni c d with
 |none=>simp
 |some b=>rfl
theorem Hy:∀{i e j:f'},i.length=e.length->e.length=j.length->ki i e=true->ki e j=true->ki i j=true
 | [],[],_,_,_,h,_=>by rw[ze]at h;cases h
 | [],_::_,_,h,_,_,_=>by simp at h
 |_::_,[],_,h,_,_,_=>by simp at h
 |_::_,_::_,[],_,h,_,_=>by simp at h
 | a::i,b::e,c::j,l,m,f,d=>by
  by_cases k:a=b
  .subst k;rw[ud]at f;by_cases g:a=c
   .subst g;rw[ud]at d|-;exact Hy (by simpa using l) (by simpa using m) f d
   .rw[nS g]at d|-;exact d
  .rw[nS k]at f;have n:a<b:=lR f;by_cases g:b=c
   .subst g;rw[nS k];exact f
   .rw[nS g]at d;have o:b<c:=lR d;rw[nS ()];exact iG ()
theorem Es:∀{c d g i:f'},c.length=d.length->ki c d=true->ki (c++g) (d++i)=true
 | [],[],_,_,_,h=>by rw[ze]at h;cases h
 | [],_::_,_,_,h,_=>by simp at h
 |_::_,[],_,_,h,_=>by simp at h
 | a::c,b::d,g,i,j,e=>by
  by_cases f:a=b
  .subst f;rw[wO,wO,ud];rw[ud]at e;exact Es (by simpa using j) e
  .rw[wO,wO,nS f];rw[nS f]at e;exact e
def Ll(c:f'){a b:Nat}(h:a<b):ki (c++[a]) (c++[b])=true:=by
 induction c with
 |nil=>exact(nS ()).trans (iG h)
 |cons x c d=>rw[wO,wO,ud];exact d
def tD{u v x:f'}(a:sl u v)(b:sl v x):sl u x:=by
 rcases a with a|⟨c,l1⟩<;>rcases b with b|⟨d,l2⟩
 .exact .inl ()
 .exact .inl ()
 .exact .inl ()
 .exact .inr #[(),Hy c d l1 l2]
def zl{u:f'}(h:sl u u):False:=by
 rcases h with h|⟨_,h⟩
 .lia
 .rw[ze]at h;cases h
def Dh{u v:f'}{a b:Nat}(h:sl u v):sl (u++[a]) (v++[b]):=by
 rcases h with h|⟨e,l⟩
 .exact .inl (by simp;lia)
 .exact .inr #[by simp[e],Es e l]
def vO(u:f'){a b:Nat}(h:a<b):sl (u++[a]) (u++[b]):= .inr #[by simp,Ll u h]
def r6(u v:f'):Prop:=u=v\/sl u v
def Mr{u v x:f'}(h1:r6 u v)(h2:r6 v x):r6 u x:=by
 rcases h1 with rfl|h1
 .exact h2
 .rcases h2 with rfl|h2
  .exact .inr h1
  .exact .inr (tD h1 h2)
def Im{u v:f'}{a:Nat}(h:r6 u v):r6 (u++[a]) (v++[a]):=by
 rcases h with rfl|h
 .exact .inl rfl
 .exact .inr (Dh h)
section
variable(f:f'->Nat->List Nat)(L:Nat)(x0:f')
abbrev TW:=List (f'×f')
def jw(word:f'):f':=word.foldl f x0
def Goes(a:TW)(p:f'×f')(l:Nat):Prop:=∃u,(f p.1 l,u)∈a/\r6 u (p.2++[l])
structure Told(ws:TW):Prop where
 head:ws[0]?=some (x0,[])
 keys:(ws.map (·.1)).Nodup
 run:∀p∈ws,(∀l∈p.2,l<L)/\jw f x0 p.2=p.1
 up:ws.Pairwise λp q=>sl p.2 q.2
 all:∀p∈ws,∀l,l<L->Goes f ws p l
 short:∀p∈ws,p.2.length<ws.length
structure Bfs(d:Nat)(ws wv fo:TW)(i j:Nat):Prop where
 head:ws[0]?=some (x0,[])
 keys:(ws.map (·.1)).Nodup
 run:∀p∈ws,(∀l∈p.2,l<L)/\jw f x0 p.2=p.1
 up:ws.Pairwise λp q=>sl p.2 q.2
 len:∀p∈ws,p.2.length<=d+1
 wave:∀p∈wv,p∈ws/\p.2.length=d
 wup:wv.Pairwise λp q=>sl p.2 q.2
 foll:∀p∈fo,p∈ws/\p.2.length=d+1
 fup:fo.Pairwise λp q=>sl p.2 q.2
 front:∀p∈ws,∀t,wv[i]?=some t->sl p.2 (t.2++[j])
 done:∀p∈ws,p∈fo\/(∃a,i<=a/\wv[a]?=some p)\/∀l,l<L->Goes f ws p l
 part:∀t,wv[i]?=some t->∀l,l<j->Goes f ws t l
 short:∀p∈ws,p.2.length<ws.length
variable{f L x0}{d i j:Nat}{ws wv fo:TW}{t:f'×f'}
def Goes.more{p q:f'×f'}{l:Nat}(h:Goes f ws p l):Goes f (ws++[q]) p l:=by
 obtain⟨u,a,b⟩:=h;exact#[u,rB _ a,b]
def Bfs.start:Bfs f L x0 0 [(x0,[])] [(x0,[])] [] 0 0 where
 head:=rfl
 keys:=by simp
 run:=λp a=>by
  rw[h9.mp a];exact#[λ_ h=>(nomatch h),rZ]
 up:=sh _ _
 len:=λp a=>by rw[h9.mp a];simp
 wave:=λp a=>#[a,by rw[h9.mp a];rfl]
 wup:=sh _ _
 foll:=λ_ h=>nomatch h
 fup:= .nil
 front:=λp a t _=>by
  rw[h9.mp a];exact .inl (by simp)
 done:=λp a=> .inr (.inl #[0,gS _,by rw[h9.mp a];rfl])
 part:=λ_ _ _ h=>wC h (pk _)
 short:=λp a=>by rw[h9.mp a];simp
def Bfs.old(b:Bfs f L x0 d ws wv fo i j)(ht:wv[i]?=some t)(k:f t.1 j∈ws.map (·.1)):Bfs f L x0 d ws wv fo i (j+1):=by
 obtain⟨p,h,e⟩:=hX.mp k;refine {b with front:=λq m c a=>?_,part:=λc a l g=>?_}
 .exact tD (b.front q m c a) (vO _ (pT _))
 .rcases Nat.lt_succ_iff_lt_or_eq.mp g with g|rfl
  .exact b.part c a l g
  .rw[ht]at a;cases a;exact#[p.2,by rw[<-e];exact h,.inr (b.front p h t ht)]
def Bfs.new(b:Bfs f L x0 d ws wv fo i j)(ht:wv[i]?=some t)(o:j<L)(r:f t.1 j∉ws.map (·.1)):
  Bfs f L x0 d (ws++[(f t.1 j,t.2++[j])]) wv (fo++[(f t.1 j,t.2++[j])]) i (j+1):=by
 obtain⟨c,s⟩:=b.wave t (iq ht);obtain⟨u,k⟩:=b.run t c;have m:(t.2++[j]).length=d+1:=by simp[s]
 have e:0<ws.length:=List.length_pos_of_mem c;refine#[?_,?_,λp hp=>?_,?_,λp hp=>?_,λp hp=>#[rB _ (b.wave p hp).1,(b.wave p hp).2],b.wup,λp hp=>?_,?_,λp hp v a=>?_,λp hp=>?_,λv a l hl=>?_,λp hp=>?_]
 .rw[j0 e];exact b.head
 .rw[kg,wj];refine#[b.keys,by simp,λx w y n z=>?_];simp at n;subst n;exact r (z▸w)
 .rcases iC.mp hp with hp|hp
  .exact b.run p hp
  .rw[h9.mp hp];refine#[λl hl=>?_,?_]
   .rcases iC.mp hl with hl|hl
    .exact u l hl
    .rw[h9.mp hl];exact o
   .show jw f x0 (t.2++[j])=f t.1 j;unfold jw at k|-;rw[si,k];rfl
 .rw[mB];refine#[b.up,sh _ _,λp hp q g=>?_];rw[h9.mp g];exact b.front p hp t ht
 .rcases iC.mp hp with hp|hp
  .exact b.len p hp
  .rw[h9.mp hp];exact vo m
 .rcases iC.mp hp with hp|hp
  .exact#[rB _ (b.foll p hp).1,(b.foll p hp).2]
  .exact#[j6 _ hp,by rw[h9.mp hp];exact m]
 .rw[mB];refine#[b.fup,sh _ _,λp hp q g=>?_];rw[h9.mp g];exact b.front p (b.foll p hp).1 t ht
 .rw[ht]at a;cases a
  rcases iC.mp hp with hp|hp
  .exact tD (b.front p hp t ht) (vO _ (pT _))
  .rw[h9.mp hp];exact vO _ (pT _)
 .rcases iC.mp hp with hp|hp
  .rcases b.done p hp with h|h|h
   .exact .inl (rB _ h)
   .exact .inr (.inl h)
   .exact .inr (.inr λl hl=>(h l hl).more)
  .exact .inl (j6 _ hp)
 .rw[ht]at a;cases a
  rcases Nat.lt_succ_iff_lt_or_eq.mp hl with hl|rfl
  .exact(b.part t ht l hl).more
  .exact#[t.2++[l],j6 _ (h9.mpr rZ),.inl rZ]
 .rw[jc,Cj]
  rcases iC.mp hp with hp|hp
  .exact ya (b.short p hp)
  .rw[h9.mp hp];have z:=b.short t c;show(t.2++[j]).length<_
   rw[jc,Cj];lia
def Bfs.next(b:Bfs f L x0 d ws wv fo i L)(ht:wv[i]?=some t):Bfs f L x0 d ws wv fo (i+1) 0:=by
 refine {b with front:=λp g t' j=>?_,done:=λp g=>?_,part:=λ_ _ l k=>wC k (pk _)}
 .have m:=b.front p g t ht;have c:sl t.2 t'.2:=by
   obtain⟨l1,n⟩:=gV.mp ht;obtain⟨l2,o⟩:=gV.mp j;rw[<-n,<-o];exact pc.mp b.wup i (i+1) l1 l2 (pT _)
  exact tD m (Dh c)
 .rcases b.done p g with h|⟨a,m,c⟩|h
  .exact .inl h
  .rcases Nat.eq_or_lt_of_le m with e|e
   .subst e;rw[ht]at c;cases c;exact .inr (.inr λl k=>b.part t ht l k)
   .exact .inr (.inl #[a,e,c])
  .exact .inr (.inr h)
def Bfs.wave'(b:Bfs f L x0 d ws wv fo wv.length 0):Bfs f L x0 (d+1) ws fo [] 0 0:=by
 refine#[b.head,b.keys,b.run,b.up,λp c=>Nat.le_succ_of_le (b.len p c),b.foll,b.fup,λ_ h=>(nomatch h),.nil,λp c t ht=>?_,λp c=>?_,λ_ _ l j=>wC j (pk _),b.short]
 .have i:=b.len p c;have g:=(b.foll t (iq ht)).2;exact .inl (by simp;lia)
 .rcases b.done p c with h|⟨a,i,g⟩|h
  .obtain⟨a,e⟩:=jk.mp h;exact .inr (.inl #[a,lV _,e])
  .rw[ot i]at g;cases g
  .exact .inr (.inr h)
def Bfs.told(b:Bfs f L x0 d ws [] [] 0 0):Told f L x0 ws:=#[b.head,b.keys,b.run,b.up,λp c=>by
 rcases b.done p c with h|⟨a,_,h⟩|h
 .nomatch h
 .simp at h
 .exact h,b.short]
theorem Told.least(T:Told f L x0 ws):∀(n:Nat) (v:f'),v.length=n->(∀l∈v,l<L)->∃u,(jw f x0 v,u)∈ws/\r6 u v
 |0,v,a,_=>by
  have e:v=[]:=rD.mp a;subst e;exact#[[],iq T.head,.inl rZ]
 | n+1,v,a,c=>by
  obtain⟨b,l,rfl⟩:∃b l,v=b++[l]:=#[v.dropLast,v.getLast (by intro z;rw[z]at a;cases a),(E3 _).symm];obtain⟨u,d,g⟩:=T.least n b (by simp at a;lia) λx h=>c x (List.mem_append_left _ h);obtain⟨i,j,k⟩:=T.all _ d l (c l (j6 _ (h9.mpr rZ)));refine#[i,?_,Mr k (Im g)];have e:jw f x0 (b++[l])=f (jw f x0 b) l:=by
   unfold jw;rw[si];rfl
  rw[e];exact j
def uk{U:LN}(b:x0∈U)(c:∀x∈U,∀l,l<L->f x l∈U):∀word:f',(∀l∈word,l<L)->jw f x0 word∈U:=by
 have go:∀(word:f') (x:f'),x∈U->(∀l∈word,l<L)->word.foldl f x∈U:=by
  intro word
  induction word with
  |nil=>intro x a _;exact a
  |cons l word d=>intro x a h;exact d _ (c x a l (h l (iO ..))) λy e=>h y (ja _ e)
 exact λword h=>go word x0 b h
def rE{U:LN}{l:LN}(a:l.Nodup)(h:∀x∈l,x∈U):l.length<=U.length:=BJ a h
end
def Hl{u v:f'}(a:sl u v)(b:sl v u):False:=zl (tD a b)
def K6{u v:f'}(h1:r6 u v)(h2:r6 v u):u=v:=by
 rcases h1 with h1|h1
 .exact h1
 .rcases h2 with h2|h2
  .exact h2.symm
  .exact(Hl h1 h2).elim
theorem FS:∀{a b:TW},(a.Pairwise λp q=>sl p.2 q.2)->(b.Pairwise λp q=>sl p.2 q.2)->(∀p,p∈a↔p∈b)->a=b
 | [],[],_,_,_=>rfl
 | [],q::b,_,_,h=>wC ((h q).mpr (iO ..)) (by simp)
 |p::a,[],_,_,h=>wC ((h p).mp (iO ..)) (by simp)
 | p::a,q::b,g,i,h=>by
  obtain⟨d,j⟩:=yb.mp g;obtain⟨f,k⟩:=yb.mp i;have l:p=q:=by
   rcases iu.mp ((h p).mp (iO ..))with e|e
   .exact e
   .rcases iu.mp ((h q).mpr (iO ..))with e'|e'
    .exact e'.symm
    .exact(Hl (f p e) (d q e')).elim
  subst l;have rest:a=b:=FS j k λr=>by
   constructor
   .intro c
    rcases iu.mp ((h r).mp (ja _ c))with e|e
    .subst e;exact(zl (d r c)).elim
    .exact e
   .intro c
    rcases iu.mp ((h r).mpr (ja _ c))with e|e
    .subst e;exact(zl (f r c)).elim
    .exact e
  rw[rest]
def Told.sub{f:f'->Nat->List Nat}{L:Nat}{b:f'}{g h:TW}(T:Told f L b g)(k:Told f L b h){p:f'×f'}(l:p∈g):p∈h:=by
 obtain⟨o,q⟩:=T.run p l;obtain⟨u,a,r⟩:=k.least _ p.2 rZ o;rw[q]at a;obtain⟨s,t⟩:=k.run _ a;obtain⟨v,m,n⟩:=T.least _ u rZ s;have e:jw f b u=p.1:=t;rw[e]at m;have same:v=p.2:=by
  obtain⟨i,c⟩:=jk.mp m;obtain⟨j,d⟩:=jk.mp l;have w:i=j:=(rf (by rw[gL];exact(gV.mp c).1) T.keys).mp (by rw[hA,hA,c,d];rfl);subst w;rw[c]at d;have z:=lX d;rw[<-z]
 rw[same]at n;have x:u=p.2:=K6 r n;rw[x]at a;exact a
def Told.uniq{f:f'->Nat->List Nat}{L:Nat}{b:f'}{c d:TW}(T:Told f L b c)(a:Told f L b d):c=d:=FS T.up a.up λp=>#[λh=>T.sub a h,λh=>a.sub T h]
section
variable{P:Pg}{w:World}{A:Ar}{E:VP}{s:Sh}{it d:Ad}{i f:Nat}{j:Array DictEntry}
abbrev og(k v:Vl):Obj:={cls:= .type "tuple",data:= .seq #v[k,v]}
abbrev t7(a:Vl)(b:Bool)(d:Ad)(i n f:Nat)(k v:Vl):Obj:={cls:= .type "dict_itemiterator",data:= .fields #v[a,.bool b,.ref d,.int i 0,.int n 0,.int f 0,k,v]}
def Lies(h:Heap)(d:Ad)(j:Array DictEntry)(f:Nat):Prop:=∃o,h.get? d=some o/\o.ExactDict/\o.data=.dict j f
def Goer(h:Heap)(it d:Ad)(i n f:Nat):Prop:=∃b c k v,h.get? it=some (t7 b c d i n f k v)/\(b=.none\/∃a:Nat,b=rawInt a/\a≠it/\∃o,h.get? a=some o)
def Goer.keep{h j:Heap}{n:Nat}(g:Goer h it d i n f)(k:∀o,h.get? it=some o->j.get? it=some o)(l:∀b o,h.get? b=some o->∃q,j.get? b=some q):Goer j it d i n f:=by
 obtain⟨m,p,x,v,e,c⟩:=g;refine#[m,p,x,v,k _ e,c.imp id ?_];rintro⟨a,r,s,o,t⟩;exact#[a,r,s,l a o t]
def NB{j:Vl}{g:Bool}{n:Nat}{B C k v:Vl}{Q:VP}(e:s.heap.get? it=some (t7 j g d i n f B C))(c:j=.none\/∃a:Nat,j=rawInt a/\a≠it/\∃o,s.heap.get? a=some o)(q:∀u,Goer u it d i n f->u.get? s.heap.objs.size=some (og k v)->(∀b o,b≠it->s.heap.get? b=some o->u.get? b=some o)->Q (.ref s.heap.objs.size) {s with heap:=u}):
  wpAny (model P w) A (Builtin.Dict_items.pairFromOwner (.ref it) 6 k v) Q E s:=by
 have lt:it<s.heap.objs.size:=hV e;unfold Builtin.Dict_items.pairFromOwner;refine gH (wpAny_newTuple ?_);have h:=ig (og k v) e;have l:(s.heap.push (og k v)).get? s.heap.objs.size=some (og k v):=i4 _ rfl;have y:∀b o,s.heap.get? b=some o->(s.heap.push (og k v)).get? b=some o:=λb o z=>ig _ z;have D:s.heap.objs.size≠it:=pp lt
 rcases c with rfl|⟨a,rfl,G,o,N⟩
 .have free:∀{R:Bool->Sh->Prop} {H:Sh},H.heap.get? it=some (t7 .none g d i n f B C)->R true H->wpAny (model P w) A (Builtin.Dict_items.ownedTupleIsFree (.ref it)) R E H:=λe r=>by
   unfold Builtin.Dict_items.ownedTupleIsFree;exact gH (qx e rZ (x:= .none) rZ (gK r))
  refine gH (free h ?_);rw[wB rZ];refine gH (qx h rZ (x:=B) rZ (gH (qx h rZ (x:=C) rZ ?_)));refine gH (oS h (by simp) λL I p=>wpAny_bind (wpAny_setField_rec I (by simp) λh3 O T=>?_));refine gH (oS O (by simp) λh4 U Y=>wpAny_bind (wpAny_setField_rec U (by simp) λh5 e5 s5=>wpAny_bind (wpAny_letGo (wpAny_pure ?_))));have M:=((p.trans T).trans Y).trans s5;have t:=M.extBut _ _ D l;exact q h5 #[_,_,_,_,e5,.inr #[_,rZ,D,_,t]] t λb o J z=>M.extBut _ _ J (y b o z)
 .have a1:=y a o N;refine gH (m:=Builtin.Dict_items.ownedTupleIsFree _) ?_;unfold Builtin.Dict_items.ownedTupleIsFree;refine gH (qx h rZ (x:=rawInt a) rZ ?_);have alive:∀{R:Option Obj->Sh->Prop},R (some o) {s with heap:=s.heap.push (og k v)}->wpAny (model P w) A (loadIfAlive ((a:Int).toNat)) R E {s with heap:=s.heap.push (og k v)}:=λ{R} r=>by
   rw[pN];exact λ_ _ _=>show R ((s.heap.push (og k v)).get? a) _ by rw[a1];exact r
  refine show wpAny _ _ (loadIfAlive ((a:Int).toNat) >>= _) _ _ _ from gH (alive ?_)
  refine gH (m:=field _ _) (qx h rZ (x:= .bool g) rZ ?_);cases g with
  |true=>exact gK (gK (q _ #[_,_,_,_,h,.inr #[a,rZ,G,o,a1]] l λb o _ z=>y b o z))
  |false=>
   refine gH (m:=setField _ _ _) (oS h (by simp) λL I p=>wpAny_pure (wpAny_pure ?_));exact q L #[_,_,_,_,I,.inr #[a,rZ,G,o,p.extBut _ _ G a1]] (p.extBut _ _ D l) λb o J z=>p.extBut _ _ J (y b o z)
end
section
variable{P:Pg}{w:World}{A:Ar}{E:VP}{s:Sh}{it d:Ad}{i g:Nat}{f:Array DictEntry}
def Ji{h:DictEntry}{Q:Option Vl->Sh->Prop}(G:Goer s.heap it d i f.size g)(L:Lies s.heap d f g)(x:f[i]?=some h)(q:∀n,Goer n it d (i+1) f.size g->n.get? s.heap.objs.size=some (og h.key h.val)->(∀b o,b≠it->s.heap.get? b=some o->n.get? b=some o)->Q (some (.ref s.heap.objs.size)) {s with heap:=n}):
  wpAny (model P w) A (pyNext (.ref it)) Q E s:=by
 obtain⟨p,r,I,J,e,c⟩:=G;obtain⟨o,y,_,B⟩:=L;have ty:s.TypeIs (.ref it) "dict_itemiterator":=#[_,e,rZ];have lt:i<f.size:=(nj.mp x).1;unfold pyNext;refine gH (qd (rP (name:=Str.ofString "__next__") ty yy (m7 yy ty EO ?_ (GQ _))));refine gH (gK (gH (gH ?_)));refine gH (zt ty (gK (gH (tp e rZ ?_))));have k:Builtin.Dict_items.ownsTuple "dict_itemiterator"=true:=by decide
 simp only[k,if_true];refine show wpAny _ _ (if(Value.ref d==Value.none)=true then _ else _) _ _ s from(wA (show ¬((Value.ref d==Value.none)=true)from ky))▸gH (gK (gH (u5 y B ?_)))
 rw[wA (by simp)];refine gH (gK (gH (xm y B ?_)));rw[wA (by simp)];refine gK ?_;have t:(if((i:Nat):Int)<0 then none else f[((i:Nat):Int).toNat]?)=some h:=by
  rw[wA (),pN];exact x
 show wpAny _ _ (match (if((i:Nat):Int)<0 then none else f[((i:Nat):Int).toNat]?)with|some e=>_|none=>_) _ _ s;rw[t];refine gH (gH (zt ty (gK (gH (Cm ty ?_)))));refine show wpAny _ _ (setField (.ref it) 3 (rawInt ((i:Int)+1)) >>= _) _ _ s from gH (oS e (by simp) λj M u=>wpAny_bind (wpAny_holding ?_))
 have l:j.get? it=some (t7 p r d (i+1) f.size g I J):=by
  have z:((i+1:Nat):Int)=(i:Int)+1:=by lia
  unfold t7;rw[z];simpa[rawInt]using M
 have m:Shared.TypeIs {s with heap:=j} (.ref it) "dict_itemiterator":=#[_,l,rfl];refine gH (Cm m (gH (Cm m ?_)));have sz:j.objs.size=s.heap.objs.size:=u.1;refine show wpAny _ _ (Builtin.Dict_items.pairFromOwner (.ref it) 6 h.key h.val) _ _ {s with heap:=j}from NB (s:={s with heap:=j}) l (c.imp id ?_) λC N O k2=>?_
 .rintro⟨a,T,D,U,z⟩;exact#[a,T,D,U,u.extBut _ _ D z]
 .have v:C.get? s.heap.objs.size=some (og h.key h.val):=by rw[<-sz];exact O
  show wpAny _ _ (ret (.ref j.objs.size)) _ _ _;rw[sz];exact gK #[_,rZ,gK (q C N v λb o H z=>k2 b o H (u.extBut _ _ H z))]
def Jl{Q:Option Vl->Sh->Prop}(p:A.handled=none)(G:Goer s.heap it d i f.size g)(L:Lies s.heap d f g)(r:f[i]?=none)(q:∀k,Heap.ExtBut it s.heap k->Q none {s with heap:=k}):wpAny (model P w) A (pyNext (.ref it)) Q E s:=by
 obtain⟨t,u,y,B,e,c⟩:=G;obtain⟨o,l,_,n⟩:=L;have ty:s.TypeIs (.ref it) "dict_itemiterator":=#[_,e,rZ];unfold pyNext;refine gH (qd (rP (name:=Str.ofString "__next__") ty yy (m7 yy ty EO ?_ (GQ _))));refine gH (gK (gH (gH ?_)));refine gH (zt ty (gK (gH (tp e rZ ?_))));have h:Builtin.Dict_items.ownsTuple "dict_itemiterator"=true:=by decide
 simp only[h,if_true];refine show wpAny _ _ (if(Value.ref d==Value.none)=true then _ else _) _ _ s from(wA (show ¬((Value.ref d==Value.none)=true)from ky))▸gH (gK (gH (u5 l n ?_)))
 rw[wA (by simp)];refine gH (gK (gH (xm l n ?_)));rw[wA (by simp)];refine gK ?_;have j:(if((i:Nat):Int)<0 then none else f[((i:Nat):Int).toNat]?)=none:=by
  rw[wA (),pN];exact r
 show wpAny _ _ (match (if((i:Nat):Int)<0 then none else f[((i:Nat):Int).toNat]?)with|some e=>_|none=>_) _ _ s;rw[j];refine gH (gH (zt ty (gK ?_)));refine show wpAny _ _ (setField (.ref it) 2 .none >>= _) _ _ s from gH (oS e (by simp) λC D v=>?_)
 refine gH (m:=newExc _ _) ?_;simp only[newExc,newTuple];refine gH (pq ?_ (by size_fits));refine gH (m:=firstArgMember _ _) (vN (a:=Value.none) (by first|rfl|(unfold firstArgMember;rfl)) (wpAny_newObj_type ?_ (by size_fits)));refine xZ (by simpa using p) (wpAny_bind (wpAny_isInstance (T:="StopIteration") (b:=true) #[_,Heap.get?_push_size _ rZ,rZ] isSubtype_stop (wpAny_pure ?_)));exact q _ λb o x z=>ig _ (ig _ (v.extBut b o x z))
end
structure PMade(es:Array DictEntry)(lo:Ad)(h:Heap)(as:As):Prop where
 far:∀a∈as,lo<a
 up:as.Pairwise (· < ·)
 is:∀(j:Nat) (a:Ad),as[j]?=some a->∃en:DictEntry,es[j]?=some en/\h.get? a=some (og en.key en.val)
def PMade.nil{a:Array DictEntry}{lo:Ad}{h:Heap}:PMade a lo h []:=#[λ_ z=>(nomatch z),.nil,λ_ _ z=>by simp at z]
def PMade.here{c:Array DictEntry}{lo:Ad}{h:Heap}{b:As}(m:PMade c lo h b):∀a∈b,a<h.objs.size:=λa d=>by
 obtain⟨j,e⟩:=jk.mp d;obtain⟨_,_,g⟩:=m.is j a e;exact hV g
def PMade.keep{c:Array DictEntry}{lo:Ad}{h d:Heap}{f:As}(m:PMade c lo h f)(k:∀b o,lo<b->h.get? b=some o->d.get? b=some o):PMade c lo d f:=
 #[m.far,m.up,λj a e=>by
  obtain⟨i,x,g⟩:=m.is j a e;exact#[i,x,k a _ (m.far a (iq e)) g]]
def PMade.more{i:Array DictEntry}{lo a:Ad}{h:Heap}{d:As}{f:DictEntry}(m:PMade i lo h d)(o:lo<a)(new:∀b∈d,b<a)(x:i[d.length]?=some f)(g:h.get? a=some (og f.key f.val)):PMade i lo h (d++[a]):=
  #[λb k=>by
    rcases iC.mp k with z|z
    · exact m.far b z
    · rw[h9.mp z];exact o,
   mB.mpr #[m.up,sh _ _,λb k c p=>by rw[h9.mp p];exact new b k],
   λj b e=>by
    by_cases l:j<d.length
    · rw[j0 l]at e
      exact m.is j b e
    · rw[ku (Aq l)]at e
      obtain⟨z,n⟩:=gV.mp e;have r:j-d.length=0:=by simp at z;lia
      have q:j=d.length:=by lia
      subst q;simp at n;subst n;exact#[f,x,g]]
section
variable{P:Pg}{w:World}{A:Ar}{R:Result->Sh->Prop}{S I d:Ad}{g:Nat}{a:Array DictEntry}{f:Vl}
abbrev zb(h:Heap)(S:Ad)(a:AV)(c:Nat):Prop:=h.get? S=some {cls:= .type "list",data:= .seq a c}
def fill(T:A.handled=none)(E:S<I)(U:d≠S)(Y:d≠I)(aa:a.size<=sizeLine):∀(r i:Nat) (s:Sh) (h:As) (c:Nat),i+r=a.size->h.length=i->Goer s.heap I d i a.size g->Lies s.heap d a g->
      zb s.heap S (h.map Value.ref).toArray c->PMade a I s.heap h->
      (∀j bs u,bs.length=a.size->PMade a I j bs->zb j S (bs.map Value.ref).toArray u->(∀b o,b≠S->b≠I->s.heap.get? b=some o->j.get? b=some o)->R (.ok (.ret f)) {s with heap:=j})->
      codeAny (model P w) A (.builtin "list.extend.loop" #[[.ref S,.ref I,f],[]]) R s:=by
  have k:S≠I:=iW E;intro r
  induction r with
  | zero=>
    intro i s h c hi v G L t M q;refine n6 F.entry_extend_loop ?_;rw[pC xr _];refine show wpAny _ A.in1 (pyNext (.ref I) >>= _) _ _ s from gH (Jl (by simpa using T) G L (Array.getElem?_eq_none ()) λj x=>wpAny_pure ?_)
    exact q j h c () (M.keep λb o l e=>x b o (pp l) e) (x S _ k t) λb o _ y e=>x b o y e
  | succ r ih=>
    intro i s h c hi v G L t M q;obtain⟨H,J⟩:∃H,a[i]?=some H:=#[a[i]'(),mK ()];have z:I<s.heap.objs.size:=by
      obtain⟨_,_,_,_,e,_⟩:=G;exact hV e
    have B:S<s.heap.objs.size:=hV t;refine n6 F.entry_extend_loop ?_;rw[pC xr _];refine show wpAny _ A.in1 (pyNext (.ref I) >>= _) _ _ s from gH (Ji G L J λm G1 p1 k1=>?_)
    have n:=k1 S _ k t;refine show wpAny _ A.in1 (updateSeq S (·.push (Value.ref s.heap.objs.size)) >>= _) _ _ {s with heap:=m}from gH (vF n rfl (gK #[pb xr _,?_]) ?_ ?_)
    · have off:∀b o,b≠S->m.get? b=some o->(m.update S (Obj.mapSeq (·.push (Value.ref s.heap.objs.size)))).get? b=some o:=λb o y e=>(mM _ _ (jd y)).trans e
      have p:=rq (Obj.mapSeq (·.push (Value.ref s.heap.objs.size))) n rfl;obtain⟨C,h0,x0,y0⟩:=L;have M1:PMade a I m h:=M.keep λb o l e=>k1 b o (pp l) e
      refine ih (i+1) {s with heap:=m.update S (Obj.mapSeq (·.push (Value.ref s.heap.objs.size)))} (h++[s.heap.objs.size]) _ () (by simp[v]) (G1.keep (λo e=>off I o (Ne.symm k) e) λb o e=>?_)
        #[C,off d C U (k1 d C Y h0),x0,y0] (by simpa[Obj.mapSeq,List.map_append]using p) ?_ λj bs u l' M' D k'=>q j bs u l' M' D λb o N O e=>k' b o N O (off b o N (k1 b o O e))
      · by_cases Q:b=S
        · subst Q
          exact#[_,p]
        · exact#[o,off b o Q e]
      · exact(M1.keep λb o l e=>off b o (pp (wk E l)) e).more z M.here (v▸J) (off _ _ (pp B) p1)
    · simp;lia
    · simp;lia
end
section
variable{P:Pg}{w:World}{A:Ar}{E:VP}{s:Sh}{v d:Ad}{g:Nat}{f:Array DictEntry}
abbrev u7(d:Ad):Obj:={cls:= .type "dict_items",data:= .fields #v[.ref d]}
def Lies.typeIs{s:Sh}(L:Lies s.heap d f g):s.TypeIs (.ref d) "dict":=let⟨o,h,x,_⟩:=L;#[o,h,x.1]
def Je{Q:VP}(a:(d==sysModules)=false)(L:Lies s.heap d f g)(q:Q (.ref s.heap.objs.size) {s with heap:=s.heap.push (u7 d)}):wpAny (model P w) A (call (.builtin "dict.items") [.ref d]) Q E s:=by
 refine call_meetsIn (S:=λ_ R s=>Lies s.heap d f g/\R (.ok (.ret (.ref s.heap.objs.size))) {s with heap:=s.heap.push (u7 d)}) F.slot_dict_items L.typeIs F.entry_dict_items (F.args_dict_items_1 _) (.of_wp λA R s ⟨L,r⟩=>?_) #[L,q];unfold Builtin.«dict.items» Builtin.Dict.noArgs;refine gH (gH (wpAny_notOrdered_dict L.typeIs ?_));refine show wpAny _ _ (pure d) _ _ s from gK (show wpAny _ _ (Builtin.Dict.showsAll d >>= _) _ _ s from ?_)
 have all:Builtin.Dict.showsAll d=pure Unit.unit:=by
  unfold Builtin.Dict.showsAll;rw[a];rfl
 rw[all];exact gH (gK (gH (pq (gK #[_,rZ,r]))))
def Kb{Q:VP}(a:s.heap.get? v=some (u7 d))(L:Lies s.heap d f g)(q:Q (.ref s.heap.objs.size) {s with heap:=s.heap.push (t7 .none false d 0 f.size g .none .none)}):wpAny (model P w) A (pyIter (.ref v)) Q E s:=by
 have ty:s.TypeIs (.ref v) "dict_items":=#[_,a,rZ];obtain⟨o,b,_,c⟩:=L;refine t9 ty F.slot_dict_items_iter (m7 F.slot_dict_items_iter ty F.entry_dict_items_iter ?_ (F.args_dict_items_iter_1 _));unfold Builtin.«dict_items.__iter__» Builtin.Dict_items.dictOf Builtin.Dict_items.newIterator;refine gH (gK (gH (gH (qx a rZ (x:= .ref d) rZ (gK (gH (gH (u5 b c (gH (xm b c ?_))))))))));refine show wpAny _ _ (newFields "dict_itemiterator" [.none,.bool false,.ref d,rawInt 0,rawInt (f.size:Nat),rawInt (g:Nat),.none,.none]) _ _ s from pq (gK #[_,rZ,"dict_itemiterator",_,#[_,i4 _ rZ,rZ],yy.lookup,q]) (by size_fits)
def Nm{Q:Bool->Sh->Prop}(ty:s.TypeIs (.ref v) "dict_items")(q:Q false s):wpAny (model P w) A (Builtin.List.listLengthHint (.ref v)) Q E s:=PySem.W.kdx_hint ty q
def KS{Q:VP}(hh:A.handled=none)(N:s.heap.get? v=some (u7 d))(L:Lies s.heap d f g)(D:f.size<=sizeLine)(q:∀j n c k,n.length=f.size->PMade f s.heap.objs.size j n->zb j s.heap.objs.size (n.map Value.ref).toArray c->(∀b o,s.heap.get? b=some o->j.get? b=some o)->Q (.ref s.heap.objs.size) {s with heap:=j,toks:=k}):
  wpAny (model P w) A (call (.type "list") [.ref v]) Q E s:=by
 let S:=s.heap.objs.size
 obtain⟨o,G,x,O⟩:=id L;have ld:d<S:=hV G;have lv:v<S:=hV N;refine callType_codes (Q₁:=λobj p=>obj=.ref S/\p={s with heap:=s.heap.push {cls:= .type "list",data:= .seq #v[]}}) F.called_list (F.typeCall_list_1 _) F.entry_list_init (code_list_new _ #[rfl,rfl]) λobj s1 z=>?_;obtain⟨rfl,rfl⟩:=z;have C:zb (s.heap.push {cls:= .type "list",data:= .seq #v[]}) S #v[] 0:=i4 _ rfl;refine#[#[_,C,rZ],F.args_list_init_2 _ _,?_];unfold Builtin.«list.__init__» Builtin.List.listItems;refine gH (gH (wpAny_seqItems C rZ (gK ?_)));refine gH (m:=updateSeq S _) (vF C rZ (gH (u9 ?_)));have H:=rq (Obj.mapSeq (λ_=>(#v[]:AV))) C rfl
 let t:=(s.heap.push {cls:= .type "list",data:= .seq #v[]}).update S (Obj.mapSeq (λ_=>(#v[]:AV)))
 have k1:∀b o,s.heap.get? b=some o->t.get? b=some o:=λb o e=>(mM _ _ (pp (hV e))).trans (ig _ e);have I:t.objs.size=S+1:=by
  show(Heap.update _ _ _).objs.size=_;simp[Heap.update,Heap.push,S]
 have go:∀(l:Heap) (c k:Nat),zb l S #v[] c->(∀b o,b≠S->(t.push (t7 .none false d 0 f.size g .none .none)).get? b=some o->l.get? b=some o)->
   codeAny (model P w) A.in1 (.builtin "list.extend.loop" #[[.ref S,.ref t.objs.size,.none],[]]) (wants (λr u=>r=Value.none/\Q (Value.ref S) u) E) {s with heap:=l,toks:=k}:=λl c k l2 k2=>by
  have y:S<t.objs.size:=by rw[I];exact pT _
  have k12:∀b o,s.heap.get? b=some o->l.get? b=some o:=λb o e=>k2 b o (iW (hV e)) (ig _ (k1 b o e));refine fill (by simpa using hh) y (Nat.ne_of_lt ld) (Nat.ne_of_lt (Nat.lt_trans ld y)) D f.size 0 {s with heap:=l,toks:=k} [] c () rfl #[_,_,_,_,k2 _ _ (Nat.ne_of_gt y) (Heap.get?_push_size _ rfl),.inl rfl] #[o,k12 d o G,x,O] l2 .nil λj n c' l' J M k'=>?_;refine#[rZ,q j n c' k l' #[λa ha=>wk y (J.far a ha),J.up,J.is] M λb o e=>?_];have U:b<S:=hV e;exact k' b o (iW U) (iW (wk U y)) (k12 b o e)
 refine show wpAny _ _ (Builtin.List.listExtendWith (.ref S) (.ref v) .none) _ _ _ from ?_
 unfold Builtin.List.listExtendWith;have h:=k1 v _ N;refine gH (wpAny_typeOf (T:="dict_items") #[_,h,rZ] ?_);have no:(Builtin.List.listSameRef (.ref S) (.ref v) || Value.type "dict_items"==Value.type "list" || Value.type "dict_items"==Value.type "tuple")=false:=by
  have z:Builtin.List.listSameRef (.ref S) (.ref v)=false:=by simp[Builtin.List.listSameRef,Nat.ne_of_gt lv]
  rw[z];decide
 rw[no,wA (by decide)];refine gH (Kb h #[o,k1 d o G,x,O] (gH (lq (Nm #[_,ig _ h,rZ] ?_))));have i:=ig (t7 .none false d 0 f.size g .none .none) H;refine BG (λ_=>?_) λ_=>gK #[pb xr _,go _ _ _ i λ_ _ _ e=>e];unfold Builtin.List.listTouch Builtin.List.listUpdate;refine gH (qu (gH (gH (m:=updateSeq S _) (vF i rZ ?_))));have B:=rq (Obj.mapSeq (·.push Value.none)) i rfl;refine show wpAny _ _ (updateSeq S (·.pop)) _ _ _ from vF (hz:=by seq_fits) B rZ (gK #[pb xr _,go _ _ _ (rq (Obj.mapSeq (·.pop)) B rZ) λb o Y e=>?_])
 rw[mM _ _ (jd Y),mM _ _ (jd Y)];exact e
end
def pQ(H:Hp):List (Ad×HO)->Hp
 | []=>H
 |p::l=>pQ (gI H p.1 p.2) l
theorem CY:∀{l:List (Ad×HO)} {H:Hp} {b:Ad},(∀p∈l,b≠p.1)->pQ H l b=H b
 | [],_,_,_=>rfl
 |p::l,H,b,n=>by
  show pQ (gI H p.1 p.2) l b=_;rw[CY λq a=>n q (ja _ a),gM (n p (iO ..))]
theorem BE:∀{l:List (Ad×HO)} {H:Hp} {p:Ad×HO},(l.map (·.1)).Nodup->p∈l->pQ H l p.1=some p.2
 | q::l,H,p,a,hp=>by
  obtain⟨b,c⟩:=nc.mp a
  rcases iu.mp hp with rfl|hp
  .show pQ (gI H p.1 p.2) l p.1=_;rw[CY λr d z=>b (hX.mpr #[r,d,z.symm]),gO]
  .exact BE (l:=l) c hp
def AC{c d:Type}{F:c->d->Prop}{l:List c}{m:List d}{j:Nat}{a:c}(r:Paired F l m)(e:l[j]?=some a):∃b,m[j]?=some b/\F a b:=by
 induction r generalizing j with
 |nil=>simp at e
 | cons h _ f=>
  cases j with
  |zero=>
   have z:=lX e;subst z;exact#[_,rZ,h]
  |succ j=>exact f (by simpa using e)
section
variable{X:Cx}
theorem Inv.tracks{Z:AO}{a:St}{g:Hp}{s s1:Sh}(I:Inv X Z a g s):∀(l:List (Ad×HO)) (H:Hp),Inv X Z a H s1->(∀p∈l,s.heap.objs.size<=p.1/\H p.1=none/\∀h,ObjOk X.prog X.w h s1.heap p.1 p.2)->(l.map (·.1)).Nodup->
  Inv X Z a (pQ H l) s1
 | [],_,c,_,_=>c
 |p::l,H,c,ok,i=>by
  obtain⟨j,k⟩:=nc.mp i;obtain⟨d,n,o⟩:=ok p (iO ..);obtain⟨u,m,v,w,r,t⟩:=I.fpOk (b:=p.1) (H':=H) d n;refine Inv.tracks I l _ (c.track n (o _) (iP I.sz d) m r t) (λq f=>?_) k;obtain⟨x,y,z⟩:=ok q (ja _ f);exact#[x,by rw[gM λe=>j (hX.mpr #[q,f,e])];exact y,z]
structure Listed(H H':Hp)(kvs:List (List ik×V))(l:Ad)(as:As):Prop where
 new:H l=none
 news:∀a∈as,H a=none
 out:l∉as
 nd:as.Nodup
 len:as.length=kvs.length
 lst:H' l=some (.lst (as.map .ref))
 is:∀(j:Nat) (a:Ad),as[j]?=some a->∃k v b,kvs[j]?=some (k,v)/\H b=some (.tup (k.map kV))/\H' a=some (.tup [.ref b,v])
 rest:∀b,b≠l->b∉as->H' b=H b
def vh(v d:Ad):HO:= .ext λh=>h.get? v=some (u7 d)
def Ml:V->List V->Hp->VK->Prop:=λx c H Q=>c=[]/\∃a b,x=.ref a/\H a=some (.dT b)/\∀v,H v=none->Q (.ref v) (gI H v (vh v a))
def G5:Au X "dict.items" Ml:=by
 intro Z s n H x p u r Q I b c h;obtain⟨rfl,a,d,rfl,f,q⟩:=h;cases b;cases c;obtain⟨z,g,t,i,o,v,w,j,l,m,_⟩:=I.hok a _ f;refine Je g #[o,j,l,m] #[.ref s.heap.objs.size,_,I.laid (a:=s.heap.objs.size) (o:=vh s.heap.objs.size a) (t':=s.toks) (λ_ _ q=>ig _ q) (gS _) ?_,rZ,q _ I.fresh];have e:(s.heap.push (u7 a)).get? s.heap.objs.size=some (u7 a):=i4 _ rfl;exact#[e,#[_,e],λA B y k=>k _ y]
inductive lJ(c:List V)(H:Hp)(Q:VK):Prop|mk:∀v a b,c=[.ref v]->H v=some (vh v a)->H a=some (.dT b)->(∀l e d,Listed H d b l e->Q (.ref l) d)->lJ c H Q
def EY(hc:X.calm=true):mE X (.type "list") lJ:=by
 intro Z s σ H xs us Q I r h;obtain⟨v,a,t,rfl,hv,ha,q⟩:=h;obtain⟨u,rfl,ru⟩:=mi r;cases ru;obtain⟨ev,_,_⟩:=I.hok v _ hv;obtain⟨z,na,ys,E,o,es,ep,e1,e2,e3,e4,_⟩:=I.hok a _ ha;have el:es.size=t.length:=by rw[zx e4,<-rh E]
 refine KS (I.ok.hd hc) ev #[o,e1,e2,e3] () λD f c tk ln M lS k=>?_;have I1:Inv X Z σ H {s with heap:=D,toks:=tk}:=I.kept k;have big:∀b,s.heap.objs.size<=b->H b=none:=λb n=>I.hok.fresh n;have G:f.Nodup:=M.up.imp λz=>iW z;have A:s.heap.objs.size∉f:=λm=>oC _ (M.far _ m);have J:∀(j:Nat) (b:Ad),f[j]?=some b->∃k x y,t[j]?=some (k,x)/\H y=some (.tup (k.map kV))/\∃u,RelV x u/\D.get? b=some (og (.ref y) u):=λj b d=>by
  obtain⟨en,ee,g⟩:=M.is j b d;obtain⟨jl,_⟩:=gV.mp d;obtain⟨⟨k,x⟩,ek⟩:∃p,t[j]?=some p:=#[_,gN ()];obtain⟨⟨k',y,u⟩,ey,p1,p2,p3⟩:=AC E ek;rw[entry_at e4,ey]at ee;cases ee;exact#[k,x,y,ek,p2,u,p3,g]
 have w:∀b,∃o:HO,∀j:Nat,f[j]?=some b->∃k x y,t[j]?=some (k,x)/\H y=some (.tup (k.map kV))/\o=.tup [.ref y,x]/\∃u,RelV x u/\D.get? b=some (og (.ref y) u):=λb=>by
  by_cases n:b∈f
  .obtain⟨j,d⟩:=jk.mp n;obtain⟨k,x,y,N,O,u,T,U⟩:=J j b d;refine#[.tup [.ref y,x],λi ei=>?_];have ij:j=i:=rf (gV.mp d).1 G |>.mp (d.trans ei.symm)
   subst ij;exact#[k,x,y,N,O,rZ,u,T,U]
  .exact#[.tup [],λj d=>wC (iq d) n]
 let L:Ad->HO:=λb=>Classical.choose (w b)
 have B:∀(j:Nat) (b:Ad),f[j]?=some b->∃k x y,t[j]?=some (k,x)/\H y=some (.tup (k.map kV))/\L b=.tup [.ref y,x]/\∃u,RelV x u/\D.get? b=some (og (.ref y) u):=λj b d=>xM (w b) j d;have C:(f.map λb=>(b,L b)).map (·.1)=f:=by simp[List.map_map,Function.comp_def]
 have Y:∀b∈f,∀H2,ObjOk X.prog X.w H2 D b (L b):=λb n H2=>by
  obtain⟨j,d⟩:=jk.mp n;obtain⟨k,x,y,N,O,T,u,U,h5⟩:=B j b d;rw[T];exact#[by show 2<=sizeLine;decide,[.ref y,u],.cons rZ (.cons U .nil),_,h5,rZ,0,rZ,rZ]
 have vs:∀l:As,Vals (l.map V.ref) (l.map Value.ref):=λl=>by
  induction l with
  |nil=>exact .nil
  |cons x l ih=>exact .cons rZ ih
 have I2:=Inv.tracks (s1:={s with heap:=D,toks:=tk}) I ((s.heap.objs.size,.lst (f.map .ref))::f.map λb=>(b,L b)) H I1 (λp hp=>by
   rcases iu.mp hp with rfl|hp
   .exact#[gS _,big _ (gS _),λH2=>#[by rw[gL];lia,_,c,vs f,lS]]
   .obtain⟨b,n,rfl⟩:=hX.mp hp;exact#[ng (M.far b n),big _ (ng (M.far b n)),Y b n]) (by
   rw[kz,C];exact nc.mpr #[A,G])
 refine#[.ref s.heap.objs.size,_,I2,rZ,q _ f _ #[big _ (gS _),λb n=>big _ (ng (M.far b n)),A,G,(),?_,λj b d=>?_,λb N O=>?_]]
 .exact BE (p:=(s.heap.objs.size,.lst (f.map .ref))) (by rw[kz,C];exact nc.mpr #[A,G]) (iO ..)
 .obtain⟨k,x,y,g1,g2,g3,_⟩:=B j b d;refine#[k,x,y,g1,g2,?_];rw[<-g3];exact BE (p:=(b,L b)) (by rw[kz,C];exact nc.mpr #[A,G]) (ja _ (hX.mpr #[b,iq d,rZ]))
 .refine CY λp hp=>?_
  rcases iu.mp hp with rfl|hp
  .exact N
  .obtain⟨y,hy,rfl⟩:=hX.mp hp;exact λe=>O (e▸hy)
end
def a3w(b:TW)(c:As):List (List ik×V):=List.zipWith (λp a=>(nk p.1,V.ref a)) b c
def D9{ws:TW}{as:As}{p:f'×f'}{a:Ad}(h:as.length=ws.length):a3w (ws++[p]) (as++[a])=a3w ws as++[(nk p.1,.ref a)]:=by
 unfold a3w;rw[List.zipWith_append h.symm];rfl
def wT{a:TW}{b:As}(h:b.length=a.length):(a3w a b).length=a.length:=by
 unfold a3w;rw[List.length_zipWith];lia
def DG{b:TW}{c:As}{j:Nat}{p:f'×f'}{a:Ad}(d:b[j]?=some p)(e:c[j]?=some a):(a3w b c)[j]?=some (nk p.1,.ref a):=by
 unfold a3w;rw[List.getElem?_zipWith,d,e]
theorem zg:∀{b:TW} {c:As} {x:f'},x∉b.map (·.1)->lG (a3w b c) (nk x)=none
 | [],_,_,_=>rfl
 |_::_,[],_,_=>rfl
 |p::b,a::c,x,h=>by
  have d: ¬(nk p.1:List ik)=nk x:=λz=>h (hX.mpr #[p,iO ..,uc z]);exact(rG (p:=(nk p.1,V.ref a)) (r:=a3w b c) d).trans (zg λz=>h (ja _ z))
theorem BA:∀{c:TW} {d:As} {j:Nat} {p:f'×f'} {a:Ad},(c.map (·.1)).Nodup->c[j]?=some p->d[j]?=some a->lG (a3w c d) (nk p.1)=some (.ref a)
 |q::c,b::d,0,p,a,_,e,f=>by
  cases e;cases f;exact xl (p:=(nk q.1,V.ref b)) (r:=a3w c d) rfl
 |q::c,b::d,j+1,p,a,h,e,f=>by
  obtain⟨i,k⟩:=nc.mp h;have g:c[j]?=some p:=by simpa using e
  have n: ¬(nk q.1:List ik)=nk p.1:=λz=>i (hX.mpr #[p,iq g,(uc z).symm]);exact(rG (p:=(nk q.1,V.ref b)) (r:=a3w c d) n).trans (BA k g (by simpa using f))
 | [],_,_,_,_,_,e,_=>by simp at e
 |_::_,[],_,_,_,_,_,f=>by simp at f
structure WordsAt(H:Hp)(D:Ad)(ws:TW)(as:As):Prop where
 len:as.length=ws.length
 dict:H D=some (.dT (a3w ws as))
 list:∀(j:Nat) (a:Ad) (p:f'×f'),as[j]?=some a->ws[j]?=some p->H a=some (.lst (p.2.map nv))
def WordsAt.same{H b:Hp}{D:Ad}{c:TW}{d:As}(W:WordsAt H D c d)(g:Same H b):WordsAt b D c d:=#[W.len,g _ _ W.dict,λj a p e f=>g _ _ (W.list j a p e f)]
def WordsAt.word{H:Hp}{D:Ad}{b:TW}{c:As}{p:f'×f'}(W:WordsAt H D b c)(f:(b.map (·.1)).Nodup)(g:p∈b):∃a,lG (a3w b c) (nk p.1)=some (.ref a)/\H a=some (.lst (p.2.map nv)):=by
 obtain⟨j,e⟩:=jk.mp g;obtain⟨h,_⟩:=gV.mp e;obtain⟨a,d⟩:∃a,c[j]?=some a:=#[_,gN (by rw[W.len];exact h)];exact#[a,BA f e d,W.list j a p d e]
def WordsAt.put{H:Hp}{D l:Ad}{c:TW}{e:As}{p:f'×f'}(W:WordsAt H D c e)(f:H l=some (.lst (p.2.map nv))):WordsAt (gI H D (.dT (a3w c e++[(nk p.1,.ref l)]))) D (c++[p]) (e++[l]):=by
 have g:∀{a:Ad} {k:List V},H a=some (.lst k)->a≠D:=λh=>nE h W.dict;refine#[by simp[W.len],by rw[gO,D9 W.len],λj a q d b=>?_];by_cases i:j<c.length
 .rw[j0 (by rw[W.len];exact i)]at d;rw[j0 i]at b;have z:=W.list j a q d b;rw[gM (g z)];exact z
 .rw[ku (by rw[W.len];lia)]at d;rw[ku ()]at b;have z:j-c.length=0:=by
   have:=(gV.mp b).1;simp at this;lia
  rw[W.len,z]at d;rw[z]at b;cases d;cases b;rw[gM (g f)];exact f
def noT(H:Hp):Hp:=λa=>match H a with
 |some (.tbl _)=>none
 |o=>o
def rk{H:Hp}{a:Ad}{o:HO}(h:H a=some o)(n:∀b,o≠ .tbl b):noT H a=some o:=by
 unfold noT;rw[h];cases o<;>first|rfl|exact wC rZ (n _)
def K8:HO->Bool
 |.tbl _=>true
 |_=>false
def nU{H:Hp}{a:Ad}{o:HO}(h:H a=some o)(d:K8 o=false:=by rfl):noT H a=some o:=rk h λb e=>by subst e;cases d
def vd{H:Hp}{a:Ad}{o:HO}(h:noT H a=some o):H a=some o/\∀b,o≠ .tbl b:=by
 unfold noT at h;split at h
 .cases h
 .rename_i n
  exact#[h,λb z=>n b (by rw[h,z])]
def ME{H:Hp}{a:Ad}(h:H a=none):noT H a=none:=by
 unfold noT;rw[h]
def Keeps(H a:Hp):Prop:=Same (noT H) a
def Same.keeps{H b:Hp}(g:Same H b):Keeps H b:=λa o h=>g a o (vd h).1
def Keeps.refl(H:Hp):Keeps H H:=(Same.refl H).keeps
def Keeps.trans{H d e:Hp}(a:Keeps H d)(b:Keeps d e):Keeps H e:=λc o h=>b c o (rk (a c o h) (vd h).2)
def TabOk(a:Str)(b:Pos)(H:Hp)(T:Ad):Prop:=H T=some (.tbl #v[])\/∃c,H T=some (.tbl (nZ b c))/\H c=some (oj c a)
def TabOk.same{a:Str}{b:Pos}{H c:Hp}{T:Ad}(t:TabOk a b H T)(g:Same H c):TabOk a b c T:=by
 rcases t with t|⟨d,e,f⟩
 .exact .inl (g _ _ t)
 .exact .inr #[d,g _ _ e,g _ _ f]
def DefAt(K:N2)(x:Str)(st:Stmt)(f:Ad)(b:Fd)(g e:Vl):Prop:=
 PySem.W.codeIn K e x=true/\(∃kV a h i j,b=PySem.W.fnOf x x (iQ st) (iE st) (gP st) g kV a h i e j)/\∃c d sl,K.lookup f=some #[c,d,.func b,sl]
section
variable{P:Pg}{w:World}{K:N2}{mg:SV}{a:Heap}{x:Str}{st:Stmt}{f:Ad}{l:Fd}{n m:Vl}{N i:Ss}{k:Nat}{g:Sp}
def LQ(P:Pg)(w:World)(K:N2)(mg:SV)(a:Heap)(x:Str)(st:Stmt)(f:Ad)(m:Vl)(N:Ss)(k:Nat)(g:Sp):Prop:=
 ∀A b s H c Q E,g c H Q E->Room k (A.deeper (envOfC x (gP st) s.heap.objs.size f m))->∃t:TS,t #[λ_ d=>Q .non d,Q,λ_ _=>False,λ_ _=>False] (start N c) H/\PSs (pG im P w K mg a N x (gP st) f m A b s H E).nox (iE st) t
def DefAt.fnOk(d:DefAt K x st f l n m)(p:FnScope N i (gP st))(len:∀j H Q E,g j H Q E->j.length=i.length)(b:LQ P w K mg a x st f m N k g):FnOk P w K mg a im (k+1) f l i g:=by
 obtain⟨c,⟨kV,r,v,y,z,rfl⟩,_,_,_,lk⟩:=d;refine AM lk c p len λA e s H j Q E u o=>?_;obtain⟨t,q,h⟩:=b A e s H j Q E o u;exact#[t,h.nox,q]
def Ce(P:Pg)(w:World)(K:N2)(mg:SV)(a:Heap)(x:Str)(k:Nat)(i:Ss)(g:Sp)(b:List V):Prop:=
 ∃f l c,FnOk P w K mg a im k f l i g/\mg x=some (.ref f)/\PySem.W.keepIn K (.ref f)=true/\Binds K l i c/\Vals b c
def K5{X:Cx}{x y:Str}{k j:Nat}{i:Ss}{g:Sp}{c:Ad}{a:List V}{e:Expr}{b:List Expr}{t:TA}{p d:Pos}(q:Ce X.prog X.w X.K X.mg X.base x k i g a)(r:Room k X.A)(s:Gl X x)(u:X.N[j]?=some y)(v:X.env.cells.lookup y=some c)(h:X.env.scope.names.lookup y=some .cell) (m:X.fn y=true) (w:PA X (e::b) t) (n:(x==("__debug__":Str))=false:=by decide) (z:starEach (e::b) X.env=(false,eval e X.env)::starEach b X.env:=by rfl)
  (o:(backTo d (starEach b X.env)).any (·.1)=false:=by rfl):PE X (.Call (.Name x p) (e::b) [] d) (Gz g a j c t):=by
 obtain⟨f,l,E,F,A,B,C,D⟩:=q;exact Jx F r s A B C D u v h m w n z o
end
def FU{X:Cx}{P:Pg}{w:World}:ti (CX1 P w) X E0:=λ_ _ _ _ _ _ _ ⟨_,_,_,_,_,_,_,_,_,_,h⟩=>h.elim
def Dy(P:Pg)(w:World)(K:N2)(mg:SV)(base:Heap)(x:Str)(k:Nat)(a:Ss)(c:Sp):Prop:=
 ∃f b,FnOk P w K mg base (CX1 P w) k f b a c/\mg x=some (.ref f)/\PySem.W.keepIn K (.ref f)=true/\Binds K b a []
def A6{X:Cx}{x:Str}{k:Nat}{h:Ss}{g:Sp}{e:Expr}{a:List Expr}{t:TA}{p d:Pos}{E:XK}(c:Dy X.prog X.w X.K X.mg X.base x k h g)(i:Room k X.A)(j:ti (CX1 X.prog X.w) X E)(l:Gl X x)(n:PA X (e::a) t)(o:(x==("__debug__":Str))=false:=by decide) (q:starEach (e::a) X.env=(false,eval e X.env)::starEach a X.env:=by rfl) (r:(backTo d (starEach a X.env)).any (·.1)=false:=by rfl):
  PE X (.Call (.Name x p) (e::a) [] d) (vZ g [] E t):=by
 obtain⟨f,u,F,m,s,b⟩:=c;exact Dr F i l m s b .nil j n o q r
def CalleeDX(P:Pg)(w:World)(K:N2)(mg:SV)(a:Heap)(x:Str)(k:Nat)(c:Ss)(g:Sp)(b:List V):Prop:=
 ∃f d e,FnOk P w K mg a (CX1 P w) k f d c g/\mg x=some (.ref f)/\PySem.W.keepIn K (.ref f)=true/\Binds K d c e/\Vals b e
def BW{X:Cx}{x:Str}{k:Nat}{i:Ss}{h:Sp}{a:List V}{e:Expr}{d:List Expr}{t:TA}{p g:Pos}{E:XK}(c:CalleeDX X.prog X.w X.K X.mg X.base x k i h a)(j:Room k X.A)(l:ti (CX1 X.prog X.w) X E)(n:Gl X x)(o:PA X (e::d) t)(q:(x==("__debug__":Str))=false:=by decide) (r:starEach (e::d) X.env=(false,eval e X.env)::starEach d X.env:=by rfl) (s:(backTo g (starEach d X.env)).any (·.1)=false:=by rfl):
  PE X (.Call (.Name x p) (e::d) [] g) (vZ h a E t):=by
 obtain⟨f,w,y,F,m,u,b,v⟩:=c;exact Dr F j n m u b v l o q r s
section
variable{X:Cx}{Z:AO}{a:St}{H g:Hp}{s:Sh}
def LR(h:Sp)(e:List V)(E:XK)(j:Nat)(c:Ad)(t:TA):TE:=λa H Q=>t a H λi g=>∃m,a[j]?=some (some (.ref m))/\∀f,g c=none->h (i++e) (gI g c (jf c m f)) (λr b=>b c=some (jf c m f)/\Q r (drop b c)) (λv d b=>b c=some (jf c m f)/\E v d (drop b c))
def CX1.afterC{c m:Ad}{j:Obj}{E:XK}{v:Vl}{x:Sh}(l:H c=none)(y:s.heap.get? c=some j)(h:CX1 X.prog X.w X.stack (gI H c (jf c m j)) s (λv d k=>k c=some (jf c m j)/\E v d (drop k c)) v x):CX1 X.prog X.w X.stack H s E v x:=by
 obtain⟨e,C,d,k,rfl,os,f,un,g,⟨B,D,G,I,T,J,L,M,a,p,t,N,O,Q,U,Y,r⟩,A,q⟩:=h;obtain⟨⟨i,_⟩,_,_⟩:=g c _ A;refine#[e,C,d,drop k c,rZ,os,f,#[λb o e n u a=>?_,λb o e n u a=>?_,λb o e n a=>?_,un.there,λb xs e=>?_,λb o w e=>?_,λb ps e=>?_],g.drop A,#[B,rA D,G,I,T,J,L,M,a,p,t,N,O,Q,U,rA Y,r],q]
 .by_cases z:b=c
  .subst z;rw[y]at e;cases e;exact i
  .exact un.keep b o e (by rw[gM z];exact n) u a
 .by_cases z:b=c
  .subst z;rw[y]at e;cases e;exact#[j.slots,i]
  .exact un.slot b o e (by rw[gM z];exact n) u a
 .by_cases z:b=c
  .rw[z];exact wQ
  .exact rA (un.free b o e (by rw[gM z];exact n) a)
 .have z:b≠c:=λz=>by rw[z,l]at e;cases e
  rw[jm z];exact un.tups b xs (by rw[gM z];exact e)
 .have z:b≠c:=λz=>by rw[z,l]at e;cases e
  rw[jm z];exact un.frzs b o w (by rw[gM z];exact e)
 .have z:b≠c:=λz=>by rw[z,l]at e;cases e
  rw[jm z];exact un.tbls b ps (by rw[gM z];exact e)
def KR{x y:Str}{k j:Nat}{ps:Ss}{sp:Sp}{c:Ad}{i:List V}{e:Expr}{B:List Expr}{t:TA}{p v:Pos}{E:XK}(cl:CalleeDX X.prog X.w X.K X.mg X.base x k ps sp i)(hr:Room k X.A)(hx:ti (CX1 X.prog X.w) X E)(hg:Gl X x)(hN:X.N[j]?=some y) (N:X.env.cells.lookup y=some c) (C:X.env.scope.names.lookup y=some .cell) (O:X.fn y=true) (ha:PA X (e::B) t)(T:(x==("__debug__":Str))=false:=by decide) (he:starEach (e::B) X.env=(false,eval e X.env)::starEach B X.env:=by rfl) (U:(backTo v (starEach B X.env)).any (·.1)=false:=by rfl):
  PE X (.Call (.Name x p) (e::B) [] v) (LR sp i E j c t):=by
 obtain⟨f,fd,Y,F,hm,hk,A,hd⟩:=cl;intro Z s a H Q I h;refine q0 (uZ I hg hm ?_ T);refine zB (h₀:=X.base) I.ok.mod.kin hk (gY (ha v Z s a H _ I h) λD G ⟨vs,H1,d,r,m,hj,q⟩=>#[d.kIn,?_]) he U;have l:H1 c=none:=d.freeC y c N;obtain⟨mm,hn,J⟩:=d.loc;obtain⟨u,ru,lk⟩:=J j y (.ref m) hN hj (.inr (.inl C));cases ru;obtain⟨oc,ec,dc⟩:G.heap.IsCell c (some (.ref m)):=by
  rcases lk with⟨z,_⟩|⟨_,c',L,ic⟩
  .have z':X.env.scope.names.lookup y=some .local:=z;rw[C]at z';cases z'
  .rw[N]at L;cases L;exact ic
 have q1:=q oc l;have r2:Vals (vs++i) (D++Y):=r.append hd;have hl:(D++Y).length=ps.length:=by rw[<-r2.length];exact F.len _ _ _ _ q1
 have e1:Env0 X.prog X.w X.K X.mg X.base X.A X.stack G (gI H1 c (jf c m oc)):=by
  have n:=d.env0;have g:=d.ok.cab y c O N;have nb:∀b o,X.base.get? b=some o->b≠c:=λb o e z=>by
   subst z;exact wC (j4 (hV e) (iP d.ok.bsz g)) (oC _)
  have nf:∀b∈iF X.stack,b≠c:=λb A z=>by
   subst z
   rcases iu.mp (d.stkSub b A)with w|w
   .exact d.cne y b N w
   .obtain⟨_,o,ho,_⟩:=d.ok.funs.mem w;exact wC (j4 (hV ho) g) (oC _)
  exact#[n.frames,n.mod,λb o e=>#[(n.bs b o e).1,by rw[gM (nb b o e)];exact(n.bs b o e).2],n.bsz,n.funs,λb A=>by rw[gM (nf b A)];exact n.frf b A,n.hok.back l (CO ec dc),n.bare]
 refine pS (nG (F.run X.A X.stack G _ #[D,[]] (D++Y) (vs++i) _ _ hr e1 (A G D d.kIn hl) r2 q1) λr s' M=>?_);cases r with
 |error e=>exact hx Z a H1 G e s' d (CX1.afterC l ec M)
 |ok fl=>
  cases fl with
  |ret u=>exact d.afterC l ec M
  |next=>exact wE M
  |brk=>exact wE M
  |cont=>exact wE M
end
section
variable{P:Pg}{w:World}{K:N2}{mg:SV}{a:Heap}{x:Str}{st:Stmt}{f:Ad}{i:Fd}{j e:Vl}{N g:Ss}{k:Nat}{c:Sp}
def DefAt.fnOkX(d:DefAt K x st f i j e)(p:FnScope N g (gP st))(len:∀m H Q E,c m H Q E->m.length=g.length)(b:∀A l s H m Q E,c m H Q E->Room k (A.deeper (envOfC x (gP st) s.heap.objs.size f e))->∃t:TS,t #[λ_ r=>Q .non r,Q,λ_ _=>False,λ_ _=>False] (start N m) H/\PSs (pG (CX1 P w) P w K mg a N x (gP st) f e A l s H E) (iE st) t):FnOk P w K mg a (CX1 P w) (k+1) f i g c:=by
 obtain⟨n,⟨kV,u,y,z,B,rfl⟩,_,_,_,lk⟩:=d;refine AM lk n p len λA l s H m Q E v o=>?_;obtain⟨t,q,h⟩:=b A l s H m Q E o v;exact#[t,h,q]
end
def FnOk.calm{P:Pg}{w:World}{K:N2}{mg:SV}{a:Heap}{k:Nat}{f:Ad}{g:Fd}{i:Ss}{j d:Sp}(F:FnOk P w K mg a (CX1 P w) k f g i j)(h:∀c H Q E,d c H Q E->j c H Q E0):FnOk P w K mg a im k f g i d:=
 #[λc H Q E q=>F.len c H Q E0 (h _ _ _ _ q),λA b s H args m c Q E n o p t u=>nG (F.run A b s H args m c Q E0 n o p t (h _ _ _ _ u)) λr x l=>by
  cases r with
  |error e=>
   obtain⟨_,_,_,_,_,_,_,_,_,_,z⟩:=l;exact z.elim
  |ok v=>cases v<;>exact l]
def CalleeDX.calm{P:Pg}{w:World}{K:N2}{mg:SV}{g:Heap}{x:Str}{k:Nat}{l:Ss}{m i:Sp}{j:List V}(c:CalleeDX P w K mg g x k l m j)(h:∀n H Q E,i n H Q E->m n H Q E0):Ce P w K mg g x k l i j:=
 let⟨f,o,p,F,a,b,d,e⟩:=c;#[f,o,p,F.calm h,a,b,d,e]
def CalleeDX.imp{P:Pg}{w:World}{K:N2}{mg:SV}{g:Heap}{x:Str}{k:Nat}{l:Ss}{m i:Sp}{j:List V}(c:CalleeDX P w K mg g x k l m j)(h:∀n H Q E,i n H Q E->m n H Q E):CalleeDX P w K mg g x k l i j:=
 let⟨f,o,p,F,a,b,d,e⟩:=c;#[f,o,p,F.imp h,a,b,d,e]
def c3p{l:PySem.W.OpenLaw}{n k:Nat}{q:Pg}{i:Ss}{Q:SV->Heap->Prop}{z:World->Heap->Prop}{d:DefRec}{K:Params->N2}{sp:World->Sp}{x:Str}{tabs:As}(T:l.most=some n) (A:n<=sizeLine) (B:d.params.defaults=[]) (U:Room k callerA) (hY:∀(w:World) (h:Heap),z w h->(K w.params).In h)(hT:∀w:World,∀t∈tabs,(K w.params).lookup t=none/\((∃y c,PySem.W.tabIn (K w.params) y=some (c,t)/\∃e,(recsOf q).find? (λr=>r.name==y)=some e)\/((∃c,PySem.W.codeHdIn (K w.params) c t=true)/\∀h,z w h->h.get? t=some (PySem.W.tabObj #v[]))))(F:∀(w:World) (mg:SV) (fa:Ad) (h:Heap),(K w.params).In h->h.Ns mainGlobals mg->mg d.name=some (.ref fa)->
   ∃D:Fd,(∀(s:Sh) (u:Vl),BindsTo s D #[[u],[]] [(x,u)])/\∀b:Heap,(K w.params).In b->b.Ns mainGlobals mg->rF mg b->FnOk l.prog w (K w.params) mg b im k fa D [x] (sp w))(E:∀(w:World) (H:Hp) (a:Ad) (p:Zs),p.length<=n->(∀t∈tabs,H t=some (.tbl #v[]))->SqL (K w.params) H a (p.map V.int)->sp w [.ref a] H (λv _=>v=.bl true) λ_ _ _=>False):
  PySem.W.WalkO q i Q z l.row.toRowW d [] (λf L=>PySem.call f L):=by
 refine Att.attach_call T B λw M N mg mb fa o pm cd aa a L p G Y ho hd ab hmg m j g hg=>?_;have KX:=hY w _ Y;obtain⟨D,hb,hF⟩:=F w mg fa _ KX G.T.g hmg;refine J6 (tabs:=tabs) KX G.T.g G.T.b G.T.builtins G.T.nolimit hg G.T.bmain m j (iP g A) U (λt ht=>?_) hF hb (λH hH hS=>E w H a p g hH hS);obtain⟨O,⟨y,c,I,e,J⟩|⟨⟨c,I⟩,J⟩⟩:=hT w t ht
 .obtain⟨C,eP⟩:=PySem.W.tab_of G.T KX J I;exact#[O,c,C.tab eP]
 .exact#[O,c,(PySem.W.codeHd_of_K KX I).tab (J _ Y)]
section
variable{X:Cx}
def HL(d e:TE):TE:=λc H Q=>∀p,H p=none->d c (gI H p (.dT [])) λx f=>e c f λy a=>a p=some (.dT [])/\∃b k,x=.ref b/\a b=some (.tup (k.map kV))/\Q (.ref p) (gI a p (.dT [(k,y)]))
def CB{k v:Expr}{A B:TE}{pos:Pos}(hu:X.A.units+1<cLine)(D:PE X k A)(E:PE X v B):PE X (.Dict [some k] [v] pos) (HL A B):=by
 intro Z s J H Q I q;have L:=I.hok.fresh (gS s.heap.objs.size);have M:=I.laid (a:=s.heap.objs.size) (o:= .dT []) (h':=s.heap.push {cls:= .type "dict",data:= .dict #v[]}) (t':=s.toks) (λ_ _ q=>ig _ q) (gS _) (Hw s.heap I.big);have pairs:=L6 (X:=X) (pos:=pos) D E LA;have N:=q s.heap.objs.size L;rw[arm_eval_Dict];refine gH (ww ?_);have d:(evalEachOpt [some k] X.env).zip ((evalEach [v] X.env).map λv=>do let x <-v;standAt pos;pure x)=(pairTrees [some k] [v] X.env pos).map λp=>(some p.1,p.2):=rfl;rw[d,dictDisplay_pairs _ (by intro z;cases z) (by show 1<17;decide)];refine gH ?_;unfold subDict;refine gH (wpAny_alloc (gH (lq ?_)));rw[wB (by show 1<=15;decide)]
 let G:List (V×V)->Hp->Prop:=λf i=>match f with| [(x,y)]=>i s.heap.objs.size=some (.dT [])/\∃b k,x=.ref b/\i b=some (.tup (k.map kV))/\Q (.ref s.heap.objs.size) (gI i s.heap.objs.size (.dT [(k,y)]))|_=>False
 refine gH (gY (pairs Z _ J _ G M N) λO s2 ⟨f,i,l,m,g⟩=>?_);obtain⟨x,y,rfl⟩:∃x y,f=[(x,y)]:=by
  cases f with
  |nil=>exact wE g
  |cons p f=>
   cases f with
   |nil=>exact#[p.1,p.2,rZ]
   |cons _ _=>exact wE g
 obtain⟨e,b,c,rfl,n,T⟩:=g;obtain⟨u,r,rfl,U,Y⟩:∃u r,O=[(u,r)]/\RelV (.ref b) u/\RelV y r:=by
  cases m with
  | @cons _ q _ qs h t=>
   cases t;exact#[q.1,q.2,rZ,h.1,h.2]
 cases U;obtain⟨z,hd,xs,kt,dd⟩:=B4 l.hok e;cases kt;refine lq ?_;simp only[List.forIn_cons,List.forIn_nil];refine gH (gH (gH (wpAny_dictSet_heap (show X.A.units<cLine by lia) (xi l.hok n) dd (λh' w hs=>?_) (by show 0<=_;exact lV _))));refine gK (gK (gK (gK ?_)));obtain⟨o,es,ep,C,h2,h3,h4,_,h5⟩:=w;have j:gI i s.heap.objs.size (.dT [(c,y)]) b=some (.tup (c.map kV)):=by
  rw[gM (nE n e)];exact n
 have ok:ObjOk X.prog X.w (gI i s.heap.objs.size (.dT [(c,y)])) h' s.heap.objs.size (.dT [(c,y)]):=#[by show 1<=sizeLine;decide,hd,_,.cons #[rZ,j,Y] .nil,o,es,ep,C,h2,h3,h4,h5];exact gK #[.ref s.heap.objs.size,_,D2 l (by rw[e];exact True.intro) hs #[o,C] ok,rfl,T]
end
inductive iX(G:Hp->Prop)(U:LN)(L:Nat)(g:f'->Nat->List Nat)(b:List V)(H:Hp)(Q:VK)(a:XK):Prop|mk:∀(t:Ad) (x:f') (l:Nat),b=[.ref t,nv l]->G H->H t=some (.tup (x.map nv))->x∈U->l<L->rc H ((g x l).map nv) Q->iX G U L g b H Q a
def ThAt(H:Hp)(l:Ad)(b:TW):Prop:=∃a:As,H l=some (.lst (a.map .ref))/\a.length=b.length/\∀(j:Nat) (t:Ad) (p:f'×f'),a[j]?=some t->b[j]?=some p->H t=some (.tup (p.1.map nv))
def ThAt.same{H a:Hp}{l:Ad}{b:TW}(h:ThAt H l b)(g:Same H a):ThAt a l b:=by
 obtain⟨c,d,e,f⟩:=h;exact#[c,g _ _ d,e,λj t p i k=>g _ _ (f j t p i k)]
def ThAt.more{H:Hp}{l t:Ad}{c:TW}{d:As}{p:f'×f'}(i:H l=some (.lst (d.map .ref)))(f:d.length=c.length)(k:∀(j:Nat) (t:Ad) (p:f'×f'),d[j]?=some t->c[j]?=some p->H t=some (.tup (p.1.map nv)))(ht:H t=some (.tup (p.1.map nv))):
  ThAt (gI H l (.lst (d.map .ref++[.ref t]))) l (c++[p]):=by
 have g:∀{a:Ad} {m:List V},H a=some (.tup m)->a≠l:=λh=>nE h i;refine#[d++[t],by rw[gO,kg];rfl,by simp[f],λj a q e b=>?_];by_cases n:j<c.length
 .rw[j0 ()]at e;rw[j0 n]at b;have z:=k j a q e b;rw[gM (g z)];exact z
 .rw[ku ()]at e;rw[ku ()]at b;have z:j-c.length=0:=by
   have:=(gV.mp b).1;simp at this;lia
  rw[f,z]at e;rw[z]at b;cases e;cases b;rw[gM (g ht)];exact ht
structure Srch(H0 H:Hp)(D wa fa:Ad)(ts:As)(ws wv fo:TW)(as:As):Prop where
 g:Same H0 H
 nD:H0 D=none
 nF:H0 fa=none
 W:WordsAt H D ws as
 wl:H wa=some (.lst (ts.map .ref))
 wt:∀(j:Nat) (t:Ad) (p:f'×f'),ts[j]?=some t->wv[j]?=some p->H t=some (.tup (p.1.map nv))
 foll:ThAt H fa fo
 wf:wa≠fa
 fas:fa∉as
 new:∀b∈as,H0 b=none
def Srch.same{a H b:Hp}{D c fa:Ad}{d:As}{e f g:TW}{h:As}(S:Srch a H D c fa d e f g h)(k:Same H b):Srch a b D c fa d e f g h:=
 #[S.g.trans k,S.nD,S.nF,S.W.same k,k _ _ S.wl,λj t p i l=>k _ _ (S.wt j t p i l),S.foll.same k,S.wf,S.fas,S.new]
def Srch.more{k H:Hp}{D n fa l t:Ad}{v:As}{f w g:TW}{i d:As}{p:f'×f'}(S:Srch k H D n fa v f w g i)(A:H l=some (.lst (p.2.map nv)))(x:l≠fa)(B:k l=none)(ht:H t=some (.tup (p.1.map nv)))(o:H fa=some (.lst (d.map .ref))) (C:d.length=g.length) (E:∀(j:Nat) (t:Ad) (p:f'×f'),d[j]?=some t->g[j]?=some p->H t=some (.tup (p.1.map nv))):
  Srch k (gI (gI H D (.dT (a3w f i++[(nk p.1,.ref l)]))) fa (.lst (d.map .ref++[.ref t]))) D n fa v (f++[p]) w (g++[p]) (i++[l]):=by
 have y:fa≠D:=nE o S.W.dict;have r:∀{a:Ad} {s:List V},H a=some (.tup s)->a≠D:=λh=>nE h S.W.dict;have G:n≠D:=nE S.wl S.W.dict;have I:∀{a:Ad} {s:List V},H a=some (.tup s)->a≠fa:=λh=>nE h o;have u:=S.W.put (l:=l) (p:=p) A;have J:(gI H D (.dT (a3w f i++[(nk p.1,.ref l)]))) fa=some (.lst (d.map .ref)):=by rw[gM y];exact o
 refine#[oY (oY S.g S.nD) S.nF,S.nD,S.nF,#[u.len,?_,λj a q c e=>?_],?_,λj a q c e=>?_,?_,S.wf,?_,λb L=>(iC.mp L).elim (S.new b) λm=>by rw[h9.mp m];exact B]
 .rw[gM (jd y)];exact u.dict
 .have M:a≠fa:=λz=>by
   subst z
   rcases iC.mp (iq c)with m|m
   .exact S.fas m
   .exact x (h9.mp m).symm
  rw[gM M];exact u.list j a q c e
 .rw[gM S.wf,gM G];exact S.wl
 .have z:=S.wt j a q c e;rw[gM (I z),gM (r z)];exact z
 .refine ThAt.more J C (λj a q c e=>?_) ?_
  .have z:=E j a q c e;rw[gM (r z)];exact z
  .rw[gM (r ht)];exact ht
 .intro m
  rcases iC.mp m with m|m
  .exact S.fas m
  .exact x (h9.mp m).symm
section
variable{X:Cx}{e:Hp}{a st D h fa:Ad}{c:Fd}{k:Ss}{b:f'}{L:Nat}{U:LN}{g:f'->Nat->List Nat}
def NX{d i j:Nat}{a c e:TW}(h:b∈U)(k:∀x∈U,∀l,l<L->g x l∈U)(B:Bfs g L b d a c e i j):a.length<=U.length:=by
 rw[<-gL (f:=(·.1)) (as:=a)];exact rE B.keys λx m=>by
  obtain⟨p,n,rfl⟩:=hX.mp m;obtain⟨o,q⟩:=B.run p n;rw[<-q];exact uk h k p.2 o
end
abbrev vr(G:TW->Prop)(b:Sp)(c:V)(d:XK)(g:f'->Nat->List Nat)(L:Nat)(e:f')(f:Hp):Prop:=∀(H:Hp) (D:Ad) (a:TW) (h:As) (Q:VK),Same f H->WordsAt H D a h->(a.map (·.1)).Nodup->(∀p∈a,(∀l∈p.2,l<L)/\jw g e p.2=p.1)->(G a->Q .non H)->b [.ref D,c] H Q d
section
variable{G:TW->Prop}{sR:Sp}{mo:V}{EE:XK}{X:Cx}{n:Hp}{a st D r fa:Ad}{s:Fd}{u:Ss}{o:f'}{L:Nat}{U:LN}{g:f'->Nat->List Nat}
abbrev Fc(X:Cx)(sR:Sp)(EE:XK):TS:=qo (rR (Ex X 2 (nA (ir 7) (nA (ir 8) oA))) (mD 9)) (za (tB (HK (ir 9) (ir 4)))
 (qo (Gw (ir 4) (ir 9) (xH (pZ X.K) (Gm (ir 4) (ir 7)) (yK (nA (ir 8) oA)))) (qo (Bo (vZ sR [] EE (nA (ir 4) (nA (ir 3) oA)))) (Bo (zZ X.K "list" mP (ir 6) (nA (ir 9) oA))))) Gg)
def IJ{d i j:Nat}{b Q M:TW}{T ts:As}{C:Ad}{t:f'×f'}{H:Hp}{En:Ends}{o9:Option V}(hR:vr G sR mo EE g L o n)(hr:Room 5 X.A)(Y:n st=some (mj st s))(h0:o∈U)(hU:∀x∈U,∀l,l<L->g x l∈U)(few:U.length<=4000)(hF:FnOk X.prog X.w X.K X.mg X.base im 5 st s u (iX (Same n) U L g)) (hB:Binds X.K s u []) (gw:G b) (B:Bfs g L o d b Q M i j) (ht:Q[i]?=some t) (hj:j<L) (hd:d+1<=b.length) (S:Srch n H D r fa ts b Q M T) (aa:H C=some (.tup (t.1.map nv)))(next:∀A I ae H' v,G A->Bfs g L o d A Q I i (j+1)->Srch n H' D r fa ts A Q I ae->A.length+M.length=b.length+I.length->H' C=some (.tup (t.1.map nv))->En.nx [some (.ref a),some (nv L),some (.ref st),some mo,some (.ref D),some (.ref r),some (.ref fa),some (.ref C),some (nv j),some v] H'):
  Fc X sR EE En [some (.ref a),some (nv L),some (.ref st),some mo,some (.ref D),some (.ref r),some (.ref fa),some (.ref C),some (nv j),o9] H:=by
 have tw:=(B.wave t (iq ht)).1;have tU:t.1∈U:=by
  obtain⟨r1,r2⟩:=B.run t tw;rw[<-r2];exact uk h0 hU t.2 r1
 have ai:b.length<=4000:=by
  have z:(b.map (·.1)).length<=U.length:=rE B.keys λx hx=>by
   obtain⟨p,w,rfl⟩:=hX.mp hx;obtain⟨r1,r2⟩:=B.run p w;rw[<-r2];exact uk h0 hU p.2 r1
  rw[gL]at z;lia
 refine#[_,rZ,st,s,rZ,S.g _ _ Y,_,rZ,_,rZ,S.g _ _ Y,5,u,_,hF,hr,hB,C,t.1,j,rZ,S.g,aa,tU,hj,λfn H1 g1 N=>?_];have E:=S.same g1;have m:=g1 _ _ aa;refine#[_,rZ,_,rZ,D,_,rZ,DGet.t E.W.dict (by rw[mJ];exact N),_,rZ,?_];by_cases O:g t.1 j∈b.map (·.1)
 .obtain⟨p,w,e⟩:=hX.mp O;obtain⟨c,v1,_⟩:=E.W.word B.keys w;rw[<-e,v1];rw[wA (by simp)];exact next b M T H1 _ gw (B.old ht O) E rZ m
 .rw[zg O];refine mH ?_;obtain⟨tw,tl⟩:=B.wave t (iq ht);obtain⟨c,v1,v2⟩:=E.W.word B.keys tw;have dg:DGet H1 D (.ref C) (some (.ref c)):=v1▸DGet.t E.W.dict (by rw[mJ];exact m);refine#[_,rZ,_,rZ,D,_,rZ,dg,_,rZ,by show 1<=sizeLine;decide,λp w=>?_];have k2:=g0 w (.lst [nv j]);refine#[c,p,_,_,rZ,rZ,N' (k2 _ _ v2),N' gO,by rw[gL,tl,iv];show d+1<=_;lia,λl hl=>?_];have k3:=k2.trans (g0 hl (.lst (t.2.map nv++[nv j])));have y:=E.same k3;have e3:=k3 _ _ N;have J:gI (gI H1 p (.lst [nv j])) l (.lst (t.2.map nv++[nv j])) l=some (.lst ((t.2++[j]).map nv)):=by rw[gO,kg];rfl
  have k:=k3 _ _ m;obtain⟨tf,f1,f2,f3⟩:=y.foll;have lf:l≠fa:=λz=>by
   obtain⟨_,q1,_⟩:=E.foll;have q2:=k2 _ _ q1;rw[<-z,hl]at q2;cases q2
  generalize gI (gI H1 p (.lst [nv j])) l (.lst (t.2.map nv++[nv j]))=H3 at y e3 J k f1 f3|-;refine#[_,rZ,_,rZ,D,_,rZ,DPut.t y.W.dict (by rw[mJ];exact e3) (by rw[wT y.W.len,iv];lia),?_];rw[zn _ (zg O)];have fD:fa≠D:=nE f1 y.W.dict;have af:C≠D:=nE k y.W.dict;have ag:C≠fa:=nE k f1;have ab:(gI H3 D (.dT (a3w b T++[(nk (g t.1 j),.ref l)]))) fa=some (.lst (tf.map .ref)):=by rw[gM fD];exact f1
  have fl:tf.length<=4000:=by
   have z:(M.map (·.1)).length<=b.length:=by
    rw[<-gL (f:=(·.1)) (as:=b)];refine rE ?_ λx hx=>?_
    .refine(uv.mpr (B.fup.imp_of_mem λ{p q} w hq h z=>?_));have r1:=(B.run p (B.foll p w).1).2;have r2:=(B.run q (B.foll q hq).1).2;obtain⟨i1,N⟩:=jk.mp (B.foll p w).1;obtain⟨i2,e2⟩:=jk.mp (B.foll q hq).1;have ii:i1=i2:=(rf (by rw[gL];exact(gV.mp N).1) B.keys).mp (by rw[hA,hA,N,e2];exact iZ some z);subst ii;rw[N]at e2;cases e2;exact zl h
    .obtain⟨p,w,rfl⟩:=hX.mp hx;exact hX.mpr #[p,(B.foll p w).1,rZ]
   rw[gL]at z;lia
  have Bn:=B.new ht hj O;refine#[_,rZ,_,rZ,hR _ D (b++[(g t.1 j,t.2++[j])]) (T++[l]) _ (oY y.g y.nD) (y.W.put (l:=l) (p:=(g t.1 j,t.2++[j])) J) Bn.keys Bn.run λah=>?_];refine#[_,rZ,.inl #[rZ,_,N' ab],_,rZ,fa,_,_,rZ,rZ,ab,by rw[gL,iv];lia,?_];exact next (b++[(g t.1 j,t.2++[j])]) (M++[(g t.1 j,t.2++[j])]) (T++[l]) _ _ ah (B.new ht hj O) (y.more (p:=(g t.1 j,t.2++[j])) J lf ((E.g.trans k2).free hl) e3 f1 f2 f3) (by simp;lia) (by rw[gM ag,gM af];exact k)
abbrev Et(X:Cx)(sR:Sp)(EE:XK):TS:=ui (Go X.K (ir 5)) (mD 7) (ui (Ez (nA (ir 1) oA)) (mD 8) (Fc X sR EE))
def JZ{d:Nat}{c f:TW}{C y:As}{H:Hp}{En:Ends}{A k m:Option V}(hR:vr G sR mo EE g L o n)(hr:Room 5 X.A)(T:n st=some (mj st s))(h0:o∈U)(hU:∀x∈U,∀l,l<L->g x l∈U)(few:U.length<=4000)(aa:L<=4000)(hF:FnOk X.prog X.w X.K X.mg X.base im 5 st s u (iX (Same n) U L g)) (hB:Binds X.K s u []) (gw:G c) (B:Bfs g L o d c f [] 0 0) (hd:d+1<=c.length) (S:Srch n H D r fa y c f [] C) (lt:y.length=f.length)(next:∀b e h q A k m,G b->Bfs g L o d b f e f.length 0->Srch n q D r fa y b f e h->b.length=c.length+e.length->En.nx [some (.ref a),some (nv L),some (.ref st),some mo,some (.ref D),some (.ref r),some (.ref fa),A,k,m] q):
  Et X sR EE En [some (.ref a),some (nv L),some (.ref st),some mo,some (.ref D),some (.ref r),some (.ref fa),A,k,m] H:=by
 let Pv:Nat->L2.St->Hp->Prop:=λi w q=>∃b e h A k m,G b/\Bfs g L o d b f e i 0/\Srch n q D r fa y b f e h/\b.length=c.length+e.length/\
  w=[some (.ref a),some (nv L),some (.ref st),some mo,some (.ref D),some (.ref r),some (.ref fa),A,k,m]
 refine#[_,rZ,r,rZ,#[_,N' S.wl],rL (xs:=y.map .ref) Pv #[c,[],C,A,k,m,gw,B,S,by simp,rZ] (λi w q _ p=>?_) (λi x w q hx p=>?_) (λw q p=>?_)]
 .obtain⟨_,_,_,_,_,_,_,_,E,_⟩:=p;exact N' E.wl
 .obtain⟨b,e,h,p7,Y,p9,g1,O,E,l1,rfl⟩:=p;rw[hA]at hx;obtain⟨th,I,rfl⟩:=jb.mp hx;obtain⟨hi,_⟩:=gV.mp I;obtain⟨t,ht⟩:∃t,f[i]?=some t:=#[_,gN ()]
  let Pj:Nat->L2.St->Hp->Prop:=λj w H2=>∃b e h k m,G b/\Bfs g L o d b f e i j/\Srch n H2 D r fa y b f e h/\b.length=c.length+e.length/\
   w=[some (.ref a),some (nv L),some (.ref st),some mo,some (.ref D),some (.ref r),some (.ref fa),some (.ref th),k,m]
  refine#[_,rZ,(L:Int),rZ,(),(),Ai Pj #[b,e,h,Y,p9,g1,O,E,l1,rZ] (λj w H2 hj p=>?_) (λw H2 p=>?_)]
  .obtain⟨J,M,N,q8,q9,g2,B2,Q,l2,rfl⟩:=p;have z:(0:Int)+((j:Nat):Int)=((j:Nat):Int):=by lia
   rw[z];refine IJ (t:=t) hR hr T h0 hU few hF hB g2 B2 ht (by simpa using hj) () Q (Q.wt i th t I ht) λw3 f3 a3 H3 v g3 B3 S3 l3 _=>#[w3,f3,a3,_,_,g3,B3,S3,(),rZ]
  .obtain⟨J,M,N,q8,q9,g2,B2,Q,l2,rfl⟩:=p;exact#[J,M,N,_,_,_,g2,Bfs.next (by simpa using B2) ht,Q,l2,rZ]
 .obtain⟨b,e,h,p7,Y,p9,g1,O,E,l1,rfl⟩:=p;rw[gL,lt]at O;exact next b e h q p7 Y p9 g1 O E l1
abbrev LX(X:Cx)(sR:Sp)(EE:XK):TS:=qo (rR (HL (ir 0) (yK oA)) (mD 4)) (qo (Bo (vZ sR [] EE (nA (ir 4) (nA (ir 3) oA)))) (qo (rR (yK (nA (ir 0) oA)) (mD 5))
 (qo (EG (λc a Q=>ir 5 c a λx b=>∃k,vw X.K x b k/\Q k b) (qo (rR (yK oA) (mD 6)) (qo (Et X sR EE) (rR (ir 6) (mD 5))))) (y6 (ir 4)))))
def Gi{En:Ends}(hR:vr G sR mo EE g L o n)(hr:Room 5 X.A)(ha:n a=some (.tup (o.map nv)))(aa:n st=some (mj st s))(h0:o∈U)(hU:∀x∈U,∀l,l<L->g x l∈U)(few:U.length<=4000)(I:L<=4000)(hF:FnOk X.prog X.w X.K X.mg X.base im 5 st s u (iX (Same n) U L g)) (hB:Binds X.K s u []) (q:∀D c k C,Same n C->WordsAt C D c k->(∀b∈D::k,n b=none)->Told g L o c->G c->En.rt (.ref D) C):
  LX X sR EE En [some (.ref a),some (nv L),some (.ref st),some mo,none,none,none,none,none,none] n:=by
 intro D O;have kD:=g0 O (.dT []);refine#[_,rZ,by show 0<=sizeLine;decide,λl E=>?_];have kl:=g0 E (.lst []);refine#[kl _ _ gO,a,nk o,rZ,by rw[mJ];exact(kD.trans kl) _ _ ha,?_];have lD:l≠D:=λz=>by
  subst z;rw[gO]at E;cases E
 have W0:WordsAt (gI (gI (gI n D (.dT [])) l (.lst [])) D (.dT [(nk o,.ref l)])) D [(o,[])] [l]:=#[rZ,gO,λj b p v J=>by
  cases j with
  |zero=>
   cases v;cases J;rw[gM lD,gO];rfl
  |succ j=>simp at v]
 have Q:Same n (gI (gI (gI n D (.dT [])) l (.lst [])) D (.dT [(nk o,.ref l)])):=oY (kD.trans kl) O;generalize gI (gI (gI n D (.dT [])) l (.lst [])) D (.dT [(nk o,.ref l)])=H1 at W0 Q|-;refine#[_,rZ,_,rZ,hR _ D [(o,[])] [l] _ Q W0 (by simp) (λp hp=>by rw[List.mem_singleton.mp hp];exact#[λl E=>(nomatch E),rZ]) λT=>?_];refine#[_,rZ,by show 1<=sizeLine;decide,λr hw=>?_];have kw:=g0 hw (.lst [.ref a])
 let Wv:Nat->L2.St->Hp->Prop:=λm σ H=>∃(d:Nat) (c y:TW) (k:As) (r:Ad) (i:As) (o6 o7 o8 o9:Option V),G c/\Bfs g L o d c y [] 0 0/\WordsAt H D c k/\H r=some (.lst (i.map .ref))/\(∀(j:Nat) (t:Ad) (p:f'×f'),i[j]?=some t->y[j]?=some p->H t=some (.tup (p.1.map nv)))/\i.length=y.length/\Same n H/\(∀b∈k,n b=none)/\
   (y≠[]->d+1<=c.length)/\m=2 * (U.length-c.length)+(if y=[]then 0 else 1)/\σ=[some (.ref a),some (nv L),some (.ref st),some mo,some (.ref D),some (.ref r),o6,o7,o8,o9]
 refine#[Wv,#[_,0,[(o,[])],[(o,[])],[l],r,[a],none,none,none,none,T,Bfs.start,W0.same kw,gO,?_,rZ,Q.trans kw,λb hb=>(by rw[h9.mp hb];exact kD.free E),λ_=>gS _,rZ,rZ],λm σ H P=>?_]
 .intro j t p v J;cases j with
  |zero=>
   cases v;cases J;exact(Q.trans kw) _ _ ha
  |succ j=>simp at v
 .obtain⟨d,c,y,k,r,i,o6,o7,o8,o9,T,B,W,wl,wt,lt,gg,nw,A,hm,rfl⟩:=P;refine#[_,rZ,!(i.map V.ref).isEmpty,.inl #[_,N' wl,rZ],?_];by_cases f:y=[]
  .subst f;have e:i=[]:=rD.mp lt;subst e;rw[wA (by simp)];exact#[_,rZ,q D c k H gg W (λb hb=>(iu.mp hb).elim (λe=>e▸O) (nw b)) B.told T]
  .have ne:i≠[]:=λz=>f (rD.mp (by rw[<-lt,z];rfl));have c1:(!(i.map V.ref).isEmpty)=true:=by
    cases i with
    |nil=>exact wC rZ ne
    |cons=>rfl
   rw[c1];refine mH ?_;refine#[λM C=>∃m',m'<m/\Wv m' M C,λM C h=>h,by show 0<=sizeLine;decide,λfa w=>?_];have Y:=g0 w (.lst []);have ab:fa∉k:=λm=>by
    obtain⟨j,e⟩:=jk.mp m;obtain⟨hj,_⟩:=gV.mp e;have z:=W.list j fa _ e (gN (by rw[<-W.len];exact hj));rw[w]at z;cases z
   have S:Srch n (gI H fa (.lst [])) D r fa i c y [] k:=#[gg.trans Y,O,gg.free w,W.same Y,Y _ _ wl,λj t p v J=>Y _ _ (wt j t p v J),#[[],gO,rZ,λj t p v _=>by simp at v],iU wl w,ab,nw];refine JZ (En:={En with nx:=_,ct:=_,bk:=_}) hR hr aa h0 hU few I hF hB T B (A f) S lt λN fo ae C p7 p8 p9 af B' S' l'=>?_;obtain⟨tf,f1,f2,f3⟩:=S'.foll;have z1:=NX h0 hU B';have z2:=A f;refine#[_,rZ,2 * (U.length-N.length)+(if fo=[]then 0 else 1),?_,d+1,N,fo,ae,fa,tf,_,_,_,_,af,B'.wave',S'.W,f1,f3,f2,S'.g,S'.new,λnf=>?_,rZ,rZ]
   .rw[hm,wA f];by_cases hf:fo=[]
    .subst hf;rw[wB rZ];simp at l';lia
    .have:=List.length_pos_iff.mpr hf;rw[wA hf];lia
   .have:=List.length_pos_iff.mpr nf;lia
end
structure Que(f:f'->Nat->List Nat)(L:Nat)(x0:f')(ws:TW)(i j:Nat):Prop where
 head:ws[0]?=some (x0,[])
 keys:(ws.map (·.1)).Nodup
 run:∀p∈ws,(∀l∈p.2,l<L)/\jw f x0 p.2=p.1
 up:ws.Pairwise λp q=>sl p.2 q.2
 done:∀(a:Nat) p,a<i->ws[a]?=some p->∀l,l<L->Goes f ws p l
 part:∀p,ws[i]?=some p->∀l,l<j->Goes f ws p l
 front:∀t,ws[i]?=some t->∀p∈ws,sl p.2 (t.2++[j])
 short:∀(a:Nat) p,ws[a]?=some p->p.2.length<=a
section
variable{f:f'->Nat->List Nat}{L:Nat}{c:f'}{b:TW}{i j:Nat}{t:f'×f'}
def Que.start:Que f L c [(c,[])] 0 0 where
 head:=rfl
 keys:=by simp
 run:=λp b=>by
  rw[h9.mp b];exact#[λl d=>(nomatch d),rZ]
 up:=sh _ _
 done:=λa p h=>wC h (pk _)
 part:=λp _ l h=>wC h (pk _)
 front:=λt _ p b=>by
  rw[h9.mp b];exact .inl (by simp)
 short:=λa p h=>by
  have z:p∈[(c,([]:f'))]:=iq h;rw[h9.mp z];exact lV _
def Que.old(q:Que f L c b i j)(ht:b[i]?=some t)(h:f t.1 j∈b.map (·.1)):Que f L c b i (j+1):=by
 refine#[q.head,q.keys,q.run,q.up,q.done,λp a l n=>?_,λo d p a=>?_,q.short]
 .by_cases e:l<j
  .exact q.part p a l e
  .have k:l=j:=by lia
   subst k;rw[ht]at a;cases a;obtain⟨r,g,m⟩:=hX.mp h;exact#[r.2,by rw[<-m];exact g,.inr (q.front t ht r g)]
 .rw[ht]at d;cases d;exact tD (q.front t ht p a) (vO _ (pT _))
def Que.new(q:Que f L c b i j)(ht:b[i]?=some t)(u:j<L)(h:f t.1 j∉b.map (·.1)):Que f L c (b++[(f t.1 j,t.2++[j])]) i (j+1):=by
 obtain⟨G,_⟩:=gV.mp ht;have g:∀{a:Nat} {p:f'×f'},a<=i->(b++[(f t.1 j,t.2++[j])])[a]?=some p->b[a]?=some p:=λ{a p} o e=>by
  rwa[j0 ()]at e
 refine#[?_,?_,λp d=>?_,?_,λa p o d l m=>?_,λp d l m=>?_,λH n p d=>?_,λa p d=>?_]
 .rw[j0 ()];exact q.head
 .rw[kg,wj];refine#[q.keys,by simp,λx v y w=>?_];have e:y=f t.1 j:=by simpa using w
  subst e;exact λz=>h (z▸v)
 .rcases iC.mp d with z|z
  .exact q.run p z
  .rw[h9.mp z];obtain⟨A,B⟩:=q.run t (iq ht);refine#[λl m=>?_,?_]
   .rcases iC.mp m with y|y
    .exact A l y
    .rw[h9.mp y];exact u
   .show(t.2++[j]).foldl f c=f t.1 j;rw[si,<-B];rfl
 .refine mB.mpr #[q.up,sh _ _,λp d r C=>?_];rw[h9.mp C];exact q.front t ht p d
 .exact(q.done a p o (g () d) l m).more
 .have k:=g (gS _) d;by_cases e:l<j
  .exact(q.part p k l e).more
  .have D:l=j:=by lia
   subst D;rw[ht]at k;cases k;exact#[_,j6 _ (h9.mpr rZ),.inl rZ]
 .have e:=g (gS _) n;rw[ht]at e;cases e
  rcases iC.mp d with z|z
  .exact tD (q.front t ht p z) (vO _ (pT _))
  .rw[h9.mp z];exact vO _ (pT _)
 .by_cases e:a<b.length
  .rw[j0 e]at d;exact q.short a p d
  .have s:=(gV.mp d).1;rw[jc]at s;have E:a=b.length:=by
    have:a<b.length+1:=s;lia
   rw[E,ku (gS _),vU]at d;cases d;have:=q.short i t ht
   simp;lia
def Que.next(q:Que f L c b i L)(ht:b[i]?=some t):Que f L c b (i+1) 0:=by
 refine#[q.head,q.keys,q.run,q.up,λa p n d=>?_,λp _ l h=>wC h (pk _),λt' g p d=>?_,q.short]
 .by_cases e:a<i
  .exact q.done a p e d
  .have j:a=i:=by lia
   subst j;exact q.part p d
 .obtain⟨l1,k⟩:=gV.mp ht;obtain⟨l2,m⟩:=gV.mp g;have up:=pc.mp q.up i (i+1) l1 l2 (pT _);rw[k,m]at up;exact tD (q.front t ht p d) (Dh up)
def Que.told(q:Que f L c b i j)(h:b.length<=i):Told f L c b:=by
 refine#[q.head,q.keys,q.run,q.up,λp d=>?_,λp d=>?_]
 .obtain⟨a,e⟩:=jk.mp d;exact q.done a p (by have:=(gV.mp e).1;lia) e
 .obtain⟨a,e⟩:=jk.mp d;have:=(gV.mp e).1;have:=q.short a p e;lia
end
def Ig{g:TW}{d:As}{k:List ik}{a:Ad}(h:lG (a3w g d) k=some (.ref a)):a∈d:=by
 unfold lG at h;obtain⟨m,j,l⟩:=jb.mp h;obtain⟨i,c⟩:=jk.mp (List.mem_of_find?_eq_some j);unfold a3w at c;rw[List.getElem?_zipWith]at c;cases e:g[i]? with
 |none=>rw[e]at c;cases c
 | some p=>
  cases f:d[i]? with
  |none=>rw[e,f]at c;cases c
  |some b=>
   rw[e,f]at c;cases c;cases l;exact iq f
section
variable{X:Cx}
def Jr{K:N2}{H:Hp}{n:Nat}{d f:Dt}{y z:V}{u:Vl}(g:Rep K H n d y)(j:Rep K H n f z)(k:RelV y u)(l:RelV z u):y=z:=by
 have c:∀{y:V} {d:Dt},Rep K H n d y->RelV y u->(y=.non/\u=.none)\/(∃i t,y=.int i/\u=.int i t)\/(∃x t,y=.str x/\u=.str x t)\/∃a,y=.ref a/\u=.ref a:=λh r=>by
  cases h with
  |non=>exact .inl #[rZ,r]
  |int _ i=>
   obtain⟨t,e⟩:=r;exact .inr (.inl #[i,t,rZ,e])
  |str _ x=>
   obtain⟨t,e⟩:=r;exact .inr (.inr (.inl #[x,t,rZ,e]))
  |lst=>exact .inr (.inr (.inr #[_,rZ,r]))
  |tup=>exact .inr (.inr (.inr #[_,rZ,r]))
 rcases c g k with⟨rfl,e⟩|⟨i,t,rfl,e⟩|⟨x,t,rfl,e⟩|⟨a,rfl,e⟩<;>rcases c j l with⟨rfl,b⟩|⟨o,m,rfl,b⟩|⟨p,m,rfl,b⟩|⟨q,rfl,b⟩<;>rw[e]at b<;>cases b<;>rfl
def DX{x y:Str}{p q e:Pos}{k:Nat}{a:Scope}(S:CompScope X [x,y] a)(f:X.calm=true)(b:a.names.lookup x=some .local)(c:a.names.lookup y=some .local):
  ∀C s H d,PG (lz X [x,y] a C s H d) (.Tuple [.Name x p,.Name y q] k e) (vm X.K 2 (ow (mD 0) (ow (mD 1) ym))):=λC s H d=>
 BF f (xo (md S.nd rZ (.inl (v7 b)) (.inr (v7 b))) (xo (md S.nd rZ (.inl (v7 c)) (.inr (v7 c))) Ca))
end
section
variable{X:Cx}
inductive mV(K:N2)(x:V)(c:List V)(H:Hp)(Q:VK):Prop|mk:∀(l:Ad) (y:V) (n:Nat) (d:Dt) (a:List Dt) (b:List V) (j:Nat),x=.ref l->c=[y]->SqL K H l b->b.length=a.length->Rep K H n d y->((∀(i:Nat) e v,a[i]?=some e->b[i]?=some v->Rep K H n e v))->n<=30->a[j]?=some d->((∀i:Nat,i<j->a[i]? ≠some d))->Q (.int (j:Nat)) H->mV K x c H Q
def Ii{Z:AO}{M:St}{H:Hp}{s:Sh}{x:V}{v:Vl}{n:Nat}{d:Dt}{k:List Dt}{l:List V}{c:Vs}(hu:X.A.units+64<cLine)(I:Inv X Z M H s)(N:RelV x v)(r:Vals l c)(hl:l.length=k.length)(O:Rep X.K H n d x)(p:∀(i:Nat) a v,k[i]?=some a->l[i]?=some v->Rep X.K H n a v) (hn:n<=30):∃e:Vl->Bool,(∀u∈c,SeqAt.EqAt X.A.in1 s u v (e u))/\∀(i:Nat) u a,c[i]?=some u->k[i]?=some a->(e u=true↔a=d):=by
 have E:=r.length;have one:∀(i:Nat) u,c[i]?=some u->∃b a,k[i]?=some a/\SeqAt.EqAt X.A.in1 s u v b/\(b=true↔a=d):=λi u g=>by
  obtain⟨w,_⟩:=gV.mp g;obtain⟨y,m⟩:∃y,l[i]?=some y:=#[_,gN ()];obtain⟨a,o⟩:∃a,k[i]?=some a:=#[_,gN ()];obtain⟨u',q,Q⟩:=Vals.get r m;rw[g]at q;cases q;obtain⟨b,B,G⟩:=Bq I n (A:=X.A.in1) (by show X.A.units+1+n<cLine;lia) (p i a y o m) O Q N;exact#[b,a,o,B,G]
 have f:∀u,∃b,(∃i:Nat,c[i]?=some u)->SeqAt.EqAt X.A.in1 s u v b/\∃(i:Nat) (a:Dt),c[i]?=some u/\k[i]?=some a/\(b=true↔a=d):=λu=>by
  by_cases h:∃i:Nat,c[i]?=some u
  .obtain⟨i,t⟩:=h;obtain⟨b,a,w,E,B⟩:=one i u t;exact#[b,λ_=>#[E,i,a,t,w,B]]
  .exact#[true,λz=>wC z h]
 refine#[λu=>Classical.choose (f u),λu g=>(xM (f u) (jk.mp g)).1,λi u d0 q o=>?_];obtain⟨_,j,a,T,C,U⟩:=xM (f u) #[i,q];rw[U];obtain⟨w,_⟩:=gV.mp o;obtain⟨y,m⟩:∃y,l[i]?=some y:=#[_,gN ()];obtain⟨G,_⟩:=gV.mp C;obtain⟨z,D⟩:∃z,l[j]?=some z:=#[_,gN ()];obtain⟨u1,J,Y⟩:=Vals.get r m;obtain⟨u2,L,r2⟩:=Vals.get r D;rw[q]at J;rw[T]at L;cases J;cases L;have yz:y=z:=Jr (p i d0 y o m) (p j a z C D) Y r2;subst yz;have dd:a=d0:=Fy I n (p j a y C D) (p i d0 y o m);rw[dd]
def Jb(w:X.A.units+64<cLine):Au X "list.index" (mV X.K):=by
 intro Z s σ H x vs v us Q I A B h;obtain⟨l,y,m,d,C,xs,j,rfl,rfl,D,E,G,J,L,f,M,q⟩:=h;cases A;obtain⟨u,rfl,N⟩:=B.one;obtain⟨a,r,⟨⟨c1,d1,k1,O⟩,n,e,g,i,o⟩,T⟩:=I.list D;simp only at g i o;subst g i o;obtain⟨b,U,p⟩:=Ii w I N r E G J L;have lr:=r.length;have lj:=(gV.mp f).1;rw[iv]at T;refine call_meets F.slot_list_index #[_,e,rZ] F.entry_list_index (F.args_list_index_2 _ _) (SeqAt.list_indexAt l a.toArray n none O u b j (by simp only[List.size_toArray];lia) () ?_ ?_)
  #[e,λy Y=>U y (by simpa using Y),#[.int (j:Nat),H,I.tok _,#[_,rZ],q]]
 .show b a[j]=true;exact(p j _ d (gN ()) f).mpr rfl
 .intro k aa c;show b a[k]=false;have t:k<C.length:=by lia
  cases z:b a[k]with
  |false=>rfl
  |true=>
   have z2:=(p k _ _ (gN ()) (gN t)).mp z;exact wC (by rw[gN t,z2]) (M k c)
def NT{X:Cx}{K:N2}{e:Expr}{T:String}{to:TE}{t:TA}(r:N2->V->List V->Hp->VK->Prop)(a:X.K=K)(h:PE X e (zZ X.K T (r X.K) to t)):PE X e (zZ K T (r K) to t):=a▸h
end
section
variable{P:Pg}{w:World}{A:Ar}{E:VP}{s:Sh}{it d:Ad}{i f:Nat}{c:Array DictEntry}
abbrev ug(d:Ad)(i n f:Nat):Obj:={cls:= .type "dict_keyiterator",data:= .fields #v[.ref d,.int i 0,.int n 0,.int f 0]}
def E5{g:DictEntry}{Q:Option Vl->Sh->Prop}(G:s.heap.get? it=some (ug d i c.size f))(L:Lies s.heap d c f)(p:c[i]?=some g)(q:∀j,j.get? it=some (ug d (i+1) c.size f)->Heap.SameBut it s.heap j->Q (some g.key) {s with heap:=j}):wpAny (model P w) A (pyNext (.ref it)) Q E s:=by
 obtain⟨o,m,_,n⟩:=L;have ty:s.TypeIs (.ref it) "dict_keyiterator":=#[_,G,rZ];unfold pyNext;refine gH (qd (rP (name:=Str.ofString "__next__") ty uj (m7 uj ty Hk ?_ (Gx _))));refine gH (gK (gH (gH ?_)));refine gH (Av ty (gK (gH (tp G rZ ?_))));have a:Builtin.Dict_items.ownsTuple "dict_keyiterator"=false:=by decide
 simp only[a,Bool.false_eq_true,if_false];refine show wpAny _ _ (if(Value.ref d==Value.none)=true then _ else _) _ _ s from(wA (show ¬((Value.ref d==Value.none)=true)from ky))▸gH (gK (gH (u5 m n ?_)))
 rw[wA (by simp)];refine gH (gK (gH (xm m n ?_)));rw[wA (by simp)];refine gK ?_;have k:(if((i:Nat):Int)<0 then none else c[((i:Nat):Int).toNat]?)=some g:=by
  rw[wA (),pN];exact p
 show wpAny _ _ (match (if((i:Nat):Int)<0 then none else c[((i:Nat):Int).toNat]?)with|some e=>_|none=>_) _ _ s;rw[k];refine gH (gH (Av ty (gK (gH (wpAny_isOneOf_keyiter ty ?_)))));refine show wpAny _ _ (setField (.ref it) 1 (rawInt ((i:Int)+1)) >>= _) _ _ s from gH (oS G (by simp) λh r t=>wpAny_bind (wpAny_holding ?_))
 have b:h.get? it=some (ug d (i+1) c.size f):=by
  have z:((i+1:Nat):Int)=(i:Int)+1:=by lia
  unfold ug;rw[z];simpa[rawInt]using r
 have l:Shared.TypeIs {s with heap:=h} (.ref it) "dict_keyiterator":=#[_,b,rfl];refine gH (wpAny_isOneOf_keyiter l ?_);exact show wpAny _ _ (pure g.key) _ _ {s with heap:=h}from gK (gK #[_,rfl,gK (q h b t)])
def FY{Q:Option Vl->Sh->Prop}(n:A.handled=none)(G:s.heap.get? it=some (ug d i c.size f))(L:Lies s.heap d c f)(p:c[i]?=none)(q:∀j,Heap.ExtBut it s.heap j->Q none {s with heap:=j}):wpAny (model P w) A (pyNext (.ref it)) Q E s:=by
 obtain⟨o,k,_,l⟩:=L;have ty:s.TypeIs (.ref it) "dict_keyiterator":=#[_,G,rZ];unfold pyNext;refine gH (qd (rP (name:=Str.ofString "__next__") ty uj (m7 uj ty Hk ?_ (Gx _))));refine gH (gK (gH (gH ?_)));refine gH (Av ty (gK (gH (tp G rZ ?_))));have g:Builtin.Dict_items.ownsTuple "dict_keyiterator"=false:=by decide
 simp only[g,Bool.false_eq_true,if_false];refine show wpAny _ _ (if(Value.ref d==Value.none)=true then _ else _) _ _ s from(wA (show ¬((Value.ref d==Value.none)=true)from ky))▸gH (gK (gH (u5 k l ?_)))
 rw[wA (by simp)];refine gH (gK (gH (xm k l ?_)));rw[wA (by simp)];refine gK ?_;have h:(if((i:Nat):Int)<0 then none else c[((i:Nat):Int).toNat]?)=none:=by
  rw[wA (),pN];exact p
 show wpAny _ _ (match (if((i:Nat):Int)<0 then none else c[((i:Nat):Int).toNat]?)with|some e=>_|none=>_) _ _ s;rw[h];refine gH (gH (Av ty (gK ?_)));refine show wpAny _ _ (setField (.ref it) 0 .none >>= _) _ _ s from gH (oS G (by simp) λu v r=>?_)
 refine gH (m:=newExc _ _) ?_;simp only[newExc,newTuple];refine gH (pq ?_ (by size_fits));refine gH (m:=firstArgMember _ _) (vN (a:=Value.none) (by first|rfl|(unfold firstArgMember;rfl)) (wpAny_newObj_type ?_ (by size_fits)));refine xZ (by simpa using n) (wpAny_bind (wpAny_isInstance (T:="StopIteration") (b:=true) #[_,Heap.get?_push_size _ rZ,rZ] isSubtype_stop (wpAny_pure ?_)));exact q _ λb o t z=>ig _ (ig _ (r.extBut b o t z))
def G'{Q:VP}(e:(d==sysModules)=false)(L:Lies s.heap d c f)(q:Q (.ref s.heap.objs.size) {s with heap:=s.heap.push (ug d 0 c.size f)}):wpAny (model P w) A (pyIter (.ref d)) Q E s:=by
 obtain⟨o,a,x,b⟩:=L;have ty:s.TypeIs (.ref d) "dict":=#[o,a,x.1];refine t9 ty F.slot_dict_iter (m7 F.slot_dict_iter ty F.entry_dict_iter ?_ (F.args_dict_iter_1 _));unfold Builtin.«dict.__iter__» Builtin.Dict.dictSlotNone;refine gH (gH (wpAny_notOrdered_dict ty ?_));refine show wpAny _ _ (pure (Value.ref d)) _ _ s from gK (show wpAny _ _ (Builtin.Dict.showsAll d >>= _) _ _ s from ?_)
 have all:Builtin.Dict.showsAll d=pure Unit.unit:=by
  unfold Builtin.Dict.showsAll;rw[e];rfl
 rw[all];refine gH (gK (gH (u5 a b (gH (xm a b ?_)))));exact gH (pq (gK #[_,rZ,"dict_keyiterator",_,#[_,i4 _ rZ,rZ],uj.lookup,q]))
def Jf(p:A.handled=none)(j:d≠it):Walks P w A it [it,d] [it] c.size (λi v=>∃a,c[i]?=some a/\v=a.key) (λi h=>h.get? it=some (ug d i c.size f)/\Lies h d c f) where
 sub:=λb r=>iu.mpr (.inl (h9.mp r))
 frame:=λi h g st k=>#[k it (iO ..) _ st.1,let⟨o,e,x⟩:=st.2;#[o,k d (ja _ (h9.mpr rZ)) _ e,x]]
 item:=λi s Q E t st q=>by
  obtain⟨a,m⟩:∃a,c[i]?=some a:=#[_,mK t];refine E5 st.1 st.2 m λg u n=>q a.key g s.toks #[a,m,rZ] #[u,let⟨o,e,x⟩:=st.2;#[o,n.extBut _ _ j e,x]] λb o l e=>n.extBut _ _ (λz=>l (h9.mpr z)) e
 done:=λs Q E st q=>FY p st.1 st.2 (CJ (gS _)) λg x=>q g s.toks λb o l e=>x b o (λz=>l (h9.mpr z)) e
 self:=λi s Q E st q=>by
  have ty:s.TypeIs (.ref it) "dict_keyiterator":=#[_,st.1,rZ];refine t9 ty Bp (m7 Bp ty Ew ?_ (Fa _));exact show wpAny _ _ (ret (.ref it)) _ _ s from gK #[_,rZ,"dict_keyiterator",_,ty,uj.lookup,q]
def DB(b:(d==sysModules)=false):PySem.W.KdlSrc P w "dict" d d c.size (λi v=>∃a,c[i]?=some a/\v=a.key) (λh=>Lies h d c f) where
 type:=λ_ e=>e.typeIs
 there:=λ_ ⟨_,e,_⟩=>#[hV e,hV e]
 keep:=λ_ _ ⟨o,e,x⟩ k=>#[o,k d (.inl rZ) _ e,x]
 notList:=by decide
 notTuple:=by decide
 hint:=λ_ _ _ _ e q=>PySem.W.kdl_hint_dict e.typeIs q
 iter:=λ_ _ g e=>#[_,_,λ_ _ q=>G' b e q,Jf g (iW (let⟨_,z,_⟩:=e;hV z)),i4 _ rZ,let⟨o,z,x⟩:=e;#[o,ig _ z,x]]
end
open PySem PySem.W PyProof.Rows
section
variable(n:Nat)(k:Nat->Int)
def KOk{b:Type}:KasT b->(b->Prop)->Prop
 |.ret a,R=>R a
 |.ask i j f,R=>i<n/\j<n/\KOk (f (decide (k i<k j))) R
def Arr(p:Array Nat):Prop:=p.Perm (List.range n).toArray
def rn(p:Array Nat)(m:Nat):Prop:=∀a b,a<b->b<m->k (p.getD a 0)<k (p.getD b 0)
def NZ(p:Array Nat)(m:Nat):Prop:=∀a b,a<b->b<m->k (p.getD b 0)<k (p.getD a 0)
variable{n k}
theorem KOk.bind{b c:Type}{f:b->KasT c}{R:b->Prop}{d:c->Prop}(h:∀a,R a->KOk n k (f a) d):∀t:KasT b,KOk n k t R->KOk n k (t.bind f) d
 |.ret a,q=>h a q
 |.ask i j g,q=>#[q.1,q.2.1,KOk.bind h (g _) q.2.2]
theorem KOk.wp{c:Type}{b:Nat->Nat->(Bool->Sh->Prop)->Sh->Prop}{s:Sh}{R:c->Prop}{Q:c->Sh->Prop}(d:∀i j (C:Bool->Sh->Prop),i<n->j<n->C (decide (k i<k j)) s->b i j C s)(e:∀a,R a->Q a s):
  ∀t:KasT c,KOk n k t R->t.kasWp b Q s
 |.ret a,q=>e a q
 |.ask i j g,q=>d i j _ q.1 q.2.1 (KOk.wp d e (g _) q.2.2)
def Arr.size{p:Array Nat}(h:Arr n p):p.size=n:=by
 have z:=(pB.mp h).length_eq;simpa using z
def Arr.at{p:Array Nat}(h:Arr n p){i:Nat}(b:i<n):p.getD i 0<n/\p[i]?=some (p.getD i 0):=by
 have c:=h.size;have e:p[i]?=some (p.getD i 0):=by
  rw[ub,mK ()];rfl
 refine#[?_,e];have m:p.getD i 0∈p:=D4 e;have a:=(Df h).mp m;simpa using a
def Arr.inj{p:Array Nat}(h:Arr n p){i j:Nat}(b:i<n)(d:j<n)(e:p.getD i 0=p.getD j 0):i=j:=by
 have f:p.toList.Nodup:=(pB.mp h).nodup_iff.mpr (by simpa using List.nodup_range);have c:=(h.at b).2;have a:=(h.at d).2;rw[<-e]at a;rw[<-mv]at c a;exact(rf (by rw[iH,h.size];exact b) f).mp (c.trans a.symm)
variable(inj:∀i j,i<n->j<n->k i=k j->i=j)
include inj
end
end L2
namespace L2
open PySem PySem.Spec PySem.W PyProof.Rows
section
variable{P:Pg}{w:World}{A:Ar}{E:VP}{s:Sh}{a:Ad}{c d:Vs}{k:Nat->Int}
def AL(P:Pg)(w:World)(A:Ar)(d:Vs)(lt:Nat->Nat->Bool)(s:Sh):Prop:=
 wpAny (model P w) A (keyKind' d.toArray) (λa b=>b=s/\∀i j (C:Bool->Sh->Prop),i<d.length->j<d.length->C (lt i j) s->kas_ask P w A a d i j C s) (λ_ _=>False) s
abbrev lM(c:Vs)(p:Array Nat):Vs:=p.toList.map λi=>c.getD i Value.none
def EV(c:Vs):lM c (List.range c.length).toArray=c:=by
 unfold lM;refine uy λi=>?_;rw[tz,hA];by_cases h:i<c.length
 .rw[tF h,gN h];show some (c.getD i Value.none)=_;rw[iD,gN h];rfl
 .rw[ot (by simp;lia),List.getElem?_eq_none ()];rfl
def FL(a:d.length=c.length):(d.toArray.zip c.toArray).map (·.2)=c.toArray:=by
 apply Dd.mp;rw[Ak,ksk_zip];exact List.map_snd_zip (by simp[a])
def xC{a:Heap}{b:Ad}{x:Obj}(e:a.get? b=some x)(c d:Obj):((a.push c).push d).get? b=some x:=ig _ (ig _ e)
end
theorem Gs{a:Type}{p q:a->Bool}:∀{xs:List a},(∀z∈xs,p z=true->q z=true)->(∃z∈xs,p z=false/\q z=true)->xs.countP p<xs.countP q
 | [],_,h=>by obtain⟨z,hz,_⟩:=h;cases hz
 | x::xs,mono,h=>by
  have g:xs.countP p<=xs.countP q:=List.countP_mono_left λz hz=>mono z (ja _ hz);rw[zF,zF];obtain⟨z,hz,b,c⟩:=h
  rcases iu.mp hz with e|hz
  .subst e;rw[b,c];simp;lia
  .have i:=Gs (xs:=xs) (λy d=>mono y (ja _ d)) #[z,hz,b,c];have m:=mono x (iO ..);cases f:p x with
   |false=>cases q x<;>simp<;>lia
   |true=>rw[m f];simp;lia
structure Total{α:Type}(lt:α->α->Bool)(xs:List α):Prop where
 irr:∀x,lt x x=false
 trans:∀x y z,lt x y=true->lt y z=true->lt x z=true
 tot:∀x∈xs,∀y∈xs,x≠y->lt x y=true\/lt y x=true
def oz{a:Type}(lt:a->a->Bool)(xs:List a)(x:a):Int:=((xs.countP λy=>lt y x):Nat)
section
variable{a:Type}{lt:a->a->Bool}{xs:List a}(T:Total lt xs)
include T
def Total.up{x y:a}(b:x∈xs)(h:lt x y=true):oz lt xs x<oz lt xs y:=by
 unfold oz;have z:=Gs (xs:=xs) (p:=λz=>lt z x) (q:=λz=>lt z y) (λz _ c=>T.trans _ _ _ c h) #[x,b,T.irr x,h];lia
def Total.asks{x y:a}(b:x∈xs)(c:y∈xs):decide (oz lt xs x<oz lt xs y)=lt x y:=by
 by_cases e:x=y
 .subst e;rw[T.irr];exact jy (Int.lt_irrefl _)
 .rcases T.tot x b y c e with h|h
  .rw[h];exact iG (T.up b h)
  .have:=T.up c h;rw[jy ()];cases z:lt x y with
   |false=>rfl
   |true=>
    have:=T.up b z;lia
def Total.same{x y:a}(b:x∈xs)(c:y∈xs)(h:oz lt xs x=oz lt xs y):x=y:=by
 refine yR λe=>?_
 rcases T.tot x b y c e with z|z
 .have:=T.up b z;lia
 .have:=T.up c z;lia
end
theorem Fi:∀(a b:f'),a≠b->ki a b=true\/ki b a=true
 | [],[],h=>wC rZ h
 | [],y::b,_=> .inl (by unfold ki;rw[show ni [] (y::b)=none from rfl];simp)
 |x::a,[],_=> .inr (by unfold ki;rw[show ni [] (x::a)=none from rfl];simp)
 | x::a,y::b,h=>by
  by_cases e:x=y
  .subst e
   rcases Fi a b (λz=>h (by rw[z]))with q|q
   .exact .inl (by rw[ud];exact q)
   .exact .inr (by rw[ud];exact q)
  .rw[nS e,nS (jd e)]
   rcases Nat.lt_or_gt_of_ne e with q|q
   .exact .inl (iG q)
   .exact .inr (iG q)
theorem Hi:∀(xs a d:f'),ki xs a=true->ki a d=true->ki xs d=true
 | xs,a,[],_,b=>by
  have:ki a []=false:=by
   unfold ki;rw[show ni a []=none by cases a<;>rfl];simp
  rw[this]at b;cases b
 | [],a,z::d,_,_=>by unfold ki;rw[show ni [] (z::d)=none from rfl];simp
 | x::xs,[],z::d,c,_=>by
  have:ki (x::xs) []=false:=by
   unfold ki;rw[show ni (x::xs) []=none from rfl];simp
  rw[this]at c;cases c
 | x::xs,y::a,z::d,c,b=>by
  by_cases f:x=y
  .subst f;by_cases e:x=z
   .subst e;rw[ud]at c b|-;exact Hi xs a d c b
   .rw[nS e]at b|-;exact b
  .rw[nS f]at c;have l1:=lR c;by_cases e:y=z
   .subst e;rw[nS f];exact c
   .rw[nS e]at b;have l2:=lR b;rw[nS ()];exact iG ()
section
variable{P:Pg}{w:World}{A:Ar}{E:VP}{s:Sh}
def M3{i j:Int}{t u:Tok}(f:Bool){Q:Bool->Sh->Prop}(h:Q (decide (i<j)) s):wpAny (model P w) A (oneLt' f (.int i t) (.int j u)) Q E s:=by
 cases f with
 |true=>exact oneLt_int h
 |false=>exact kat_one _ _ (PyProof.Rows.lt_int h)
end
def Mz{b:Type}{a:List b}{p:Array Nat}{d:b}(c:Arr a.length p):(p.toList.map λi=>a.getD i d).Perm a:=by
 have z:=(pB.mp c).map λi=>a.getD i d;refine z.trans (.of_eq ?_);refine uy λi=>?_;rw[tz,hA];by_cases h:i<a.length
 .rw[tF h,gN h];show some (a.getD i d)=_;rw[iD,gN h];rfl
 .rw[ot (by simp;lia),List.getElem?_eq_none ()];rfl
def Eh{p:Array Nat}{n i:Nat}(a:Arr n p)(b:i<n):p.toList[i]?=some (p.getD i 0):=by
 rw[mv];exact(a.at b).2
def La{c:Type}{lt:c->c->Bool}{a:List c}{d:c}{p:Array Nat}(T:Total lt a)(b:Arr a.length p)(up:rn (λi=>oz lt a (a.getD i d)) p a.length):(p.toList.map λi=>a.getD i d).Pairwise λx y=>lt x y=true:=by
 rw[pc];intro i j e f o;have k:i<a.length:=by rw[gL,iH,b.size]at e;exact e
 have g:j<a.length:=by rw[gL,iH,b.size]at f;exact f
 have l:(p.toList.map λi=>a.getD i d)[i]?=some (a.getD (p.getD i 0) d):=by rw[hA,Eh b k];rfl
 have n:(p.toList.map λi=>a.getD i d)[j]?=some (a.getD (p.getD j 0) d):=by rw[hA,Eh b g];rfl
 rw[gN e]at l;rw[gN f]at n;rw[lX l,lX n];have u:=up i j o g;have m:∀{i:Nat},i<a.length->a.getD (p.getD i 0) d∈a:=λ{i} h=>by
  have:=(b.at h).1;rw[iD,gN this];exact oU _
 rw[<-T.asks (m k) (m g)];exact iG u
structure TupsAt(H:Hp)(bs:As)(us:LN):Prop where
 len:bs.length=us.length
 is:∀(i:Nat) (b:Ad) (u:f'),bs[i]?=some b->us[i]?=some u->H b=some (.tup (u.map nv))
def TupsAt.same{H a:Hp}{bs:As}{c:LN}(h:TupsAt H bs c)(g:Same H a):TupsAt a bs c:=#[h.len,λi b u d e=>g _ _ (h.is i b u d e)]
def TupsAt.pick{H:Hp}{bs:As}{a:LN}(h:TupsAt H bs a){p:Array Nat}(f:Arr a.length p):TupsAt H (p.toList.map λi=>bs.getD i 0) (p.toList.map λi=>a.getD i []):=by
 refine#[by simp,λi b u d c=>?_];rw[hA]at d c;obtain⟨j,e,rfl⟩:=jb.mp d;rw[e]at c;cases c;have g:j<a.length:=by
  have m:=(pB.mp f).mem_iff.mp (iq e);simpa using m
 have k:=h.len;refine h.is j _ _ ?_ ?_
 .rw[iD,gN ()];rfl
 .show a[j]?=some (a.getD j []);rw[iD,gN g];rfl
section
variable{X:Cx}
theorem AK:∀{b:As} {c:Vs},Vals (b.map V.ref) c->c=b.map Value.ref
 | [],_,.nil=>rfl
 |a::b,_,.cons r t=>by
  have d:_=Value.ref a:=r;rw[d,AK t];rfl
def vy{b:Type}{a:List b}{d:b}{i:Nat}(h:i<a.length):a[i]?=some (a.getD i d)/\a.getD i d∈a:=by
 have e:a[i]?=some (a.getD i d):=by
  rw[iD,gN h];rfl
 exact#[e,iq e]
def Me{b:Type}{lt:b->b->Bool}{a:List b}{d:b}(T:Total lt a)(g:a.Nodup):∀i j,i<a.length->j<a.length->oz lt a (a.getD i d)=oz lt a (a.getD j d)->i=j:=λi j c f e=>by
 have z:=T.same (vy c).2 (vy f).2 e;refine(rf c g).mp ?_;rw[(vy (d:=d) c).1,(vy (d:=d) f).1,z]
end
abbrev d0:Keyed:=(Value.none,Value.none)
structure Asks(M:Model)(A:Ar)(s:Sh)(κ:SortKind)(r:Keyed->Int)(a₀:Array Keyed):Prop where
 lt:∀(x y:Keyed) (C:Bool->Sh->Prop),x∈a₀->y∈a₀->C (decide (r x<r y)) s->wpAny M A (keyLt' κ x.1 y.1) C (λ_ _=>False) s
 ne:∀i j,i<a₀.size->j<a₀.size->i≠j->r (a₀.getD i d0)≠r (a₀.getD j d0)
structure StOk(κ:SortKind)(a₀:Array Keyed)(st:SortSt):Prop where
 kind:kindOf st=κ
 perm:(arrOf st).Perm a₀
 ok:failedOf st=none
section
variable{M:Model}{A:Ar}{E:VP}{s:Sh}{o:SortKind}{r:Keyed->Int}{f xs g:Array Keyed}
abbrev kx(r:Keyed->Int)(xs:Array Keyed)(i:Nat):Int:=r (xs.getD i d0)
def sq{i:Nat}(h:i<xs.size):xs[i]?=some (xs.getD i d0):=by
 rw[ub,mK h];rfl
def wU{i:Nat}{x:Keyed}(h:xs[i]?=some x):xs.getD i d0=x:=by
 rw[ub,h];rfl
def qV{i j:Nat}(h:xs[i]?=g[j]?):xs.getD i d0=g.getD j d0:=by
 rw[ub,ub,h]
def sj(p:xs.Perm f):xs.size=f.size:=by
 have z:=(pB.mp p).length_eq;simpa using z
def zM(p:xs.Perm f){i:Nat}(h:i<f.size):xs.getD i d0∈f:=(Df p).mp (D4 (sq (by rw[sj p];exact h)))
def Asks.pairs(K:Asks M A s o r f):(f.toList.map r).Nodup:=by
 refine pc.mpr λi j a b c=>?_;rw[ye,ye];rw[gL,iH]at a b;have z:=K.ne i j a b ();rw[ub,ub,mK a,mK b]at z;exact z
def Asks.apart(K:Asks M A s o r f)(p:xs.Perm f){i j:Nat}(a:i<f.size)(b:j<f.size)(c:i≠j):kx r xs i≠kx r xs j:=by
 have d:(xs.toList.map r).Nodup:=((pB.mp p).map r).nodup_iff.mpr K.pairs;have sz:=sj p;intro z;have e:∀k,k<f.size->(xs.toList.map r)[k]?=some (kx r xs k):=λk g=>by
  rw[hA,mv,sq ()];rfl
 exact c ((rf (by rw[gL,iH];lia) d).mp (by rw[e i a,e j b,z]))
def xU{st:SortSt}{x y:Keyed}{Q:Option Bool->SortSt->Prop}(K:Asks M A s o r f)(c:kindOf st=o)(d:x∈f)(e:y∈f)(h:Q (some (decide (r x<r y))) st):wpS M A E s (lt' x y) Q st:=by
 rw[lt'_eq];refine gW (pg ?_);rw[c];refine gW (vb (qd (kS (K.lt x y (λb a=>a=s/\b=decide (r x<r y)) d e #[rZ,rZ]) (λb a g=>?_) λ_ _ z=>z.elim)));obtain⟨rfl,rfl⟩:=g;exact#[rZ,hI h]
def lH{a:SortSt}{i:Nat}{Q:Keyed->SortSt->Prop}(b:i<xs.size)(h:Q (xs.getD i d0) a):wpS M A E s (elem' xs i) Q a:=by
 rw[elem'_eq,sq b];exact hI h
def xE{st:SortSt}{i j:Nat}{Q:Option Bool->SortSt->Prop}(K:Asks M A s o r f)(B:StOk o f st)(a:i<f.size)(b:j<f.size)(h:Q (some (decide (kx r (arrOf st) i<kx r (arrOf st) j))) st):wpS M A E s (ltAt' i j) Q st:=by
 have sz:=sj B.perm;rw[ltAt'_eq];refine gW (pg ?_);exact gW (lH () (gW (lH () (xU K B.kind (zM B.perm a) (zM B.perm b) h))))
def Ris(r:Keyed->Int)(xs:Array Keyed)(lo c:Nat):Prop:=∀a b,lo<=a->a<b->b<c->kx r xs a<kx r xs b
def Fal(r:Keyed->Int)(xs:Array Keyed)(lo c:Nat):Prop:=∀a b,lo<=a->a<b->b<c->kx r xs b<kx r xs a
def Out(xs g:Array Keyed)(lo a:Nat):Prop:=∀k,k<lo\/a<=k->g[k]?=xs[k]?
def Out.refl(xs:Array Keyed)(lo a:Nat):Out xs xs lo a:=λ_ _=>rfl
def Out.trans{b:Array Keyed}{lo a:Nat}(h:Out xs g lo a)(c:Out g b lo a):Out xs b lo a:=λk z=>(c k z).trans (h k z)
def Out.wide{lo c a b:Nat}(h:Out xs g lo c)(d:a<=lo)(e:c<=b):Out xs g a b:=λk z=>h k ()
def Out.ris{lo c a b:Nat}(h:Out xs g lo c)(e:Ris r xs a b)(d:b<=lo\/c<=a):Ris r g a b:=λi j f k l=>by
 show r (g.getD i d0)<r (g.getD j d0);rw[qV (h i ()),qV (h j ())];exact e i j f k l
def Ris.one{lo:Nat}:Ris r xs lo (lo+1):=λa b c d e=>by lia
def Ris.snoc{lo c:Nat}(h:Ris r xs lo c)(i:lo<c)(l:kx r xs (c-1)<kx r xs c):Ris r xs lo (c+1):=λa b d f j=>by
 by_cases e:b=c
 .subst e;by_cases g:a=b-1
  .subst g;exact l
  .have:=h a (b-1) d () ();lia
 .exact h a b d f ()
def Fal.snoc{lo c:Nat}(h:Fal r xs lo c)(i:lo<c)(l:kx r xs c<kx r xs (c-1)):Fal r xs lo (c+1):=λa b d f j=>by
 by_cases e:b=c
 .subst e;by_cases g:a=b-1
  .subst g;exact l
  .have:=h a (b-1) d () ();lia
 .exact h a b d f ()
def StOk.set{st:SortSt}(B:StOk o f st)(p:g.Perm (arrOf st)):StOk o f (setArr st g):=#[B.kind,p.trans B.perm,B.ok]
def FN{i j:Nat}(b:j<=xs.size)(k:Nat):kx r (mirror xs i j ((j-i) /2)) k=if i<=k/\k<j then kx r xs (i+j-1-k)else kx r xs k:=by
 have e:=getElem?_mirror_all (i:=i) b k;by_cases a:i<=k/\k<j
 .rw[wB a]at e|-;exact iZ r (qV e)
 .rw[wA a]at e|-;exact iZ r (qV e)
def ID{st:SortSt}{lo g:Nat}{Q:Option Nat->SortSt->Prop}(K:Asks M A s o r f)(B:StOk o f st)(hn:lo+g<=f.size)(G:1<=g)(h:∀n l,StOk o f l->pendingOf l=pendingOf st->gallopOf l=gallopOf st->Out (arrOf st) (arrOf l) lo (lo+g)->1<=n->n<=g->Ris r (arrOf l) lo (lo+n)->Q (some n) l):wpS M A E s (countRun' lo g) Q st:=by
 rw[countRun'_eq];have x:∀(m:Nat) (l:SortSt) (H:Option (Option Nat)×Nat->SortSt->Prop),StOk o f l->1<=m->m<=g->Ris r (arrOf l) lo (lo+m)->(∀n,m<=n->n<=g->Ris r (arrOf l) lo (lo+n)->(n<g->kx r (arrOf l) (lo+n)<kx r (arrOf l) (lo+n-1))->H (none,n) l)->
   wpS M A E s (forIn [m:g] ((none,m):Option (Option Nat)×Nat) λ_ p=>do
    let J <-ltAt' (lo+p.snd) (lo+p.snd-1)
    match J with
    |some t=>if t=true then pure (ForInStep.done (none,p.snd))else pure (ForInStep.yield (none,p.snd+1))
    |_=>pure (ForInStep.done (some none,p.snd))) H l:=λm l H U m1 L up q=>by
  refine nr (I:=λi c d=>d=l/\c=(none,i)/\Ris r (arrOf l) lo (lo+i)) (λi c d oM yH v=>?_) (λc d v=>?_) #[rZ,rZ,up]
  .obtain⟨rfl,rfl,u⟩:=v;refine gW (xE K U (by show lo+i<_;lia) (by show lo+i-1<_;lia) ?_);by_cases c:kx r (arrOf d) (lo+i)<kx r (arrOf d) (lo+i-1)
   .rw[iG c];exact hI (q i oM () u λ_=>c)
   .rw[jy c];have ne:=K.apart U.perm (i:=lo+i) (j:=lo+i-1) () () ();exact hI #[rZ,rZ,u.snoc () ()]
  .obtain⟨rfl,rfl,u⟩:=v;rw[show max m g=g by lia]at u|-;exact q g L (gS _) u λz=>wC z (oC _)
 refine gW (x 1 st _ B (gS _) G Ris.one λn N D up stop=>?_);dsimp only;by_cases e:n=g
 .rw[wB (by simpa using e)];exact hI (h n st B rZ rZ (Out.refl _ _ _) N D up)
 rw[wA (by simpa using e)];have O:=stop ();by_cases Y:n>1
 .rw[wB Y];refine gW (xE K B () () ?_);rw[iG (up lo (lo+n-1) (gS _) () ())];exact hI (h n st B rZ rZ (Out.refl _ _ _) N D up)
 rw[wA Y];have en:n=1:=by lia
 subst en;refine gW (vb (qu #[rZ,?_]));have y:Fal r (arrOf st) lo (lo+2):=λa b G h2 h3=>by
  have ea:a=lo:=by lia
  have eb:b=lo+1:=by lia
  subst ea eb;exact O
 refine gW (nJ (nr (I:=λi c d=>d=st/\c=(none,i,0)/\Fal r (arrOf st) lo (lo+i)) (Q:=λc d=>d=st/\∃m,c=(none,m,0)/\2<=m/\m<=g/\Fal r (arrOf st) lo (lo+m)) (λi c d oM yH v=>?_) (λc d v=>?_) #[rZ,rZ,y]) ?_)
 .obtain⟨rfl,rfl,fa⟩:=v;refine gW (xE K B (by show lo+i<_;lia) (by show lo+i-1<_;lia) ?_);by_cases c:kx r (arrOf d) (lo+i)<kx r (arrOf d) (lo+i-1)
  .rw[iG c];exact hI #[rZ,rZ,fa.snoc () c]
  .rw[jy c];have ne:=K.apart B.perm (i:=lo+i) (j:=lo+i-1) () () ();refine gW (xE K B (by show lo+i-1<_;lia) (by show lo+i<_;lia) ?_);rw[iG (by show kx r (arrOf d) (lo+i-1)<kx r (arrOf d) (lo+i);lia)];exact hI #[rZ,i,rZ,(),(),fa]
 .obtain⟨rfl,rfl,fa⟩:=v;refine#[rZ,_,rZ,(),(),fa]
 .rintro c d ⟨rfl,m,rfl,m2,L,fa⟩;dsimp only;obtain⟨m,rfl⟩:∃k,m=k+1:=rS λz=>by rw[z]at m2;exact wC m2 (by decide)
  rw[wA (oC 0)];rw[reverseSlice'_eq];have sz:=sj B.perm;have w:lo+(m+1)<=(arrOf d).size:=by lia
  have B2:StOk o f (setArr d (mirror (arrOf d) lo (lo+(m+1)) ((lo+(m+1)-lo) /2))):=B.set (mirror_perm _ _ _ _);have T:Ris r (mirror (arrOf d) lo (lo+(m+1)) ((lo+(m+1)-lo) /2)) lo (lo+(m+1)):=λa b G h2 h3=>by
   rw[FN w,FN w,wB (),wB ()];exact fa _ _ (show lo<=lo+(lo+m)-b from C3 ()) (show lo+(lo+m)-b<lo+(lo+m)-a from Nat.sub_lt_sub_left () h2) (show lo+(lo+m)-a<lo+(m+1)from yL () ())
  have C:Out (arrOf d) (mirror (arrOf d) lo (lo+(m+1)) ((lo+(m+1)-lo) /2)) lo (lo+g):=λk hk=>by
   rw[getElem?_mirror_all w,wA ()]
  refine gW (qp (gW (x (m+1) _ _ B2 () L T λn N D up stop=>?_)));exact hI (h n _ B2 rZ rZ C () D up)
end
section
variable{M:Model}{A:Ar}{E:VP}{s:Sh}{f:SortKind}{r:Keyed->Int}{a b g:Array Keyed}
def HB{a d:Nat}(g:a<b.size)(h:d<=a)(k:Nat):kx r (bubble b a d) k=if k=a-d then kx r b a else if a-d<k/\k<=a then kx r b (k-1)else kx r b k:=by
 have e:=getElem?_bubble g d h k;by_cases c:k=a-d
 .rw[wB c]at e|-;exact iZ r (qV e)
 .rw[wA c]at e|-;by_cases f:a-d<k/\k<=a
  .rw[wB f]at e|-;exact iZ r (qV e)
  .rw[wA f]at e|-;exact iZ r (qV e)
def Mo{st:SortSt}{lo n ok:Nat}{Q:Bool->SortSt->Prop}(K:Asks M A s f r a)(B:StOk f a st)(hn:lo+n<=a.size)(aa:ok<=n)(hs:Ris r (arrOf st) lo (lo+ok))(h:∀b,StOk f a b->pendingOf b=pendingOf st->gallopOf b=gallopOf st->Out (arrOf st) (arrOf b) lo (lo+n)->Ris r (arrOf b) lo (lo+n)->Q true b):wpS M A E s (binarySort' lo n ok) Q st:=by
 rw[binarySort'_eq];refine gW (nJ (nr (I:=λk c b=>c=(none,Unit.unit)/\StOk f a b/\pendingOf b=pendingOf st/\gallopOf b=gallopOf st/\Out (arrOf st) (arrOf b) lo (lo+n)/\Ris r (arrOf b) lo (lo+min k n))
  (Q:=λc b=>c=(none,Unit.unit)/\StOk f a b/\pendingOf b=pendingOf st/\gallopOf b=gallopOf st/\Out (arrOf st) (arrOf b) lo (lo+n)/\Ris r (arrOf b) lo (lo+n)) ?step ?fin ?init) ?post)
 case post=>
  rintro c b ⟨rfl,y,H,J,o,u⟩;exact hI (h b y H J o u)
 case init=>
  refine#[rZ,B,rZ,rZ,Out.refl _ _ _,λi j v C h3=>?_];exact hs i j v C ()
 case fin=>
  rintro c b ⟨hc,y,H,J,o,u⟩;refine#[hc,y,H,J,o,?_];rwa[show min (max (max ok 1) n) n=n by lia]at u
 case step=>
  rintro k c b ab ae ⟨rfl,y,H,J,o,w⟩;rw[show min k n=k by lia]at w;have sz:=sj y.perm;refine gW (nJ (nr (I:=λx c e=>e=b/\∃l q,c=(none,l,q)/\l<=q/\q<=k/\q+x<=k+l/\
    (∀i,i<l->kx r (arrOf b) (lo+i)<kx r (arrOf b) (lo+k))/\(∀i,q<=i->i<k->kx r (arrOf b) (lo+k)<kx r (arrOf b) (lo+i)))
   (Q:=λc e=>e=b/\∃l q,c=(none,l,q)/\l<=k/\
    (∀i,i<l->kx r (arrOf b) (lo+i)<kx r (arrOf b) (lo+k))/\(∀i,l<=i->i<k->kx r (arrOf b) (lo+k)<kx r (arrOf b) (lo+i))) ?istep ?ifin ?iinit) ?ipost)
  case iinit=>exact#[rZ,0,k,rZ,(),(),(),λi hi=>by lia,λi v C=>by lia]
  case ifin=>
   rintro c e ⟨rfl,l,q,rfl,N,t,hm,m,p⟩;have:l=q:=by lia
   subst this;exact#[rZ,l,l,rZ,t,m,p]
  case istep=>
   rintro x c e _ af ⟨rfl,l,q,rfl,N,t,hm,m,p⟩;dsimp only;by_cases D:l>=q
   .rw[wB D];have:l=q:=by lia
    subst this;exact hI #[rZ,l,l,rZ,t,m,p]
   .rw[wA D];have Y:l<=(l+q) /2:=by lia
    have O:(l+q) /2<q:=by lia
    clear D;generalize(l+q) /2=d at Y O|-;have dk:d<k:=j4 O t;refine gW (xE K y () () ?_);by_cases g:kx r (arrOf e) (lo+k)<kx r (arrOf e) (lo+d)
    .simp only[g,decide_true,if_true];refine hI #[rZ,l,d,rZ,Y,ng dk,(),m,λi v C=>?_];by_cases z:i=d
     .subst z;exact g
     .exact yZ g (w (lo+d) (lo+i) (rC ..) (zr (yq v (jd z)) _) (zr C _))
    .simp only[g,decide_false,Bool.false_eq_true,if_false];have ne:=K.apart y.perm (i:=lo+k) (j:=lo+d) () () ();refine hI #[rZ,d+1,q,rZ,O,t,(),λi v=>?_,p];by_cases z:i=d
     .subst z;exact Int.lt_iff_le_and_ne.mpr #[Int.not_lt.mp g,ne.symm]
     .exact Int.lt_of_lt_of_le (w (lo+i) (lo+d) (rC ..) (zr (yq (zS v) z) _) (zr dk _)) (Int.not_lt.mp g)
  case ipost=>
   rintro c e ⟨rfl,l,q,rfl,L,m,p⟩;show wpS _ _ _ _ (do moveDown' (lo+k) (lo+l);pure (ForInStep.yield (none,Unit.unit))) _ _
   rw[moveDown'_eq];have G:lo+k<(arrOf e).size:=by lia
   refine gW (qp (hI #[rZ,y.set (bubble_perm _ _ _),H,J,o.trans λj hj=>?_,?_]))
   .show(bubble (arrOf e) (lo+k) (lo+k-(lo+l)))[j]?=_;rw[getElem?_bubble G _ (),Nat.sub_sub_self (xw L lo),wA (),wA ()]
   .rw[show min (k+1) n=k+1 by lia];intro i j v C h3;show kx r (bubble (arrOf e) (lo+k) (lo+k-(lo+l))) i<kx r (bubble (arrOf e) (lo+k) (lo+k-(lo+l))) j
    rw[HB G (),HB G (),Nat.sub_sub_self (xw L lo)];have T:∀i,lo<=i->i<lo+l->kx r (arrOf e) i<kx r (arrOf e) (lo+k):=λi v C=>by
     have:=m (i-lo) ();rwa[show lo+(i-lo)=i by lia]at this
    have U:∀i,lo+l<=i->i<lo+k->kx r (arrOf e) (lo+k)<kx r (arrOf e) i:=λi v C=>by
     have:=p (i-lo) () ();rwa[show lo+(i-lo)=i by lia]at this
    repeat' split
    all_goals first
     |(exfalso;lia)
     |exact T _ () ()
     |exact U _ () ()
     |exact w _ _ () () ()
def tm:Bool->Keyed->Array Keyed->Nat->Nat->Nat->StateT SortSt Sem (Option Nat):=sortPriv%PySem.Builtin.gallop
def M8(left:Bool)(e:Keyed)(g:Array Keyed)(d n a:Nat):tm left e g d n a=(do
 let c (i:Nat):StateT SortSt Sem (Option Bool):=do
  let x <-elem' g (d+i)
  if left then lt' x e else return (<-lt' e x).map (!·)
 let mut lastofs:=0
 let mut ofs:=1
 let mut lo:=0
 let mut hi:=0
 let some right <-c a|return none
 if right then
  let b:=n-a
  for _ in[0:n] do
   if ofs>=b then break
   let some more <-c (a+ofs)|return none
   if !more then break
   lastofs:=ofs
   ofs:=2 * ofs+1
  lo:=a+lastofs+1
  hi:=a+min ofs b
 else
  let b:=a+1
  for _ in[0:n] do
   if ofs>=b then break
   let some f <-c (a-ofs)|return none
   if f then break
   lastofs:=ofs
   ofs:=2 * ofs+1
  lo:=a+1-min ofs b
  hi:=a-lastofs
 for _ in[0:n] do
  if lo>=hi then break
  let m:=lo+(hi-lo) /2
  let some more <-c m|return none
  if more then lo:=m+1 else hi:=m
 return some hi):=rfl
end
section
variable{M:Model}{A:Ar}{E:VP}{s:Sh}{b:SortKind}{r:Keyed->Int}{a m d:Array Keyed}
def vQ{st:SortSt}{left:Bool}{t:Keyed}{p:Array Keyed}{d n m:Nat}{Q:Option Nat->SortSt->Prop}(K:Asks M A s b r a)(hk:kindOf st=b)(hz:d+n<=p.size)(mem:∀i,i<n->p.getD (d+i) d0∈a)(mk:t∈a)(ne:∀i,i<n->kx r p (d+i)≠r t)(up:Ris r p d (d+n)) (N:m<n) (q:∀k,k<=n->(∀i,i<k->kx r p (d+i)<r t)->(∀i,k<=i->i<n->r t<kx r p (d+i))->Q (some k) st):wpS M A E s (tm left t p d n m) Q st:=by
 rw[M8];have C:∀(i:Nat) (Q:Option Bool->SortSt->Prop),i<n->Q (some (decide (kx r p (d+i)<r t))) st->wpS M A E s (do
   let x <-elem' p (d+i)
   if left then lt' x t else return (<-lt' t x).map (!·)) Q st:=λi Q w hQ=>by
  refine gW (lH () ?_);cases left with
  |true=>exact xU K hk (mem i w) mk hQ
  | false=>
   refine gW (xU K hk mk (mem i w) (hI ?_));have e:(!decide (r t<r (p.getD (d+i) d0)))=decide (kx r p (d+i)<r t):=by
    have:=ne i w;by_cases z:kx r p (d+i)<r t
    .rw[iG z,jy (show ¬r t<r (p.getD (d+i) d0)from λy=>by have:r t<kx r p (d+i):=y;lia)];rfl
    .rw[jy z,iG (show r t<r (p.getD (d+i) d0)from by show r t<kx r p (d+i);lia)];rfl
   show Q (some (!decide (r t<r (p.getD (d+i) d0)))) st;rw[e];exact hQ
 have T:∀i j,i<=j->j<n->kx r p (d+j)<r t->kx r p (d+i)<r t:=λi j ij jn l=>by
  by_cases z:i=j
  .subst z;exact l
  .have:=up (d+i) (d+j) () () ();lia
 have H:∀i j,i<=j->j<n-> ¬kx r p (d+i)<r t->r t<kx r p (d+j):=λi j ij jn l=>by
  have n1:=ne i ();by_cases z:i=j
  .subst z;lia
  .have:=up (d+i) (d+j) () () ();lia
 have fin:∀(lo w:Nat) (u:SortSt) (f:Nat->Option (Option Nat)×Nat×Nat->StateT SortSt Sem (ForInStep (Option (Option Nat)×Nat×Nat))) (g:Option (Option Nat)×Nat×Nat->StateT SortSt Sem (Option Nat)),u=st->lo<=w->w<=n->(∀i,i<lo->kx r p (d+i)<r t)->(∀i,w<=i->i<n->r t<kx r p (d+i))->
   (∀x l h (R:ForInStep (Option (Option Nat)×Nat×Nat)->SortSt->Prop),l>=h->R (.done (none,l,h)) st->wpS M A E s (f x (none,l,h)) R st)->
   (∀x l h (R:ForInStep (Option (Option Nat)×Nat×Nat)->SortSt->Prop),l<h->h<=n->R (.yield (if kx r p (d+(l+(h-l) /2))<r t then(none,l+(h-l) /2+1,h)else(none,l,l+(h-l) /2))) st->wpS M A E s (f x (none,l,h)) R st)->
   (∀h,Q (some h) st->wpS M A E s (g (none,h,h)) Q st)->wpS M A E s (forIn [0:n] (none,lo,w) f >>= g) Q u:=λlo w u f g e lh U dl du f1 f2 f3=>by
  subst e;refine gW (nJ (nr (I:=λx c v=>v=u/\∃l h,c=(none,l,h)/\l<=h/\h<=n/\h+x<=n+l/\(∀i,i<l->kx r p (d+i)<r t)/\∀i,h<=i->i<n->r t<kx r p (d+i))
   (Q:=λc v=>v=u/\∃h,c=(none,h,h)/\h<=n/\(∀i,i<h->kx r p (d+i)<r t)/\∀i,h<=i->i<n->r t<kx r p (d+i)) ?step ?stop #[rZ,lo,w,rZ,lh,U,(),dl,du]) ?post)
  case step=>
   rintro x c v _ hx ⟨rfl,l,h,rfl,l1,l2,l3,J,L⟩;by_cases z:l>=h
   .have:l=h:=by lia
    subst this;exact f1 x l l _ z #[rZ,l,rZ,l2,J,L]
   .refine f2 x l h _ () l2 ?_;by_cases c:kx r p (d+(l+(h-l) /2))<r t
    .rw[wB c];exact#[rZ,_,_,rZ,(),(),(),λi w=>T i _ () () c,L]
    .rw[wA c];exact#[rZ,_,_,rZ,(),(),(),J,λi D G=>H _ i D G c]
  case stop=>
   rintro c v ⟨rfl,l,h,rfl,l1,l2,l3,J,L⟩;have:l=h:=by lia
   subst this;exact#[rZ,l,rZ,l2,J,L]
  case post=>
   rintro c v ⟨rfl,h,rfl,G,J,L⟩;exact f3 h (q h G J L)
 refine gW (C m _ N ?_);by_cases O:kx r p (d+m)<r t
 .rw[iG O];dsimp only;rw[wB rZ];refine gW (nJ (nr (I:=λx c u=>u=st/\∃l o,c=(none,l,o)/\l<o/\x+1<=o/\l<n-m/\kx r p (d+(m+l))<r t)
   (Q:=λc u=>u=st/\∃l o,c=(none,l,o)/\l<o/\l<n-m/\kx r p (d+(m+l))<r t/\(o<n-m-> ¬kx r p (d+(m+o))<r t)) ?step ?stop #[rZ,0,1,rZ,(),(),(),O]) ?post)
  case step=>
   rintro x c u _ hx ⟨rfl,l,o,rfl,l1,l2,l3,l4⟩;dsimp only;by_cases z:o>=n-m
   .rw[wB z];exact hI #[rZ,l,o,rZ,l1,l3,l4,λy=>by lia]
   .rw[wA z];refine gW (C _ _ () ?_);by_cases c:kx r p (d+(m+o))<r t
    .rw[iG c];exact hI #[rZ,o,_,rZ,(),(),(),c]
    .rw[jy c];exact hI #[rZ,l,o,rZ,l1,l3,l4,λ_=>c]
  case stop=>
   rintro c u ⟨rfl,l,o,rfl,l1,l2,l3,l4⟩;exact#[rZ,l,o,rZ,l1,l3,l4,λy=>by lia]
  case post=>
   rintro c u ⟨rfl,l,o,rfl,l1,l3,l4,l5⟩;dsimp only;refine fin (m+l+1) (m+min o (n-m)) _ _ _ rZ (xw (Nat.le_min.mpr #[l1,l3]) m) (iP (xw (Nat.min_le_right ..) m) (vo (r9 (ng N)))) (λi w=>T i (m+l) (zS w) (Nat.add_lt_of_lt_sub' l3) l4) (λi D G=>by
    by_cases z:o<n-m
    .exact H (m+o) i (by rw[vX (ng z)]at D;exact D) G (l5 z)
    .rw[Nat.min_eq_right (Aq z),r9 (ng N)]at D;exact wC G (Nat.not_lt.mpr D)) (λx l h R z B=>?_) (λx l h R z U B=>?_) (λh Y=>hI Y)
   .dsimp only;rw[wB z];exact hI B
   .dsimp only;rw[wA ()];refine gW (C _ _ () ?_);by_cases c:kx r p (d+(l+(h-l) /2))<r t
    .rw[wB c]at B;rw[iG c];exact hI B
    .rw[wA c]at B;rw[jy c];exact hI B
 .rw[jy O];dsimp only;rw[wA (by decide)];refine gW (nJ (nr (I:=λx c u=>u=st/\∃l o,c=(none,l,o)/\l<o/\x+1<=o/\l<m+1/\ ¬kx r p (d+(m-l))<r t)
   (Q:=λc u=>u=st/\∃l o,c=(none,l,o)/\l<o/\l<m+1/\ ¬kx r p (d+(m-l))<r t/\(o<m+1->kx r p (d+(m-o))<r t)) ?step ?stop #[rZ,0,1,rZ,(),(),(),O]) ?post)
  case step=>
   rintro x c u _ hx ⟨rfl,l,o,rfl,l1,l2,l3,l4⟩;dsimp only;by_cases z:o>=m+1
   .rw[wB z];exact hI #[rZ,l,o,rZ,l1,l3,l4,λy=>by lia]
   .rw[wA z];refine gW (C _ _ () ?_);by_cases c:kx r p (d+(m-o))<r t
    .rw[iG c];exact hI #[rZ,l,o,rZ,l1,l3,l4,λ_=>c]
    .rw[jy c];exact hI #[rZ,o,_,rZ,(),(),(),c]
  case stop=>
   rintro c u ⟨rfl,l,o,rfl,l1,l2,l3,l4⟩;exact#[rZ,l,o,rZ,l1,l3,l4,λy=>by lia]
  case post=>
   rintro c u ⟨rfl,l,o,rfl,l1,l3,l4,l5⟩;dsimp only;refine fin (m+1-min o (m+1)) (m-l) _ _ _ rZ (iP (Nat.sub_le_sub_left (Nat.le_min.mpr #[l1,l3]) _) (vo (Nat.add_sub_add_right ..))) (iP (Nat.sub_le ..) (ng N)) (λi w=>by
    by_cases z:o<m+1
    .rw[vX (ng z),Nat.succ_sub (zS z)]at w;exact T i (m-o) (zS w) (yi (Nat.sub_le ..) N) (l5 z)
    .rw[Nat.min_eq_right (Aq z),vU]at w;exact wC w (pk _)) (λi D G=>H (m-l) i D G l4) (λx l h R z B=>?_) (λx l h R z U B=>?_) (λh Y=>hI Y)
   .dsimp only;rw[wB z];exact hI B
   .dsimp only;rw[wA ()];refine gW (C _ _ () ?_);by_cases c:kx r p (d+(l+(h-l) /2))<r t
    .rw[wB c]at B;rw[iG c];exact hI B
    .rw[wA c]at B;rw[jy c];exact hI B
end
abbrev T5:Type:=Option (Array Keyed)×Array Keyed×Nat×Nat×Nat
abbrev T6:Type:=Option (Array Keyed)×Array Keyed×Nat×Nat×Nat×Nat
abbrev T7:Type:=Option (Array Keyed)×Array Keyed×Nat×Nat×Nat×Nat×Nat
def Bx:Array Keyed->Array Keyed->StateT SortSt Sem (Array Keyed):=sortPriv%PySem.Builtin.mergeLo
def C7:Array Keyed->Array Keyed->StateT SortSt Sem (Array Keyed):=sortPriv%PySem.Builtin.mergeHi
def wM:Nat->StateT SortSt Sem Unit:=sortPriv%PySem.Builtin.setMinGallop
def HX(g:Nat):wM g=modify λst=>SortSt.mk' (kindOf st) (arrOf st) (pendingOf st) g (failedOf st):=rfl
section
variable(a b:Array Keyed)
abbrev oB(c:Array Keyed)(d e:Nat):Array Keyed:=c++a.extract d a.size++b.extract e b.size
abbrev ro(c:Array Keyed)(d e:Nat):Array Keyed:=c++b.extract e b.size++a.extract d a.size
def Cg(mg:Nat)(c:T6):StateT SortSt Sem (ForInStep T6):=do
 let some d <-lt' (<-elem' b c.2.2.2.1) (<-elem' a c.2.2.1)|pure (.done (some (oB a b c.2.1 c.2.2.1 c.2.2.2.1),c.2.1,c.2.2.1,c.2.2.2.1,c.2.2.2.2.1,c.2.2.2.2.2))
 if d then
  let x <-elem' b c.2.2.2.1
  if c.2.2.2.1+1==b.size then pure (.done (some (oB a b (c.2.1.push x) c.2.2.1 (c.2.2.2.1+1)),c.2.1.push x,c.2.2.1,c.2.2.2.1+1,0,c.2.2.2.2.2+1))
  else if c.2.2.2.2.2+1>=mg then pure (.done (none,c.2.1.push x,c.2.2.1,c.2.2.2.1+1,0,c.2.2.2.2.2+1))
  else pure (.yield (none,c.2.1.push x,c.2.2.1,c.2.2.2.1+1,0,c.2.2.2.2.2+1))
 else
  let x <-elem' a c.2.2.1
  if c.2.2.1+1+1==a.size then pure (.done (some (ro a b (c.2.1.push x) (c.2.2.1+1) c.2.2.2.1),c.2.1.push x,c.2.2.1+1,c.2.2.2.1,c.2.2.2.2.1+1,0))
  else if c.2.2.2.2.1+1>=mg then pure (.done (none,c.2.1.push x,c.2.2.1+1,c.2.2.2.1,c.2.2.2.2.1+1,0))
  else pure (.yield (none,c.2.1.push x,c.2.2.1+1,c.2.2.2.1,c.2.2.2.2.1+1,0))
def qY(c:Array Keyed)(d e mg k k1:Nat):StateT SortSt Sem (ForInStep T7):=do
 let x <-elem' a d
 if d+1+1==a.size then pure (.done (some (ro a b (c.push x) (d+1) e),c.push x,d+1,e,mg,k,k1))
 else if k<7&&k1<7 then pure (.done (none,c.push x,d+1,e,mg,k,k1))
 else pure (.yield (none,c.push x,d+1,e,mg,k,k1))
def rm(d:Array Keyed)(e c mg k f:Nat):StateT SortSt Sem (ForInStep T7):=do
 let y <-elem' b c
 if c+1==b.size then pure (.done (some (oB a b (d.push y) e (c+1)),d.push y,e,c+1,mg,k,f))
 else do
  let some k1 <-tm true (<-elem' a e) b (c+1) (b.size-(c+1)) 0|pure (.done (some (oB a b (d.push y) e (c+1)),d.push y,e,c+1,mg,k,f))
  if k1>0 then
   if c+1+k1==b.size then pure (.done (some (oB a b (d.push y++b.extract (c+1) (c+1+k1)) e (c+1+k1)),d.push y++b.extract (c+1) (c+1+k1),e,c+1+k1,mg,k,k1))
   else qY a b (d.push y++b.extract (c+1) (c+1+k1)) e (c+1+k1) mg k k1
  else qY a b (d.push y) e (c+1) mg k k1
def r4(c:T7)(mg:Nat):StateT SortSt Sem (ForInStep T7):=do
 wM mg
 let some k <-tm false (<-elem' b c.2.2.2.1) a c.2.2.1 (a.size-c.2.2.1) 0|pure (.done (some (oB a b c.2.1 c.2.2.1 c.2.2.2.1),c.2.1,c.2.2.1,c.2.2.2.1,mg,c.2.2.2.2.2.1,c.2.2.2.2.2.2))
 if k>0 then
  if c.2.2.1+k+1==a.size then pure (.done (some (ro a b (c.2.1++a.extract c.2.2.1 (c.2.2.1+k)) (c.2.2.1+k) c.2.2.2.1),c.2.1++a.extract c.2.2.1 (c.2.2.1+k),c.2.2.1+k,c.2.2.2.1,mg,k,c.2.2.2.2.2.2))
  else if c.2.2.1+k==a.size then pure (.done (some (oB a b (c.2.1++a.extract c.2.2.1 (c.2.2.1+k)) (c.2.2.1+k) c.2.2.2.1),c.2.1++a.extract c.2.2.1 (c.2.2.1+k),c.2.2.1+k,c.2.2.2.1,mg,k,c.2.2.2.2.2.2))
  else rm a b (c.2.1++a.extract c.2.2.1 (c.2.2.1+k)) (c.2.2.1+k) c.2.2.2.1 mg k c.2.2.2.2.2.2
 else rm a b c.2.1 c.2.2.1 c.2.2.2.1 mg k c.2.2.2.2.2.2
def DY(c:T7):StateT SortSt Sem (ForInStep T7):=if c.2.2.2.2.1>1 then r4 a b c (c.2.2.2.2.1-1)else r4 a b c c.2.2.2.2.1
def BX(c:T5):StateT SortSt Sem (ForInStep T5):=do
 let c1 <-forIn [0:a.size+b.size] ((none,c.2.1,c.2.2.1,c.2.2.2.1,0,0):T6) λ_ c1=>Cg a b c.2.2.2.2 c1
 match c1.1 with
 |some r=>pure (.done (some r,c1.2.1,c1.2.2.1,c1.2.2.2.1,c.2.2.2.2))
 | none=>do
  rule "list.sort.gallop"
  let c2 <-forIn [0:a.size+b.size] ((none,c1.2.1,c1.2.2.1,c1.2.2.2.1,c.2.2.2.2+1,c1.2.2.2.2.1,c1.2.2.2.2.2):T7) λ_ c2=>DY a b c2
  match c2.1 with
  |some r=>pure (.done (some r,c2.2.1,c2.2.2.1,c2.2.2.2.1,c2.2.2.2.2.1))
  |none=>do
   wM (c2.2.2.2.2.1+1)
   pure (.yield (none,c2.2.1,c2.2.2.1,c2.2.2.2.1,c2.2.2.2.2.1+1))
def HA:StateT SortSt Sem (Array Keyed):=do
 rule "list.sort.merge-lo"
 let x <-elem' b 0
 if 1==b.size then pure (oB a b #v[x] 0 1)
 else if 0+1==a.size then pure (ro a b #v[x] 0 1)
 else do
  let st <-get
  let c <-forIn [0:a.size+b.size] ((none,#v[x],0,1,gallopOf st):T5) λ_ c=>BX a b c
  match c.1 with
  |some r=>pure r
  |none=>unsupported "internal:list.sort.merge-bound"
def NG:Bx a b=HA a b:=by
 refine iZ (bind _) (funext λ_=>?_);refine iZ (bind (elem' b 0)) (funext λx=>?_);refine wh rZ (λ_=>rfl) (λ_=>?_);refine wh rZ (λ_=>rfl) (λ_=>?_);refine iZ (bind get) (funext λst=>?_);refine congr (iZ bind (iZ (forIn [0:a.size+b.size] _) (funext λu=>funext λc=>?_))) (funext λc=>?_)
 .refine congr (iZ bind (iZ (forIn [0:a.size+b.size] _) (funext λu=>funext λc1=>rfl))) (funext λc1=>?_);obtain⟨d,e,f,g,h,i⟩:=c1;cases d with
  |some d=>rfl
  | none=>
   refine iZ (bind _) (funext λ_=>?_);refine congr (iZ bind (iZ (forIn [0:a.size+b.size] _) (funext λu=>funext λc2=>?_))) (funext λc2=>?_)
   .refine wh rZ (λ_=>?_) (λ_=>?_)
    .rfl
    .rfl
   .obtain⟨j,_⟩:=c2;cases j<;>rfl
 .obtain⟨r,_⟩:=c;cases r<;>rfl
end
abbrev Up(r:Keyed->Int)(l:List Keyed):Prop:=l.Pairwise λx y=>r x<r y
structure Mg(r:Keyed->Int)(la lb out:List Keyed)(ia ib:Nat):Prop where
 perm:(out++la.drop ia++lb.drop ib).Perm (la++lb)
 so:Up r out
 oa:∀x∈out,∀y∈la.drop ia,r x<r y
 ob:∀x∈out,∀y∈lb.drop ib,r x<r y
section
variable{r:Keyed->Int}{a b out:List Keyed}{c d:Nat}
def Ao{l:List Keyed}(h:Up r l)(i:Nat):Up r (l.drop i):=wW (List.drop_sublist i l) h
def Gh{l:List Keyed}(h:Up r l)(i k:Nat):Up r ((l.drop i).take k)/\∀x∈(l.drop i).take k,∀y∈l.drop (i+k),r x<r y:=by
 have z:=Ao h i;rw[<-oK k (l.drop i)]at z;obtain⟨b,_,a⟩:=mB.mp z;rw[List.drop_drop]at a;exact#[b,a]
def Mg.len(m:Mg r a b out c d)(e:c<=a.length)(f:d<=b.length):out.length+(a.length-c)+(b.length-d)=a.length+b.length:=by
 have z:=m.perm.length_eq;rw[jc,jc,jc,wV,wV]at z;exact z
def Mg.moveA(m:Mg r a b out c d)(i:Up r a)(k:Nat)(h:∀x∈(a.drop c).take k,∀y∈b.drop d,r x<r y):Mg r a b (out++(a.drop c).take k) (c+k) d:=by
 obtain⟨j,l⟩:=Gh i c k;have e:(a.drop c).take k++a.drop (c+k)=a.drop c:=by rw[<-List.drop_drop];exact oK k _
 have sub:∀y∈a.drop (c+k),y∈a.drop c:=λy f=>by rw[<-e];exact iC.mpr (.inr f)
 refine#[?_,mB.mpr #[m.so,j,λx g y f=>m.oa x g y (uw f)],λx g y f=>?_,λx g y f=>?_]
 .have z:=m.perm;rw[<-e,<-lU]at z;exact z
 .rcases iC.mp g with z|z
  .exact m.oa x z y (sub y f)
  .exact l x z y f
 .rcases iC.mp g with z|z
  .exact m.ob x z y f
  .exact h x z y f
def Mg.moveB(m:Mg r a b out c d)(i:Up r b)(k:Nat)(h:∀x∈(b.drop d).take k,∀y∈a.drop c,r x<r y):Mg r a b (out++(b.drop d).take k) c (d+k):=by
 obtain⟨j,l⟩:=Gh i d k;have e:(b.drop d).take k++b.drop (d+k)=b.drop d:=by rw[<-List.drop_drop];exact oK k _
 have sub:∀y∈b.drop (d+k),y∈b.drop d:=λy f=>by rw[<-e];exact iC.mpr (.inr f)
 refine#[?_,mB.mpr #[m.so,j,λx g y f=>m.ob x g y (uw f)],λx g y f=>?_,λx g y f=>?_]
 .have z:=m.perm;rw[<-e]at z;refine List.Perm.trans ?_ z;rw[lU,lU,lU];refine yJ _ ?_;rw[<-lU,<-lU];exact Bt _ Ab
 .rcases iC.mp g with z|z
  .exact m.oa x z y f
  .exact h x z y f
 .rcases iC.mp g with z|z
  .exact m.ob x z y (sub y f)
  .exact l x z y f
def kv(r:Keyed->Int)(a b out:List Keyed):Prop:=out.Perm (a++b)/\Up r out
def Mg.endB(m:Mg r a b out c d)(e:Up r a)(h:b.length<=d):kv r a b (out++a.drop c++b.drop d):=by
 refine#[m.perm,?_];rw[List.drop_of_length_le h,mW];exact mB.mpr #[m.so,Ao e c,m.oa]
def Mg.endA(m:Mg r a b out c d)(e:Up r b)(h:a.length<=c):kv r a b (out++a.drop c++b.drop d):=by
 refine#[m.perm,?_];rw[List.drop_of_length_le h,mW];exact mB.mpr #[m.so,Ao e d,m.ob]
def Mg.last(m:Mg r a b out c d)(f:Up r b)(h:c+1=a.length)(top:∀y∈b,∀x∈a.drop c,r y<r x):kv r a b (out++b.drop d++a.drop c):=by
 refine#[List.Perm.trans ?_ m.perm,?_]
 .rw[lU,lU];exact yJ _ Ab
 .obtain⟨x,g⟩:∃x,a.drop c=[x]:=List.length_eq_one_iff.mp (by rw[wV];lia);refine mB.mpr #[mB.mpr #[m.so,Ao f d,m.ob],by rw[g];exact sh _ _,λy i x e=>?_]
  rcases iC.mp i with z|z
  .exact m.oa y z x e
  .exact top y (Bg z) x e
end
structure Eqv(st st':SortSt):Prop where
 kind:kindOf st'=kindOf st
 arr:arrOf st'=arrOf st
 pend:pendingOf st'=pendingOf st
 ok:failedOf st'=failedOf st
def Eqv.refl(st:SortSt):Eqv st st:=#[rZ,rZ,rZ,rZ]
def Eqv.trans{a b c:SortSt}(h:Eqv a b)(d:Eqv b c):Eqv a c:=#[d.kind.trans h.kind,d.arr.trans h.arr,d.pend.trans h.pend,d.ok.trans h.ok]
section
variable{M:Model}{A:Ar}{E:VP}{s:Sh}{κ:SortKind}{r:Keyed->Int}{a₀ a b out:Array Keyed}{ia ib:Nat}
def Bb{g:Nat}{st:SortSt}{Q:Unit->SortSt->Prop}(h:∀a,Eqv st a->Q ⟨⟩ a):wpS M A E s (wM g) Q st:=by
 rw[HX];exact qp (h _ #[rZ,rZ,rZ,rZ])
def Bh(a:Array Keyed)(i:Nat):(a.extract i a.size).toList=a.toList.drop i:=by
 rw[Bc,zD,Ac (by rw[wV,iH];exact gS _)]
def G9(a:Array Keyed)(i k:Nat):(a.extract i (i+k)).toList=(a.toList.drop i).take k:=by
 rw[Bc,zD,xk]
def zh:(oB a b out ia ib).toList=out.toList++a.toList.drop ia++b.toList.drop ib:=by
 rw[px,px,Bh,Bh]
def zu:(ro a b out ia ib).toList=out.toList++b.toList.drop ib++a.toList.drop ia:=by
 rw[px,px,Bh,Bh]
def Dz{i:Nat}(h:i<a.size):a.toList.drop i=a.getD i d0::a.toList.drop (i+1):=by
 have z:=sq h;rw[<-mv]at z;obtain⟨b,c⟩:=gV.mp z;rw[zy b,c]
def Aj{i:Nat}{x:Keyed}(h:x∈a.toList.drop i):∃j,i<=j/\j<a.size/\a.getD j d0=x:=by
 obtain⟨j,b⟩:=wG h;rw[x9,mv]at b;exact#[i+j,(),(nj.mp b).1,wU b]
def CU{i k:Nat}{x:Keyed}(h:x∈(a.toList.drop i).take k):∃j,j<k/\i+j<a.size/\a.getD (i+j) d0=x:=by
 obtain⟨j,b⟩:=wG h;rw[Bv]at b;split at b
 .next l=>
  rw[x9,mv]at b;exact#[j,l,(nj.mp b).1,wU b]
 .cases b
def wx{lo b:Nat}(h:Up r a.toList)(l:b<=a.size):Ris r a lo b:=λi j _ c m=>by
 have e:∀k,k<a.size->a.toList[k]?=some (a.getD k d0):=λk d=>by rw[mv];exact sq d
 obtain⟨l1,f⟩:=gV.mp (e i ());obtain⟨l2,g⟩:=gV.mp (e j ());have z:=pc.mp h i j l1 l2 c;rw[f,g]at z;exact z
def mw{i:Nat}(h:i<a.size):a.getD i d0∈a.toList:=by
 rw[Array.mem_toList_iff];exact D4 (sq h)
structure Two(κ:SortKind)(r:Keyed->Int)(a₀ a b:Array Keyed):Prop where
 ma:∀x∈a.toList,x∈a₀
 mb:∀x∈b.toList,x∈a₀
 sa:Up r a.toList
 sb:Up r b.toList
 ap:∀x∈a.toList,∀y∈b.toList,r x≠r y
 a1:0<a.size
 b1:0<b.size
 lo:∀x∈a.toList,r (b.getD 0 d0)<r x
 top:∀y∈b.toList,r y<r (a.getD (a.size-1) d0)
abbrev Gd(r:Keyed->Int)(a b m:Array Keyed):Prop:=kv r a.toList b.toList m.toList
def Two.tops(t:Two κ r a₀ a b){i:Nat}(h:i+1=a.size):∀y∈b.toList,∀x∈a.toList.drop i,r y<r x:=λy c x d=>by
 obtain⟨j,f,g,rfl⟩:=Aj d;have e:j=a.size-1:=by lia
 subst e;exact t.top y c
def AT{x:Keyed}:(out.push x).toList=out.toList++[x]:=xh
def Ga(t:Two κ r a₀ a b)(m:Mg r a.toList b.toList out.toList ia ib)(c:ia<a.size)(h:∀y∈b.toList.drop ib,r (a.getD ia d0)<r y):Mg r a.toList b.toList (out.push (a.getD ia d0)).toList (ia+1) ib:=by
 have e:(a.toList.drop ia).take 1=[a.getD ia d0]:=by rw[Dz c];rfl
 have z:=m.moveA t.sa 1 (by rw[e];intro x d;rw[h9.mp d];exact h);rw[e]at z;rw[AT];exact z
def Cz(t:Two κ r a₀ a b)(m:Mg r a.toList b.toList out.toList ia ib)(c:ib<b.size)(h:∀y∈a.toList.drop ia,r (b.getD ib d0)<r y):Mg r a.toList b.toList (out.push (b.getD ib d0)).toList ia (ib+1):=by
 have e:(b.toList.drop ib).take 1=[b.getD ib d0]:=by rw[Dz c];rfl
 have z:=m.moveB t.sb 1 (by rw[e];intro x d;rw[h9.mp d];exact h);rw[e]at z;rw[AT];exact z
def below{x:Int}{i:Nat}(b:Up r a.toList)(f:i<a.size)(h:x<r (a.getD i d0)):∀y∈a.toList.drop i,x<r y:=λy c=>by
 obtain⟨j,g,d,rfl⟩:=Aj c;by_cases e:j=i
 .subst e;exact h
 .have:=wx (lo:=0) b (gS _) i j (lV _) () d;show x<kx r a j;have:x<kx r a i:=h;lia
def Kx{e:SortSt}{mg old t:Nat}{c:T6}{st:SortSt}{Q:ForInStep T6->SortSt->Prop}(K:Asks M A s κ r a₀)(T:Two κ r a₀ a b)(n:Eqv e st)(o:kindOf e=κ)(p:c=(none,out,ia,ib,c.2.2.2.2.1,c.2.2.2.2.2))(m:Mg r a.toList b.toList out.toList ia ib)(q:ia+1<a.size)(d:ib<b.size)(B:old+t<=out.size)(k:∀w rest,Gd r a b w->Q (.done (some w,rest)) st) (l:∀out ia ib x y,Mg r a.toList b.toList out.toList ia ib->ia+1<a.size->ib<b.size->old+t+1<=out.size->Q (.done (none,out,ia,ib,x,y)) st/\Q (.yield (none,out,ia,ib,x,y)) st):wpS M A E s (Cg a b mg c) Q st:=by
 have h:=n.kind.trans o;unfold Cg;rw[p];dsimp only;have u:=T.ma _ (mw (show ia<a.size by lia));have v:=T.mb _ (mw d);refine gW (lH d (gW (lH () (gW (xU K h v u ?_)))));by_cases w:r (b.getD ib d0)<r (a.getD ia d0)
 .rw[iG w];refine gW (lH d ?_);have f:=Cz T m d (below T.sa () w);by_cases z:ib+1=b.size
  .rw[wB (by simpa using z)];refine hI (k _ _ ?_);show kv r _ _ (oB a b _ _ _).toList
   rw[zh];exact f.endB T.sa (by rw[iH];lia)
  .rw[wA (by simpa using z)];obtain⟨i,j⟩:=l _ _ _ 0 (c.2.2.2.2.2+1) f q () (by rw[rg];lia);by_cases g:c.2.2.2.2.2+1>=mg
   .rw[wB g];exact hI i
   .rw[wA g];exact hI j
 .rw[jy w];refine gW (lH () ?_);have C:=T.ap _ (mw (show ia<a.size by lia)) _ (mw d);have f:=Ga T m () (below T.sb d ());by_cases z:ia+1+1=a.size
  .rw[wB (by simpa using z)];refine hI (k _ _ ?_);show kv r _ _ (ro a b _ _ _).toList
   rw[zu];exact f.last T.sb (by rw[iH];lia) (T.tops ())
  .rw[wA (by simpa using z)];obtain⟨i,j⟩:=l _ _ _ (c.2.2.2.2.1+1) 0 f () d (by rw[rg];lia);by_cases g:c.2.2.2.2.1+1>=mg
   .rw[wB g];exact hI i
   .rw[wA g];exact hI j
end
section
variable{M:Model}{A:Ar}{E:VP}{s:Sh}{κ:SortKind}{r:Keyed->Int}{a₀ a b out:Array Keyed}{ia ib:Nat}
structure Rnd(r:Keyed->Int)(a b:Array Keyed)(st0:SortSt)(old:Nat)(Q:ForInStep T7->SortSt->Prop):Prop where
 q1:∀st w rest,Eqv st0 st->Gd r a b w->Q (.done (some w,rest)) st
 q2:∀st (out:Array Keyed) ia ib x y z,Eqv st0 st->Mg r a.toList b.toList out.toList ia ib->ia+1<a.size->ib<b.size->old<=out.size->Q (.done (none,out,ia,ib,x,y,z)) st/\Q (.yield (none,out,ia,ib,x,y,z)) st
def GU{c st:SortSt}{mg k k1 old:Nat}{Q:ForInStep T7->SortSt->Prop}(T:Two κ r a₀ a b)(d:Eqv c st)(m:Mg r a.toList b.toList out.toList ia ib)(j:ia+1<a.size)(f:ib<b.size)(l:old<=out.size)(lt:∀y∈b.toList.drop ib,r (a.getD ia d0)<r y)(q:Rnd r a b c old Q):wpS M A E s (qY a b out ia ib mg k k1) Q st:=by
 unfold qY;refine gW (lH () ?_);have e:=Ga T m () lt;by_cases z:ia+1+1=a.size
 .rw[wB (by simpa using z)];refine hI (q.q1 _ _ _ d ?_);show kv r _ _ (ro a b _ _ _).toList;rw[zu];exact e.last T.sb (by rw[iH];lia) (T.tops ())
 .rw[wA (by simpa using z)];obtain⟨h,i⟩:=q.q2 st _ _ _ mg k k1 d e () f (by rw[rg];lia);by_cases g:(decide (k<7)&&decide (k1<7))=true
  .rw[wB g];exact hI h
  .rw[wA g];exact hI i
def Hh{c st:SortSt}{mg k G old:Nat}{Q:ForInStep T7->SortSt->Prop}(K:Asks M A s κ r a₀)(H:kindOf c=κ)(T:Two κ r a₀ a b)(d:Eqv c st)(m:Mg r a.toList b.toList out.toList ia ib)(v:ia+1<a.size)(w:ib<b.size)(L:old<=out.size)(lt:∀y∈a.toList.drop ia,r (b.getD ib d0)<r y)(q:Rnd r a b c old Q):wpS M A E s (rm a b out ia ib mg k G) Q st:=by
 have o:=d.kind.trans H;unfold rm;refine gW (lH w ?_);have n:=Cz T m w lt;have f:old<=(out.push (b.getD ib d0)).size:=by rw[rg];lia
 generalize out.push (b.getD ib d0)=h at n f;by_cases z:ib+1=b.size
 .rw[wB (by simpa using z)];refine hI (q.q1 _ _ _ d ?_);show kv r _ _ (oB a b _ _ _).toList;rw[zh];exact n.endB T.sa (by rw[iH];lia)
 rw[wA (by simpa using z)];have B:=mw (show ia<a.size by lia);refine gW (lH () (gW (vQ K o () (λi I=>T.mb _ (mw ())) (T.ma _ B) (λi I=>(T.ap _ B _ (mw (show ib+1+i<b.size by lia))).symm) (wx T.sb ()) () λk1 N k2 k3=>?_)));dsimp only;have C:∀y∈b.toList.drop (ib+1+k1),r (a.getD ia d0)<r y:=λy p=>by
  obtain⟨j,l,D,rfl⟩:=Aj p;have:=k3 (j-(ib+1)) (C3 (wL .. ▸l)) (Nat.sub_lt_sub_right (iP (rC ..) l) D);rw[r9 (iP (rC ..) l)]at this;exact this
 by_cases g:k1>0
 .rw[wB g];have t:=n.moveB T.sb k1 (λx J y p=>by
   obtain⟨j,l,D,rfl⟩:=CU J;exact below T.sa () (k2 j l) y p)
  rw[<-G9,<-px]at t;have u:old<=(h++b.extract (ib+1) (ib+1+k1)).size:=by rw[Ay];lia
  by_cases z2:ib+1+k1=b.size
  .rw[wB (by simpa using z2)];refine hI (q.q1 _ _ _ d ?_);show kv r _ _ (oB a b _ _ _).toList
   rw[zh];exact t.endB T.sa (by rw[iH];lia)
  .rw[wA (by simpa using z2)];exact GU T d t v () u C q
 .rw[wA g];have e:k1=0:=Nat.eq_zero_of_not_pos g;subst e;exact GU T d n v () f C q
def FK{d st:SortSt}{c:T7}{mg old:Nat}{Q:ForInStep T7->SortSt->Prop}(K:Asks M A s κ r a₀)(o:kindOf d=κ)(T:Two κ r a₀ a b)(B:Eqv d st)(C:c.2.1=out/\c.2.2.1=ia/\c.2.2.2.1=ib)(m:Mg r a.toList b.toList out.toList ia ib)(D:ia+1<a.size)(f:ib<b.size)(G:old<=out.size)(q:Rnd r a b d old Q):wpS M A E s (r4 a b c mg) Q st:=by
 obtain⟨H,I,J⟩:=C;unfold r4;rw[H,I,J];refine gW (Bb λL N=>?_);have h:=B.trans N;have p:=h.kind.trans o;have v:=mw f;refine gW (lH f (gW (vQ K p () (λi O=>T.ma _ (mw ())) (T.mb _ v) (λi O=>T.ap _ (mw (show ia+i<a.size by lia)) _ v) (wx T.sa ()) () λk Y k2 k3=>?_)));dsimp only;have w:∀y∈a.toList.drop (ia+k),r (b.getD ib d0)<r y:=λy t=>by
  obtain⟨j,l,z,rfl⟩:=Aj t;have:=k3 (j-ia) (C3 (wL .. ▸l)) (Nat.sub_lt_sub_right (iP (rC ..) l) z);rw[r9 (iP (rC ..) l)]at this;exact this
 by_cases g:k>0
 .rw[wB g];have n:=m.moveA T.sa k (λx U y t=>by
   obtain⟨j,l,z,rfl⟩:=CU U;exact below T.sb f (k2 j l) y t)
  rw[<-G9,<-px]at n;have u:old<=(out++a.extract ia (ia+k)).size:=by rw[Ay];lia
  by_cases z1:ia+k+1=a.size
  .rw[wB (by simpa using z1)];refine hI (q.q1 _ _ _ h ?_);show kv r _ _ (ro a b _ _ _).toList
   rw[zu];exact n.last T.sb (by rw[iH];lia) (T.tops ())
  rw[wA (by simpa using z1)];by_cases z2:ia+k=a.size
  .rw[wB (by simpa using z2)];refine hI (q.q1 _ _ _ h ?_);show kv r _ _ (oB a b _ _ _).toList
   rw[zh];exact n.endA T.sb (by rw[iH];lia)
  rw[wA (by simpa using z2)];exact Hh K o T h n () f u w q
 .rw[wA g];have e:k=0:=Nat.eq_zero_of_not_pos g;subst e;exact Hh K o T h m D f G w q
def MY{d st:SortSt}{c:T7}{old:Nat}{Q:ForInStep T7->SortSt->Prop}(K:Asks M A s κ r a₀)(e:kindOf d=κ)(T:Two κ r a₀ a b)(f:Eqv d st)(g:c.2.1=out/\c.2.2.1=ia/\c.2.2.2.1=ib)(m:Mg r a.toList b.toList out.toList ia ib)(h:ia+1<a.size)(i:ib<b.size)(j:old<=out.size)(q:Rnd r a b d old Q):wpS M A E s (DY a b c) Q st:=by
 unfold DY;split
 .exact FK K e T f g m h i j q
 .exact FK K e T f g m h i j q
def KP{f st:SortSt}{c:T5}{Q:ForInStep T5->SortSt->Prop}{mg:Nat}(K:Asks M A s κ r a₀)(hk:kindOf f=κ)(T:Two κ r a₀ a b)(e0:Eqv f st)(ec:c=(none,out,ia,ib,mg))(m:Mg r a.toList b.toList out.toList ia ib)(ha:ia+1<a.size)(hb:ib<b.size)(q1:∀st w rest,Eqv f st->Gd r a b w->Q (.done (some w,rest)) st) (q2:∀st (k:Array Keyed) ia ib g,Eqv f st->Mg r a.toList b.toList k.toList ia ib->ia+1<a.size->ib<b.size->out.size+1<=k.size->Q (.yield (none,k,ia,ib,g)) st):wpS M A E s (BX a b c) Q st:=by
 subst ec;unfold BX;dsimp only;have aa:0<a.size+b.size:=by lia
 refine gW (nJ (nr (I:=λx (c1:T6) d=>Eqv f d/\∃(o:Array Keyed) (i j u v:Nat),c1=(none,o,i,j,u,v)/\Mg r a.toList b.toList o.toList i j/\i+1<a.size/\j<b.size/\out.size+x<=o.size)
  (Q:=λc1 d=>Eqv f d/\((∃w rest,c1=(some w,rest)/\Gd r a b w)\/∃(o:Array Keyed) (i j u v:Nat),c1=(none,o,i,j,u,v)/\Mg r a.toList b.toList o.toList i j/\i+1<a.size/\j<b.size/\out.size+1<=o.size)) ?step ?stop #[e0,out,ia,ib,0,0,rZ,m,ha,hb,gS _]) ?post)
 case step=>
  rintro x c1 d _ hx ⟨p,o,i,j,u,v,rfl,z,B,C,h3⟩;refine Kx (old:=out.size) (t:=x) K T p hk rZ z B C h3 (λw rest g=>#[p,.inl #[w,rest,rZ,g]]) λD G H u' v' J l n q=>#[#[p,.inr #[D,G,H,u',v',rZ,J,l,n,()]],#[p,D,G,H,u',v',rZ,J,l,n,()]]
 case stop=>
  rintro c1 d ⟨p,o,i,j,u,v,rfl,z,B,C,h3⟩;exact#[p,.inr #[o,i,j,u,v,rZ,z,B,C,()]]
 case post=>
  rintro c1 d ⟨p,h⟩
  rcases h with⟨w,rest,rfl,g⟩|⟨o,i,j,u,v,rfl,z,B,C,h3⟩
  .exact hI (q1 _ _ _ p g)
  dsimp only;refine gW (vb (qu #[rZ,?_]));refine gW (nJ (nr (I:=λx (c2:T7) d=>Eqv f d/\∃(o:Array Keyed) (i j u v w:Nat),c2=(none,o,i,j,u,v,w)/\Mg r a.toList b.toList o.toList i j/\i+1<a.size/\j<b.size/\out.size+1<=o.size)
   (Q:=λc2 d=>Eqv f d/\((∃w rest,c2=(some w,rest)/\Gd r a b w)\/∃(o:Array Keyed) (i j u v w:Nat),c2=(none,o,i,j,u,v,w)/\Mg r a.toList b.toList o.toList i j/\i+1<a.size/\j<b.size/\out.size+1<=o.size)) ?step2 ?stop2 #[p,o,i,j,mg+1,u,v,rZ,z,B,C,h3]) ?post2)
  case step2=>
   rintro x c2 L _ hx ⟨y,o,i,j,u,v,w,rfl,N,O,U,Y⟩;exact MY K hk T y #[rZ,rZ,rZ] N O U Y #[λst w rest e g=>#[e,.inl #[w,rest,rZ,g]],λst D G H x' y' z' e J l n q=>#[#[e,.inr #[D,G,H,x',y',z',rZ,J,l,n,q]],#[e,D,G,H,x',y',z',rZ,J,l,n,q]]]
  case stop2=>
   rintro c2 L ⟨y,o,i,j,u,v,w,rfl,N,O,U,Y⟩;exact#[y,.inr #[o,i,j,u,v,w,rZ,N,O,U,Y]]
  case post2=>
   rintro c2 L ⟨y,h⟩
   rcases h with⟨w,rest,rfl,g⟩|⟨o,i,j,u,v,w,rfl,N,O,U,Y⟩
   .exact hI (q1 _ _ _ y g)
   .dsimp only;exact gW (Bb λab x3=>hI (q2 _ _ _ _ _ (y.trans x3) N O U Y))
def Ju{st:SortSt}{Q:Array Keyed->SortSt->Prop}(K:Asks M A s κ r a₀)(v:kindOf st=κ)(T:Two κ r a₀ a b)(q:∀m d,Eqv st d->Gd r a b m->Q m d):wpS M A E s (Bx a b) Q st:=by
 rw[NG];unfold HA;refine gW (vb (qu #[rZ,gW (lH T.b1 ?_)]));have B:Mg r a.toList b.toList (#v[]:Array Keyed).toList 0 0:=#[by simp,List.Pairwise.nil,λx f=>(nomatch f),λx f=>(nomatch f)];have k:Mg r a.toList b.toList (#v[b.getD 0 d0]:Array Keyed).toList 0 1:=Cz (out:= #v[]) T B T.b1 (λy C=>T.lo y C);have a1:=T.a1;have U:=T.b1;by_cases z1:1=b.size
 .rw[wB (by simpa using z1)];refine hI (q _ _ (Eqv.refl _) ?_);show kv r _ _ (oB a b _ _ _).toList;rw[zh];exact k.endB T.sa (by rw[iH];lia)
 rw[wA (by simpa using z1)];by_cases z2:0+1=a.size
 .rw[wB (by simpa using z2)];refine hI (q _ _ (Eqv.refl _) ?_);show kv r _ _ (ro a b _ _ _).toList;rw[zu];exact k.last T.sb (by rw[iH];lia) (T.tops ())
 rw[wA (by simpa using z2)];refine gW (pg (gW (nJ (nr (I:=λx (c:T5) d=>Eqv st d/\∃(o:Array Keyed) (i j g:Nat),c=(none,o,i,j,g)/\Mg r a.toList b.toList o.toList i j/\i+1<a.size/\j<b.size/\x+1<=o.size)
  (Q:=λc d=>Eqv st d/\∃w rest,c=(some w,rest)/\Gd r a b w) ?step ?stop #[Eqv.refl _,_,0,1,_,rZ,k,(),(),gS _]) ?post)))
 case step=>
  rintro x c d _ f ⟨h,o,i,j,g,rfl,l,t,u,D⟩;exact KP K v T h rZ l t u (λst w rest e g=>#[e,w,rest,rZ,g]) λd G H J L e N n p O=>#[e,G,H,J,L,rZ,N,n,p,()]
 case stop=>
  rintro c d ⟨h,o,i,j,g,rfl,l,t,u,D⟩;have z:=l.len (by rw[iH];lia) (by rw[iH];lia);rw[iH,iH,iH]at z
  exfalso
  lia
 case post=>
  rintro c d ⟨h,w,rest,rfl,g⟩;exact hI (q _ _ h g)
end
abbrev U5:Type:=Option (Array Keyed)×Nat×Nat×Array Keyed×Nat
abbrev U6:Type:=Option (Array Keyed)×Nat×Nat×Array Keyed×Nat×Nat
abbrev U7:Type:=Option (Array Keyed)×Nat×Nat×Array Keyed×Nat×Nat×Nat
section
variable(a b:Array Keyed)
abbrev oN(c:Array Keyed)(d e:Nat):Array Keyed:=a.extract 0 d++b.extract 0 e++c.reverse
abbrev rO(c:Array Keyed)(d e:Nat):Array Keyed:=b.extract 0 e++a.extract 0 d++c.reverse
def oM(mg:Nat)(c:U6):StateT SortSt Sem (ForInStep U6):=do
 let some d <-lt' (<-elem' b (c.2.2.1-1)) (<-elem' a (c.2.1-1))|pure (.done (some (oN a b c.2.2.2.1 c.2.1 c.2.2.1),c.2.1,c.2.2.1,c.2.2.2.1,c.2.2.2.2.1,c.2.2.2.2.2))
 if d then
  let x <-elem' a (c.2.1-1)
  if c.2.1-1==0 then pure (.done (some (oN a b (c.2.2.2.1.push x) (c.2.1-1) c.2.2.1),c.2.1-1,c.2.2.1,c.2.2.2.1.push x,c.2.2.2.2.1+1,0))
  else if c.2.2.2.2.1+1>=mg then pure (.done (none,c.2.1-1,c.2.2.1,c.2.2.2.1.push x,c.2.2.2.2.1+1,0))
  else pure (.yield (none,c.2.1-1,c.2.2.1,c.2.2.2.1.push x,c.2.2.2.2.1+1,0))
 else
  let x <-elem' b (c.2.2.1-1)
  if c.2.2.1-1==1 then pure (.done (some (rO a b (c.2.2.2.1.push x) c.2.1 (c.2.2.1-1)),c.2.1,c.2.2.1-1,c.2.2.2.1.push x,0,c.2.2.2.2.2+1))
  else if c.2.2.2.2.2+1>=mg then pure (.done (none,c.2.1,c.2.2.1-1,c.2.2.2.1.push x,0,c.2.2.2.2.2+1))
  else pure (.yield (none,c.2.1,c.2.2.1-1,c.2.2.2.1.push x,0,c.2.2.2.2.2+1))
def rN(d e:Nat)(c:Array Keyed)(mg k k1:Nat):StateT SortSt Sem (ForInStep U7):=do
 let x <-elem' a (d-1)
 if d-1==0 then pure (.done (some (oN a b (c.push x) (d-1) e),d-1,e,c.push x,mg,k,k1))
 else if k<7&&k1<7 then pure (.done (none,d-1,e,c.push x,mg,k,k1))
 else pure (.yield (none,d-1,e,c.push x,mg,k,k1))
def rY(e d:Nat)(c:Array Keyed)(mg k f:Nat):StateT SortSt Sem (ForInStep U7):=do
 let y <-elem' b (d-1)
 if d-1==1 then pure (.done (some (rO a b (c.push y) e (d-1)),e,d-1,c.push y,mg,k,f))
 else do
  let some t <-tm true (<-elem' a (e-1)) b 0 (d-1) (d-1-1)|pure (.done (some (oN a b (c.push y) e (d-1)),e,d-1,c.push y,mg,k,f))
  if d-1-t>0 then
   if t==1 then pure (.done (some (rO a b (c.push y++(b.extract t (d-1)).reverse) e t),e,t,c.push y++(b.extract t (d-1)).reverse,mg,k,d-1-t))
   else if t==0 then pure (.done (some (oN a b (c.push y++(b.extract t (d-1)).reverse) e t),e,t,c.push y++(b.extract t (d-1)).reverse,mg,k,d-1-t))
   else rN a b e t (c.push y++(b.extract t (d-1)).reverse) mg k (d-1-t)
  else rN a b e (d-1) (c.push y) mg k (d-1-t)
def qZ(c:U7)(mg:Nat):StateT SortSt Sem (ForInStep U7):=do
 wM mg
 let some t <-tm false (<-elem' b (c.2.2.1-1)) a 0 c.2.1 (c.2.1-1)|pure (.done (some (oN a b c.2.2.2.1 c.2.1 c.2.2.1),c.2.1,c.2.2.1,c.2.2.2.1,mg,c.2.2.2.2.2.1,c.2.2.2.2.2.2))
 if c.2.1-t>0 then
  if t==0 then pure (.done (some (oN a b (c.2.2.2.1++(a.extract t c.2.1).reverse) t c.2.2.1),t,c.2.2.1,c.2.2.2.1++(a.extract t c.2.1).reverse,mg,c.2.1-t,c.2.2.2.2.2.2))
  else rY a b t c.2.2.1 (c.2.2.2.1++(a.extract t c.2.1).reverse) mg (c.2.1-t) c.2.2.2.2.2.2
 else rY a b c.2.1 c.2.2.1 c.2.2.2.1 mg (c.2.1-t) c.2.2.2.2.2.2
def yH(c:U7):StateT SortSt Sem (ForInStep U7):=if c.2.2.2.2.1>1 then qZ a b c (c.2.2.2.2.1-1)else qZ a b c c.2.2.2.2.1
def C8(c:U5):StateT SortSt Sem (ForInStep U5):=do
 let c1 <-forIn [0:a.size+b.size] ((none,c.2.1,c.2.2.1,c.2.2.2.1,0,0):U6) λ_ c1=>oM a b c.2.2.2.2 c1
 match c1.1 with
 |some r=>pure (.done (some r,c1.2.1,c1.2.2.1,c1.2.2.2.1,c.2.2.2.2))
 | none=>do
  rule "list.sort.gallop"
  let c2 <-forIn [0:a.size+b.size] ((none,c1.2.1,c1.2.2.1,c1.2.2.2.1,c.2.2.2.2+1,c1.2.2.2.2.1,c1.2.2.2.2.2):U7) λ_ c2=>yH a b c2
  match c2.1 with
  |some r=>pure (.done (some r,c2.2.1,c2.2.2.1,c2.2.2.2.1,c2.2.2.2.2.1))
  |none=>do
   wM (c2.2.2.2.2.1+1)
   pure (.yield (none,c2.2.1,c2.2.2.1,c2.2.2.2.1,c2.2.2.2.2.1+1))
def Fp:StateT SortSt Sem (Array Keyed):=do
 rule "list.sort.merge-hi"
 let x <-elem' a (a.size-1)
 if a.size-1==0 then pure (oN a b #v[x] (a.size-1) b.size)
 else if b.size==1 then pure (rO a b #v[x] (a.size-1) b.size)
 else do
  let st <-get
  let c <-forIn [0:a.size+b.size] ((none,a.size-1,b.size,#v[x],gallopOf st):U5) λ_ c=>C8 a b c
  match c.1 with
  |some r=>pure r
  |none=>unsupported "internal:list.sort.merge-bound"
def JU:C7 a b=Fp a b:=by
 refine iZ (bind _) (funext λ_=>?_);refine iZ (bind (elem' a (a.size-1))) (funext λx=>?_);refine wh rZ (λ_=>rfl) (λ_=>?_);refine wh rZ (λ_=>rfl) (λ_=>?_);refine iZ (bind get) (funext λst=>?_);refine congr (iZ bind (iZ (forIn [0:a.size+b.size] _) (funext λu=>funext λc=>?_))) (funext λc=>?_)
 .refine congr (iZ bind (iZ (forIn [0:a.size+b.size] _) (funext λu=>funext λc1=>rfl))) (funext λc1=>?_);obtain⟨d,e,f,g,h,i⟩:=c1;cases d with
  |some d=>rfl
  | none=>
   refine iZ (bind _) (funext λ_=>?_);refine congr (iZ bind (iZ (forIn [0:a.size+b.size] _) (funext λu=>funext λc2=>?_))) (funext λc2=>?_)
   .refine wh rZ (λ_=>?_) (λ_=>?_)
    .rfl
    .rfl
   .obtain⟨j,_⟩:=c2;cases j<;>rfl
 .obtain⟨r,_⟩:=c;cases r<;>rfl
end
structure Mh(r:Keyed->Int)(la lb out:List Keyed)(na nb:Nat):Prop where
 perm:(la.take na++lb.take nb++out.reverse).Perm (la++lb)
 so:Up r out.reverse
 ao:∀x∈la.take na,∀y∈out,r x<r y
 bo:∀x∈lb.take nb,∀y∈out,r x<r y
section
variable{r:Keyed->Int}{a b out:List Keyed}{f d:Nat}
def D8{l:List Keyed}(h:Up r l){n t:Nat}(ht:t<=n):l.take t++(l.take n).drop t=l.take n/\Up r ((l.take n).drop t)/\∀x∈l.take t,∀y∈(l.take n).drop t,r x<r y:=by
 have e:l.take t++(l.take n).drop t=l.take n:=by
  have z:=oK t (l.take n);rwa[List.take_take,vX ht]at z
 have z:Up r (l.take n):=wW (vA n l) h;rw[<-e]at z;obtain⟨_,a,b⟩:=mB.mp z;exact#[e,a,b]
def Mh.len(m:Mh r a b out f d)(c:f<=a.length)(e:d<=b.length):f+d+out.length=a.length+b.length:=by
 have z:=m.perm.length_eq;rw[jc,jc,jc,lZ,lZ,List.length_reverse]at z;lia
def Mh.moveA(m:Mh r a b out f d)(l:Up r a){t:Nat}(ht:t<=f)(h:∀x∈b.take d,∀y∈(a.take f).drop t,r x<r y):Mh r a b (out++((a.take f).drop t).reverse) t d:=by
 obtain⟨e,u,c⟩:=D8 l ht;have sub:∀x∈a.take t,x∈a.take f:=λx g=>by rw[<-e];exact iC.mpr (.inl g)
 have i:∀x∈(a.take f).drop t,x∈a.take f:=λx g=>Bg g;have k:(out++((a.take f).drop t).reverse).reverse=(a.take f).drop t++out.reverse:=by rw[List.reverse_append,List.reverse_reverse]
 refine#[?_,?_,λx g y j=>?_,λx g y j=>?_]
 .rw[k];refine List.Perm.trans ?_ m.perm
  conv=>rhs;rw[<-e]
  rw[lU,lU,lU];refine yJ _ ?_;rw[<-lU,<-lU];exact Bt _ Ab
 .rw[k];exact mB.mpr #[u,m.so,λx g y j=>m.ao x (i x g) y (pR.mp j)]
 .rcases iC.mp j with z|z
  .exact m.ao x (sub x g) y z
  .exact c x g y (pR.mp z)
 .rcases iC.mp j with z|z
  .exact m.bo x g y z
  .exact h x g y (pR.mp z)
def Mh.moveB(m:Mh r a b out f d)(l:Up r b){t:Nat}(ht:t<=d)(h:∀x∈a.take f,∀y∈(b.take d).drop t,r x<r y):Mh r a b (out++((b.take d).drop t).reverse) f t:=by
 obtain⟨e,u,c⟩:=D8 l ht;have sub:∀x∈b.take t,x∈b.take d:=λx g=>by rw[<-e];exact iC.mpr (.inl g)
 have i:∀x∈(b.take d).drop t,x∈b.take d:=λx g=>Bg g;have k:(out++((b.take d).drop t).reverse).reverse=(b.take d).drop t++out.reverse:=by rw[List.reverse_append,List.reverse_reverse]
 refine#[?_,?_,λx g y j=>?_,λx g y j=>?_]
 .rw[k];refine List.Perm.trans ?_ m.perm
  conv=>rhs;rw[<-e]
  rw[lU,lU,lU]
 .rw[k];exact mB.mpr #[u,m.so,λx g y j=>m.bo x (i x g) y (pR.mp j)]
 .rcases iC.mp j with z|z
  .exact m.ao x g y z
  .exact h x g y (pR.mp z)
 .rcases iC.mp j with z|z
  .exact m.bo x (sub x g) y z
  .exact c x g y (pR.mp z)
def Mh.endA(m:Mh r a b out f d)(c:Up r b)(h:f=0):kv r a b (a.take f++b.take d++out.reverse):=by
 refine#[m.perm,?_];subst h;rw[List.take_zero,Cd];exact mB.mpr #[wW (vA d b) c,m.so,λx e y g=>m.bo x e y (pR.mp g)]
def Mh.endB(m:Mh r a b out f d)(c:Up r a)(h:d=0):kv r a b (a.take f++b.take d++out.reverse):=by
 refine#[m.perm,?_];subst h;rw[List.take_zero,mW];exact mB.mpr #[wW (vA f a) c,m.so,λx e y g=>m.ao x e y (pR.mp g)]
def Mh.first(m:Mh r a b out f d)(g:Up r a)(h:Up r b)(bot:∀y∈b.take d,∀x∈a,r y<r x):kv r a b (b.take d++a.take f++out.reverse):=by
 refine#[List.Perm.trans (Bt _ Ab) m.perm,?_];refine mB.mpr #[mB.mpr #[wW (vA d b) h,wW (vA f a) g,λy c x e=>bot y c x (uw e)],m.so,λx e y c=>?_]
 rcases iC.mp e with z|z
 .exact m.bo x z y (pR.mp c)
 .exact m.ao x z y (pR.mp c)
end
section
variable{M:Model}{A:Ar}{E:VP}{s:Sh}{κ:SortKind}{r:Keyed->Int}{a₀ a b out:Array Keyed}{na nb:Nat}
def AY(a:Array Keyed)(i:Nat):(a.extract 0 i).toList=a.toList.take i:=by
 rw[Bc,zD,List.drop_zero,Nat.sub_zero]
def D6(a:Array Keyed)(t n:Nat):(a.extract t n).toList=(a.toList.take n).drop t:=by
 rw[Bc,zD,List.drop_take]
def xT:(oN a b out na nb).toList=a.toList.take na++b.toList.take nb++out.toList.reverse:=by
 rw[px,px,AY,AY,AX]
def A5:(rO a b out na nb).toList=b.toList.take nb++a.toList.take na++out.toList.reverse:=by
 rw[px,px,AY,AY,AX]
def Ba{n:Nat}{x:Keyed}(h:x∈a.toList.take n):∃j,j<n/\j<a.size/\a.getD j d0=x:=by
 obtain⟨j,d,b,c⟩:=CU (i:=0) (k:=n) (by rw[List.drop_zero];exact h);rw[qh]at b c;exact#[j,d,b,c]
def Ae{t n:Nat}{x:Keyed}(h:x∈(a.toList.take n).drop t):∃j,t<=j/\j<n/\j<a.size/\a.getD j d0=x:=by
 obtain⟨j,b⟩:=wG h;rw[x9,Bv]at b;split at b
 .next l=>
  rw[mv]at b;exact#[t+j,(),l,(nj.mp b).1,wU b]
 .cases b
def zQ{n:Nat}(h:n<a.size):(a.toList.take (n+1)).drop n=[a.getD n d0]:=by
 rw[List.drop_take,Dz h,xk];rfl
def AR{x:Int}{n:Nat}(b:Up r a.toList)(c:n<a.size)(h:r (a.getD n d0)<x):∀y∈a.toList.take (n+1),r y<x:=λy d=>by
 obtain⟨j,f,g,rfl⟩:=Ba d;by_cases e:j=n
 .subst e;exact h
 .have:=wx (lo:=0) b (gS _) j n (lV _) () c;show kx r a j<x;have:kx r a n<x:=h;lia
def DM(t:Two κ r a₀ a b)(m:Mh r a.toList b.toList out.toList (na+1) nb)(c:na<a.size)(h:∀y∈b.toList.take nb,r y<r (a.getD na d0)):Mh r a.toList b.toList (out.push (a.getD na d0)).toList na nb:=by
 have z:=m.moveA t.sa (t:=na) (vv _) (by rw[zQ c];intro x d y e;rw[h9.mp e];exact h x d);rw[zQ c]at z;rw[AT];exact z
def FA(t:Two κ r a₀ a b)(m:Mh r a.toList b.toList out.toList na (nb+1))(c:nb<b.size)(h:∀y∈a.toList.take na,r y<r (b.getD nb d0)):Mh r a.toList b.toList (out.push (b.getD nb d0)).toList na nb:=by
 have z:=m.moveB t.sb (t:=nb) (vv _) (by rw[zQ c];intro x d y e;rw[h9.mp e];exact h x d);rw[zQ c]at z;rw[AT];exact z
def Two.bot(t:Two κ r a₀ a b):∀y∈b.toList.take 1,∀x∈a.toList,r y<r x:=λy c x d=>by
 obtain⟨j,f,g,rfl⟩:=Ba c;have e:j=0:=by lia
 subst e;exact t.lo x d
def Ja{h:SortSt}{mg old t:Nat}{c:U6}{st:SortSt}{Q:ForInStep U6->SortSt->Prop}(K:Asks M A s κ r a₀)(T:Two κ r a₀ a b)(p:Eqv h st)(q:kindOf h=κ)(u:c=(none,na+1,nb+2,out,c.2.2.2.2.1,c.2.2.2.2.2))(m:Mh r a.toList b.toList out.toList (na+1) (nb+2))(d:na<a.size)(e:nb+1<b.size)(C:old+t<=out.size)(n:∀w rest,Gd r a b w->Q (.done (some w,rest)) st) (o:∀na nb (out:Array Keyed) x y,Mh r a.toList b.toList out.toList (na+1) (nb+2)->na<a.size->nb+1<b.size->old+t+1<=out.size->Q (.done (none,na+1,nb+2,out,x,y)) st/\Q (.yield (none,na+1,nb+2,out,x,y)) st):wpS M A E s (oM a b mg c) Q st:=by
 have j:=p.kind.trans q;unfold oM;rw[u];dsimp only;have v:=T.ma _ (mw d);have B:=T.mb _ (mw e);rw[show nb+2-1=nb+1 by lia,show na+1-1=na by lia];refine gW (lH e (gW (lH d (gW (xU K j B v ?_)))));by_cases w:r (b.getD (nb+1) d0)<r (a.getD na d0)
 .rw[iG w];refine gW (lH d ?_);have i:=DM T m d (AR T.sb e w);by_cases z:na=0
  .rw[wB (by simpa using z)];refine hI (n _ _ ?_);show kv r _ _ (oN a b _ _ _).toList
   rw[xT];exact i.endA T.sb z
  .rw[wA (by simpa using z)];obtain⟨f,rfl⟩:∃f,na=f+1:=rS (by first|assumption|lia);obtain⟨k,l⟩:=o f nb _ (c.2.2.2.2.1+1) 0 i () e (by rw[rg];lia);by_cases g:c.2.2.2.2.1+1>=mg
   .rw[wB g];exact hI k
   .rw[wA g];exact hI l
 .rw[jy w];refine gW (lH e ?_);have D:=T.ap _ (mw d) _ (mw e);have i:=FA T m e (AR T.sa d ());by_cases z:nb+1=1
  .rw[wB (by simpa using z)];refine hI (n _ _ ?_);show kv r _ _ (rO a b _ _ _).toList
   rw[A5];exact i.first T.sa T.sb (by rw[z];exact T.bot)
  .rw[wA (by simpa using z)];obtain⟨f,rfl⟩:∃f,nb=f+1:=rS (by first|assumption|lia);obtain⟨k,l⟩:=o na f _ 0 (c.2.2.2.2.2+1) i d () (by rw[rg];lia);by_cases g:c.2.2.2.2.2+1>=mg
   .rw[wB g];exact hI k
   .rw[wA g];exact hI l
structure RndH(r:Keyed->Int)(a b:Array Keyed)(st0:SortSt)(old:Nat)(Q:ForInStep U7->SortSt->Prop):Prop where
 q1:∀st w rest,Eqv st0 st->Gd r a b w->Q (.done (some w,rest)) st
 q2:∀st na nb (out:Array Keyed) x y z,Eqv st0 st->Mh r a.toList b.toList out.toList (na+1) (nb+2)->na<a.size->nb+1<b.size->old<=out.size->Q (.done (none,na+1,nb+2,out,x,y,z)) st/\Q (.yield (none,na+1,nb+2,out,x,y,z)) st
def FC{c st:SortSt}{mg k k1 old:Nat}{Q:ForInStep U7->SortSt->Prop}(T:Two κ r a₀ a b)(e:Eqv c st)(m:Mh r a.toList b.toList out.toList (na+1) (nb+2))(f:na<a.size)(i:nb+1<b.size)(n:old<=out.size)(lt:∀y∈b.toList.take (nb+2),r y<r (a.getD na d0))(q:RndH r a b c old Q):wpS M A E s (rN a b (na+1) (nb+2) out mg k k1) Q st:=by
 unfold rN;rw[show na+1-1=na by lia];refine gW (lH f ?_);have h:=DM T m f lt;by_cases z:na=0
 .rw[wB (by simpa using z)];refine hI (q.q1 _ _ _ e ?_);show kv r _ _ (oN a b _ _ _).toList;rw[xT];exact h.endA T.sb z
 .rw[wA (by simpa using z)];obtain⟨d,rfl⟩:∃d,na=d+1:=rS (by first|assumption|lia);obtain⟨j,l⟩:=q.q2 st d nb _ mg k k1 e h () i (by rw[rg];lia);by_cases g:(decide (k<7)&&decide (k1<7))=true
  .rw[wB g];exact hI j
  .rw[wA g];exact hI l
def GY{c st:SortSt}{mg k H old:Nat}{Q:ForInStep U7->SortSt->Prop}(K:Asks M A s κ r a₀)(I:kindOf c=κ)(T:Two κ r a₀ a b)(d:Eqv c st)(m:Mh r a.toList b.toList out.toList (na+1) (nb+2))(f:na<a.size)(C:nb+1<b.size)(O:old<=out.size)(lt:∀y∈a.toList.take (na+1),r y<r (b.getD (nb+1) d0))(q:RndH r a b c old Q):wpS M A E s (rY a b (na+1) (nb+2) out mg k H) Q st:=by
 have u:=d.kind.trans I;unfold rY;rw[show nb+2-1=nb+1 by lia,show na+1-1=na by lia];refine gW (lH C ?_);have o:=FA T m C lt;have h:old<=(out.push (b.getD (nb+1) d0)).size:=by rw[rg];lia
 generalize out.push (b.getD (nb+1) d0)=l at o h;by_cases z:nb+1=1
 .rw[wB (by simpa using z)];refine hI (q.q1 _ _ _ d ?_);show kv r _ _ (rO a b _ _ _).toList;rw[A5];exact o.first T.sa T.sb (by rw[z];exact T.bot)
 rw[wA (by simpa using z)];have D:=mw f;refine gW (lH f (gW (vQ K u () (λi J=>T.mb _ (mw ())) (T.ma _ D) (λi J=>(T.ap _ D _ (mw (show 0+i<b.size by lia))).symm) (wx T.sb ()) () λt U k2 k3=>?_)));dsimp only;have G:∀y∈b.toList.take t,r y<r (a.getD na d0):=λy v=>by
  obtain⟨j,w,L,rfl⟩:=Ba v;have:=k2 j w;rw[qh]at this;exact this
 by_cases g:nb+1-t>0
 .rw[wB g];have p:=o.moveB T.sb (t:=t) () (λx N y v=>by
   obtain⟨j,w,L,Y,rfl⟩:=Ae v;have:=k3 j w ()
   rw[qh]at this;exact AR T.sa f this x N)
  rw[<-D6,<-AX,<-px]at p;have B:old<=(l++(b.extract t (nb+1)).reverse).size:=by rw[Ay];lia
  by_cases z1:t=1
  .rw[wB (by simpa using z1)];refine hI (q.q1 _ _ _ d ?_);show kv r _ _ (rO a b _ _ _).toList
   rw[A5];exact p.first T.sa T.sb (by rw[z1];exact T.bot)
  rw[wA (by simpa using z1)];by_cases z2:t=0
  .rw[wB (by simpa using z2)];refine hI (q.q1 _ _ _ d ?_);show kv r _ _ (oN a b _ _ _).toList
   rw[xT];exact p.endB T.sa z2
  rw[wA (by simpa using z2)];obtain⟨n,rfl⟩:∃n,t=n+2:=#[t-2,()];exact FC T d p f () B G q
 .rw[wA g];have e:t=nb+1:=by lia
  obtain⟨n,rfl⟩:∃n,nb=n+1:=rS (by first|assumption|lia);subst e;exact FC T d o f () h G q
def EI{d st:SortSt}{c:U7}{mg old:Nat}{Q:ForInStep U7->SortSt->Prop}(K:Asks M A s κ r a₀)(k:kindOf d=κ)(T:Two κ r a₀ a b)(B:Eqv d st)(C:c.2.1=na+1/\c.2.2.1=nb+2/\c.2.2.2.1=out)(m:Mh r a.toList b.toList out.toList (na+1) (nb+2))(D:na<a.size)(f:nb+1<b.size)(G:old<=out.size)(q:RndH r a b d old Q):wpS M A E s (qZ a b c mg) Q st:=by
 obtain⟨H,I,J⟩:=C;unfold qZ;rw[H,I,J];rw[show nb+2-1=nb+1 by lia,show na+1-1=na by lia];refine gW (Bb λL N=>?_);have h:=B.trans N;have l:=h.kind.trans k;have v:=mw f;refine gW (lH f (gW (vQ K l () (λi O=>T.ma _ (mw ())) (T.mb _ v) (λi O=>T.ap _ (mw (show 0+i<a.size by lia)) _ v) (wx T.sa ()) () λt kn k2 k3=>?_)));dsimp only;have w:∀y∈a.toList.take t,r y<r (b.getD (nb+1) d0):=λy n=>by
  obtain⟨j,o,U,rfl⟩:=Ba n;have:=k2 j o;rw[qh]at this;exact this
 by_cases g:na+1-t>0
 .rw[wB g];have p:=m.moveA T.sa (t:=t) () (λx Y y n=>by
   obtain⟨j,o,U,h3,rfl⟩:=Ae n;have:=k3 j o ()
   rw[qh]at this;exact AR T.sb f this x Y)
  rw[<-D6,<-AX,<-px]at p;have u:old<=(out++(a.extract t (na+1)).reverse).size:=by rw[Ay];lia
  by_cases z2:t=0
  .rw[wB (by simpa using z2)];refine hI (q.q1 _ _ _ h ?_);show kv r _ _ (oN a b _ _ _).toList
   rw[xT];exact p.endA T.sb z2
  rw[wA (by simpa using z2)];obtain⟨z,rfl⟩:∃z,t=z+1:=rS (by first|assumption|lia);exact GY K k T h p () f u w q
 .rw[wA g];have e:t=na+1:=by lia
  subst e;exact GY K k T h m D f G w q
def Ki{d st:SortSt}{c:U7}{old:Nat}{Q:ForInStep U7->SortSt->Prop}(K:Asks M A s κ r a₀)(e:kindOf d=κ)(T:Two κ r a₀ a b)(f:Eqv d st)(g:c.2.1=na+1/\c.2.2.1=nb+2/\c.2.2.2.1=out)(m:Mh r a.toList b.toList out.toList (na+1) (nb+2))(h:na<a.size)(i:nb+1<b.size)(j:old<=out.size)(q:RndH r a b d old Q):wpS M A E s (yH a b c) Q st:=by
 unfold yH;split
 .exact EI K e T f g m h i j q
 .exact EI K e T f g m h i j q
def L7{f st:SortSt}{c:U5}{Q:ForInStep U5->SortSt->Prop}{mg:Nat}(K:Asks M A s κ r a₀)(hk:kindOf f=κ)(T:Two κ r a₀ a b)(e0:Eqv f st)(ec:c=(none,na+1,nb+2,out,mg))(m:Mh r a.toList b.toList out.toList (na+1) (nb+2))(ha:na<a.size)(hb:nb+1<b.size)(q1:∀st w rest,Eqv f st->Gd r a b w->Q (.done (some w,rest)) st) (q2:∀st na nb (k:Array Keyed) g,Eqv f st->Mh r a.toList b.toList k.toList (na+1) (nb+2)->na<a.size->nb+1<b.size->out.size+1<=k.size->Q (.yield (none,na+1,nb+2,k,g)) st):wpS M A E s (C8 a b c) Q st:=by
 subst ec;unfold C8;dsimp only;have aa:0<a.size+b.size:=by lia
 refine gW (nJ (nr (I:=λx (c1:U6) d=>Eqv f d/\∃(i j:Nat) (o:Array Keyed) (u v:Nat),c1=(none,i+1,j+2,o,u,v)/\Mh r a.toList b.toList o.toList (i+1) (j+2)/\i<a.size/\j+1<b.size/\out.size+x<=o.size)
  (Q:=λc1 d=>Eqv f d/\((∃w rest,c1=(some w,rest)/\Gd r a b w)\/∃(i j:Nat) (o:Array Keyed) (u v:Nat),c1=(none,i+1,j+2,o,u,v)/\Mh r a.toList b.toList o.toList (i+1) (j+2)/\i<a.size/\j+1<b.size/\out.size+1<=o.size)) ?step ?stop #[e0,na,nb,out,0,0,rZ,m,ha,hb,gS _]) ?post)
 case step=>
  rintro x c1 d _ hx ⟨p,i,j,o,u,v,rfl,z,B,C,h3⟩;refine Ja (old:=out.size) (t:=x) K T p hk rZ z B C h3 (λw rest g=>#[p,.inl #[w,rest,rZ,g]]) λD G H u' v' J l n q=>#[#[p,.inr #[D,G,H,u',v',rZ,J,l,n,()]],#[p,D,G,H,u',v',rZ,J,l,n,()]]
 case stop=>
  rintro c1 d ⟨p,i,j,o,u,v,rfl,z,B,C,h3⟩;exact#[p,.inr #[i,j,o,u,v,rZ,z,B,C,()]]
 case post=>
  rintro c1 d ⟨p,h⟩
  rcases h with⟨w,rest,rfl,g⟩|⟨i,j,o,u,v,rfl,z,B,C,h3⟩
  .exact hI (q1 _ _ _ p g)
  dsimp only;refine gW (vb (qu #[rZ,?_]));refine gW (nJ (nr (I:=λx (c2:U7) d=>Eqv f d/\∃(i j:Nat) (o:Array Keyed) (u v w:Nat),c2=(none,i+1,j+2,o,u,v,w)/\Mh r a.toList b.toList o.toList (i+1) (j+2)/\i<a.size/\j+1<b.size/\out.size+1<=o.size)
   (Q:=λc2 d=>Eqv f d/\((∃w rest,c2=(some w,rest)/\Gd r a b w)\/∃(i j:Nat) (o:Array Keyed) (u v w:Nat),c2=(none,i+1,j+2,o,u,v,w)/\Mh r a.toList b.toList o.toList (i+1) (j+2)/\i<a.size/\j+1<b.size/\out.size+1<=o.size)) ?step2 ?stop2 #[p,i,j,o,mg+1,u,v,rZ,z,B,C,h3]) ?post2)
  case step2=>
   rintro x c2 L _ hx ⟨y,i,j,o,u,v,w,rfl,N,O,U,Y⟩;exact Ki K hk T y #[rZ,rZ,rZ] N O U Y #[λst w rest e g=>#[e,.inl #[w,rest,rZ,g]],λst D G H x' y' z' e J l n q=>#[#[e,.inr #[D,G,H,x',y',z',rZ,J,l,n,q]],#[e,D,G,H,x',y',z',rZ,J,l,n,q]]]
  case stop2=>
   rintro c2 L ⟨y,i,j,o,u,v,w,rfl,N,O,U,Y⟩;exact#[y,.inr #[i,j,o,u,v,w,rZ,N,O,U,Y]]
  case post2=>
   rintro c2 L ⟨y,h⟩
   rcases h with⟨w,rest,rfl,g⟩|⟨i,j,o,u,v,w,rfl,N,O,U,Y⟩
   .exact hI (q1 _ _ _ y g)
   .dsimp only;exact gW (Bb λab x3=>hI (q2 _ _ _ _ _ (y.trans x3) N O U Y))
def LS{st:SortSt}{Q:Array Keyed->SortSt->Prop}(K:Asks M A s κ r a₀)(H:kindOf st=κ)(T:Two κ r a₀ a b)(q:∀m d,Eqv st d->Gd r a b m->Q m d):wpS M A E s (C7 a b) Q st:=by
 rw[JU];unfold Fp;have a1:=T.a1;have b1:=T.b1;obtain⟨n,hn⟩:∃n,a.size=n+1:=rS (by first|assumption|lia);have C:a.size-1=n:=by lia
 rw[C];refine gW (vb (qu #[rZ,gW (lH () ?_)]));have J:Mh r a.toList b.toList (#v[]:Array Keyed).toList (n+1) b.size:=#[by rw[Ac (by rw[iH];lia),Ac (by rw[iH];exact gS _)];simp,List.Pairwise.nil,λx _ y f=>(nomatch f),λx _ y f=>(nomatch f)];have k:Mh r a.toList b.toList (#v[a.getD n d0]:Array Keyed).toList n b.size:=DM (out:= #v[]) T J () (λy f=>by have:=T.top y (uw f);rw[C]at this;exact this);by_cases z1:n=0
 .rw[wB (by simpa using z1)];refine hI (q _ _ (Eqv.refl _) ?_);show kv r _ _ (oN a b _ _ _).toList;rw[xT];exact k.endA T.sb z1
 rw[wA (by simpa using z1)];by_cases z2:b.size=1
 .rw[wB (by simpa using z2)];refine hI (q _ _ (Eqv.refl _) ?_);show kv r _ _ (rO a b _ _ _).toList;rw[A5];exact k.first T.sa T.sb (by rw[z2];exact T.bot)
 rw[wA (by simpa using z2)];obtain⟨p,rfl⟩:∃p,n=p+1:=rS (by first|assumption|lia);obtain⟨t,h⟩:∃t,b.size=t+2:=#[b.size-2,()];rw[h]at k;refine gW (pg (gW (nJ (nr (I:=λx (c:U5) d=>Eqv st d/\∃(i j:Nat) (o:Array Keyed) (g:Nat),c=(none,i+1,j+2,o,g)/\Mh r a.toList b.toList o.toList (i+1) (j+2)/\i<a.size/\j+1<b.size/\x+1<=o.size)
  (Q:=λc d=>Eqv st d/\∃w rest,c=(some w,rest)/\Gd r a b w) ?step ?stop #[Eqv.refl _,p,t,_,_,by rw[h],k,(),(),gS _]) ?post)))
 case step=>
  rintro x c d _ hx ⟨l,i,j,o,g,rfl,u,D,G,L⟩;exact L7 K H T l rZ u D G (λst w rest e g=>#[e,w,rest,rZ,g]) λd N O U Y e m' v B aa=>#[e,N,O,U,Y,rZ,m',v,B,()]
 case stop=>
  rintro c d ⟨l,i,j,o,g,rfl,u,D,G,L⟩;have z:=u.len (by rw[iH];lia) (by rw[iH];lia);rw[iH,iH,iH]at z
  exfalso
  lia
 case post=>
  rintro c d ⟨l,w,rest,rfl,g⟩;exact hI (q _ _ l g)
end
def IY(i:Nat):mergeAt' i=(do
 let s <-get
 let(some (b,c,d),some (f,e,_)):=((pendingOf s)[i]?,(pendingOf s)[i+1]?)|unsupported "internal:list.sort.pending"
 set (setPending s (((pendingOf s).setIfInBounds i (b,c+e,d)).eraseIdxIfInBounds (i+1)))
 let some k <-tm false (<-elem' (arrOf s) f) (arrOf s) b c 0|return false
 let(b,c):=(b+k,c-k)
 if c==0 then return true
 let some e <-tm true (<-elem' (arrOf s) (b+c-1)) (arrOf s) f e (e-1)|return false
 if e==0 then return true
 let x:=(arrOf s).extract b f
 let y:=(arrOf s).extract f (f+e)
 let merged <-if c<=e then Bx x y else C7 x y
 modify λs=>setArr s (merged.toList.zipIdx.foldl (λa (p,j)=>a.setIfInBounds (b+j) p) (arrOf s))
 return (failedOf (<-get)).isNone):=rfl
section
variable{M:Model}{A:Ar}{E:VP}{s:Sh}{g:SortKind}{r:Keyed->Int}{d xs f:Array Keyed}
def MJ{st a:SortSt}{Q:PUnit->SortSt->Prop}(h:Q ⟨⟩ a):wpS M A E s (set a:StateT SortSt Sem PUnit) Q st:=by
 unfold wpS;rw[StateT.run_set];exact gK #[rZ,h]
theorem laid:∀(c:List Keyed) (j b:Nat) (xs:Array Keyed),b+j+c.length<=xs.size->((c.zipIdx j).foldl (λa (p,j)=>a.setIfInBounds (b+j) p) xs).toList=xs.toList.take (b+j)++c++xs.toList.drop (b+j+c.length)
 | [],j,b,xs,_=>by
  rw[mW,zJ,xS];exact(oK _ _).symm
 | m::c,j,b,xs,h=>by
  rw[nq]at h;rw[List.zipIdx_cons,pY,laid c (j+1) b _ (by rw[Array.size_setIfInBounds];lia),D1,nq];have d:b+j<xs.toList.length:=by rw[iH];lia
  have e:(xs.toList.set (b+j) m).take (b+(j+1))=xs.toList.take (b+j)++[m]:=by
   rw[show b+(j+1)=b+j+1 by lia,List.take_succ_eq_append_getElem (by rw[ux];exact d),List.getElem_set_self,List.take_set_of_le (gS _)]
  have f:(xs.toList.set (b+j) m).drop (b+(j+1)+c.length)=xs.toList.drop (b+j+(c.length+1)):=by
   rw[List.drop_set_of_lt ()]
   congr 1
   lia
  rw[e,f,lU,lU,lU];rfl
def zV(xs:Array Keyed)(t n:Nat):(xs.extract t n).toList=(xs.toList.take n).drop t:=D6 xs t n
def Af{t n:Nat}(h:n<=xs.size):(xs.extract t n).size=n-t:=by rw[Array.size_extract];lia
def BB{t n i:Nat}(h:n<=xs.size)(a:t+i<n):(xs.extract t n).getD i d0=xs.getD (t+i) d0:=by
 refine qV ?_;rw[Array.getElem?_extract,wB ()]
def Hq{l:List Keyed}{f:Array Keyed}(h:f.toList=l)(i:Nat):f[i]?=l[i]? :=by rw[<-h,mv]
def K0{st:SortSt}{i b o pw Y L ag:Nat}{Q:Bool->SortSt->Prop}(K:Asks M A s g r d)(B:StOk g d st)(h1:(pendingOf st)[i]?=some (b,o,pw))(h2:(pendingOf st)[i+1]?=some (Y,L,ag))(es:Y=b+o)(aq:1<=o)(ar:1<=L)(hz:Y+L<=d.size)(N:Ris r (arrOf st) b (b+o)) (O:Ris r (arrOf st) Y (Y+L))(q:∀u,StOk g d u->pendingOf u=((pendingOf st).setIfInBounds i (b,o+L,pw)).eraseIdxIfInBounds (i+1)->Out (arrOf st) (arrOf u) b (Y+L)->Ris r (arrOf u) b (Y+L)->Q true u):wpS M A E s (mergeAt' i) Q st:=by
 have sz:=sj B.perm;subst es;rw[IY];refine gW (pg ?_);rw[h1,h2];dsimp only;refine gW (MJ ?_);generalize hP:((pendingOf st).setIfInBounds i (b,o+L,pw)).eraseIdxIfInBounds (i+1)=P at q|-;have B1:StOk g d (setPending st P):=#[B.kind,B.perm,B.ok];generalize D:arrOf st=xs at N O q sz|-;have pm:xs.Perm d:=D▸B.perm;have mem:∀j,j<d.size->xs.getD j d0∈d:=λj H=>zM pm H;have ap:∀i j,i<d.size->j<d.size->i≠j->kx r xs i≠kx r xs j:=λi j hi H ij=>K.apart pm hi H ij;refine gW (lH () (gW (vQ K B1.kind () (λj H=>mem _ ()) (mem _ ()) (λj H=>ap _ _ () () ()) N () λk kn k2 k3=>?_)));dsimp only;by_cases z0:o-k=0
 .rw[wB (by simpa using z0)];refine hI (q _ B1 rZ (by show Out xs (arrOf st) _ _;rw[D];exact Out.refl _ _ _) ?_);show Ris r (arrOf st) _ _;rw[D];intro i j w C G;by_cases c1:j<b+o
  .exact N i j w C c1
  by_cases c2:b+o<=i
  .exact O i j c2 C G
  have l1:=k2 (i-b) ();rw[r9 w]at l1;have l1:kx r xs i<kx r xs (b+o):=l1;by_cases c3:j=b+o
  .rw[c3];exact l1
  .exact yZ l1 (O (b+o) j (gS _) (yq (Nat.not_lt.mp c1) (jd c3)) G)
 rw[wA (by simpa using z0)];have kl:k<o:=by lia
 clear z0;have dk:∀_:Unit,b+k+(o-k)=b+o:=λ_=>by lia
 rw[dk Unit.unit];refine gW (lH () (gW (vQ K B1.kind () (λj H=>mem _ ()) (mem _ ()) (λj H=>ap _ _ () () ()) O () λv nn ah ae=>?_)));dsimp only;have bk:kx r xs (b+o)<kx r xs (b+k):=by
  have:=k3 k (gS _) ();exact this
 have aa:kx r xs (b+k)<=kx r xs (b+o-1):=by
  by_cases c:b+k=b+o-1
  .rw[c];exact Int.le_refl _
  .exact Int.le_of_lt (N (b+k) (b+o-1) () () ())
 have ai:v≠0:=λz=>by
  subst z;have:=ae 0 (gS _) ();rw[xS]at this;exact wC this (Int.not_lt.mpr (Int.le_trans (Int.le_of_lt bk) aa))
 rw[wA (by simpa using ai)];have sx:(xs.extract (b+k) (b+o)).size=o-k:=by rw[Af ()];exact Nat.add_sub_add_left ..
 have sy:(xs.extract (b+o) (b+o+v)).size=v:=by rw[Af ()];exact xk ..
 have mx:∀x∈(xs.extract (b+k) (b+o)).toList,∃j,b+k<=j/\j<b+o/\xs.getD j d0=x:=λx D=>by
  rw[zV]at D;obtain⟨j,w,C,_,G⟩:=Ae D;exact#[j,w,C,G]
 have my:∀x∈(xs.extract (b+o) (b+o+v)).toList,∃j,b+o<=j/\j<b+o+v/\xs.getD j d0=x:=λx D=>by
  rw[zV]at D;obtain⟨j,w,C,_,G⟩:=Ae D;exact#[j,w,C,G]
 have af:∀(t n:Nat),n<=xs.size->Ris r xs t n->Up r (xs.extract t n).toList:=λt n hn ur=>by
  refine pc.mpr λi j hi H ij=>?_;rw[iH,Af hn]at hi H;have e:∀c (hc:c<(xs.extract t n).toList.length),(xs.extract t n).toList[c]=xs.getD (t+c) d0:=λc hc=>by
   rw[iH,Af hn]at hc;rw[<-BB hn (),Array.getElem_toList];exact(wU (mK _)).symm
  rw[e,e];exact ur (t+i) (t+j) () () ()
 have aj:∀_:Unit,b+k+(o-k-1)=b+o-1:=λ_=>by rw[<-dk Unit.unit];exact(Nat.add_sub_assoc (Nat.sub_pos_of_lt kl) _).symm
 have I:∀_:Unit,b+k+(o-k+v)=b+o+v:=λ_=>by rw[<-Nat.add_assoc,dk Unit.unit]
 have T:Two g r d (xs.extract (b+k) (b+o)) (xs.extract (b+o) (b+o+v)):=by
  refine#[λx D=>?_,λx D=>?_,af _ _ () λi j w C G=>N i j () C G,af _ _ () λi j w C G=>O i j w C (),λx D y hy=>?_,(),(),λx D=>?_,λy hy=>?_]
  .obtain⟨j,w,C,rfl⟩:=mx x D;exact mem j ()
  .obtain⟨j,w,C,rfl⟩:=my x D;exact mem j ()
  .obtain⟨j,w,C,rfl⟩:=mx x D;obtain⟨l,G,g4,rfl⟩:=my y hy;exact ap j l () () ()
  .obtain⟨j,w,C,rfl⟩:=mx x D;rw[BB () (),xS];show kx r xs (b+o)<kx r xs j
   by_cases c:j=b+k
   .rw[c];exact bk
   .exact yZ bk (N (b+k) j (rC ..) (yq w (jd c)) C)
  .obtain⟨j,w,C,rfl⟩:=my y hy;rw[sx,BB () (),show b+k+(o-k-1)=b+o-1 from aj Unit.unit];have:=ah (j-(b+o)) (yL w C)
   rw[r9 w]at this;exact this
 have fin:∀m u,Eqv (setPending st P) u->Gd r (xs.extract (b+k) (b+o)) (xs.extract (b+o) (b+o+v)) m->wpS M A E s (do
   modify λs=>setArr s (m.toList.zipIdx.foldl (λa (p,j)=>a.setIfInBounds (b+k+j) p) (arrOf s))
   return (failedOf (<-get)).isNone) Q u:=λm u ev gd=>by
  have ea:arrOf u=xs:=ev.arr.trans D;have ml:m.toList.length=o-k+v:=by
   have:=gd.1.length_eq;rw[jc,iH (xs:=xs.extract _ _),iH (xs:=xs.extract _ _),sx,sy]at this;exact this
  refine gW (qp (gW (pg ?_)));rw[ea];have tl:=laid m.toList 0 (b+k) xs (by rw[ml];lia);rw[xS,ml]at tl;generalize as:m.toList.zipIdx.foldl (λa (p,j)=>a.setIfInBounds (b+k+j) p) xs=f at tl|-;have ak:(failedOf (setArr u f)).isNone=true:=by
   show(failedOf u).isNone=true;rw[ev.ok];show(failedOf st).isNone=true
   rw[B.ok];rfl
  rw[ak];have mid:xs.toList=xs.toList.take (b+k)++((xs.extract (b+k) (b+o)).toList++(xs.extract (b+o) (b+o+v)).toList)++xs.toList.drop (b+k+(o-k+v)):=by
   rw[zV,zV];have e1:xs.toList.take (b+k)++(xs.toList.take (b+o)).drop (b+k)=xs.toList.take (b+o):=by
    have z:=oK (b+k) (xs.toList.take (b+o));rwa[List.take_take,vX ()]at z
   have e2:xs.toList.take (b+o)++(xs.toList.take (b+o+v)).drop (b+o)=xs.toList.take (b+o+v):=by
    have z:=oK (b+o) (xs.toList.take (b+o+v));rwa[List.take_take,vX ()]at z
   rw[<-lU,e1,e2,I Unit.unit,oK]
  have al:f.Perm xs:=by
   refine pB.mpr ?_;rw[tl]
   conv=>rhs;rw[mid]
   exact Bt _ (yJ _ gd.1)
  have lx:xs.toList.length=d.size:=by rw[iH];exact sz
  have mn:min (b+k) xs.toList.length=b+k:=vX ();have U:∀j,j<b+k\/b+o+v<=j->f[j]?=xs[j]? :=λj H=>by
   rw[Hq tl j,<-mv]
   rcases H with h|h
   .rw[j0 (by rw[jc,lZ,mn];exact Nat.lt_add_right _ h),j0 (by rw[lZ,mn];exact h),Bv,wB h]
   .rw[ku (by rw[jc,lZ,ml,mn,I Unit.unit];exact h),x9]
    congr 1
    rw[jc,lZ,ml,mn,I Unit.unit];exact r9 h
  have ab:∀j,b+k<=j->j<b+o+v->∃h:j-(b+k)<m.toList.length,f.getD j d0=m.toList[j-(b+k)]:=λj w C=>by
   have hl:j-(b+k)<m.toList.length:=by rw[ml];exact yL w (by rw[I Unit.unit];exact C)
   refine#[hl,wU ?_];rw[Hq tl j,j0 (by rw[jc,lZ,ml,mn,I Unit.unit];exact C),ku (by rw[lZ,mn];exact w),lZ,mn,gN hl]
  have J:∀j,b+k<=j->j<b+o+v->∃l,b+k<=l/\l<b+o+v/\f.getD j d0=xs.getD l d0:=λj w C=>by
   obtain⟨hl,e⟩:=ab j w C;have mm:f.getD j d0∈(xs.extract (b+k) (b+o)).toList++(xs.extract (b+o) (b+o+v)).toList:=by
    rw[e];exact(List.Perm.mem_iff gd.1).mp (oU hl)
   rcases iC.mp mm with z|z
   .obtain⟨l,l1,l2,l3⟩:=mx _ z;exact#[l,l1,(),l3.symm]
   .obtain⟨l,l1,l2,l3⟩:=my _ z;exact#[l,(),l2,l3.symm]
  refine hI (q _ #[ev.kind.trans B1.kind,al.trans pm,by show failedOf u=none;rw[ev.ok];exact B.ok] ev.pend (λj H=>U j ()) λi j w C G=>?_);show kx r f i<kx r f j;have oe:∀c,c<b+k\/b+o+v<=c->kx r f c=kx r xs c:=λc hc=>iZ r (qV (U c hc));have hd:∀c l,b<=c->c<b+k->b+k<=l->l<b+o+L->kx r xs c<kx r xs l:=λc l c1 c2 c3 c4=>by
   by_cases c5:l<b+o
   .exact N c l c1 () c5
   .have l1:=k2 (c-b) (yL c1 c2);rw[r9 c1]at l1;have l1:kx r xs c<kx r xs (b+o):=l1;by_cases c6:l=b+o
    .rw[c6];exact l1
    .exact yZ l1 (O (b+o) l (gS _) (yq (Nat.not_lt.mp c5) (jd c6)) c4)
  have am:∀l c,b+k<=l->l<b+o+v->b+o+v<=c->c<b+o+L->kx r xs l<kx r xs c:=λl c c1 c2 c3 c4=>by
   by_cases c5:b+o<=l
   .exact O l c c5 () c4
   .have c0:=iP (rC ..) c3;have l1:=ae (c-(b+o)) (Nat.le_sub_of_add_le' c3) (yL c0 c4);rw[r9 c0]at l1;have l1:kx r xs (b+o-1)<kx r xs c:=l1;by_cases c6:l=b+o-1
    .rw[c6];exact l1
    .exact yZ (N l (b+o-1) () () ()) l1
  by_cases i1:i<b+k
  .rw[oe i (.inl i1)];by_cases j1:j<b+k
   .rw[oe j (.inl j1)];exact N i j w C ()
   .by_cases j2:j<b+o+v
    .obtain⟨l,l1,l2,l3⟩:=J j () j2;show kx r xs i<r (f.getD j d0);rw[l3];exact hd i l w i1 l1 ()
    .rw[oe j (.inr ())];exact hd i j w i1 () G
  .by_cases i2:i<b+o+v
   .by_cases j2:j<b+o+v
    .obtain⟨an,e1⟩:=ab i () i2;obtain⟨ao,e2⟩:=ab j () j2;show r (f.getD i d0)<r (f.getD j d0)
     rw[e1,e2];exact pc.mp gd.2 _ _ an ao ()
    .obtain⟨l,l1,l2,l3⟩:=J i () i2;rw[oe j (.inr ())];show r (f.getD i d0)<kx r xs j
     rw[l3];exact am l j l1 l2 () G
   .rw[oe i (.inr ()),oe j (.inr ())];exact O i j () C G
 by_cases c:o-k<=v
 .rw[wB c];exact gW (Ju K B1.kind T fin)
 .rw[wA c];exact gW (LS K B1.kind T fin)
end
def Runs(r:Keyed->Int)(a:Array Keyed):Nat->List (Nat×Nat×Nat)->Nat->Prop
 |s,[],e=>s=e
 |s,u::l,e=>u.1=s/\1<=u.2.1/\Ris r a s (s+u.2.1)/\Runs r a (s+u.2.1) l e
section
variable{r:Keyed->Int}{j k:Array Keyed}
theorem zH:∀{l:List (Nat×Nat×Nat)} {s e:Nat},Runs r j s l e->s+l.length<=e
 | [],s,e,h=>by
  have:s=e:=h;simp;lia
 |u::l,s,e,h=>by
  have:=zH h.2.2.2;have:=h.2.1;rw[nq];lia
theorem iA:∀{l c:List (Nat×Nat×Nat)} {s e:Nat},Runs r j s (l++c) e↔ ∃m,Runs r j s l m/\Runs r j m c e
 | [],c,s,e=>#[λh=>#[s,rZ,h],λ⟨m,a,b⟩=>by have:s=m:=a;subst this;exact b]
 | u::l,c,s,e=>by
  constructor
  .rintro⟨a,b,d,i⟩;obtain⟨m,f,g⟩:=iA.mp i;exact#[m,#[a,b,d,f],g]
  .rintro⟨m,⟨a,b,d,f⟩,g⟩;exact#[a,b,d,iA.mpr #[m,f,g]]
theorem yl{lo a:Nat}(o:Out j k lo a):∀{l:List (Nat×Nat×Nat)} {s e:Nat},Runs r j s l e->e<=lo\/a<=s->Runs r k s l e
 | [],_,_,h,_=>h
 |u::l,s,e,h,d=>by
  have:=zH h.2.2.2;exact#[h.1,h.2.1,o.ris h.2.2.1 (),yl o h.2.2.2 ()]
def NE{p:Array (Nat×Nat×Nat)}{i:Nat}(h:i+1<p.size):∃l1 u v l2,p.toList=l1++u::v::l2/\l1.length=i/\p[i]?=some u/\p[i+1]?=some v:=by
 have c:p.toList.length=p.size:=iH;refine#[p.toList.take i,p[i]'(),p[i+1],p.toList.drop (i+2),?_,by rw[lZ];lia,mK _,mK _];have a:p.toList.drop i=p.toList[i]'()::p.toList.drop (i+1):=zy ();have b:p.toList.drop (i+1)=p.toList[i+1]'()::p.toList.drop (i+2):=zy ();rw[Array.getElem_toList]at a b;rw[<-b,<-a,oK]
def Na{p:Array (Nat×Nat×Nat)}{i:Nat}{l1 l2:List (Nat×Nat×Nat)}{u v w:Nat×Nat×Nat}(h:p.toList=l1++u::v::l2)(a:l1.length=i):((p.setIfInBounds i w).eraseIdxIfInBounds (i+1)).toList=l1++w::l2:=by
 rw[Array.toList_eraseIdxIfInBounds,D1,h,List.set_append_right _ _ (),a,vU,List.eraseIdx_append_of_length_le (),a,xk];rfl
variable{M:Model}{A:Ar}{E:VP}{s:Sh}{b:SortKind}{a:Array Keyed}
def Db{st:SortSt}{i lo:Nat}{Q:Bool->SortSt->Prop}(K:Asks M A s b r a)(B:StOk b a st)(y:i+1<(pendingOf st).size)(R:Runs r (arrOf st) 0 (pendingOf st).toList lo)(z:lo<=a.size)(q:∀c,StOk b a c->(pendingOf c).size+1=(pendingOf st).size->Out (arrOf st) (arrOf c) 0 lo->Runs r (arrOf c) 0 (pendingOf c).toList lo->Q true c):wpS M A E s (mergeAt' i) Q st:=by
 obtain⟨l1,u,v,l2,e,C,D,G⟩:=NE y;rw[e]at R;obtain⟨m,H,R2⟩:=iA.mp R;obtain⟨l,n,p,h,t,x,j⟩:=R2;obtain⟨d,g,pw⟩:=u;obtain⟨I,f,J⟩:=v;dsimp only at l n p h t x j;subst l;have O:=zH j;refine K0 K B D G h n t () p (by rw[h];exact x) λc L N o up=>?_;have k:=Na (w:=(d,g+f,pw)) e C;rw[<-N]at k;refine q c L ?_ (o.wide (lV _) ()) ?_
 .have l3:(pendingOf c).toList.length+1=(pendingOf st).toList.length:=by
   rw[k,e];simp;lia
  rwa[iH,iH]at l3
 .rw[k];refine iA.mpr #[d,yl o H (.inl (gS _)),rZ,by show 1<=g+f;lia,?_,?_]
  .show Ris r (arrOf c) d (d+(g+f));rw[show d+(g+f)=I+f by lia];exact up
  .show Runs r (arrOf c) (d+(g+f)) l2 lo;rw[show d+(g+f)=d+g+f by lia];exact yl o j (.inr ())
theorem Ds{f:Nat->Nat}:∀{l:List (Nat×Nat×Nat)} {s e i:Nat},Runs r j s l e->Runs r j s (l.modify i λu=>(u.1,u.2.1,f u.2.2)) e
 | [],_,_,_,h=>by simpa using h
 |u::l,s,e,0,h=>h
 |u::l,s,e,i+1,h=>#[h.1,h.2.1,h.2.2.1,Ds h.2.2.2]
def JW{st:SortSt}{Q:Unit->SortSt->Prop}(K:Asks M A s b r a)(B:StOk b a st)(hp:pendingOf st= #v[])(h1:1<=a.size)(q:∀d,StOk b a d->Ris r (arrOf d) 0 a.size->Q ⟨⟩ d):wpS M A E s sortRuns' Q st:=by
 have sz:=sj B.perm;rw[sortRuns'_eq];refine gW (pg ?_);dsimp only;rw[sz];refine gW (nJ (nr (I:=λx c d=>∃lo,c=(none,lo)/\x<=lo/\lo<=a.size/\StOk b a d/\Runs r (arrOf d) 0 (pendingOf d).toList lo)
  (Q:=λc d=>c=(none,a.size)/\StOk b a d/\Runs r (arrOf d) 0 (pendingOf d).toList a.size) ?step ?stop #[0,rZ,gS _,lV _,B,by rw[hp];rfl]) ?post)
 case stop=>
  rintro c d ⟨lo,rfl,h1,h2,B',R⟩;have e:lo=a.size:=by lia
  subst e;exact#[rZ,B',R]
 case step=>
  rintro x c aa _ hx ⟨lo,rfl,af,O,Y,T⟩;dsimp only;by_cases z:lo>=a.size
  .rw[wB z];have e:lo=a.size:=by lia
   subst e;exact hI #[rZ,Y,T]
  rw[wA z];refine gW (ID K Y () () λn j H p2 L o2 N nn U=>?_);dsimp only;have R2:Runs r (arrOf j) 0 (pendingOf j).toList lo:=by rw[p2];exact yl o2 T (.inl (gS _))
  by_cases mr:n<minRun' a.size a.size 0
  .rw[wB mr];refine gW (vb (qu #[rZ,?_]));refine gW (Mo K H () () U λt C p3 g3 o3 v=>?_);rw[wA (by decide)];have J:Runs r (arrOf t) 0 (pendingOf t).toList lo:=by rw[p3];exact yl o3 R2 (.inl (gS _))
   have N:1<=min (a.size-lo) (minRun' a.size a.size 0):=by lia
   have nn:lo+min (a.size-lo) (minRun' a.size a.size 0)<=a.size:=by lia
   generalize min (a.size-lo) (minRun' a.size a.size 0)=D at v N nn|-;refine gW (pg ?_);cases eb:(pendingOf t).back? with
   |none=>
    dsimp only;refine gW (qp (hI #[lo+D,rZ,(),(),#[C.kind,C.perm,C.ok],?_]));show Runs r (arrOf t) 0 ((pendingOf t).push (lo,D,0)).toList (lo+D)
    rw[xh];exact iA.mpr #[lo,J,rZ,N,v,rZ]
   | some u=>
    obtain⟨w,m,w1⟩:=u;dsimp only;refine gW (nJ (nr (I:=λx c d=>c=(none,Unit.unit)/\StOk b a d/\Runs r (arrOf d) 0 (pendingOf d).toList lo/\Ris r (arrOf d) lo (lo+D))
     (Q:=λc d=>c=(none,Unit.unit)/\StOk b a d/\Runs r (arrOf d) 0 (pendingOf d).toList lo/\Ris r (arrOf d) lo (lo+D)) ?step2 ?stop2 #[rZ,C,J,v]) ?post2)
    case stop2=>
     rintro c i h;exact h
    case step2=>
     rintro y c i _ _ ⟨rfl,o,G,k⟩;refine gW (pg ?_);by_cases g:(pendingOf i).size>1
     .rw[wB g,mK ()];generalize(pendingOf i)[(pendingOf i).size-2]=u2;obtain⟨a2,b2,p⟩:=u2;dsimp only;by_cases L:p<=power' a.size (2 * w+m) (2 * w+m+m+D) a.size
      .rw[wB L];exact hI #[rZ,o,G,k]
      .rw[wA L];refine gW (Db K o () G O λab B5 _ o5 R5=>?_);exact hI #[rZ,B5,R5,o5.ris k (.inr (gS _))]
     .rw[wA g];exact hI #[rZ,o,G,k]
    case post2=>
     rintro c i ⟨rfl,o,G,k⟩;dsimp only;refine gW (qp (gW (qp (hI #[lo+D,rZ,(),(),#[o.kind,o.perm,o.ok],?_]))));show Runs r (arrOf i) 0 (((pendingOf i).modify ((pendingOf i).size-1) λx=>(x.fst,x.2.fst,power' a.size (2 * w+m) (2 * w+m+m+D) a.size)).push (lo,D,0)).toList (lo+D)
     rw[xh,Array.toList_modify];exact iA.mpr #[lo,Ds (f:=λ_=>power' a.size (2 * w+m) (2 * w+m+m+D) a.size) G,rZ,N,k,rZ]
  .rw[wA mr];have C:=H;have J:=R2;have v:=U;refine gW (pg ?_);cases eb:(pendingOf j).back? with
   |none=>
    dsimp only;refine gW (qp (hI #[lo+n,rZ,(),(),#[C.kind,C.perm,C.ok],?_]));show Runs r (arrOf j) 0 ((pendingOf j).push (lo,n,0)).toList (lo+n)
    rw[xh];exact iA.mpr #[lo,J,rZ,N,v,rZ]
   | some u=>
    obtain⟨w,m,w1⟩:=u;dsimp only;refine gW (nJ (nr (I:=λx c d=>c=(none,Unit.unit)/\StOk b a d/\Runs r (arrOf d) 0 (pendingOf d).toList lo/\Ris r (arrOf d) lo (lo+n))
     (Q:=λc d=>c=(none,Unit.unit)/\StOk b a d/\Runs r (arrOf d) 0 (pendingOf d).toList lo/\Ris r (arrOf d) lo (lo+n)) ?step2 ?stop2 #[rZ,C,J,v]) ?post2)
    case stop2=>
     rintro c i h;exact h
    case step2=>
     rintro y c i _ _ ⟨rfl,o,G,k⟩;refine gW (pg ?_);by_cases g:(pendingOf i).size>1
     .rw[wB g,mK ()];generalize(pendingOf i)[(pendingOf i).size-2]=u2;obtain⟨a2,b2,p⟩:=u2;dsimp only;by_cases L:p<=power' a.size (2 * w+m) (2 * w+m+m+n) a.size
      .rw[wB L];exact hI #[rZ,o,G,k]
      .rw[wA L];refine gW (Db K o () G O λab B5 _ o5 R5=>?_);exact hI #[rZ,B5,R5,o5.ris k (.inr (gS _))]
     .rw[wA g];exact hI #[rZ,o,G,k]
    case post2=>
     rintro c i ⟨rfl,o,G,k⟩;dsimp only;refine gW (qp (gW (qp (hI #[lo+n,rZ,(),(),#[o.kind,o.perm,o.ok],?_]))));show Runs r (arrOf i) 0 (((pendingOf i).modify ((pendingOf i).size-1) λx=>(x.fst,x.2.fst,power' a.size (2 * w+m) (2 * w+m+m+n) a.size)).push (lo,n,0)).toList (lo+n)
     rw[xh,Array.toList_modify];exact iA.mpr #[lo,Ds (f:=λ_=>power' a.size (2 * w+m) (2 * w+m+m+n) a.size) G,rZ,N,k,rZ]
 case post=>
  rintro c aa ⟨rfl,Y,T⟩;dsimp only;refine gW (nJ (nr (I:=λx c d=>c=(none,Unit.unit)/\StOk b a d/\Runs r (arrOf d) 0 (pendingOf d).toList a.size/\(pendingOf d).size+x<=a.size)
   (Q:=λc d=>c=(none,Unit.unit)/\StOk b a d/\Runs r (arrOf d) 0 (pendingOf d).toList a.size/\(pendingOf d).size<=1) ?step3 ?stop3 #[rZ,Y,T,by have:=zH T;rw[iH]at this;lia]) ?post3)
  case stop3=>
   rintro c j ⟨hc,H,R2,hz⟩;exact#[hc,H,R2,()]
  case step3=>
   rintro x c j _ hx ⟨rfl,H,R2,hz⟩;refine gW (pg ?_);by_cases g:(pendingOf j).size<=1
   .rw[wB g];exact hI #[rZ,H,R2,g]
   .rw[wA g];refine gW (Db K H ?_ R2 (gS _) λt C z3 o3 J=>?_)
    .have ae:∀(c:Prop) [Decidable c],(if c then(pendingOf j).size-2-1 else(pendingOf j).size-2)+1<(pendingOf j).size:=λc _=>by
      by_cases h:c
      .rw[wB h];lia
      .rw[wA h];lia
     exact ae _
    .exact hI #[rZ,C,J,()]
  case post3=>
   rintro c j ⟨rfl,H,R2,hz⟩;refine hI (q j H ?_);have hl:(pendingOf j).toList.length<=1:=by rw[iH];exact hz
   generalize(pendingOf j).toList=l at R2 hl
   match l,R2,hl with
   | [],R2,_=>
    have:0=a.size:=R2;lia
   | [u],R2,_=>
    have e:0+u.2.1=a.size:=R2.2.2.2;rw[<-e];exact R2.2.2.1
end
section
variable{P:Pg}{w:World}{A:Ar}{E:VP}{s:Sh}{a:Ad}{vs ks:Vs}{k:Nat->Int}{d:SortKind}
noncomputable def mq (ks:Vs) (x:Keyed):Nat:=Classical.epsilon λi=>ks[i]?=some x.1
def yQ(a:ks.Nodup){i:Nat}{x:Keyed}(h:ks[i]?=some x.1):mq ks x=i:=by
 have z:ks[mq ks x]?=some x.1:=Classical.epsilon_spec (p:=λi=>ks[i]?=some x.1) #[i,h];exact(rf (gV.mp z).1 a).mp (z.trans h.symm)
def G8{Q:SortSt->Sh->Prop}(t:ks.length=vs.length)(N:1<=vs.length)(G:ks.Nodup)(inj:∀i j,i<vs.length->j<vs.length->k i=k j->i=j)(ask:∀i j (C:Bool->Sh->Prop),i<ks.length->j<ks.length->C (decide (k i<k j)) s->kas_ask P w A d ks i j C s)(H:∀p a,Arr vs.length p->rn k p vs.length->(arrOf a).map (·.2)=(lM vs p).toArray->failedOf a=none->Q a s):
  wpAny (model P w) A ((sortRuns').run (SortSt.mk' d (ks.toArray.zip vs.toArray) #v[] 7 none)) (λr u=>Q r.2 u) E s:=by
 have sz:(ks.toArray.zip vs.toArray).size=vs.length:=by simp[t]
 have n:∀i,i<vs.length->(ks.toArray.zip vs.toArray).getD i d0=(ks.getD i Value.none,vs.getD i Value.none):=λi b=>kat_item t i;have o:∀i,i<vs.length->ks[i]?=some (ks.getD i Value.none):=λi b=>by
  rw[iD,gN ()];rfl
 have f:∀i,i<vs.length->mq ks ((ks.toArray.zip vs.toArray).getD i d0)=i:=λi b=>yQ G (by rw[n i b];exact o i b);have c:∀x∈ks.toArray.zip vs.toArray,∃i,i<vs.length/\x=(ks.toArray.zip vs.toArray).getD i d0:=λx l=>by
  obtain⟨i,b,e⟩:=Array.getElem_of_mem l;exact#[i,(),(wU (nj.mpr #[b,e])).symm]
 have K:Asks (model P w) A s d (λx=>k (mq ks x)) (ks.toArray.zip vs.toArray):=by
  refine#[λx y C l I v=>?_,λi j b g J z=>?_]
  .obtain⟨i,b,rfl⟩:=c x l;obtain⟨j,g,rfl⟩:=c y I;have z:=ask i j C () () (by rw[f i b,f j g]at v;exact v);unfold kas_ask at z;rw[n i b,n j g];exact z
  .rw[sz]at b g;rw[f i b,f j g]at z;exact J (inj i j b g z)
 have run:=JW (E:=E) (st:=SortSt.mk' d (ks.toArray.zip vs.toArray) #v[] 7 none) (Q:=λ_ a=>Q a s) K #[rZ,By _,rZ] rZ () λa B up=>?_
 .unfold wpS at run;exact kS run (λr u h=>by obtain⟨rfl,h⟩:=h;exact h) λ_ _ e=>e
 .have q:=sj B.perm;rw[sz]at up q;have mem:∀i,i<vs.length->(arrOf a).getD i d0∈ks.toArray.zip vs.toArray:=λi b=>zM B.perm ();have L:Arr vs.length ((arrOf a).map (mq ks)):=by
   refine pB.mpr ?_;rw[Ak];refine((pB.mp B.perm).map (mq ks)).trans (.of_eq ?_);refine uy λi=>?_;rw[hA,mv,tz];by_cases b:i<vs.length
   .rw[sq (),tF b];exact iZ some (f i b)
   .rw[CJ (),ot (by simp;lia)];rfl
  have m:∀i,i<vs.length->((arrOf a).map (mq ks)).getD i 0=mq ks ((arrOf a).getD i d0):=λi b=>by
   rw[ub,Array.getElem?_map,sq ()];rfl
  refine H ((arrOf a).map (mq ks)) a L (λx y M D=>?_) ?_ B.ok
  .rw[m x (),m y D];exact up x y (lV _) M D
  .apply Dd.mp;rw[Ak];show _=lM vs _
   unfold lM;rw[Ak,lE];refine qf λx l=>?_;obtain⟨i,b,rfl⟩:=c x ((Df B.perm).mp (Array.mem_toList_iff.mp l));show((ks.toArray.zip vs.toArray).getD i d0).2=vs.getD (mq ks ((ks.toArray.zip vs.toArray).getD i d0)) Value.none
   rw[f i b,n i b]
def K'{n:Nat}{R:PySem.Fin->Sh->Prop}(z:s.heap.get? a=some (seqObj "list" vs.toArray n))(few:vs.length<=4000)(M:vs.Nodup)(inj:∀i j,i<vs.length->j<vs.length->k i=k j->i=j)(ask:∀r,(∀b o,b≠a->s.heap.get? b=some o->r.get? b=some o)->2<=vs.length->AL P w A vs (λi j=>decide (k i<k j)) {s with heap:=r})
  (q:∀p r c,Arr vs.length p->rn k p vs.length->r.get? a=some (seqObj "list" (lM vs p).toArray c)->(∀b o,b≠a->s.heap.get? b=some o->r.get? b=some o)->R (.done (.ret .none)) {s with heap:=r}):
  wpAny (model P w) A (Builtin.«list.sort» #[[.ref a],[]]) R E s:=by
 have T:a<s.heap.objs.size:=hV z
 let D:=s.heap.update a (Obj.mapSeq λ_=>(#v[]:AV))
 obtain⟨B,u⟩:∃B,D.get? a=some (seqObj "list" #v[] B):=#[_,v6 z λ_=> #v[]]
 let h:=(D.push (seqObj "tuple" vs.toArray 0)).push (seqObj "list" #v[] 0)
 have k1:∀b o,b≠a->s.heap.get? b=some o->D.get? b=some o:=λb o t e=>(mM _ _ (jd t)).trans e;have k3:∀b o,b≠a->s.heap.get? b=some o->h.get? b=some o:=λb o t e=>xC (k1 b o t e) _ _;have l:h.get? a=some (seqObj "list" #v[] B):=xC u _ _;rw[list_sort_plain];refine gH (listItems_at z rZ ?_);refine gH (vS z rZ ?_ (by rw[iK,iv];lia) (lV _));refine gH (Bm u rZ ?_);refine gH (wpAny_newTuple ?_ (by show vs.length<=_;rw[iv];lia));refine gH (wm ?_ (lV _));refine lq ?_;show wpAny (model P w) A _ R E {s with heap:=h};dsimp only;have fin:∀(st:SortSt) (p:Array Nat),Arr vs.length p->rn k p vs.length->(arrOf st).map (·.2)=(lM vs p).toArray->failedOf st=none->∀G,G=h->
   wpAny (model P w) A (do
    let f:=(<-seqEpoch a) != B
    Builtin.List.listUpdate (.ref a) λ_=>(arrOf st).map (·.2)
    if let some e:=failedOf st then rule "list.sort.comparison-raised";throw e
    if f then rule "list.sort.modified";raiseError "ValueError" "list modified during sort"
    ret .none) R E {s with heap:=G}:=λst p C up g H G N=>by
  subst N;rw[g];have sz:(lM vs p).toArray.size=vs.length:=by
   rw[iK,gL,iH,C.size]
  obtain⟨c2,I⟩:∃c2,(h.update a (Obj.mapSeq λ_=>(lM vs p).toArray)).get? a=some (seqObj "list" (lM vs p).toArray c2):=#[_,v6 l λ_=>(lM vs p).toArray];refine gH (Bm l rZ ?_);refine gH (vS l rZ ?_ (lV _) (iP (vo sz) (by rw[iv];lia)));rw[H];simp only[bne_self_eq_false,Bool.false_eq_true,if_false];exact gK (q p _ c2 C up I λb o t e=>(mM _ _ (jd t)).trans (k3 b o t e))
 by_cases O:2<=vs.length
 .have v: ¬vs.toArray.size<2:=by rw[iK];lia
  rw[wA v,wA v];refine gH (kS (ask h k3 O) (λd U J=>?_) λ_ _ x=>x.elim);obtain⟨rfl,J⟩:=J;refine gH (kS (G8 (ks:=vs) (vs:=vs) (k:=k) (Q:=λm L=>L={s with heap:=h}/\∃p:Array Nat,Arr vs.length p/\rn k p vs.length/\(arrOf m).map (·.2)=(lM vs p).toArray/\failedOf m=none) rfl () M inj J λp m a1 a2 a3 a4=>#[rfl,p,a1,a2,a3,a4]) ?_ λ_ _ x=>x);rintro⟨⟨⟩,st⟩ L ⟨rfl,p,C,up,g,H⟩;exact fin st p C up g H _ rfl
 .have v:vs.toArray.size<2:=by rw[iK];lia
  rw[wB v,wB v];refine gH (gK (gH (gK ?_)));refine fin _ (List.range vs.length).toArray (By _) (λx y Y yn=>by lia) ?_ rZ _ rfl;rw[EV];exact FL rfl
end
def oh(g:f'->Int)(t u:f'):Bool:=yj (g t) t (g u) u
def vP(g:f'->Int)(f:LN):Total (oh g) f:=by
 refine#[λx=>?_,λx y z b a=>?_,λx _ y _ h=>?_]
 .unfold oh yj;rw[wB rZ,ze]
 .unfold oh yj at b a|-;by_cases d:g x=g y
  .rw[wB d]at b;by_cases c:g y=g z
   .rw[wB c]at a;rw[wB ()];exact Hi _ _ _ b a
   .rw[wA c]at a;have:=lR a;rw[wA ()];exact iG ()
  .rw[wA d]at b;have l1:=lR b;by_cases c:g y=g z
   .rw[wA ()];exact iG ()
   .rw[wA c]at a;have l2:=lR a;rw[wA ()];exact iG ()
 .unfold oh yj;by_cases e:g x=g y
  .rw[wB e,wB e.symm];exact Fi x y h
  .rw[wA e,wA λz=>e z.symm]
   rcases Int.lt_or_gt_of_ne e with q|q
   .exact .inl (iG q)
   .exact .inr (iG q)
def y9(H:Hp)(g:f'->Int)(b a:Ad)(t:f'):Prop:=H b=some (.tup [.int (g t),.ref a])/\H a=some (.tup (t.map nv))
structure KeysAt(H:Hp)(g:f'->Int)(κs as:As)(ts:LN):Prop where
 l1:κs.length=ts.length
 l2:as.length=ts.length
 is:∀(i:Nat) κ a t,κs[i]?=some κ->as[i]?=some a->ts[i]?=some t->y9 H g κ a t
section
variable{X:Cx}{Z:AO}{b:St}{H:Hp}{s:Sh}{g:f'->Int}
def B7{f a:Ad}{t:f'}(I:Inv X Z b H s)(h:y9 H g f a t):∃o i d n,s.heap.get? f=some o/\o.cls=.type "tuple"/\o.data=.seq #v[.int (g t) i,.ref a] n/\Vals (t.map nv) d/\SeqObj "tuple" s.heap a d:=by
 obtain⟨_,d,r,o,l,m,c,p,_⟩:=(show ObjOk X.prog X.w H s.heap f (.tup [.int (g t),.ref a])from I.hok f _ h.1);obtain⟨j,k,rfl,⟨i,rfl⟩,q⟩:∃j k,d=j::k/\RelV (.int (g t)) j/\Vals [.ref a] k:=by
  cases r with
  |cons x y=>exact#[_,_,rZ,x,y]
 obtain⟨z,rfl,u⟩:=mi q;cases u;obtain⟨e,v,w,_⟩:=I.tuple (N1 (K:=X.K) h.2);exact#[o,i,e,c,l,m,p,v,K4 w]
def MW{A:Ar}{d a c f:Ad}{t u:f'}{Q:Bool->Sh->Prop}{E:VP}(L:A.units+8<cLine)(I:Inv X Z b H s)(h:y9 H g d a t)(k:y9 H g c f u)(q:Q (oh g t u) s):
  wpAny (model X.prog X.w) A (keyLt' (tuples' true) (.ref d) (.ref c)) Q E s:=by
 obtain⟨M,k1,o,N,p,O,r,l,v⟩:=B7 I h;obtain⟨T,k2,w,U,x,Y,y,m,B⟩:=B7 I k;refine kat_lt p r x y ?_;show KatLex _ _ _ _ _ _ [(Value.int (g t) k1,Value.int (g u) k2),(Value.ref a,Value.ref f)] 0 s;have z:=lT (A:=A) (s:=s) (i:=g t) (j:=g u) (t:=k1) (u:=k2);refine kat_cons ?_;unfold oh yj at q;by_cases e:g t=g u
 .rw[iG e]at z;rw[wB e]at q;refine z _ _ _ _ (kat_yes (kat_cons ?_));obtain⟨C,D,G⟩:=Bq I 1 (A:=A) () (lP (N1 (K:=X.K) h.2)) (lP (N1 (K:=X.K) k.2)) rZ rfl;refine D _ _ _ _ ?_;cases C with
  |true=>
   have J:=gZ.mp (G.mp rZ);subst J;rw[ze]at q;refine kat_yes (kat_nil ?_);exact q
  |false=>
   refine kat_no (kat_one _ _ ?_);have l1:t.length=o.length:=by simpa using l.length
   have l2:u.length=w.length:=by simpa using m.length
   have n:=Mi (A:=A) v B () (NF l m);rw[<-l1,<-l2]at n;exact show wpAny _ _ (richCompare .Lt _ _) _ _ _ from n _ _ _ _ q
 .rw[jy e]at z;rw[wA e]at q;exact z _ _ _ _ (kat_no (M3 _ q))
theorem Hs{g:f'->Int}(I:Inv X Z b H s):∀{κs as:As} {ts:LN},KeysAt H g κs as ts->∃fs:Vs,KatTups s.heap (κs.map Value.ref) fs/\fs.length=κs.length/\∀f∈fs,∃i t,f=.int i t
 | [],as,ts,_=>#[[],.nil,rZ,λ_ z=>nomatch z]
 |κ::κs,[],ts,h=>by have:=h.l1;have:=h.l2;simp at *;lia
 |κ::κs,a::as,[],h=>by have:=h.l1;simp at this
 | κ::κs,a::as,t::ts,h=>by
  obtain⟨fs,k1,k2,k3⟩:=Hs I (κs:=κs) (as:=as) (ts:=ts) #[by simpa using h.l1,by simpa using h.l2,λi κ a t c d j=>h.is (i+1) κ a t (by simpa using c) (by simpa using d) (by simpa using j)];obtain⟨o,q,k,n,l,m,p,_⟩:=B7 I (h.is 0 κ a t rZ rZ rZ);exact#[_::fs,.cons l m p rZ k1,by simp[k2],λf hf=>by
   rcases iu.mp hf with e|hf
   .exact#[_,_,e]
   .exact k3 f hf]
def LM{A:Ar}{c o:As}{e:LN}(q:A.units+8<cLine)(I:Inv X Z b H s)(y:1<=e.length)(h:KeysAt H g c o e):AL X.prog X.w A (c.map Value.ref) (λi j=>oh g (e.getD i []) (e.getD j [])) s:=by
 obtain⟨fs,k1,k2,k3⟩:=Hs I h;have l1:=h.l1;have l2:=h.l2;refine kat_kind (T:= .type "int") k1 () (λf r=>?_) (by decide) #[rZ,λi j C l p u=>?_]
 .obtain⟨i,t,rfl⟩:=k3 f r;exact .now
 .rw[gL]at l p;have k:∀{i:Nat},i<c.length->∃d a,(c.map Value.ref).getD i Value.none=.ref d/\y9 H g d a (e.getD i []):=λ{i} l=>by
   obtain⟨d,m⟩:∃d,c[i]?=some d:=#[_,gN l];obtain⟨a,n⟩:∃a,o[i]?=some a:=#[_,gN ()];refine#[d,a,?_,h.is i d a _ m n (vy ()).1];rw[iD,hA,m];rfl
  obtain⟨d,a,m,v⟩:=k l;obtain⟨w,z,n,x⟩:=k p;show wpAny (model X.prog X.w) A (keyLt' _ ((c.map Value.ref).getD i Value.none) ((c.map Value.ref).getD j Value.none)) C _ s;rw[m,n];exact MW q I v x u
end
inductive lK(g:f'->Int)(d:List V)(H:Hp)(Q:VK)(b:XK):Prop|mk:∀(a:Ad) (t:f'),d=[.ref a]->H a=some (.tup (t.map nv))->(∀e c,Same H c->c e=some (.tup [.int (g t),.ref a])->Q (.ref e) c)->lK g d H Q b
section
variable{X:Cx}{Z:AO}{d:St}{l:Nat}{f:Ad}{m:Fd}{j:Ss}{g:f'->Int}
def Mx{c:Sp}{H:Hp}{s:Sh}{Q:VK}{us:Vs}{vs:List V}(F:FnOk X.prog X.w X.K X.mg X.base im l f m j c)(g:Room l X.A.in1.in1)(i:Binds X.K m j [])(I:Inv X Z d H s)(r:Vals vs us)(h:c vs H Q E0):
  wpAny (model X.prog X.w) X.A.in1.in1 (call (.ref f) us) (EP X Z d Q) (λ_ _=>False) s:=by
 have k:(us++[]).length=j.length:=by rw[mW,<-r.length];exact F.len _ _ _ _ h
 have b:=i s us I.kIn k;rw[mW]at b;refine pS (nG (F.run X.A.in1.in1 X.stack s H #[us,[]] us vs Q E0 g I.env0.in1.in1 b r h) λr o a=>?_);cases r with
 |error e=>exact a.elim
 |ok n=>
  cases n with
  |ret u=>exact I.after a
  |next=>exact wE a
  |brk=>exact wE a
  |cont=>exact wE a
def Inv.pin2{H:Hp}{s:Sh}{b c:Ad}{o u:Obj}(I:Inv X Z d H s)(a:FpOk X Z H b)(e:FpOk X Z H c)(f:s.heap.get? b=some o)(g:s.heap.get? c=some u)(h:∀v,o.data≠ .cell v)(i:∀v,u.data≠ .cell v):Inv X ((b,o)::(c,u)::Z) d H s:=
 I.pins_of λp hp=>by
  rcases iu.mp hp with rfl|hp
  .exact#[f,a.1,a.2.1,a.2.2.1,h]
  .rcases iu.mp hp with rfl|hp
   .exact#[g,e.1,e.2.1,e.2.2.1,i]
   .exact I.pin p (j6 _ hp)
def Inv.unpin2{H:Hp}{s:Sh}{b c:Ad}{o u:Obj}(I:Inv X ((b,o)::(c,u)::Z) d H s):Inv X Z d H s:=
 I.pins_of λp a=>I.pin p (j6 _ (ja _ (ja _ a)))
def FpOk.to{H a:Hp}{b:Ad}(h:FpOk X Z H b)(e:a b=none):FpOk X Z a b:=#[e,h.2]
theorem FZ{E:VP}{w D:Ad}{G:Nat}{y:Vl->PUnit->Sem (ForInStep PUnit)}{Q:Sh->Prop}(F:FnOk X.prog X.w X.K X.mg X.base im l f m j (lK g))(hr:Room l X.A.in1.in1)(hb:Binds X.K m j [])(ne:w≠D)(A:∀x (s:Sh) (C:VP) (Qy:Sh->Prop),wpAny (model X.prog X.w) X.A.in1.in1 (call (.ref f) [x]) C (λ_ _=>False) s->
   (∀k s',C k s'->∃aa c,s'.heap.get? w=some (seqObj "list" aa c)/\aa.size<64/\Qy {s' with heap:=s'.heap.update w (Obj.mapSeq (·.push k))})->wpAny (model X.prog X.w) X.A.in1.in1 (y x ⟨⟩) (λr s'=>r=.yield ⟨⟩/\Qy s') E s):
  ∀(r:As) (rt:LN) (H:Hp) (h:As) (c:Nat) (s:Sh),Inv X Z d H s->TupsAt H r rt->s.heap.get? w=some (seqObj "list" (h.map Value.ref).toArray c)->s.heap.get? D=some (seqObj "list" #v[] G)->FpOk X Z H w->FpOk X Z H D->h.length+r.length<64->
   (∀J B c2 Y,Inv X Z d J Y->Same H J->KeysAt J g B r rt->Y.heap.get? w=some (seqObj "list" ((h++B).map Value.ref).toArray c2)->Y.heap.get? D=some (seqObj "list" #v[] G)->FpOk X Z J w->FpOk X Z J D->Q Y)->
   wpAny (model X.prog X.w) X.A.in1.in1 (forIn (r.map Value.ref) PUnit.unit y) (λ_ s'=>Q s') E s
 | [],[],H,h,c,s,I,T,eS,eD,L,f2,_,q=>by
  rw[List.map_nil,List.forIn_nil];exact gK (q H [] c s I (Same.refl _) #[rZ,rZ,λi n a t e=>by simp at e] (by rw[List.append_nil];exact eS) eD L f2)
 | [],_::_,H,h,c,s,I,T,eS,eD,L,f2,_,q=>by have:=T.len;simp at this
 |_::_,[],H,h,c,s,I,T,eS,eD,L,f2,_,q=>by have:=T.len;simp at this
 | a::r,t::rt,H,h,c,s,I,T,eS,eD,L,f2,ae,q=>by
  rw[nq]at ae;rw[kz,List.forIn_cons];have ha:H a=some (.tup (t.map nv)):=T.is 0 a t rZ rfl;have I1:=I.pin2 L f2 eS eD (λ_ z=>nomatch z) (λ_ z=>nomatch z);have go:=Mx (Q:=λv p=>∃n,v=.ref n/\Same H p/\p n=some (.tup [.int (g t),.ref a])) F hr hb I1 (us:=[.ref a]) (vs:=[.ref a]) (.cons rZ .nil) #[a,t,rZ,ha,λn p M e=>#[n,rZ,M,e]];refine gH (kS (A _ s _ (λs'=>∃n p N,Inv X Z d p s'/\Same H p/\p n=some (.tup [.int (g t),.ref a])/\s'.heap.get? w=some (seqObj "list" ((h++[n]).map Value.ref).toArray N)/\s'.heap.get? D=some (seqObj "list" #v[] G)/\FpOk X Z p w/\FpOk X Z p D) go λk s' hk=>?_) (λx s' hx=>?_) λ_ _ z=>z)
  .obtain⟨v,p,I',rv,n,rfl,M,O⟩:=hk;cases rv;obtain⟨p1,p2,p3,p4,_⟩:=I'.pin (w,_) (j6 _ (iO ..));obtain⟨d1,d2,d3,d4,_⟩:=I'.pin (D,_) (j6 _ (ja _ (iO ..)));obtain⟨N,af⟩:∃N,(s'.heap.update w (Obj.mapSeq (·.push (Value.ref n)))).get? w=some (seqObj "list" ((h++[n]).map Value.ref).toArray N):=by
    have ea:(List.map Value.ref h).toArray.push (.ref n)=((h++[n]).map Value.ref).toArray:=by simp
    rw[<-ea];exact#[_,v6 p1 (·.push (Value.ref n))]
   refine#[_,_,p1,by rw[iK,gL];lia,n,p,N,?_,M,O,af,?_,L.to p2,f2.to d2]
   .obtain⟨_,w1,w2,w3,w4,w5⟩:=L;exact I'.unpin2.turned (t':=s'.toks) (λb o nb e=>(mM _ _ (jd nb)).trans e) p2 w1 w3 w4 w5
   .exact(mM _ _ ne).trans d1
  .obtain⟨rfl,n,p,N,I',M,O,ag,ah,g1,g2⟩:=hx;show wpAny _ _ (forIn (r.map Value.ref) PUnit.unit y) _ E s';refine FZ F hr hb ne A r rt p (h++[n]) N s' I' #[by simpa using T.len,λi b u G e2=>M _ _ (T.is (i+1) b u (by simpa using G) (by simpa using e2))] ag ah g1 g2 (by rw[List.length_append];show h.length+1+r.length<64;lia) λJ B c2 Y I2 U K2 ab ai h1 h2=>?_;refine q J (n::B) c2 Y I2 (M.trans U) #[by simp[K2.l1],by simp[K2.l2],λi aj b u G e2 e3=>?_] (by rw[List.append_assoc]at ab;exact ab) ai h1 h2;cases i with
   |zero=>
    cases G;cases e2;cases e3;exact#[U _ _ O,(M.trans U) _ _ ha]
   |succ i=>exact K2.is i aj b u (by simpa using G) (by simpa using e2) (by simpa using e3)
end
section
variable{X:Cx}{Z:AO}{t:St}{H:Hp}{s:Sh}{u:Nat}{f D:Ad}{v:Fd}{w:Ss}{g:f'->Int}{r:As}{m:LN}{E:VP}
def NS{R:PySem.Fin->Sh->Prop}{n:Nat}(F:FnOk X.prog X.w X.K X.mg X.base im u f v w (lK g))(hr:Room u X.A.in1.in1)(hb:Binds X.K v w [])(hu:X.A.units+64<cLine)(I:Inv X Z t H s)(T:TupsAt H r m)(nd:m.Nodup)(al:m.length<64)(ho:s.heap.get? D=some (seqObj "list" (r.map Value.ref).toArray n)) (fD:FpOk X Z H D)(q:∀O p s2 c,Inv X Z t O s2->Same H O->Arr m.length p->rn (λi=>oz (oh g) m (m.getD i [])) p m.length->s2.heap.get? D=some (seqObj "list" (lM (r.map Value.ref) p).toArray c)->FpOk X Z O D->R (.done (.ret .none)) s2):
  wpAny (model X.prog X.w) X.A.in1.in1 (ksk_tree D (.ref f) false) R E s:=by
 have la:=T.len;have lv:(r.map Value.ref).length=m.length:=by rw[gL,la]
 have lD:D<s.heap.objs.size:=hV ho;obtain⟨d0,d1,d2,d3,d4,d5⟩:=fD
 let h1:=s.heap.update D (Obj.mapSeq λ_=>(#v[]:AV))
 obtain⟨J,U⟩:∃J,h1.get? D=some (seqObj "list" #v[] J):=#[_,v6 ho λ_=> #v[]];have I1:Inv X Z t H {s with heap:=h1}:=I.turned (t':=s.toks) (λb o Y e=>(mM _ _ (jd Y)).trans e) d0 d1 d3 d4 d5
 let B:=h1.push (seqObj "tuple" (r.map Value.ref).toArray 0)
 have I3:Inv X Z t H {s with heap:=B.push (seqObj "list" #v[] 0)}:=I1.kept (t':=s.toks) λb o e=>xC e _ _;have af:(B.push (seqObj "list" #v[] 0)).get? D=some (seqObj "list" #v[] J):=xC U _ _;have ag:(B.push (seqObj "list" #v[] 0)).get? B.objs.size=some (seqObj "list" ((([]:As)).map Value.ref).toArray 0):=i4 _ rfl;have lk:s.heap.objs.size<=B.objs.size:=by
  show _<=(h1.push _).objs.size;rw[size_push'];show _<=(s.heap.update D _).objs.size+1;rw[Heap.size_update];exact vv _
 have fk:FpOk X Z H B.objs.size:=I.fpOk lk (I.hok.fresh lk);have ne:B.objs.size≠D:=pp (j4 lD lk);unfold ksk_tree;refine gH (listItems_at ho rZ ?_);refine gH (vS ho rZ ?_ (by rw[iK,iv];lia) (lV _));refine gH (Bm U rZ ?_);refine gH (wpAny_newTuple ?_ (by show(r.map Value.ref).length<=_;rw[iv];lia));refine gH (wm ?_ (lV _));refine lq ?_;show wpAny (model X.prog X.w) X.A.in1.in1 (ksk_rest D (.ref f) false (r.map Value.ref).toArray J (.ref B.objs.size)) R E {s with heap:=B.push (seqObj "list" #v[] 0)};unfold ksk_rest;refine gH (qu ?_);rw[List.forIn_toArray];refine gH (FZ F hr hb ne (λx s0 C Qy hx hC=>?_) r m H [] 0 _ I3 T ag af fk #[d0,d1,d2,d3,d4,d5] (by simp;lia) λO G c2 s2 I2 gg K2 eS eD f1 f2=>?_)
 .refine gH (qd (kS hx (λk s' hk=>?_) λ_ _ z=>z.elim));obtain⟨ah,c,e,l,qy⟩:=hC k s' hk;refine gH (vS e rZ ?_ (by rw[iv];lia) (by show(ah.push k).size<=_;rw[rg,iv];lia));exact gK #[rZ,qy]
 rw[Cd]at eS;have aa:(G.map Value.ref).length=(r.map Value.ref).length:=by rw[gL,lv,K2.l1]
 refine gH (listItems_at eS rZ ?_);have fin:∀(st:SortSt) (p:Array Nat),Arr m.length p->rn (λi=>oz (oh g) m (m.getD i [])) p m.length->(arrOf st).map (·.2)=(lM (r.map Value.ref) p).toArray->failedOf st=none->
   wpAny (model X.prog X.w) X.A.in1.in1 (ksk_tail D false J (.ref B.objs.size) st) R E s2:=λst p ar up L hf=>by
  have sz:(lM (r.map Value.ref) p).toArray.size=m.length:=by
   rw[iK,gL,iH,ar.size]
  unfold ksk_tail
  try dsimp only
  rw[L];have I4:Inv X Z t O {s2 with heap:=s2.heap.update B.objs.size (Obj.mapSeq λ_=>(#v[]:AV))}:=by
   obtain⟨w0,w1,w2,w3,w4,w5⟩:=f1;exact I2.turned (t':=s2.toks) (λb o Y e=>(mM _ _ (jd Y)).trans e) w0 w1 w3 w4 w5
  have M:(s2.heap.update B.objs.size (Obj.mapSeq λ_=>(#v[]:AV))).get? D=some (seqObj "list" #v[] J):=(mM _ _ ne).trans eD;obtain⟨c5,ai⟩:∃c5,((s2.heap.update B.objs.size (Obj.mapSeq λ_=>(#v[]:AV))).update D (Obj.mapSeq λ_=>(lM (r.map Value.ref) p).toArray)).get? D=some (seqObj "list" (lM (r.map Value.ref) p).toArray c5):=#[_,v6 M λ_=>(lM (r.map Value.ref) p).toArray];refine gH (vS eS rZ ?_ (by rw[iK,iv];lia) (lV _));refine gH (u9 ?_);refine gH (Bm M rZ ?_);refine gH (vS M rZ ?_ (lV _) (by show(lM (r.map Value.ref) p).toArray.size<=_;rw[sz,iv];lia));rw[hf];simp only[bne_self_eq_false,Bool.false_eq_true,if_false];refine gK (q O p _ c5 ?_ gg ar up ai f2);obtain⟨w0,w1,w2,w3,w4,w5⟩:=f2;exact I4.turned (t':=s2.toks) (λb o Y e=>(mM _ _ (jd Y)).trans e) w0 w1 w3 w4 w5
 unfold ksk_end;simp only[Bool.false_eq_true,if_false];by_cases am:2<=m.length
 .have n2: ¬(r.map Value.ref).toArray.size<2:=by rw[iK];lia
  rw[wA n2,wA n2];have To:=vP g m;have inj:=Me (d:=([]:f')) To nd;refine gH (kS (LM (A:=X.A.in1.in1) (by show X.A.units+1+1+8<cLine;lia) I2 () K2) (λκ s0 hk=>?_) λ_ _ x=>x.elim);obtain⟨rfl,hk⟩:=hk;have ak:G.length=m.length:=K2.l1;have ab:(G.map Value.ref).Nodup:=by
   refine pc.mpr λi j hi hj ij z=>?_;rw[ye,ye]at z;rw[gL]at hi hj;have z:=Value.ref.inj z;have J:=K2.is i G[i] (r[i]'()) (m[i]'()) (gN hi) (gN _) (gN _);have e2:=K2.is j G[j] (r[j]'()) (m[j]'()) (gN hj) (gN _) (gN _);obtain⟨J,aj⟩:=J;obtain⟨e2,ae⟩:=e2;rw[z,e2]at J;have ea:r[j]'()=r[i]'():=by
    have y:=lX J;injection y with y
    injection y with _ y
    injection y with y
    exact V.ref.inj y
   rw[ea]at ae;have et:m[j]'()=m[i]'():=by
    have y:=lX (ae.symm.trans aj);injection y with y
    exact(List.map_inj_right (f:=nv) λa b h=>Int.ofNat.inj (V.int.inj h)).mp y
   have e4:=(rf (i:=j) (j:=i) () nd).mp (by rw[gN (),gN (),et]);lia
  refine gH (kS (G8 (ks:=G.map Value.ref) (vs:=r.map Value.ref) (k:=λi=>oz (oh g) m (m.getD i [])) (Q:=λN s'=>s'=s0/\∃p:Array Nat,Arr m.length p/\rn (λi=>oz (oh g) m (m.getD i [])) p m.length/\(arrOf N).map (·.2)=(lM (r.map Value.ref) p).toArray/\failedOf N=none) aa () ab (by rw[lv];exact inj) (λi j C li lj hC=>hk i j C () () (by
   have e:=To.asks (vy (d:=([]:f')) (show i<m.length by lia)).2 (vy (d:=([]:f')) (show j<m.length by lia)).2;show C (oh g (m.getD i []) (m.getD j [])) _
   rw[<-e];exact hC)) λp N a1 a2 a3 a4=>#[rZ,p,by rw[<-lv];exact a1,by rw[<-lv];exact a2,a3,a4]) ?_ λ_ _ x=>x)
  rintro⟨⟨⟩,st⟩ s' ⟨rfl,p,ar,up,L,hf⟩;exact fin st p ar up L hf
 .have n2:(r.map Value.ref).toArray.size<2:=by rw[iK];lia
  rw[wB n2,wB n2];refine gH (gK (gH (gK ?_)));refine fin _ (List.range m.length).toArray (By _) (λx y xy yn=>by lia) ?_ rfl;rw[<-lv,EV];exact FL aa
end
section
variable{X:Cx}{Z:AO}{j:St}{H:Hp}{s:Sh}{d:Ad}{c:List (List ik×V)}{g:LN}
def J9(I:Inv X Z j H s)(h:H d=some (.dT c))(e:c.map (·.1)=g.map nk):∃J m B,Lies s.heap d m B/\(d==sysModules)=false/\TupsAt H J g/\(∀(i:Nat) (C:DictEntry),m[i]?=some C->∃a,J[i]?=some a/\C.key=.ref a)/\m.size=g.length/\g.Nodup/\g.length<=sizeLine:=by
 obtain⟨z,T,r,l,o,m,B,U,Y,e3,L,M⟩:=(show ObjOk X.prog X.w H s.heap d (.dT c)from I.hok d _ h);have l1:c.length=r.length:=rh l;have l2:c.length=g.length:=by rw[<-gL (f:=(·.1)) (as:=c),e,gL]
 have le:m.size=r.length:=zx L;have D:∀(i:Nat) (t:f'),g[i]?=some t->∃k v y u,c[i]?=some (k,v)/\r[i]?=some (k,y,u)/\k=nk t/\H y=some (.tup (t.map nv)):=λi t A=>by
  have li:=(gV.mp A).1;obtain⟨⟨k,v⟩,n⟩:∃p,c[i]?=some p:=#[_,gN ()];obtain⟨⟨k',y,u⟩,w,E,p2,p3⟩:=AC l n;have N:k=nk t:=by
   have z1:(c.map (·.1))[i]?=some k:=by rw[hA,n];rfl
   rw[e,hA,A]at z1;exact(lX z1).symm
  have G:k=k':=E;subst G;refine#[k,v,y,u,n,w,N,?_];have x:H y=some (.tup (k.map kV)):=p2;rw[N,mJ]at x;exact x
 refine#[r.map (·.2.1),m,B,#[o,U,Y,e3],T,#[by rw[gL];lia,λi b t O A=>?_],λi C Q=>?_,(),?_,()]
 .obtain⟨k,v,y,u,_,w,_,hy⟩:=D i t A;rw[hA,w]at O;cases O;exact hy
 .rw[entry_at L]at Q;obtain⟨q,eq,rfl⟩:=jb.mp Q;exact#[q.2.1,by rw[hA,eq];rfl,rZ]
 .have z1:(r.map (·.1))=g.map nk:=by
   rw[<-e];refine uy λi=>?_;rw[hA,hA];cases n:c[i]? with
   |none=>rw[ot (by rw[<-l1];exact List.getElem?_eq_none_iff.mp n)];rfl
   |some p=>
    obtain⟨q,w,E,_⟩:=AC l n;rw[w];exact iZ some E.symm
  rw[z1]at M;exact(uv.mp M).imp λh z=>h (iZ nk z)
def Lf{e:As}{d:Array DictEntry}{b:AV}(is:∀(i:Nat) (c:DictEntry),d[i]?=some c->∃a,e[i]?=some a/\c.key=.ref a)(m:e.length=d.size)(it:ItemsOf (λi v=>∃c,d[i]?=some c/\v=c.key) b d.size):b.toList=e.map Value.ref:=by
 refine uy λi=>?_;by_cases h:i<d.size
 .obtain⟨v,f⟩:∃v,b[i]?=some v:=#[_,mK (by rw[it.1];exact h)];obtain⟨c,g,j⟩:=it.2 i v f;obtain⟨a,k,l⟩:=is i c g;rw[mv,f,hA,k,j,l];rfl
 .rw[ot (by rw[iH,it.1];lia),ot (by rw[gL];lia)]
theorem GL:∀l:As,Vals (l.map V.ref) (l.map Value.ref)
 | []=> .nil
 |x::l=> .cons rZ (GL l)
end
section
variable{X:Cx}
inductive mI(g:f'->Int)(f:List V)(H:Hp)(Q:VK):Prop|mk:∀d a c,f=[V.ref d]->H d=some (.dT a)->a.map (·.1)=c.map nk->c.length<64->(∀D bs e b,Same H b->H D=none->b D=some (.lst (bs.map V.ref))->TupsAt b bs e->e.Perm c->e.Pairwise (λx y=>oh g x y=true)->Q (.ref D) b)->mI g f H Q
def JN{a:As}{p:Array Nat}(b:Arr a.length p):lM (a.map Value.ref) p=(p.toList.map λi=>a.getD i 0).map Value.ref:=by
 unfold lM;rw[lE];refine qf λi c=>?_;have d:i<a.length:=by
  have m:=(pB.mp b).mem_iff.mp c;simpa using m
 show(a.map Value.ref).getD i Value.none=Value.ref (a.getD i 0);rw[iD,iD,hA,gN d];rfl
def JK{w:Nat}{f:Ad}{x:Fd}{y:Ss}{g:f'->Int}{Z:AO}{l:St}{H:Hp}{s:Sh}{Q:VK}{d:Ad}(J:X.calm=true)(M:X.A.units+64<cLine)(F:FnOk X.prog X.w X.K X.mg X.base im w f x y (lK g))(N:Room w X.A.in1.in1)(O:Binds X.K x y [])(I:Inv X Z l H s)(h:mI g [.ref d] H Q):wpAny (model X.prog X.w) X.A (call (.builtin "sorted") [.ref d] [(Str.ofString "key",.ref f)]) (EP X Z l Q) X.xe s:=by
 obtain⟨d',U,Y,e0,hd,e,t,q⟩:=h;cases e0;obtain⟨a,es,ep,L,nm,T,is,le,nd,u⟩:=J9 I hd e;refine call_function_entry_kw kind_sorted plain_sorted entry_sorted (ksk_s1 _ _) ?_;unfold Builtin.«sorted»;refine gH (m:=checkCount "sorted" 1 1 _) (gK ?_);refine gH (kdu_collect (A:=X.A.in1) (DB nm) (by simpa using I.ok.hd J) L () λj n aa keep it=>?_);have ea:=Lf is (by rw[T.len,le]) it;rw[ea];have r:Inv X Z l H {s with heap:=j,toks:=n}:=I.kept keep;refine gH (wm ?_ (by rw[gL,T.len,iv];lia));have B:(j.push (seqObj "list" (a.map Value.ref).toArray 0)).get? j.objs.size=some (seqObj "list" (a.map Value.ref).toArray 0):=i4 _ rfl;have I2:Inv X Z l H {s with heap:=j.push (seqObj "list" (a.map Value.ref).toArray 0),toks:=n}:=r.kept (t':=n) λb o z=>ig _ z;have C:H j.objs.size=none:=r.hok.fresh (gS _);have fD:FpOk X Z H j.objs.size:=r.fpOk (gS _) C;refine gH (lq (wpAny_call_entry_kw slot_list_sort #[_,B,rZ] Dl (NS (s:={s with heap:=j.push (seqObj "list" (a.map Value.ref).toArray 0),toks:=n}) F N O M I2 T nd t B fD λH2 p s2 c Iz D k up E f2=>#[_,rfl,?_]) (ksk_l1 _ _)));have v:Arr a.length p:=by rw[T.len];exact k
 rw[JN v]at E;have T2:=(T.same D).pick k;obtain⟨G,w1,w2,w3,w4,w5⟩:=f2;have few:((p.toList.map λi=>a.getD i 0).map V.ref).length<=sizeLine:=by
  rw[gL,gL,iH,k.size];exact u
 have I5:=Iz.track (o:= .lst ((p.toList.map λi=>a.getD i 0).map V.ref)) G #[few,_,c,GL _,E] (iP r.sz (gS _)) w1 w4 w5;have k5:=g0 G (.lst ((p.toList.map λi=>a.getD i 0).map V.ref));exact gK #[_,rZ,.ref j.objs.size,_,I5,rZ,q _ _ _ _ (D.trans k5) C gO (T2.same k5) (Mz k) (La (vP g Y) k up)]
def J'(g:f'->Int)(a:TE):TE:=λb H Q=>a b H λx c=>∃d,x=.ref d/\mI g [.ref d] c Q
def Lb{n:Nat}{v:Ss}{g:f'->Int}{b:Str}{e:Expr}{c:TE}{p w y a:Pos}(z:X.calm=true)(A:X.A.units+64<cLine)(B:hZ X.prog X.w X.K X.mg X.base b n v (lK g))(C:Room (n+2) X.A)(D:Gl X "sorted")(E:X.mg "sorted"=none)(i:Gl X b)(G:PE X e c)(j:(b==("__debug__":Str))=false:=by decide) (k:starEach [e] X.env=[(false,eval e X.env)]:=by rfl):PE X (.Call (.Name "sorted" p) [e] [#[some "key",.Name b w,y]] a) (J' g c):=by
 intro Z s J H Q I h;obtain⟨f,O,F,l,T,L⟩:=B;refine q0 (yF I D E zE ?_);refine callWith_kw ?_ (by rw[k];rfl) (by rw[k];rfl);have M:PA X [e] (nA c oA):=g9 G gX k;refine gY (M a Z s J H (λm o=>match m with| [x]=>∃d,x=.ref d/\mI g [.ref d] o Q|_=>False) I h) λU Y ⟨m,o,t,r,q⟩=>?_
 match m,r,q with
 | [x],r,q=>
  obtain⟨d,rfl,q⟩:=q;obtain⟨u,rfl,N⟩:=mi r;cases N;refine kws_cons (uZ t i l (kws_nil ?_) j);exact JK z A F C.in1.in1 L t q
end
end L2
namespace L2
open PySem PySem.Spec PyProof.Rows
section
variable{X:Cx}{Z:AO}{j:St}{H:Hp}{s:Sh}{d:Ad}{c:List (List ik×V)}{g:LN}{o:Obj}
def Inv.freeze(I:Inv X Z j H s)(h:H d=some (.dT c))(e:s.heap.get? d=some o):Inv X Z j (gI H d (.frz o (.dT c))) s:=by
 obtain⟨z,b,f,a,g,i,k,l,m,n,t,u⟩:=(show ObjOk X.prog X.w H s.heap d (.dT c)from I.hok d _ h);refine I.write (x:=d) (e:=d) (h':=s.heap) (t':=s.toks) (by rw[h];exact True.intro) (.inl rfl) (λ_ _ _ q=>q) #[o,e] #[e,z,b,f,Paired.mapP a λp q r=>#[r.1,?_,r.2.2],g,i,k,l,m,n,t,u];rw[gM (nE r.2.1 h)];exact r.2.1
def Dg(I:Inv X Z j H s)(h:H d=some (.frz o (.dT c)))(e:c.map (·.1)=g.map nk):∃A l r,s.heap.get? d=some o/\o.ExactDict/\o.data=.dict l r/\(d==sysModules)=false/\TupsAt H A g/\(∀(i:Nat) (w:DictEntry),l[i]?=some w->∃a,A[i]?=some a/\w.key=.ref a)/\l.size=g.length:=by
 obtain⟨B,z,M,x,m,o',l,r,C,N,O,D,nd⟩:=(show ObjOk X.prog X.w H s.heap d (.frz o (.dT c))from I.hok d _ h);rw[B]at C;cases C;have l1:c.length=x.length:=rh m;have l2:c.length=g.length:=by rw[<-gL (f:=(·.1)) (as:=c),e,gL]
 have le:l.size=x.length:=zx D;refine#[x.map (·.2.1),l,r,B,N,O,M,#[by rw[gL];lia,λi b t E G=>?_],λi w J=>?_,()]
 .have li:=(gV.mp G).1;obtain⟨⟨k,v⟩,L⟩:∃p,c[i]?=some p:=#[_,gN ()];obtain⟨⟨k',y,u⟩,Q,p1,T,p3⟩:=AC m L;have U:k=nk t:=by
   have z1:(c.map (·.1))[i]?=some k:=by rw[hA,L];rfl
   rw[e,hA,G]at z1;exact(lX z1).symm
  rw[hA,Q]at E;cases E;have n:H y=some (.tup (k.map kV)):=T;rw[U,mJ]at n;exact n
 .rw[entry_at D]at J;obtain⟨q,Y,rfl⟩:=jb.mp J;exact#[q.2.1,by rw[hA,Y];rfl,rZ]
end
def vk(d:Ad)(o:Obj):It:=
  #[λi H=>∃(b:List (List ik×V)) (c:LN) (t:f'),H d=some (.frz o (.dT b))/\b.map (·.1)=c.map nk/\c[i]?=some t,
   λi H x e=>e=H/\∃a,x=.ref a/\∀(b:List (List ik×V)) (c:LN),H d=some (.frz o (.dT b))->b.map (·.1)=c.map nk->∃t:f',c[i]?=some t/\H a=some (.tup (t.map nv)),
   λi H=>∃b,∃c:LN,H d=some (.frz o (.dT b))/\b.map (·.1)=c.map nk/\c.length<=i]
def JQ{c d:LN}(h:c.map nk=d.map nk):c=d:=vp (λa b e=>uc e) h
def LY{P:Pg}{w:World}{K:N2}{tg:Expr}{d it:Ad}{o:Obj}{x:Array DictEntry}{ep:Nat}(ne:d≠it)(j:o.data=.dict x ep)(ox:o.ExactDict):Turn P w K tg (vk d o) [it] it (λi h=>h.get? it=some (ug d i x.size ep)) where
 mem:=by simp
 obj:=λi h st b c=>by
  have e:b=it:=by simpa using c
  subst e;exact#[_,st,λv z=>by
   have z':Data.fields _=Data.cell v:=z;cases z']
 keep:=λi h l st k=>k it (by simp) _ st
 item:=by
  intro X y hw A hc i Z s σ H E I m st B;subst y hw A;obtain⟨C,ts,t,p,r,u⟩:=B;obtain⟨as,D,G,J,e2,f,nm,T,is,le⟩:=Dg I p r;rw[j]at f;cases f;obtain⟨L,M,f2,N,O,U⟩:=m it (by simp);have li:=(gV.mp u).1;obtain⟨Y,ee⟩:∃Y,x[i]?=some Y:=#[_,mK ()];obtain⟨a,ea,ek⟩:=is i Y ee;refine E5 st #[o,J,ox,j] ee λl g sb=>?_;have I1:Inv X Z σ H {s with heap:=l}:=I.turned (t':=s.toks) (λb o c e=>(sb.2 b c).trans e) L M N O U;refine#[_,rZ,Al (s:={s with heap:=l}) (n:="dict_keyiterator") g rfl rfl (by decide) #[.ref a,H,I1,ek,#[rfl,a,rfl,λaa ab g1 g2=>?_],g,λb c=>(m b c).1]];rw[p]at g1;cases g1;have tt:=JQ (r.symm.trans g2);subst tt;exact#[t,u,T.is i a t ea u]
 done:=by
  intro X y hw A hc i Z s σ H E I m st B;subst y hw A;obtain⟨C,ts,p,r,u⟩:=B;obtain⟨as,D,G,J,e2,f,nm,T,is,le⟩:=Dg I p r;rw[j]at f;cases f;obtain⟨L,M,f2,N,O,U⟩:=m it (by simp);exact FY (I.ok.hd hc) st #[o,J,ox,j] (CJ ()) λl eb=>#[rZ,I.turned (t':=s.toks) (λb o c e=>eb b o c e) L M N O U]
 self:=λ_ i s Q E st q=>by
  have ty:s.TypeIs (.ref it) "dict_keyiterator":=#[_,st,rZ];refine t9 ty Bp (m7 Bp ty Ew ?_ (Fa _));exact show wpAny _ _ (ret (.ref it)) _ _ s from gK #[_,rZ,"dict_keyiterator",_,ty,uj.lookup,q]
section
variable{X:Cx}{a:Expr}
def Ka(H:Hp)(d:Ad)(o:Obj)(a:List (List ik×V))(b:Hp):Prop:=(H d=some (.frz o (.dT a))/\b=H)\/(H d=some (.dT a)/\b=gI H d (.frz o (.dT a)))
def xD(e:TE):TI:=λf H R=>e f H λx b=>∃d a,∃g:LN,x=.ref d/\a.map (·.1)=g.map nk/\(b d=some (.dT a)\/∃o,b d=some (.frz o (.dT a)))/\∀o c,Ka b d o a c->R (vk d o) c
def Gy{l:Expr}{p:TE}(z:PE X l p):PI X a l (xD p):=by
 intro Z s m H R I h;refine gY (z Z s m H _ I h) λv f ⟨x,t,n,A,B⟩=>?_;obtain⟨d,g,G,e,C,w,q⟩:=B;subst e;cases A;have go:∀(i:Hp) (o:Obj),Inv X Z m i f->i d=some (.frz o (.dT g))->R (vk d o) i->wpAny (model X.prog X.w) X.A (pyIter (.ref d)) (DN X Z m a R) X.xe f:=λi o j c r=>by
  obtain⟨J,L,M,k,u,y,D,T,is,N⟩:=Dg j c C;refine G' D #[o,k,u,y] ?_;refine#[f.heap.objs.size,[f.heap.objs.size],_,_,i,rZ,j.kept (t':=f.toks) λb o e=>ig _ e,LY (iW (hV k)) y u,i4 _ rZ,λb E=>?_,r];have e:b=f.heap.objs.size:=by simpa using E
  subst e;exact j.fpOk (gS _) (j.hok.fresh (gS _))
 rcases w with c|⟨o,c⟩
 .obtain⟨_,_,_,_,o,_,_,k,_⟩:=(show ObjOk X.prog X.w t f.heap d (.dT g)from n.hok d _ c);exact go _ o (n.freeze c k) gO (q o _ (.inr #[c,rZ]))
 .exact go t o n c (q o _ (.inl #[c,rZ]))
end
section
variable{d:Ad}{o:Obj}{f:List (List ik×V)}{c:LN}{h:Ss}{g:TG}{k:TT}{l:TE}{j:St}{H:Hp}{Fin:List V->Hp->Prop}
def Jk(u:f.map (·.1)=c.map nk)(Pv:Nat->List V->Hp->Prop)(N:c.length<=sizeLine)(x:Pv 0 [] H)(z:∀i n H,i<=c.length->Pv i n H->H d=some (.frz o (.dT f))/\n.length<=i)(A:∀i a t n H,c[i]?=some t->H a=some (.tup (t.map nv))->Pv i n H->g (.ref a) (nP h j) H λr B=>va (nP h j) r/\k r B λb w=>if b=true then l r w λy C=>Pv (i+1) (n++[y]) C else Pv (i+1) n w)(D:∀n H,Pv c.length n H->Fin n H):rb h g k l j (vk d o) H Fin:=by
 refine#[λi m n H=>m=c.length-i/\i<=c.length/\Pv i n H,#[c.length,by simp,Nat.zero_le _,x],?_];rintro i m n H ⟨rfl,E,p⟩;obtain⟨q,O⟩:=z i n H E p;by_cases s:i<c.length
 .refine .inr #[#[f,c,c[i],q,u,by simp[s]],(),Pv (i+1),λQ G I=>#[c.length-(i+1),Nat.sub_succ_lt_self _ _ s,rZ,s,I],λv G y=>?_];obtain⟨e,a,J,y⟩:=y;subst e J;obtain⟨t,L,M⟩:=y f c q u;exact A i a t n _ L M p
 .have e:i=c.length:=by lia
  subst e;exact .inl #[#[f,c,q,u,gS _],(),D n H p]
end
section
variable{d:Ad}{o:Obj}{c:List (List ik×V)}{ts:LN}{g:TG}{f:TS}{D:Ends}{b:St}{H:Hp}
def Kl(n:c.map (·.1)=ts.map nk)(Pv:Nat->St->Hp->Prop)(u:Pv 0 b H)(v:∀i b H,i<=ts.length->Pv i b H->H d=some (.frz o (.dT c)))(w:∀i a t b H,ts[i]?=some t->H a=some (.tup (t.map nv))->Pv i b H->g (.ref a) b H λh r=>f {D with nx:=Pv (i+1),ct:=Pv (i+1),bk:=D.nx} h r) (z:∀b H,Pv ts.length b H->D.nx b H):
  ∃W:Nat->Nat->St->Hp->Prop,(∃m,W 0 m b H)/\∀i m b H,W i m b H->
   ((vk d o).stop i H/\D.nx b H)\/((vk d o).go i H/\∃N:St->Hp->Prop,(∀j k,N j k->∃s,s<m/\W (i+1) s j k)/\∀x k,(vk d o).yld i H x k->g x b k λh r=>f {D with nx:=N,ct:=N,bk:=D.nx} h r):=by
 refine#[λi m b H=>m=ts.length-i/\i<=ts.length/\Pv i b H,#[ts.length,by simp,Nat.zero_le _,u],?_];rintro i m b H ⟨rfl,A,p⟩;have q:=v i b H A p;by_cases l:i<ts.length
 .refine .inr #[#[c,ts,ts[i],q,n,by simp[l]],Pv (i+1),λj k B=>#[ts.length-(i+1),Nat.sub_succ_lt_self _ _ l,rZ,l,B],λx k y=>?_];obtain⟨e,a,C,y⟩:=y;subst e C;obtain⟨t,E,G⟩:=y c ts q n;exact w i a t b _ E G p
 .have e:i=ts.length:=by lia
  subst e;exact .inl #[#[c,ts,q,n,gS _],z b H p]
end
theorem D7:∀{c:Zs} {a:Vs},Vals (c.map V.int) a->∃b:List (Int×Tok),b.map (·.1)=c/\a=b.map λp=>Value.int p.1 p.2
 | [],_,h=>by
  cases h;exact#[[],rZ,rZ]
 | n::c,_,h=>by
  cases h with
  |cons d e=>
   obtain⟨t,rfl⟩:=d;obtain⟨b,f,rfl⟩:=D7 e;exact#[(n,t)::b,by rw[kz,f],rZ]
section
variable{X:Cx}
inductive tv(K:N2)(c:List V)(H:Hp)(Q:VK):Prop|mk:∀(p:Ad) (b:Zs),c=[.ref p]->SqL K H p (b.map V.int)->b≠[]->(∀M,M∈b->(∀a∈b,a<=M)->Q (.int M) H)->tv K c H Q
inductive ua(K:N2)(c:List V)(H:Hp)(Q:VK):Prop|mk:∀(p:Ad) (b:Zs),c=[.ref p]->SqL K H p (b.map V.int)->b≠[]->(∀M,M∈b->(∀a∈b,M<=a)->Q (.int M) H)->ua K c H Q
def Fx{a:List (Int×Tok)}{k:Nat}{v:Vl}(h:(intItems a.toArray)[k]?=some v):∃t,v=.int (numAt a.toArray k) t/\numAt a.toArray k∈a.map (·.1):=by
 have b:(a.map λp=>Value.int p.1 p.2)[k]?=some v:=by simpa[intItems]using h
 rw[hA]at b;obtain⟨⟨n,t⟩,e,rfl⟩:=jb.mp b;have c:numAt a.toArray k=n:=by
  rw[numAt_eq,iD,hA];show(Option.map _ a[k]?).getD 0=n;rw[e];rfl
 rw[c];exact#[t,rZ,hX.mpr #[_,iq e,rZ]]
def Ey{b:List (Int×Tok)}{a:Int}(h:a∈b.map (·.1)):∃j,j<b.length/\numAt b.toArray j=a:=by
 obtain⟨j,e⟩:=jk.mp h;refine#[j,by have:=(gV.mp e).1;simpa using this,?_];rw[numAt_eq,iD];show((List.map _ b)[j]?).getD 0=a;rw[e];rfl
def Mp(d:X.calm=true):mE X (.builtin "max") (tv X.K):=by
 intro Z s y H xs z Q I r h;obtain⟨p,A,rfl,e,f,q⟩:=h;obtain⟨u,rfl,g⟩:=mi r;cases g;obtain⟨i,k,l,_⟩:=I.list e;have m:=l.isList;obtain⟨b,rfl,rfl⟩:=D7 k;have c:0<b.length:=by
  cases b with
  |nil=>exact wC rZ f
  |cons=>simp
 refine max_intList (xs:=b.toArray) (I.ok.hd d) (by rw[show intItems b.toArray=(b.map λp=>Value.int p.1 p.2).toArray by simp[intItems]];exact m) (by simpa using c) λv B C n o=>?_;obtain⟨t,rfl,mem⟩:=Fx n;obtain⟨_,w⟩:=argBest_gt (numAt b.toArray) (b.toArray.size-1);exact#[.int _,H,I.kept o,#[t,rZ],q _ mem λa x=>by
  obtain⟨j,D,rfl⟩:=Ey x;exact w j (by simp;lia)]
def Np(d:X.calm=true):mE X (.builtin "min") (ua X.K):=by
 intro Z s y H xs z Q I r h;obtain⟨p,A,rfl,e,f,q⟩:=h;obtain⟨u,rfl,g⟩:=mi r;cases g;obtain⟨i,k,l,_⟩:=I.list e;have m:=l.isList;obtain⟨b,rfl,rfl⟩:=D7 k;have c:0<b.length:=by
  cases b with
  |nil=>exact wC rZ f
  |cons=>simp
 refine min_intList (xs:=b.toArray) (I.ok.hd d) (by rw[show intItems b.toArray=(b.map λp=>Value.int p.1 p.2).toArray by simp[intItems]];exact m) (by simpa using c) λv B C n o=>?_;obtain⟨t,rfl,mem⟩:=Fx n;obtain⟨_,w⟩:=argBest_lt (numAt b.toArray) (b.toArray.size-1);exact#[.int _,H,I.kept o,#[t,rZ],q _ mem λa x=>by
  obtain⟨j,D,rfl⟩:=Ey x;exact w j (by simp;lia)]
end
def pe(a:Zs)(x:Int):Zs:=if x∈a then a else a++[x]
def oZ(a:Zs):Zs:=a.foldl pe []
def IsSetI(P:Pg)(w:World)(h:Heap)(a:Ad)(b:Zs):Prop:=h.SetOf (intKind P w) a (λk=>decide (k∈b)) b.length
section
variable{P:Pg}{w:World}{A:Ar}{E:VP}{S it l:Ad}{xs:Zs}{vs:Vs}
def IsSetI.ext{h h':Heap}{a:Zs}(b:IsSetI P w h S a)(k:∀o,h.get? S=some o->h'.get? S=some o):IsSetI P w h' S a:=by
 obtain⟨o,c,d,t,e,r⟩:=b;exact#[o,c,d,t,k _ e,r]
theorem Gk{R:Result->Sh->Prop}(L:A.handled=none)(j:S≠it)(M:S≠l)(N:it≠l)(r:Vals (xs.map V.int) vs)(few:xs.length<=4000):
  ∀(rest:Zs) (i:Nat) (a:Zs) (s:Sh),xs.drop i=rest->a.length<=i->s.heap.IsTupleIter it l i->s.heap.IsTuple l vs.toArray->IsSetI P w s.heap S a->
   (∀c v,IsSetI P w c S (rest.foldl pe a)->(∀b o,b≠S->b≠it->s.heap.get? b=some o->c.get? b=some o)->R (.ok (.ret .none)) {s with heap:=c,toks:=v})->
   codeAny (model P w) A (.builtin "set.update.loop" #[[.ref S,.ref it],[]]) R s
 | [],i,a,s,m,U,B,n,C,q=>by
  have O:vs.length<=i:=by
   have D:vs.length=xs.length:=by simpa using r.length.symm
   have p:=BS.mp m;lia
  refine n6 xg ?_;rw[pC rW _];show wpAny _ A.in1 (pyNext (.ref it) >>= _) _ _ s;refine gH (wpAny_pyNext_tuple_end (by simpa using L) B n (by simp;lia) λc keep=>?_);exact gK (q c s.toks (C.ext λo e=>keep _ _ j e) λb o _ p e=>keep b o p e)
 | x::rest,i,a,s,m,U,B,n,C,q=>by
  have g:xs[i]?=some x:=by rw[<-zO,m];rfl
  have next:xs.drop (i+1)=rest:=by rw[<-zk,m];rfl
  have il:i<xs.length:=(gV.mp g).1;obtain⟨u,Y,t,rfl⟩:=r.get (i:=i) (x:=V.int x) (by rw[hA,g];rfl);refine n6 xg ?_;rw[pC rW _];show wpAny _ A.in1 (pyNext (.ref it) >>= _) _ _ s;refine gH (wpAny_pyNext_tuple_item B n (x:= .int x t) (by simpa using Y) λD oM d=>?_);show wpAny _ A.in1 (holding [Value.int x t] (setAdd S (.int x t)) >>= _) _ _ _;refine gH (lq ?_);unfold setAdd;have h:(intKind P w).is x (.int x t)=true:=pO _ _ _ _;refine lq (gH ((intKind P w).pyHash (k:=x) h ?_));have E:IsSetI P w D S a:=C.ext λo e=>d.extBut _ _ j e;refine wpAny_setAddHashed_of (knd:=intKind P w) h rZ (s:=#[D,_,_,_,_]) E (by show a.length+1<4096;lia) λp f G=>?_;have H:IsSetI P w p S (pe a x):=by
   unfold IsSetI;refine SetOf_congr G (λk=>?_) ?_
   .unfold pe;by_cases e:x∈a
    .rw[wB e,pD];simp only[Bool.or_eq_true,decide_eq_true_iff];exact#[λz=>z.elim id λy=>y▸e,.inl]
    .rw[wA e,pD];simp only[Bool.or_eq_true,decide_eq_true_iff,List.mem_append,List.mem_singleton]
   .unfold pe;by_cases e:x∈a
    .rw[wB e,wB (by simpa using e)]
    .rw[wA e,wA (by simpa using e),List.length_append];rfl
  have I:(pe a x).length<=i+1:=by
   unfold pe;split
   .lia
   .rw[jc];show a.length+1<=_;lia
  refine gK #[pb rW _,Gk L j M N r few rest (i+1) (pe a x) _ next I (oM.extBut f.extBut j.symm) ((n.extBut d.extBut N.symm).extBut f.extBut M.symm) H λc v J keep=>?_];exact q c v J λb o Q T e=>keep b o Q T (f.extBut _ _ Q (d.extBut _ _ T e))
set_option maxHeartbeats 4000000 in
def Nd{h:Heap}{j:Obj}{m:Array GenState}{n:Drawn}{k:Nat}{os:OsState}{R:PySem.Fin->Sh->Prop}(v:∃a,j={cls:= .type "set",dict:=none,data:= .set #v[] 0 (.fresh 0 0 a)})(x:A.handled=none)(p:h.IsTuple l vs.toArray)(y:Vals (xs.map V.int) vs)(few:xs.length<=4000)
  (q:∀c f,IsSetI P w c h.objs.size (oZ xs)->(∀b o,h.get? b=some o->c.get? b=some o)->R (.done (.ret .none)) #[c,m,n,f,os]):
  wpAny (model P w) A (Builtin.«set.__init__» #[[.ref h.objs.size,.ref l],[]]) R E #[h.push j,m,n,k,os]:=by
 obtain⟨a,rfl⟩:=v;obtain⟨⟨G,dl,z,sl⟩,r,c2,B,s⟩:=id p;simp only at c2 s;subst c2 s;have H:(h.push {cls:= .type "set",dict:=none,data:= .set #v[] 0 (.fresh 0 0 a)}).get? l=some #[.type "tuple",dl,.seq vs.toArray B,sl]:=ig _ r;have C:(h.push {cls:= .type "set",dict:=none,data:= .set #v[] 0 (.fresh 0 0 a)}).get? h.objs.size=some {cls:= .type "set",dict:=none,data:= .set #v[] 0 (.fresh 0 0 a)}:=i4 _ rfl;have I:=F.sub_tuple_set;have J:=F.sub_tuple_frozenset;have L:(Value.type "tuple"==Value.type "dict")=false:=by decide
 unfold Builtin.«set.__init__» noKeywords Builtin.Frozenset.updateFrom;generalize g:pyIter=t
 wp_walk
 subst g;have d:(h.push {cls:= .type "set",dict:=none,data:= .set #v[] 0 (.fresh 0 0 a)}).IsTuple l vs.toArray:=p.push _;refine wpAny_pyIter_tuple d (gH (wpAny_runValue ?_));have lt:l<h.objs.size:=hV r;have sz:(h.push {cls:= .type "set",dict:=none,data:= .set #v[] 0 (.fresh 0 0 a)}).objs.size=h.objs.size+1:=yO ..;have i:IsSetI P w ((h.push {cls:= .type "set",dict:=none,data:= .set #v[] 0 (.fresh 0 0 a)})) h.objs.size []:=by
  refine#[_,_,_,_,C,#[rZ,rZ,rZ],rZ,λe D=>?_,λk=>?_,by decide,by cases a<;>rfl,rZ]
  .simp at D
  .simp
 refine Gk (vs:=vs) (xs:=xs) (by simpa using x) (by rw[sz];exact Nat.ne_of_lt (Nat.lt_succ_self _)) (Nat.ne_of_gt lt) (by rw[sz];exact Nat.ne_of_gt (Nat.lt_succ_of_lt lt)) y few xs 0 [] _ rZ (Nat.le_refl _) #[_,Heap.get?_push_size _ rZ,rZ,rZ] (d.push _) (i.ext λo e=>Heap.get?_push_of_some _ e) λc f z1 z2=>?_;refine gK (gK (q c f z1 λb o e=>?_));have u:=hV e;exact z2 b o (iW u) (by rw[sz];exact iW (ya u)) (ig _ (ig _ e))
def Ke{s:Sh}{Q:VP}(y:A.handled=none)(p:s.heap.IsTuple l vs.toArray)(B:Vals (xs.map V.int) vs)(few:xs.length<=4000)(q:∀a d,IsSetI P w a s.heap.objs.size (oZ xs)->(∀b o,s.heap.get? b=some o->a.get? b=some o)->Q (.ref s.heap.objs.size) {s with heap:=a,toks:=d}):
  wpAny (model P w) A (call (.type "set") [.ref l]) Q E s:=by
 have lt:l<s.heap.objs.size:=let⟨_,e,_⟩:=p;hV e
 obtain⟨c,J,C⟩:=lC.mro;have t:=lC.made;have sub:=lC.sub;have j:=lC.notType;have D:=lC.canCreate;have args:=Dc (.ref l);have u:=lC.init.lookup;have G:=lC.init.bind (.ref s.heap.objs.size);refine pS (xQ (show wpAny _ _ (callAny (.type "set") _) _ _ _ from gK #[xY _ (by decide+kernel),n6 C0 ?_]));rw[Cs (CS "set" [.ref l] []) rZ]
 repeat (any_goals (first|assumption|wp_step))
 refine nG (code_set_new_1 (.ref l) (E:=E) (Q₁:=λobj i=>∃g,(∃h,g={cls:= .type "set",dict:=none,data:= .set #v[] 0 (.fresh 0 0 h)})/\obj=.ref s.heap.objs.size/\i={s with heap:=s.heap.push g}) λh=>#[_,#[h,rfl],rfl,rfl]) λr L z=>?_;cases r with
 |error _=>exact z
 | ok f=>
  cases f<;>first|exact z.elim|skip
  obtain⟨g,k,m,n⟩:=z;subst m n;have H:g.cls=.type "set":=by obtain⟨_,rfl⟩:=k;rfl
  have I:(s.heap.push g).get? s.heap.objs.size=some g:=i4 _ (by obtain⟨_,rfl⟩:=k;rfl);have ty:Shared.TypeIs {s with heap:=s.heap.push g} (.ref s.heap.objs.size) "set":=#[_,I,H]
  repeat (any_goals (first|assumption|wp_step))
  refine nG (yr (R:=wants (λv x=>v=.none/\∃a d,x={s with heap:=a,toks:=d}/\IsSetI P w a s.heap.objs.size (oZ xs)/\∀b o,s.heap.get? b=some o->a.get? b=some o) E)
   lC.init.plain BD (DA ty ?_)) λr x z=>?_
  .exact Nd (A:=A.in1.in1) k (by simpa using y) p B few λa d z1 z2=>#[rZ,a,d,rZ,z1,z2]
  .cases r with
   |error _=>exact z
   |ok f=>
    cases f<;>first|exact z.elim|skip
    obtain⟨m,a,d,n,z1,z2⟩:=z;subst m n
    repeat (any_goals (first|assumption|wp_step))
    exact q a d z1 z2
end
section
variable{X:Cx}
def xV(a:Ad)(b:Zs):HO:= .ext λh=>∃P w,IsSetI P w h a (oZ b)
inductive s9(K:N2)(c:List V)(H:Hp)(Q:VK):Prop|mk:∀p b,c=[.ref p]->SqT K H p (b.map V.int)->b.length<=4000->(∀a,H a=none->Q (.ref a) (gI H a (xV a b)))->s9 K c H Q
def LP(c:X.calm=true):mE X (.type "set") (s9 X.K):=by
 intro Z s d H x A Q I r h;obtain⟨p,a,rfl,f,few,q⟩:=h;obtain⟨u,rfl,g⟩:=mi r;cases g;obtain⟨i,j,l,_⟩:=I.tuple f;refine Ke (I.ok.hd c) l j few λb m z keep=>?_;have n:Inv X Z d H {s with heap:=b,toks:=m}:=I.kept keep;obtain⟨o,B,C,t,v,r⟩:=id z;have ok:ObjOk X.prog X.w (gI H s.heap.objs.size (xV s.heap.objs.size a)) b s.heap.objs.size (xV s.heap.objs.size a):=#[#[_,_,z],#[_,v],λD E ⟨P,w,y⟩ k=>#[P,w,y.ext λo e=>k _ e]];exact#[.ref s.heap.objs.size,_,Inv.trackNew I n ok,rZ,q _ I.fresh]
inductive tA(b:List V)(H:Hp)(Q:VK):Prop|mk:∀a c,b=[.ref a]->H a=some (xV a c)->Q (.int (oZ c).length) H->tA b H Q
def Lp:mE X (.builtin "len") tA:=by
 intro Z s k H l m Q I r h;obtain⟨a,b,rfl,c,q⟩:=h;obtain⟨u,rfl,d⟩:=mi r;cases d;obtain⟨⟨_,_,o,n,p,t,e,f,g,_,_,v,i,j⟩,_⟩:=(show ObjOk X.prog X.w H s.heap a (xV a b)from I.hok a _ c);refine call_len_set e f g i (by have:scanBound=4096:=rfl;lia) ?_;exact#[.int (oZ b).length,H,I.tok _,#[_,by rw[j]],q]
end
theorem CM{b:Array Nat}{j:Nat}(m:b.toList.Pairwise (· < ·)):∀(fuel lo a:Nat),a-lo<=fuel->a<=b.size->lo<=a->(∀i x,b[i]?=some x->i<lo->x<j)->(∀i x,b[i]?=some x->a<=i->j<=x)->
  (∀i x,b[i]?=some x->i<SetTable.below.go b j fuel lo a->x<j)/\(∀i x,b[i]?=some x->SetTable.below.go b j fuel lo a<=i->j<=x)/\SetTable.below.go b j fuel lo a<=b.size
 |0,lo,a,p,f,q,g,k=>by
  have e:lo=a:=by lia
  subst e;exact#[g,k,f]
 | fuel+1,lo,a,p,f,q,g,k=>by
  unfold SetTable.below.go;by_cases c:lo<a
  .rw[wB c];dsimp only;have l:(lo+a) /2<b.size:=by lia
   have em:b[(lo+a) /2]?=some b[(lo+a) /2]:=mK l;have mono:∀i x,b[i]?=some x->(i<(lo+a) /2->x<b[(lo+a) /2])/\((lo+a) /2<i->b[(lo+a) /2]<x):=λi x e=>by
    obtain⟨o,rfl⟩:=nj.mp e;have z:=pc.mp m;exact#[λh=>z i _ (by simpa using o) (by simpa using l) h,λh=>z _ i (by simpa using l) (by simpa using o) h]
   have r:b.getD ((lo+a) /2) j=b[(lo+a) /2]:=by simp[Array.getD,l]
   rw[r];by_cases d:b[(lo+a) /2]<j
   .rw[wB d];refine CM m fuel _ _ () f () (λi x e n=>?_) k;by_cases z:i=(lo+a) /2
    .subst z;rw[em]at e;cases e;exact d
    .exact wk ((mono i x e).1 ()) d
   .rw[wA d];refine CM m fuel _ _ () () () g λi x e n=>?_;by_cases z:i=(lo+a) /2
    .subst z;rw[em]at e;cases e;lia
    .have:=(mono i x e).2 ();lia
  .rw[wA c];have e:lo=a:=by lia
   subst e;exact#[g,k,f]
def DT{a:Array Nat}(b:a.toList.Pairwise (· < ·))(j:Nat):(∀i x,a[i]?=some x->i<SetTable.below a j->x<j)/\(∀i x,a[i]?=some x->SetTable.below a j<=i->j<=x)/\SetTable.below a j<=a.size:=
 CM b a.size 0 a.size () (gS _) (lV _) (λi x e h=>wC h (pk i)) λi x e h=>by
  have:=(nj.mp e).1;lia
def MI{c:Array Nat}(d:c.toList.Pairwise (· < ·)){i x:Nat}(e:c[i]?=some x):SetTable.below c (x+1)=i+1:=by
 obtain⟨f,g,k⟩:=DT d (x+1);have a: ¬SetTable.below c (x+1)<=i:=λh=>by have:=g i x e h;lia
 have b: ¬i+1<SetTable.below c (x+1):=λh=>by
  have l1:i+1<c.size:=by lia
  have z:=f (i+1) c[i+1] (mK l1) h;obtain⟨j,rfl⟩:=nj.mp e;have y:=pc.mp d i (i+1) (by simpa using j) (by simpa using l1) (Nat.lt_succ_self i);have l:c[i]<c[i+1]:=by simpa using y
  lia
 lia
def IV{a:Array Nat}(b:a.toList.Pairwise (· < ·)):SetTable.below a 0=0:=by
 obtain⟨d,_,e⟩:=DT b 0;by_cases c:SetTable.below a 0=0
 .exact c
 .exact wC (d 0 a[0] (mK ()) ()) (pk _)
def EN{t:SetTable}(a:t.dummies= #v[])(j:Nat):t.slot j≠ .dummy:=by
 unfold SetTable.slot;rw[a];dsimp only;split
 .exact λz=>nomatch z
 .rw[show SetTable.has #v[] j=false by unfold SetTable.has;simp];exact λz=>nomatch z
theorem FF{t:SetTable}(g:t.dummies= #v[]){f:Nat->Int}{h:Int}:∀(fuel:Nat) (p:SetTable.Probe) (j:Nat) (d:Option Nat),p.dummy=none->SetTable.probe.go t f h fuel p=some (.empty j d)->d=none/\t.slot j=.empty
 |0,_,_,_,_,e=>by cases e
 | fuel+1,p,j,d,b,e=>by
  unfold SetTable.probe.go at e;have c:(t.advance p).dummy=none:=by
   unfold SetTable.advance;split
   .exact b
   .exact b
  cases a:t.slot p.j with
  |empty=>
   rw[a]at e;injection e with e
   injection e with k l
   subst k;exact#[l.symm.trans b,a]
  |dummy=>exact wC a (EN g _)
  | live i=>
   rw[a]at e;dsimp only at e;split at e
   .injection e with e
    cases e
   .exact FF g fuel _ j d c e
def KI{t:SetTable}(a:t.dummies= #v[]){h:Int}{j:Nat}{d:Bool}(e:t.freeSlot h=some (j,d)):d=false/\t.slot j=.empty:=by
 unfold SetTable.freeSlot at e;split at e
 .rename_i b c f
  obtain⟨rfl,z⟩:=FF a _ _ b c rZ f;cases e;exact#[rZ,z]
 .cases e
def Kk{t:SetTable}{j:Nat}(e:t.slot j=.empty):t.place[SetTable.below t.place j]? ≠some j:=λz=>by
 unfold SetTable.slot at e;dsimp only at e;rw[z]at e;simp at e
def Nq{t:SetTable}{j:Nat}(up:t.place.toList.Pairwise (· < ·))(h:t.slot j=.empty):(SetTable.insertAt t.place (SetTable.below t.place j) j).toList.Pairwise (· < ·):=by
 obtain⟨k,b,p⟩:=DT up j;have l:=Kk h;have m:(SetTable.insertAt t.place (SetTable.below t.place j) j).toList=t.place.toList.take (SetTable.below t.place j)++j::t.place.toList.drop (SetTable.below t.place j):=by
  have z:=zR t.place.toList (SetTable.below t.place j) j;rw[Array.toArray_toList]at z;rw[z]
 rw[m];have c:∀x∈t.place.toList.drop (SetTable.below t.place j),j<x:=λx a=>by
  obtain⟨i,e⟩:=jk.mp a;rw[x9,mv]at e;have q:=b _ x e (rC _ _);by_cases z:x=j
  .subst z;cases i with
   |zero=>exact wC e l
   |succ i=>
    have d:SetTable.below t.place x<t.place.size:=by have:=(nj.mp e).1;lia
    have r:=b _ _ (mK d) (gS _);obtain⟨n,f⟩:=nj.mp e;have y:=pc.mp up (SetTable.below t.place x) (SetTable.below t.place x+(i+1)) (by simpa using d) (by simpa using n) ();have s:t.place[SetTable.below t.place x]<t.place[SetTable.below t.place x+(i+1)]:=by simpa using y
    lia
  .lia
 refine mB.mpr #[up.sublist (vA _ _),yb.mpr #[c,up.sublist (List.drop_sublist _ _)],λx a y o=>?_];obtain⟨i,u,f⟩:=List.mem_take_iff_getElem.mp a;have g:x<j:=k i x (by rw[<-mv,gN (),f]) ()
 rcases iu.mp o with rfl|z
 .exact g
 .exact wk g (c y z)
def J0{mask g i:Nat}{c j:Bool}{d:Array Int}{t:SetTable}{k:Array Nat}(e:SetTable.laid mask g i c j d=some (t,k)):t.place.toList.Pairwise (· < ·)/\t.dummies= #v[]/\t.led=c:=by
 unfold SetTable.laid at e;cases f:SetTable.layClean mask d with
 |none=>rw[f]at e;cases e
 |some o=>
  rw[f]at e;injection e with e
  injection e with l _
  subst l;refine#[?_,rZ,rZ];rw[tz,uv,List.pairwise_filterMap];refine List.Pairwise.imp (λ{a b} h x m y n=>?_) Dx;obtain⟨u,_,rfl⟩:=jb.mp m;obtain⟨v,_,rfl⟩:=jb.mp n;exact h
def on:Nat->Nat->Nat
 |0,i=>i
 |n+1,i=>on n (5 * i+1)
def GJ(a b i:Nat):on (a+b) i=on b (on a i):=by
 induction a generalizing i with
 |zero=>rw[qh];rfl
 |succ a c=>rw[Nat.add_right_comm];exact c _
def Lu(m:Nat):∃c d,∀i,on (2 ^ m) i=(1+2 ^ (m+2) * c) * i+2 ^ m * (2 * d+1):=by
 induction m with
 |zero=>exact#[1,0,λi=>by show 5 * i+1=_;lia]
 |succ m a=>
  obtain⟨c,d,h⟩:=a;refine#[c * (1+2 ^ (m+1) * c),d+(2 * d+1) * 2 ^ m * c,λi=>?_];rw[show 2 ^ (m+1)=2 ^ m+2 ^ m by lia,GJ,h,h]
  grind
def IE(n i M:Nat):on n (i%M)%M=on n i%M:=by
 induction n generalizing i with
 |zero=>exact Nat.mod_mod _ _
 |succ n a=>
  show on n (5 * (i%M)+1)%M=on n (5 * i+1)%M;rw[<-a (5 * (i%M)+1),<-a (5 * i+1)]
  congr 2
  rw[Nat.add_mod,Nat.mul_mod,Nat.mod_mod,<-Nat.mul_mod,<-Nat.add_mod]
def Lg(m:Nat):∀i j,j<2 ^ m->∃n,n<2 ^ m/\on n i%2 ^ m=j:=by
 induction m with
 |zero=>exact λi j h=>#[0,by decide,by simp at h;subst h;exact Nat.mod_one _]
 | succ m k=>
  intro i j p;have l:2 ^ (m+1)=2 * 2 ^ m:=by lia
  have a:j<2 * 2 ^ m:=by lia
  have b:0<2 ^ m:=Nat.two_pow_pos m;obtain⟨n,q,e⟩:=k i (j%2 ^ m) (sd _ b);by_cases c:on n i%2 ^ (m+1)=j
  .exact#[n,(),c]
  .refine#[n+2 ^ m,(),?_];obtain⟨c1,d,h⟩:=Lu m;rw[GJ,h];generalize on n i=x at *;have o:(1+2 ^ (m+2) * c1) * x+2 ^ m * (2 * d+1)=x+2 ^ m+2 ^ (m+1) * (2 * c1 * x+d):=by grind
   rw[o,Nat.add_mul_mod_self_left];have a1:x%2 ^ (m+1)%2 ^ m=x%2 ^ m:=Nat.mod_mod_of_dvd _ #[2,()];have a2:x%2 ^ (m+1)<2 ^ (m+1):=sd _ ();rw[Nat.add_mod];generalize x%2 ^ (m+1)=y at *;have a3:2 ^ m%2 ^ (m+1)=2 ^ m:=vM ();rw[a3];rw[<-a1]at e;rw[l]at *;generalize 2 ^ m=M at *;have f:∀z,z<2 * M->z%M=if z<M then z else z-M:=λz r=>by
    split
    .exact vM (by assumption)
    .rw[Nat.mod_eq_sub_mod (),vM ()]
   rw[f y a2,f j a]at e;by_cases g:y<M
   .rw[wB g]at e;rw[vM ()];split at e<;>lia
   .rw[wA g]at e;rw[Nat.mod_eq_sub_mod (),vM ()];split at e<;>lia
def lp(mask:Nat):Nat->Nat->Nat->Nat
 |0,i,_=>i
 |n+1,i,p=>lp mask n ((i * 5+1+p/32)%(mask+1)) (p/32)
def IW(mask n i:Nat)(a:i<=mask):lp mask n i 0=on n i%(mask+1):=by
 induction n generalizing i with
 |zero=>exact(vM (Nat.lt_succ_of_le a)).symm
 |succ n b=>
  show lp mask n ((i * 5+1+0/32)%(mask+1)) (0/32)=on n (5 * i+1)%(mask+1);rw[Nat.zero_div,b _ (by have:=sd (i * 5+1+0) (show 0<mask+1 by lia);lia),IE,A4]
theorem CF{mask m:Nat}(b:mask+1=2 ^ m){j:Nat}(d:j<=mask):∀(q i p:Nat),i<=mask->p<32 ^ q->∃n,n<=q+mask/\lp mask n i p=j
 |0,i,p,c,a=>by
  have:p=0:=by simp at a;exact a
  subst this;obtain⟨n,f,e⟩:=Lg m i j ();exact#[n,(),by rw[IW _ _ _ c,b];exact e]
 |q+1,i,p,c,a=>by
  obtain⟨n,f,e⟩:=CF b d q ((i * 5+1+p/32)%(mask+1)) (p/32) (by have:=sd (i * 5+1+p/32) (show 0<mask+1 by lia);lia) (Nat.div_lt_of_lt_mul (by rw[zA]at a;lia));exact#[n+1,(),e]
def FT(h:Int):SetTable.bits h<32 ^ 13:=by
 unfold SetTable.bits;have:=A1 h (show(0:Int)<2 ^ 64 by decide);have a:=Bf h (show(2 ^ 64:Int)≠0 by decide);lia
section
variable{t:SetTable}{h:Int}
def vC(x:Option SetTable.Met):Prop:=∃j d,x=some (.empty j d)
def Fk(b:t.dummies= #v[]){a:Nat}{p:SetTable.Probe}(k:vC (SetTable.probe.go t (λ_=>h+1) h a (t.advance p))):vC (SetTable.probe.go t (λ_=>h+1) h (a+1) p):=by
 unfold SetTable.probe.go;cases c:t.slot p.j with
 |empty=>exact#[_,_,rZ]
 |dummy=>exact wC c (EN b _)
 |live i=>
  dsimp only;rw[show((h+1==h)=false)from by simp;lia];exact k
theorem Ee(c:t.dummies= #v[]):∀(k:Nat) (p:SetTable.Probe) (a:Nat),p.more=k->(∀b:SetTable.Probe,b.j=b.i->b.i=(p.i * 5+1+p.perturb/32)%(t.mask+1)->b.perturb=p.perturb/32->b.more<=9->vC (SetTable.probe.go t (λ_=>h+1) h a b))->
  vC (SetTable.probe.go t (λ_=>h+1) h (a+k+1) p)
 |0,p,a,e,q=>by
  refine Fk c ?_;unfold SetTable.advance;rw[wA ()];refine q _ rZ rZ rZ ?_;show SetTable.runEnd _ _-_<=9;unfold SetTable.runEnd;split<;>lia
 |k+1,p,a,e,q=>by
  refine Fk c ?_;unfold SetTable.advance;rw[wB ()];exact Ee c k _ a (by show p.more-1=k;lia) q
theorem DV:∀(a b:Nat) (p:SetTable.Probe),vC (SetTable.probe.go t (λ_=>h+1) h a p)->a<=b->vC (SetTable.probe.go t (λ_=>h+1) h b p)
 |0,_,_,⟨_,_,e⟩,_=>by cases e
 |a+1,0,_,_,l=>wC l (Nat.not_succ_le_zero a)
 | a+1,b+1,p,f,l=>by
  unfold SetTable.probe.go at f|-;cases c:t.slot p.j with
  |empty=>exact#[_,_,rZ]
  |dummy=>rw[c]at f;exact DV a b _ f ()
  |live i=>
   rw[c]at f;dsimp only at f|-;rw[show((h+1==h)=false)from by simp;lia]at f|-;exact DV a b _ f ()
theorem FE(c:t.dummies= #v[]):∀(n:Nat) (p:SetTable.Probe) (a:Nat),p.j=p.i->p.more<=9->10 * n<a->t.slot (lp t.mask n p.i p.perturb)=.empty->vC (SetTable.probe.go t (λ_=>h+1) h a p)
 |0,p,a,d,em,e,b=>by
  obtain⟨f,rfl⟩:=rS (show a≠0 by lia);unfold SetTable.probe.go;rw[d,show t.slot p.i=.empty from b];exact#[_,_,rZ]
 |n+1,p,a,d,em,e,b=>by
  refine DV (10 * n+1+p.more+1) a p (Ee c p.more p (10 * n+1) rZ λg i j k l=>?_) ();exact FE c n g _ i l () (by rw[j,k];exact b)
def Kr{m:Nat}(c:t.dummies= #v[])(f:t.mask+1=2 ^ m){j:Nat}(g:j<=t.mask)(a:t.slot j=.empty):∃b d,t.freeSlot h=some (b,d):=by
 have i:SetTable.bits h%(t.mask+1)<=t.mask:=by have:=sd (SetTable.bits h) (show 0<t.mask+1 by lia);lia
 obtain⟨n,k,e⟩:=CF f g 13 (SetTable.bits h%(t.mask+1)) (SetTable.bits h) i (FT h);obtain⟨b,d,z⟩:=FE (h:=h) c n (t.probeStart h) (10 * SetTable.turns t.mask) rZ (by show SetTable.runEnd _ _-_<=9;unfold SetTable.runEnd;split<;>lia) (by unfold SetTable.turns;lia) (by rw[<-e]at a;exact a);unfold SetTable.freeSlot SetTable.probe;rw[z];exact#[_,_,rZ]
end
def HP{place:Array Nat}{mask:Nat}(few:place.size<=mask):∃j,j<=mask/\j∉place.toList:=by
 refine yR λz=>?_;have all:∀x∈List.range (mask+1),x∈place.toList:=λx a=>yR λy=>z #[x,by have:=lY.mp a;lia,y];have:=BJ List.nodup_range all;rw[qm,iH]at this;lia
def JI{t:SetTable}{j:Nat}(a:t.dummies= #v[])(b:j∉t.place.toList):t.slot j=.empty:=by
 unfold SetTable.slot;dsimp only;have e:(t.place[SetTable.below t.place j]? ==some j)=false:=by
  rw[sk];exact λz=>b (iq (by rw[mv];exact z))
 rw[e,a,show SetTable.has #v[] j=false by unfold SetTable.has;simp];rfl
theorem GG{mask:Nat}{a:Array (Option Nat)}(sz:a.size=mask+1):∀(fuel i p j:Nat),i<=mask->SetTable.layClean.free mask a fuel i p=some j->a[j]?=some none
 |0,_,_,_,_,e=>by cases e
 | fuel+1,i,p,j,c,e=>by
  unfold SetTable.layClean.free at e;split at e
  .rename_i k b
   injection e with e
   subst e;have z:=List.find?_some b;have lt:i+k<a.size:=by
    have y:=lY.mp (List.mem_of_find?_eq_some b);unfold SetTable.runEnd at y;split at y<;>lia
   simp only[Array.getD,lt,dif_pos]at z;rw[mK lt]
   congr 1
   simpa using z
  .exact GG sz fuel _ _ j (by show(i * 5+1+p/32)%(mask+1)<=mask;have:=sd (i * 5+1+p/32) (show 0<mask+1 by lia);lia) e
theorem Hf{mask:Nat}{a:Array (Option Nat)}(sz:a.size=mask+1):∀(n b i p:Nat),i<=mask->n<b->a[lp mask n i p]?=some none->∃j,SetTable.layClean.free mask a b i p=some j
 |n,0,_,_,_,l,_=>wC l (pk n)
 | n,b+1,i,p,g,l,e=>by
  unfold SetTable.layClean.free;split
  .exact#[_,rZ]
  .rename_i d
   cases n with
   |zero=>
    have z:=List.find?_eq_none.mp d 0 (lY.mpr (by unfold SetTable.runEnd;split<;>lia));have c:a[i]?=some none:=e;have lt:=(nj.mp c).1;have f:=(nj.mp c).2;simp[Array.getD,lt,f]at z
   |succ n=>exact Hf sz n b _ _ (by show(i * 5+1+p/32)%(mask+1)<=mask;have:=sd (i * 5+1+p/32) (show 0<mask+1 by lia);lia) () e
def Lq{b:Array (Option Nat)}{k:Nat}(c:(b.toList.filterMap id).Perm (List.range k))(few:k<b.size):∃j:Nat,b[j]?=some none:=by
 refine yR λz=>?_;have all:∀l:List (Option Nat),(∀x∈l,x≠none)->(l.filterMap id).length=l.length:=λl=>by
  induction l with
  |nil=>intro _;rfl
  | cons x l d=>
   intro h;cases x with
   |none=>exact wC rZ (h none (iO ..))
   |some a=>
    show((a::l.filterMap id).length)=_;rw[nq,nq,d λy f=>h y (ja _ f)]
 have e:=all b.toList λx g e=>by
  subst e;obtain⟨j,i⟩:=jk.mp g;exact z #[j,by rw[<-mv];exact i]
 have:=c.length_eq;rw[e,qm,iH]at this;lia
def KU{a:Array (Option Nat)}{j k:Nat}(e:a[j]?=some none):((a.setIfInBounds j (some k)).toList.filterMap id).Perm (k::a.toList.filterMap id):=by
 have lt:j<a.toList.length:=by rw[iH];exact(nj.mp e).1
 have b:a.toList[j]=none:=by
  have:=e;rw[<-mv,gN lt]at this;exact lX this
 have c:a.toList=a.toList.take j++none::a.toList.drop (j+1):=by
  rw[<-b,List.getElem_cons_drop,oK]
 rw[D1,List.set_eq_take_append_cons_drop,wB lt,Bz]
 conv=>rhs;rw[c,Bz]
 exact CI
theorem Gp{mask m:Nat}(g:mask+1=2 ^ m)(f:Option (Array (Option Nat)×Nat)->Int->Option (Array (Option Nat)×Nat))(i:∀a k h,f (some (a,k)) h=(SetTable.layClean.free mask a (SetTable.turns mask) (SetTable.bits h%(mask+1)) (SetTable.bits h)).map λj=>(a.setIfInBounds j (some k),k+1)):
  ∀(b:Zs) (a:Array (Option Nat)) (k:Nat),a.size=mask+1->(a.toList.filterMap id).Perm (List.range k)->k+b.length<=mask+1->
   ∃c,b.foldl f (some (a,k))=some (c,k+b.length)/\c.size=mask+1/\(c.toList.filterMap id).Perm (List.range (k+b.length))
 | [],a,k,sz,d,_=>#[a,rZ,sz,d]
 | h::b,a,k,sz,d,l=>by
  rw[nq]at l;obtain⟨q,o⟩:=Lq d ();have r:q<=mask:=by have:=(nj.mp o).1;lia
  have e:SetTable.bits h%(mask+1)<=mask:=by have:=sd (SetTable.bits h) (show 0<mask+1 by lia);lia
  obtain⟨n,u,s⟩:=CF g r 13 _ _ e (FT h);obtain⟨j,p⟩:=Hf sz n (SetTable.turns mask) _ _ e (by unfold SetTable.turns;lia) (by rw[s];exact o);have t:=GG sz _ _ _ _ e p;have st:f (some (a,k)) h=some (a.setIfInBounds j (some k),k+1):=by rw[i,p];rfl
  obtain⟨c,a1,a2,a3⟩:=Gp g f i b (a.setIfInBounds j (some k)) (k+1) (by rw[Array.size_setIfInBounds];exact sz) ((KU t).trans (by rw[w9];exact(d.cons k).trans (HE _ _).symm)) ();refine#[c,?_,a2,?_]
  .rw[pY,st,a1,nq,show k+1+b.length=k+(b.length+1) by lia]
  .rw[nq,<-show k+1+b.length=k+(b.length+1) by lia];exact a3
def NY{mask m:Nat}(e:mask+1=2 ^ m)(c:Array Int)(few:c.size<=mask):∃b,SetTable.layClean mask c=some b/\b.size=mask+1/\(b.toList.filterMap id).Perm (List.range c.size):=by
 unfold SetTable.layClean;rw[<-Array.foldl_toList];generalize g:(λ(d:Option (Array (Option Nat)×Nat)) (h:Int)=>do
  let(a,k) <-d
  let j <-SetTable.layClean.free mask a (SetTable.turns mask) (SetTable.bits h%(mask+1)) (SetTable.bits h)
  pure (a.setIfInBounds j (some k),k+1))=f
 obtain⟨b,a1,a2,a3⟩:=Gp e f (λa k h=>by
  subst g;show(Option.bind (some (a,k)) _)=_;dsimp only[Option.bind];cases SetTable.layClean.free mask a (SetTable.turns mask) (SetTable.bits h%(mask+1)) (SetTable.bits h)<;>rfl) c.toList (Array.replicate (mask+1) none) 0 (Array.size_replicate) (by
   rw[Array.toList_replicate,List.filterMap_replicate_of_none rZ];exact List.Perm.refl _) (by rw[iH];lia)
 rw[a1];rw[qh,iH]at a3;exact#[b,rZ,a2,a3]
def Kg(a:Array (Option Nat)):((List.range a.size).filterMap λj=>(a.getD j none).map (j,·)).map (·.2)=a.toList.filterMap id:=by
 rw[List.map_filterMap];have e:a.toList=(List.range a.size).map λj=>a.getD j none:=by
  refine vt (by simp) λi b c=>?_;simp[Array.getD,show i<a.size by simpa using b]
 conv=>rhs;rw[e,List.filterMap_map]
 congr 1
 funext j
 simp only[Function.comp];cases a.getD j none<;>rfl
theorem Ge:∀(fuel a n:Nat),∃m,SetTable.sizeAbove.go n fuel (2 ^ a)=2 ^ m/\a<=m
 |0,a,n=>#[a,rZ,gS _]
 | fuel+1,a,n=>by
  unfold SetTable.sizeAbove.go;split
  .obtain⟨m,e,l⟩:=Ge fuel (a+1) n;exact#[m,by rw[<-zA];exact e,()]
  .exact#[a,rZ,gS _]
theorem GV:∀(fuel s n:Nat),n<s * 2 ^ fuel->n<SetTable.sizeAbove.go n fuel s
 |0,s,n,h=>by rw[Nat.pow_zero,Nat.mul_one]at h;exact h
 |fuel+1,s,n,h=>by
  unfold SetTable.sizeAbove.go;split
  .exact GV fuel (s * 2) n (by rw[zA,A4 (2 ^ fuel),<-Nat.mul_assoc]at h;exact h)
  .lia
def MG{n:Nat}(h:n<2 ^ 60):∃m,SetTable.sizeAbove n=2 ^ m/\n<2 ^ m/\3<=m:=by
 unfold SetTable.sizeAbove;obtain⟨m,e,l⟩:=Ge 64 3 n;have g:=GV 64 8 n ();exact#[m,e,by rw[<-e];exact g,l]
def Lx{t:SetTable}{hs:Array Int}{n:Nat}(h:n<2 ^ 60)(few:hs.size<n):∃a c,t.relaid hs n=some (a,c)/\c.toList.Perm (List.range hs.size)/\a.place.size=hs.size/\(∃m,a.mask+1=2 ^ m)/\n<=a.mask/\(∀j∈a.place.toList,j<=a.mask)/\a.plain=t.plain:=by
 obtain⟨m,e,l,_⟩:=MG h;unfold SetTable.relaid SetTable.laid;rw[e];obtain⟨g,a1,a2,a3⟩:=NY (mask:=2 ^ m-1) (m:=m) () hs ();rw[a1];have lv:=Kg g;rw[a2]at lv;have d:=iZ List.length lv;rw[a3.length_eq,gL,qm]at d;refine#[_,_,rZ,?_,?_,#[m,?_],?_,?_,rZ]
 .rw[tz,lv];exact a3
 .rw[iK,gL];exact d
 .show 2 ^ m-1+1=_;lia
 .show n<=2 ^ m-1;lia
 .intro j f;show j<=2 ^ m-1;rw[tz]at f;obtain⟨x,i,rfl⟩:=hX.mp f;obtain⟨k,b,o⟩:=AZ.mp i;obtain⟨_,_,rfl⟩:=jb.mp o;have:=lY.mp b;show k<=_;lia
structure TabG(t:SetTable)(n:Nat)(led:Bool):Prop where
 fits:t.fits n=true
 up:t.place.toList.Pairwise (· < ·)
 no:t.dummies= #v[]
 led:t.led=led
 plain:t.plain=true
 pow:∃m,t.mask+1=2 ^ m
def TabG.size{t:SetTable}{n:Nat}{led:Bool}(h:TabG t n led):t.place.size=n:=by
 have z:=h.fits;unfold SetTable.fits at z;rw[rH]at z;exact eq_of_beq z.1
def TabG.mask{t:SetTable}{n:Nat}{a:Bool}(h:TabG t n a):n<=t.mask:=by
 have z:=h.fits;have s:=h.size;unfold SetTable.fits SetTable.fill at z;rw[rH,h.no]at z;have y:=lR z.2;rw[s]at y;exact y
def IU{t:SetTable}{n:Nat}{a:Bool}(h:TabG t n a)(b:t.tooFull=false):n * 5<t.mask * 3:=by
 unfold SetTable.tooFull SetTable.fill at b;rw[h.no,h.size]at b;have z:=of_decide_eq_false b;have e:(#v[]:Array Nat).size=0:=rfl;rw[e]at z;lia
def Gr{t:SetTable}{n:Nat}(a:t.dummies= #v[])(sz:t.place.size=n)(l:n<=t.mask):t.fits n=true:=by
 unfold SetTable.fits SetTable.fill;rw[a,sz];have e:(#v[]:Array Nat).size=0:=rfl;rw[e,iG (show n+0<=t.mask from l)];simp
def qq(e:Int×Vl):Int:=match e.2 with
 |.int k _=>k
 |_=>0
def xG(e:Int×Vl):Prop:=∃k t,e=(hashInt k,.int k t)
def IsSetG(h:Heap)(a:Ad)(d:Bool)(b:Zs):Prop:=∃c f t,h.get? a=some (mU c f t)/\(∀e∈c,xG e)/\(c.map qq).Perm b/\TabG t c.length d/\t.tooFull=false/\b.Nodup
def nQ(a:Zs)(x:Int):Zs:=if x∈a then a else a++[x]
def IsSetG.ext{h h':Heap}{S:Ad}{a:Bool}{b:Zs}(c:IsSetG h S a b)(k:∀o,h.get? S=some o->h'.get? S=some o):IsSetG h' S a b:=by
 obtain⟨d,f,t,e,r⟩:=c;exact#[d,f,t,k _ e,r]
def Nn{t:SetTable}{c:List (Int×Vl)}{g:Bool}{i:Zs}{k:Int}{tk:Tok}(n:∀e∈c,xG e)(r:(c.map qq).Perm i)(b:TabG t c.length g)(s:t.tooFull=false):
  ∃(f:List (Int×Vl)) (o:SetTable),layNew t c.toArray (hashInt k) (.int k tk)=(f.toArray,o,false,false)/\(∀e∈f,xG e)/\(f.map qq).Perm (i++[k])/\TabG o f.length g/\f.length=c.length+1:=by
 have few:=IU b s;have new:xG (hashInt k,Value.int k tk):=#[k,tk,rZ];obtain⟨m,u⟩:=b.pow;obtain⟨D,v,w⟩:=HP (place:=t.place) (mask:=t.mask) (by rw[b.size];exact b.mask);obtain⟨j,d,p⟩:=Kr (h:=hashInt k) b.no u v (JI b.no w);obtain⟨rfl,x⟩:=KI b.no p;have up:=Nq b.up x;have y:SetTable.insertAt c.toArray (SetTable.below t.place j) (hashInt k,Value.int k tk)=(c.take (SetTable.below t.place j)++(hashInt k,Value.int k tk)::c.drop (SetTable.below t.place j)).toArray:=zR ..;have l:(c.take (SetTable.below t.place j)++(hashInt k,Value.int k tk)::c.drop (SetTable.below t.place j)).length=c.length+1:=by
  rw[jc,nq,<-Nat.add_assoc,<-jc,oK]
 have A:SetTable.has #v[] j=false:=by unfold SetTable.has;simp
 have sz:(SetTable.insertAt t.place (SetTable.below t.place j) j).size=c.length+1:=by
  have z:=zR t.place.toList (SetTable.below t.place j) j;rw[Array.toArray_toList]at z;rw[z,iK,jc,nq,<-Nat.add_assoc,<-jc,oK,iH,b.size]
 have q:({t with place:=SetTable.insertAt t.place (SetTable.below t.place j) j}:SetTable).fits (c.length+1)=true:=Gr b.no sz (by show _<=t.mask;lia);refine#[c.take (SetTable.below t.place j)++(hashInt k,Value.int k tk)::c.drop (SetTable.below t.place j),{t with place:=SetTable.insertAt t.place (SetTable.below t.place j) j},?_,λe B=>?_,?_,?_,l]
 .unfold layNew;rw[p];dsimp only[SetTable.put];rw[y,b.no,A];rw[wA (by decide),iK,l];have C:({t with place:=SetTable.insertAt t.place (SetTable.below t.place j) j,dummies:= #v[]}:SetTable)={t with place:=SetTable.insertAt t.place (SetTable.below t.place j) j}:=by rw[<-b.no]
  rw[C];unfold SetTable.orStandIn;rw[q,wB rZ];rfl
 .rcases iC.mp B with z|z
  .exact n e (uw z)
  .rcases iu.mp z with rfl|z
   .exact new
   .exact n e (Bg z)
 .refine(List.Perm.map qq (CI (a:=(hashInt k,Value.int k tk)))).trans ?_;rw[oK,kz];exact(r.cons _).trans (HE _ _).symm
 .rw[l];exact#[q,up,b.no,b.led,b.plain,b.pow]
def Iy{b:Type}{a:List b}:(List.range a.length).filterMap (a[·]?)=a:=by
 refine uy λi=>?_;have e:∀n,n<=a.length->(List.range n).filterMap (a[·]?)=a.take n:=λn=>by
  induction n with
  |zero=>intro _;simp
  |succ n c=>
   intro h;rw[w9,Bz,c (),om,gN ()];simp[List.getElem?_eq_getElem (show n<a.length by lia)]
 rw[e _ (gS _),mh]
def KJ{t:SetTable}{a:List (Int×Vl)}{d:Bool}(j:TabG t a.length d)(v:0<a.length)(w:a.length<=4000):∃(b:List (Int×Vl)) (c:SetTable),relayAll t a.toArray (SetTable.grown a.toArray.size)=(b.toArray,c,false)/\b.Perm a/\TabG c b.length d/\c.tooFull=false:=by
 have m:SetTable.grown a.toArray.size=a.length * 4:=by
  unfold SetTable.grown;rw[iK,wA ()]
 rw[m];have o:(a.toArray.map (·.1)).size=a.length:=by simp
 obtain⟨c,f,k,g,sz,pw,x,_,p⟩:=Lx (t:=t) (hs:=a.toArray.map (·.1)) (n:=a.length * 4) () ();rw[o]at g sz;obtain⟨q,h,r⟩:=J0 k;have s:f.filterMap (a.toArray[·]?)=(f.toList.filterMap (a[·]?)).toArray:=by
  apply Dd.mp;rw[Array.toList_filterMap];simp
 have i:(f.toList.filterMap (a[·]?)).Perm a:=by
  have z:=g.filterMap (a[·]?);rw[Iy]at z;exact z
 have l:c.fits a.length=true:=Gr h sz ();have u:coversAll f a.toArray.size=true:=by
  unfold coversAll;rw[iK];exact List.isPerm_iff.mpr g
 refine#[_,c,?_,i,?_,?_]
 .unfold relayAll;rw[k];dsimp only;rw[u,s,iK,i.length_eq,l,wB (by decide)]
 .rw[i.length_eq];exact#[l,q,h,r.trans j.led,p.trans j.plain,pw]
 .unfold SetTable.tooFull SetTable.fill;rw[h,sz];have e:(#v[]:Array Nat).size=0:=rfl;rw[e];exact jy ()
section
variable{P:Pg}{w:World}{A:Ar}{E:VP}{s:Sh}{a:Ad}{d:Bool}{c:Zs}{k:Int}{t:Tok}
def NH{a:Type}{R:a->Sh->Prop}{rest:Bool->Sem a}{b:Bool}(h:wpAny (model P w) A (rest true) R E s):wpAny (model P w) A (if b=true then hashByValue 8 (Value.int k t) >>= rest else pure true >>= rest) R E s:=by
 cases b
 .exact gH (gK h)
 .exact gH (show wpAny _ _ (pure true) _ _ _ from gK h)
def L3{Q:Sh->Prop}(hS:IsSetG s.heap a d c)(few:c.length<4000)(q:∀M,IsSetG M a d (nQ c k)->Heap.SameBut a s.heap M->Q {s with heap:=M}):
  wpAny (model P w) A (setAddHashed a (.int k t) (hashInt k)) (λ_ s'=>Q s') E s:=by
 obtain⟨o,ep,t0,e,L,N,tb,nf,nd⟩:=id hS;have ln:o.length=c.length:=by rw[<-N.length_eq,gL]
 have p:t0.fits o.toArray.size=true:=by rw[iK];exact tb.fits
 have el:ElemsOf (intKind P w) o.toArray.toList:=λx b=>by
  obtain⟨n,O,rfl⟩:=L x (by simpa using b);exact#[#[n,pO _ _ _ _,rZ],rZ]
 have sc:byScan (.int k t) o.toArray=true:=by
  unfold byScan;have e3:o.toArray.all (·.2.scannable)=true:=by
   rw[EC];exact λx b=>(el x (by simpa using b)).2
  rw[e3,iG (show o.toArray.size<scanBound by rw[iK];unfold scanBound;lia)];rfl
 have mem:k∈c↔ ∃x∈o,(intKind P w).is k x.2=true:=by
  rw[<-N.mem_iff,hX];constructor
  .rintro⟨x,b,rfl⟩;obtain⟨n,O,rfl⟩:=L x b;exact#[_,b,pO _ _ _ _]
  .rintro⟨x,b,h⟩;obtain⟨n,O,rfl⟩:=L x b;exact#[_,b,((intKind P w).inj _ _ _ h (pO _ _ _ O)).symm]
 unfold setAddHashed setAddHashedIn;refine lq (gH (oE e rZ p ?_));dsimp only;rw[sc,wB rZ];unfold setAddByScan;refine gH (gH (qu (gH (wpAny_setScan_of (knd:=intKind P w) (k:=k) (adding:=true) (pO _ _ _ _) e rZ p el ?_))));rw[tz];cases hf:o.findIdx? λe=>(intKind P w).is k e.2 with
 |some j=>
  obtain⟨hj,T,_⟩:=Gq.mp hf;have i:k∈c:=mem.mpr #[_,oU hj,T];refine gK (gK ?_);have z:=q s.heap (by unfold nQ;rw[wB i];exact hS) (Heap.SameBut.refl a s.heap);cases s;exact z
 | none=>
  have i:k∉c:=λz=>by
   obtain⟨x,b,h⟩:=mem.mp z;have y:=List.findIdx?_eq_none_iff.mp hf x b;rw[h]at y;cases y
  obtain⟨l,r,pQ,D,G,H,oH⟩:=Nn (k:=k) (tk:=t) L N tb nf;dsimp only;rw[pQ];dsimp only;have f:nQ c k=c++[k]:=by unfold nQ;rw[wA i]
  have I:(nQ c k).Nodup:=by
   rw[f];exact wj.mpr #[nd,nc.mpr #[List.not_mem_nil,yg],λx b y hy=>by rw[h9.mp hy];exact λz=>i (z▸b)]
  refine gH (m:=(pure Unit.unit:Sem Unit)) (gK ?_);refine NH ?_;simp only[if_true];refine gH (AQ e rZ ?_ (by rw[iK,iv];lia));have U:=zp (h:=s.heap) (fs:=l) (u:=r) e;have g:Heap.SameBut a s.heap (s.heap.update a (Obj.putSet l.toArray r)):=Aw ..;show wpAny _ _ (if(!false&&r.tooFull)=true then _ else _) _ _ _;by_cases tf:r.tooFull=true
  .rw[tf,wB (by decide)];obtain⟨v,Y,aa,B,ab,ae⟩:=KJ H () ();rw[aa];dsimp only;refine gH (m:=(pure Unit.unit:Sem Unit)) (gK ?_);refine gH (AQ U rZ ?_ (by rw[iK,B.length_eq,iv];lia));have e2:=zp (fs:=v) (u:=Y) U;have C:=Heap.SameBut.trans g (Aw (s.heap.update a (Obj.putSet l.toArray r)) a (Obj.putSet v.toArray Y));exact gK (gK (q _ #[v,ep+1+1,Y,e2,λx b=>D x (B.mem_iff.mp b),by rw[f];exact(B.map qq).trans G,ab,ae,I] C))
  .have J:r.tooFull=false:=by simpa using tf
   rw[J,wA (by decide)];exact gK (gK (q _ #[l,ep+1,r,U,D,by rw[f];exact G,H,J,I] g))
end
def qW(a:Zs):Zs:=a.foldl nQ []
section
variable{P:Pg}{w:World}{A:Ar}{E:VP}{S it l:Ad}{led:Bool}{a:Zs}{vs:Vs}
theorem Ed{R:Result->Sh->Prop}(G:A.handled=none)(j:S≠it)(H:S≠l)(I:it≠l)(p:Vals (a.map V.int) vs)(few:a.length<=4000):
  ∀(rest:Zs) (i:Nat) (c:Zs) (s:Sh),a.drop i=rest->c.length<=i->s.heap.IsListIter it l i->s.heap.IsList l vs.toArray->IsSetG s.heap S led c->
   (∀d r,IsSetG d S led (rest.foldl nQ c)->(∀b o,b≠S->b≠it->s.heap.get? b=some o->d.get? b=some o)->R (.ok (.ret .none)) {s with heap:=d,toks:=r})->
   codeAny (model P w) A (.builtin "set.update.loop" #[[.ref S,.ref it],[]]) R s
 | [],i,c,s,m,O,v,n,y,q=>by
  have J:vs.length<=i:=by
   have L:vs.length=a.length:=by simpa using p.length.symm
   have z:=BS.mp m;lia
  refine n6 xg ?_;rw[pC rW _];show wpAny _ A.in1 (pyNext (.ref it) >>= _) _ _ s;refine gH (zm (by simpa using G) v n (by simp;lia) λd keep=>?_);exact gK (q d s.toks (y.ext λo e=>keep _ _ j e) λb o _ z e=>keep b o z e)
 | x::rest,i,c,s,m,O,v,n,y,q=>by
  have h:a[i]?=some x:=by rw[<-zO,m];rfl
  have next:a.drop (i+1)=rest:=by rw[<-zk,m];rfl
  have T:i<a.length:=(gV.mp h).1;obtain⟨u,Q,t,rfl⟩:=p.get (i:=i) (x:=V.int x) (by rw[hA,h];rfl);refine n6 xg ?_;rw[pC rW _];show wpAny _ A.in1 (pyNext (.ref it) >>= _) _ _ s;refine gH (zK v n (x:= .int x t) (by simpa using Q) λL oM f=>?_);show wpAny _ A.in1 (holding [Value.int x t] (setAdd S (.int x t)) >>= _) _ _ _;refine gH (lq ?_);unfold setAdd;refine lq (gH ((intKind P w).pyHash (k:=x) (pO _ _ _ _) ?_));have B:IsSetG L S led c:=y.ext λo e=>f.extBut _ _ j e;refine L3 B () λz C g=>?_;have D:(nQ c x).length<=i+1:=by
   unfold nQ;split
   .lia
   .rw[jc];show c.length+1<=_;lia
  refine gK #[pb rW _,Ed G j H I p few rest (i+1) (nQ c x) _ next D (oM.extBut g.extBut j.symm) ((n.extBut f.extBut I.symm).extBut g.extBut H.symm) C λd r E keep=>?_];exact q d r E λb o M N e=>keep b o M N (g.extBut _ _ M (f.extBut _ _ N e))
set_option maxHeartbeats 4000000 in
def Ib{h:Heap}{i:Array GenState}{j:Drawn}{k:Nat}{os:OsState}{R:PySem.Fin->Sh->Prop}(t:A.handled=none)(m:h.IsList l vs.toArray)(u:Vals (a.map V.int) vs)(few:a.length<=4000)(q:∀c f,IsSetG c h.objs.size led (qW a)->(∀b o,h.get? b=some o->c.get? b=some o)->R (.done (.ret .none)) #[c,i,j,f,os]):
  wpAny (model P w) A (Builtin.«set.__init__» #[[.ref h.objs.size,.ref l],[]]) R E #[h.push (qv led),i,j,k,os]:=by
 obtain⟨⟨B,dl,v,sl⟩,n,c2,x,p⟩:=id m;simp only at c2 p;subst c2 p;have C:(h.push (qv led)).get? l=some #[.type "list",dl,.seq vs.toArray x,sl]:=ig _ n;have y:(h.push (qv led)).get? h.objs.size=some {cls:= .type "set",dict:=none,data:= .set #v[] 0 (.fresh 0 0 led)}:=i4 _ rfl;have D:=F.sub_list_set;have G:=F.sub_list_frozenset;have H:(Value.type "list"==Value.type "dict")=false:=by decide
 unfold Builtin.«set.__init__» noKeywords Builtin.Frozenset.updateFrom;generalize g:pyIter=r
 wp_walk
 subst g;have d:(h.push (qv led)).IsList l vs.toArray:=m.push _;refine w6 d (gH (wpAny_runValue ?_));have lt:l<h.objs.size:=hV n;have sz:(h.push (qv led)).objs.size=h.objs.size+1:=yO ..;refine Ed (vs:=vs) (led:=led) (by simpa using t) (by rw[sz];exact Nat.ne_of_lt (Nat.lt_succ_self _)) (Nat.ne_of_gt lt) (by rw[sz];exact Nat.ne_of_gt (Nat.lt_succ_of_lt lt)) u few a 0 [] _ rZ (Nat.le_refl _) #[_,Heap.get?_push_size _ rZ,rZ,rZ] (d.push _) #[[],0,_,Heap.get?_push_of_some _ y,(λe z=>nomatch z),List.Perm.refl _,#[by cases led<;>rfl,.nil,rZ,rZ,rZ,3,rZ],rZ,.nil] λc f z1 z2=>?_;refine gK (gK (q c f z1 λb o e=>?_));have s:=hV e;exact z2 b o (iW s) (by rw[sz];exact iW (ya s)) (ig _ (ig _ e))
def K1{s:Sh}{Q:VP}(y:A.handled=none)(n:s.heap.IsList l vs.toArray)(B:Vals (a.map V.int) vs)(few:a.length<=4000)(q:∀d g,IsSetG d s.heap.objs.size (!w.params.followText "set-order") (qW a)->(∀b o,s.heap.get? b=some o->d.get? b=some o)->Q (.ref s.heap.objs.size) {s with heap:=d,toks:=g}):
  wpAny (model P w) A (call (.type "set") [.ref l]) Q E s:=by
 have lt:l<s.heap.objs.size:=let⟨_,e,_⟩:=n;hV e
 obtain⟨c,I,C⟩:=lC.mro;have p:=lC.made;have sub:=lC.sub;have h:=lC.notType;have D:=lC.canCreate;have args:=Dc (.ref l);have t:=lC.init.lookup;have G:=lC.init.bind (.ref s.heap.objs.size);generalize i:mU [] 0 (kr (!w.params.followText "set-order") [])=j;have H:(s.heap.push j).get? s.heap.objs.size=some j:=i4 _ (by rw[<-i];rfl);have ty:Shared.TypeIs {s with heap:=s.heap.push j} (.ref s.heap.objs.size) "set":=#[_,H,by rw[<-i];rfl];refine pS (xQ (show wpAny _ _ (callAny (.type "set") _) _ _ _ from gK #[xY _ (by decide+kernel),n6 C0 ?_]));rw[Cs (CS "set" [.ref l] []) rZ]
 repeat (any_goals (first|assumption|wp_step))
 refine nG (Hb (w:=w) (E:=E) (Q:=λv u=>v=.ref s.heap.objs.size/\u={s with heap:=s.heap.push j}) (by rw[i];exact#[rZ,rZ])) λr u z=>?_;cases r with
 |error _=>exact z
 | ok f=>
  cases f<;>first|exact z.elim|skip
  obtain⟨k,m⟩:=z;subst k m
  repeat (any_goals (first|assumption|wp_step))
  refine nG (yr (R:=wants (λv x=>v=.none/\∃d g,x={s with heap:=d,toks:=g}/\IsSetG d s.heap.objs.size (!w.params.followText "set-order") (qW a)/\∀b o,s.heap.get? b=some o->d.get? b=some o) E)
   lC.init.plain BD (DA ty ?_)) λr x z=>?_
  .subst i;exact Ib (A:=A.in1.in1) (by simpa using y) n B few λd g z1 z2=>#[rZ,d,g,rZ,z1,z2]
  .cases r with
   |error _=>exact z
   |ok f=>
    cases f<;>first|exact z.elim|skip
    obtain⟨k,d,g,m,z1,z2⟩:=z;subst k m
    repeat (any_goals (first|assumption|wp_step))
    exact q d g z1 z2
end
open PySem PySem.Spec PySem.W PyProof.Rows
def py(a:Bool)(b:Array Nat):Nat->Nat
 |0=>0
 |i+1=>if a then 0 else b.getD i 0+1
section
variable{P:Pg}{w:World}{A:Ar}{E:VP}{a it:Ad}{d i:Nat}{es:List (Int×Vl)}{t:SetTable}{b:Bool}
def Jg(a:TabG t es.length b)(c:i<=es.length):SetTable.below t.place (py false t.place i)=i:=by
 cases i with
 |zero=>exact IV a.up
 | succ i=>
  have sz:=a.size;have e:t.place[i]?=some (t.place.getD i 0):=by
   rw[mK ()];simp[Array.getD,show i<t.place.size by lia]
  exact MI a.up e
def HG{s:Sh}{Q:Option (Vl×Nat)->Sh->Prop}(f:s.heap.get? a=some (mU es d t))(b:TabG t es.length (!w.params.followText "set-order"))(h:i<=es.length)(q:Q (((lA w a d es)[i]?).map λe=>(e.2,py (w.params.followText "set-order") t.place (i+1))) s):wpAny (model P w) A (setNext a (py (w.params.followText "set-order") t.place i) i d) Q E s:=by
 have c:t.fits es.toArray.size=true:=by rw[iK];exact b.fits
 have sz:=b.size;unfold setNext setsByText;refine gH (oE f rZ c ?_);refine gH (gH (se (gK ?_)));show wpAny _ _ (if w.params.followText "set-order"=true then _ else _) _ _ _;unfold lA at q;have g:=b.led;generalize k:w.params.followText "set-order"=l at q g|-;cases l with
 |true=>
  rw[wB rZ];rw[wB rZ]at q;rw[wA (by simp)];unfold setWalk setsByText;refine gH (gH (oE f rZ c (gH (gH (se (gK ?_))))));show wpAny _ _ (if w.params.followText "set-order"=true then _ else _) _ _ _;rw[k,wB rZ];refine gH (se (gK (gK ?_)));rw[mv]at q;cases i<;>exact q
 | false=>
  rw[wA (by decide)];rw[wA (by decide)]at q;rw[wA (by show ¬((!t.plain&&_)=true);rw[b.plain];simp)];have m:(!t.led&& !es.toArray.isEmpty)=false:=by rw[g];rfl
  refine gH ?_;show wpAny _ _ (if(!t.led&& !es.toArray.isEmpty)=true then _ else _) _ _ _;rw[m,wA (by decide)];refine gK (gK ?_);show Q (match es.toArray[SetTable.below t.place (py false t.place i)]?,t.place[SetTable.below t.place (py false t.place i)]? with|some (_,x),some j=>some (x,j+1)|_,_=>none) s;rw[Jg (es:=es) b h]
  rcases Nat.lt_or_ge i es.length with z|z
  .rw[gN z]at q;have e:py false t.place (i+1)=t.place[i]'()+1:=by
    show(if false=true then 0 else t.place.getD i 0+1)=_;rw[wA (by decide)];simp[Array.getD,show i<t.place.size by lia]
   simp only[List.getElem?_toArray,List.getElem?_eq_getElem z,Array.getElem?_eq_getElem (show i<t.place.size by lia)];rw[e]at q;exact q
  .rw[ot z]at q;simp only[List.getElem?_toArray,List.getElem?_eq_none z];exact q
def Nb{s:Sh}{e:Int×Vl}{Q:Option Vl->Sh->Prop}(l:a≠it)(j:TabG t es.length (!w.params.followText "set-order"))(b:s.heap.get? it=some (oJ (py (w.params.followText "set-order") t.place i) i es.length d a))(k:s.heap.get? a=some (mU es d t))(n:i<es.length) (o:(lA w a d es)[i]?=some e)(q:∀c,c.get? it=some (oJ (py (w.params.followText "set-order") t.place (i+1)) (i+1) es.length d a)->Heap.SameBut it s.heap c->Q (some e.2) {s with heap:=c}):wpAny (model P w) A (pyNext (.ref it)) Q E s:=by
 have ty:s.TypeIs (.ref it) "set_iterator":=#[_,b,rZ];have f:t.fits es.toArray.size=true:=by rw[iK];exact j.fits
 unfold pyNext;refine gH (qd (rP (name:=Str.ofString "__next__") ty io (m7 io ty zC ?_ (A9 _))));unfold oJ at b;unfold Builtin.«set_iterator.__next__»;refine gH (m:=slotArgs _ _ _) (gK ?_);refine gH (tp b rZ ?_);show wpAny _ _ (setEntries a >>= _) _ _ _;unfold setEntries;refine gH (gH (oE k rZ f (gK ?_)));have p:((((es.toArray.size:Nat):Int) != ((es.length:Nat):Int)))=false:=by simp
 show wpAny _ _ (if((((es.toArray.size:Nat):Int) != ((es.length:Nat):Int)))=true then _ else _) _ _ _;rw[p,wA (by decide)];show wpAny _ _ (setNext a ((py (w.params.followText "set-order") t.place i:Nat):Int).toNat ((i:Nat):Int).toNat ((d:Nat):Int).toNat >>= _) _ _ _;simp only[Int.toNat_natCast];refine gH (HG k j (ng n) ?_);rw[o];show wpAny _ _ (setField (.ref it) 0 (rawInt _) >>= _) _ _ _;refine gH (oS b (by simp) λx r g=>?_);refine gH (oS r (by simp) λu v h=>?_);exact gK #[_,rZ,gK (q u v (g.trans h))]
def HV{s:Sh}{Q:Option Vl->Sh->Prop}(k:A.handled=none)(h:TabG t es.length (!w.params.followText "set-order"))(c:s.heap.get? it=some (oJ (py (w.params.followText "set-order") t.place es.length) es.length es.length d a))(i:s.heap.get? a=some (mU es d t))(q:∀j,Heap.ExtBut it s.heap j->Q none {s with heap:=j}):wpAny (model P w) A (pyNext (.ref it)) Q E s:=by
 have ty:s.TypeIs (.ref it) "set_iterator":=#[_,c,rZ];have f:t.fits es.toArray.size=true:=by rw[iK];exact h.fits
 have l:(lA w a d es)[es.length]?=none:=ot (by rw[(vW w a d es).length_eq];exact gS _);unfold pyNext;refine gH (qd (rP (name:=Str.ofString "__next__") ty io (m7 io ty zC ?_ (A9 _))));unfold oJ at c;unfold Builtin.«set_iterator.__next__»;refine gH (m:=slotArgs _ _ _) (gK ?_);refine gH (tp c rZ ?_);show wpAny _ _ (setEntries a >>= _) _ _ _;unfold setEntries;refine gH (gH (oE i rZ f (gK ?_)));have n:((((es.toArray.size:Nat):Int) != ((es.length:Nat):Int)))=false:=by simp
 show wpAny _ _ (if((((es.toArray.size:Nat):Int) != ((es.length:Nat):Int)))=true then _ else _) _ _ _;rw[n,wA (by decide)];show wpAny _ _ (setNext a ((py (w.params.followText "set-order") t.place es.length:Nat):Int).toNat ((es.length:Nat):Int).toNat ((d:Nat):Int).toNat >>= _) _ _ _;simp only[Int.toNat_natCast];refine gH (HG i h (gS _) ?_);rw[l];show wpAny _ _ (setField (.ref it) 2 .none >>= _) _ _ _;refine gH (oS c (by simp) λr u g=>?_);refine gH (m:=newExc _ _) ?_;simp only[newExc,newTuple];refine gH (pq ?_ (by size_fits));refine gH (m:=firstArgMember _ _) (vN (a:=Value.none) (by first|rfl|(unfold firstArgMember;rfl)) (wpAny_newObj_type ?_ (by size_fits)));refine xZ (by simpa using k) (wpAny_bind (wpAny_isInstance (T:="StopIteration") (b:=true) #[_,Heap.get?_push_size _ rZ,rZ] isSubtype_stop (wpAny_pure ?_)));exact q _ λb o p e=>ig _ (ig _ (g.extBut b o p e))
def Kf(n:A.handled=none)(c:a≠it)(j:TabG t es.length (!w.params.followText "set-order")):Walks P w A it [it,a] [it] es.length (λi v=>∃e,(lA w a d es)[i]?=some e/\v=e.2) (λi h=>h.get? it=some (oJ (py (w.params.followText "set-order") t.place i) i es.length d a)/\h.get? a=some (mU es d t)) where
 sub:=λb p=>iu.mpr (.inl (h9.mp p))
 frame:=λi h f st k=>#[k it (iO ..) _ st.1,k a (ja _ (h9.mpr rZ)) _ st.2]
 item:=λi s Q E r st q=>by
  have l1:(lA w a d es).length=es.length:=by rw[(vW w a d es).length_eq]
  obtain⟨e,l⟩:∃e,(lA w a d es)[i]?=some e:=#[_,gN ()];refine Nb c j st.1 st.2 r l λf u m=>q e.2 f s.toks #[e,l,rZ] #[u,m.extBut _ _ c st.2] λb o g e=>m.extBut _ _ (λz=>g (h9.mpr z)) e
 done:=λs Q E st q=>HV n j st.1 st.2 λf x=>q f s.toks λb o g e=>x b o (λz=>g (h9.mpr z)) e
 self:=λi s Q E st q=>by
  have ty:s.TypeIs (.ref it) "set_iterator":=#[_,st.1,rZ];refine t9 ty zv (m7 zv ty GR ?_ (EK _));exact show wpAny _ _ (ret (.ref it)) _ _ s from gK #[_,rZ,"set_iterator",_,ty,io.lookup,q]
def xu{s:Sh}{Q:VP}(e:TabG t es.length (!w.params.followText "set-order"))(c:s.heap.get? a=some (mU es d t))(q:Q (.ref s.heap.objs.size) {s with heap:=s.heap.push (oJ 0 0 es.length d a)}):wpAny (model P w) A (pyIter (.ref a)) Q E s:=by
 have ty:s.TypeIs (.ref a) "set":=#[_,c,rZ];have b:t.fits es.toArray.size=true:=by rw[iK];exact e.fits
 refine t9 ty AG (m7 AG ty GW ?_ (F.args_set_iter_1 _));unfold Builtin.«frozenset.__iter__»;refine gH (m:=Builtin.Frozenset.slot0 _ _) (gK ?_);unfold Builtin.Frozenset.sizeOf setEntries;refine gH (gH (gH (oE c rZ b (gK (gK ?_)))));unfold setDrawn setsByText;refine gH (gH (oE c rZ b (gH (gH (se (gK (gK ?_)))))));have f:(!w.params.followText "set-order"&&(!t.plain&&decide (es.toArray.size>1)))=false:=by rw[e.plain];simp
 show wpAny _ _ (if(!w.params.followText "set-order"&&(!t.plain&&decide (es.toArray.size>1)))=true then _ else _) _ _ _;rw[f,wA (by decide)];refine gH (gK (gH (wpAny_setEpoch_of c rZ b ?_)));refine gH (m:=newFields _ _) ?_;unfold newFields;refine pq ?_ (by size_fits);exact gK #[_,rZ,"set_iterator",_,#[_,i4 _ rZ,rZ],io.lookup,q]
def Co(b:TabG t es.length (!w.params.followText "set-order")):PySem.W.KdlSrc P w "set" a a es.length (λi v=>∃e,(lA w a d es)[i]?=some e/\v=e.2) (λh=>h.get? a=some (mU es d t)) where
 type:=λ_ e=>#[_,e,rZ]
 there:=λ_ e=>#[hV e,hV e]
 keep:=λ_ _ e k=>k a (.inl rZ) _ e
 notList:=by decide
 notTuple:=by decide
 hint:=λ_ _ _ _ e q=>FR #[_,e,rZ] q
 iter:=λ_ _ c e=>#[_,_,λ_ _ q=>xu b e q,Kf c (iW (hV e)) b,i4 _ rZ,ig _ e]
theorem GS:∀{a:List (Int×Vl)},(∀e∈a,xG e)->IntsAre (a.map (·.2)) (a.map qq)
 | [],_=> .nil
 |e::a,h=>by
  obtain⟨k,t,rfl⟩:=h e (iO ..);rw[kz,kz];exact .cons k t (GS λx b=>h x (ja _ b))
def Mc{s:Sh}{d:Vs}{c:Zs}(k:IntsAre d c)(m:2<=d.length):AL P w A d (λi j=>decide (c.getD i 0<c.getD j 0)) s:=by
 unfold AL;obtain⟨g,h,rest,rfl⟩:∃g h rest,d=g::h::rest:=by
  cases d with
  |nil=>exact wC m (Nat.not_succ_le_zero 1)
  |cons a r=>cases r with
   |nil=>exact wC m (Nat.not_succ_le_self 1)
   |cons b r=>exact#[a,b,r,rZ]
 rw[keyKind_ints k];refine gK #[rZ,λi j C n o q=>?_];have f:∀{i:Nat},i<(g::h::rest).length->∃l,(g::h::rest).getD i Value.none=.int (c.getD i 0) l:=λ{i} y=>by
  have z:=k.length;obtain⟨u,p,l,e⟩:=(wF k).get (i:=i) (x:=V.int (c.getD i 0)) (by rw[hA,gN (show i<c.length by lia),iD,gN (show i<c.length by lia)];rfl);subst e;exact#[l,by rw[iD,p];rfl]
 obtain⟨B,t⟩:=f n;obtain⟨D,v⟩:=f o;show wpAny (model P w) A (keyLt' _ _ _) C _ s;rw[t,v,keyLt'_oneType];exact oneLt_int q
theorem ES:∀{d:Vs} {f:Zs},IntsAre d f->f.Nodup->d.Nodup
 |_,_,.nil,_=> .nil
 |_,_,.cons n t h,g=>by
  obtain⟨a,b⟩:=nc.mp g;refine nc.mpr #[λz=>a ?_,ES h b];obtain⟨i,c⟩:=jk.mp z;have k:=h.length;obtain⟨u,j,l,e⟩:=(wF h).get (i:=i) (x:=V.int (_:Int)) (by rw[hA,gN (show i<_ by have:=(gV.mp c).1;lia)];rfl);rw[j]at c;subst e;injection c with c
  injection c with c
  rw[<-c];exact oU _
def NA{b:Vs}{a:Zs}(c:IntsAre b a){p:Array Nat}(f:Arr a.length p):IntsAre (lM b p) (p.toList.map λi=>a.getD i 0):=by
 have r:=c.length;have all:∀l:f',(∀i∈l,i<a.length)->IntsAre (l.map λi=>b.getD i Value.none) (l.map λi=>a.getD i 0):=λl=>by
  induction l with
  |nil=>intro _;exact .nil
  |cons i l g=>
   intro h;have d:=h i (iO ..);obtain⟨u,k,n,e⟩:=(wF c).get (i:=i) (x:=V.int (a.getD i 0)) (by rw[hA,gN d,iD,gN d];rfl);subst e;rw[kz,kz,show b.getD i Value.none=.int (a.getD i 0) n by rw[iD,k];rfl];exact .cons _ _ (g λj o=>h j (ja _ o))
 refine all _ λi q=>?_;have m:=(pB.mp f).mem_iff.mp q;simpa using m
def Nz{a:Zs}{p:Array Nat}(d:Arr a.length p)(up:rn (λi=>a.getD i 0) p a.length):(p.toList.map λi=>a.getD i 0).Pairwise (· < ·):=by
 rw[uv,pc];intro i j b c lt;have sz:=d.size;rw[iH]at b c;have z:=up i j lt ();simp only[Array.getD,b,c,dif_pos]at z;simpa using z
def Md{s:Sh}{g:Zs}{Q:VP}(hh:A.handled=none)(hS:IsSetG s.heap a (!w.params.followText "set-order") g)(few:g.length<=4000)(q:∀(r v:Heap) G B L n,IntsAre B L->L.Perm g->L.Pairwise (· < ·)->(∀b o,s.heap.get? b=some o->r.get? b=some o)->(∀b o,r.get? b=some o->v.get? b=some o)->v.get? r.objs.size=some {cls:= .type "list",data:= .seq B.toArray n}->Q (.ref r.objs.size) {s with heap:=v,toks:=G}):
  wpAny (model P w) A (call (.builtin "sorted") [.ref a]) Q E s:=by
 obtain⟨es,d,t,eS,en,N,tb,nf,nd⟩:=hS;have ln:es.length=g.length:=by rw[<-N.length_eq,gL]
 have f:=vW w a d es;refine Dm kind_sorted plain_sorted entry_sorted (args_sorted1 _) ?_;unfold Builtin.«sorted»;refine gH (m:=checkCount "sorted" 1 1 _) (gK ?_);refine gH (PySem.W.kdu_collect (A:=A.in1) (Co tb) (by simpa using hh) eS (by rw[sizeLine_eq];lia) λr G ac keep C=>?_);have h:ac.toList=(lA w a d es).map (·.2):=by
  refine x6 (by rw[iH,C.1,gL,f.length_eq]) λi x y hx O=>?_;obtain⟨e,e1,e2⟩:=C.2 i x (by rw[<-mv];exact hx);rw[hA,e1]at O;cases O;exact e2
 have l:IntsAre ac.toList ((lA w a d es).map qq):=by
  rw[h];exact GS λe he=>en e (f.mem_iff.mp he)
 have T:ac.toList.length=es.length:=by rw[h,gL,f.length_eq]
 have H:((lA w a d es).map qq).Perm g:=(f.map qq).trans N;generalize(lA w a d es).map qq=u at l H;have nl:u.length=g.length:=H.length_eq;have D:u.Nodup:=H.nodup_iff.mpr nd;generalize ac.toList=I at l T;refine gH (wm ?_ (by rw[T,iv];lia));have U:(r.push (seqObj "list" I.toArray 0)).get? r.objs.size=some (seqObj "list" I.toArray 0):=i4 _ rfl;have vn:I.length=u.length:=by lia
 refine gH (lq (m7 slot_list_sort #[_,U,rZ] Dl (K' (s:={s with heap:=r.push (seqObj "list" I.toArray 0),toks:=G}) (k:=λi=>u.getD i 0) U () (ES l D) (λi j hi hj e=>?_) (λv Y M=>Mc l M) λp v c J up e Y=>#[_,rfl,?_]) (args_list_sort _)))
 .rw[iD,iD,gN (show i<u.length by lia),gN (show j<u.length by lia)]at e;exact(CP D).mp e
 .rw[vn]at J up;refine gK #[_,rZ,q r v G _ _ c (NA l J) (.trans ?_ H) (Nz J up) keep (λb o z=>Y b o (iW (hV z)) (ig _ z)) e];have z:=(pB.mp J).map λi=>u.getD i 0;refine z.trans (List.Perm.of_eq ?_);refine vt (by simp) λi r M=>?_;simp[show i<u.length from M]
end
section
variable{X:Cx}
def Ap(w:World)(a:Ad)(b:Zs):HO:= .ext λh=>IsSetG h a (!w.params.followText "set-order") b
def IsSetG.ok{w:World}{h:Heap}{a:Ad}{b:Zs}{P:Pg}{f:World}{H:Hp}(x:IsSetG h a (!w.params.followText "set-order") b):ObjOk P f H h a (Ap w a b):=by
 obtain⟨j,l,t,e,r⟩:=id x;exact#[x,#[_,e],λm n ⟨c,d,t',g,i⟩ k=>#[c,d,t',k _ g,i]]
inductive ss(K:N2)(w:World)(c:List V)(H:Hp)(Q:VK):Prop|mk:∀(p:Ad) (b:Zs),c=[.ref p]->SqL K H p (b.map V.int)->b.length<=4000->(∀a,H a=none->Q (.ref a) (gI H a (Ap w a (qW b))))->ss K w c H Q
def JP(a:X.calm=true):mE X (.type "set") (ss X.K X.w):=by
 intro Z s b H l m Q I r h;obtain⟨p,n,rfl,c,few,q⟩:=h;obtain⟨u,rfl,d⟩:=mi r;cases d;obtain⟨e,f,g,_⟩:=I.list c;refine K1 (I.ok.hd a) g.isList f few λi j z keep=>?_;have k:Inv X Z b H {s with heap:=i,toks:=j}:=I.kept keep;exact#[.ref s.heap.objs.size,_,Inv.trackNew I k z.ok,rZ,q _ I.fresh]
inductive pF(w:World)(d:List V)(H:Hp)(Q:VK):Prop|mk:∀(a:Ad) (b:Zs),d=[.ref a]->H a=some (Ap w a b)->b.length<=4000->(∀(l:Ad) (c:Zs),H l=none->c.Perm b->c.Pairwise (· < ·)->Q (.ref l) (gI H l (.lst (c.map V.int))))->pF w d H Q
def K9(l:X.calm=true):mE X (.builtin "sorted") (pF X.w):=by
 intro Z s g H x y Q I r h;obtain⟨a,m,rfl,o,few,q⟩:=h;obtain⟨u,rfl,p⟩:=mi r;cases p;obtain⟨z,_,_⟩:=I.hok a _ o;refine Md (I.ok.hd l) z few λb i j c d n t k v k1 k2 e=>?_;have f:Inv X Z g H {s with heap:=b,toks:=j}:=I.kept k1;have w:Inv X Z g H {s with heap:=i,toks:=j}:=f.kept k2;have A:=k.length_eq;have ok:ObjOk X.prog X.w (gI H b.objs.size (.lst (d.map V.int))) i b.objs.size (.lst (d.map V.int)):=#[by rw[gL,iv];lia,c,n,wF t,e];exact#[.ref b.objs.size,_,Inv.trackNew f w ok,rZ,q _ d f.fresh k v]
def Ky{a:Zs}{x y:Int}:y∈nQ a x↔y∈a\/y=x:=by
 unfold nQ;split
 .exact#[.inl,λz=>z.elim id λe=>by rw[e];assumption]
 .rw[iC,h9]
def KA{b:Zs}{y:Int}:y∈qW b↔y∈b:=by
 have all:∀(b a:Zs),y∈b.foldl nQ a↔y∈a\/y∈b:=λb=>by
  induction b with
  |nil=>intro a;simp
  |cons x b c=>
   intro a;rw[pY,c,Ky,iu,or_assoc]
 rw[qW,all];simp
def KO(b:Zs):(qW b).length<=b.length:=by
 have all:∀(b a:Zs),(b.foldl nQ a).length<=a.length+b.length:=λb=>by
  induction b with
  |nil=>intro a;simp
  | cons x b c=>
   intro a;rw[pY,nq];refine iP (c _) ?_;unfold nQ;split
   .lia
   .rw[jc];show a.length+1+_<=_;lia
 have z:=all b [];rw[zJ,qh]at z;exact z
end
inductive mF(P:f'->Prop)(g:f'->Int)(c:List V)(H:Hp)(Q:VK)(b:XK):Prop|mk:∀(a:Ad) (t:f'),c=[.ref a]->H a=some (.tup (t.map nv))->P t->(∀d,Same H d->Q (.int (g t)) d)->mF P g c H Q b
def su(g:f'->Int)(a:Option (Ad×f'))(x:Ad×f'):Option (Ad×f'):=match a with
 |none=>some x
 |some y=>if g x.2<g y.2 then some x else some y
def Du(g:f'->Int)(a:Tok):Option (Ad×f')->Array Vl
 |none=> #v[]
 |some y=> #v[.ref y.1,.int (g y.2) a]
section
variable{X:Cx}{Z:AO}{m:St}{B:Nat}{f:Ad}{D:Fd}{C:Ss}{g:f'->Int}{P:f'->Prop}
def KG{c:Sp}{H:Hp}{s:Sh}{Q:VK}{us:Vs}{vs:List V}(F:FnOk X.prog X.w X.K X.mg X.base im B f D C c)(d:Room B X.A.in1)(g:Binds X.K D C [])(I:Inv X Z m H s)(r:Vals vs us)(h:c vs H Q E0):
  wpAny (model X.prog X.w) X.A.in1 (call (.ref f) us) (EP X Z m Q) (λ_ _=>False) s:=by
 have i:(us++[]).length=C.length:=by rw[mW,<-r.length];exact F.len _ _ _ _ h
 have b:=g s us I.kIn i;rw[mW]at b;refine pS (nG (F.run X.A.in1 X.stack s H #[us,[]] us vs Q E0 d I.env0.in1 b r h) λr k a=>?_);cases r with
 |error e=>exact a.elim
 |ok j=>
  cases j with
  |ret u=>exact I.after a
  |next=>exact wE a
  |brk=>exact wE a
  |cont=>exact wE a
theorem CC{I S l:Ad}{as:As}{R:Result->Sh->Prop}(F:FnOk X.prog X.w X.K X.mg X.base im B f D C (mF P g))(hr:Room B X.A.in1)(hb:Binds X.K D C [])(hh:X.A.handled=none)(ne:S≠I):
  ∀(r:As) (E:LN) (i:Nat) (H:Hp) (G:Option (Ad×f')) (N:Tok) (c:Nat) (s:Sh),as.drop i=r->Inv X Z m H s->s.heap.IsListIter I l i->SqL X.K H l (as.map V.ref)->TupsAt H r E->(∀t∈E,P t)->
   s.heap.get? S=some (seqObj "list" (Du g N G) c)->FpOk X Z H S->FpOk X Z H I->(G=none->r≠[])->
   (∀H2 s2 b u,Inv X Z m H2 s2->Same H H2->(r.zip E).foldl (su g) G=some (b,u)->R (.ok (.ret (.ref b))) s2)->
   codeAny (model X.prog X.w) X.A (.builtin "min.loop" #[[.ref I,.ref f,.ref S],[]]) R s
 | [],E,i,H,G,N,c,s,hd,J,M,hl,T,hP,eS,O,U,d,q=>by
  obtain⟨ab,rv,pl,_⟩:=J.list hl;have ei:=AK rv;subst ei;cases G with
  |none=>exact wC rZ (d rZ)
  |some y=>
   refine n6 PySem.F.entry_min_loop ?_;rw[pC vV _];show wpAny _ X.A.in1 (seqItems? (.ref S) >>= _) _ _ s
   refine gH (wpAny_seqItems eS rZ ?_);show wpAny _ X.A.in1 (tryCatch (pyNext (.ref I)) _ >>= _) _ _ s
   refine gH (zz (zm (by simpa using hh) M pl.isList (by have:=List.drop_eq_nil_iff.mp hd;simpa using this) λh' keep=>?_));have ae:=keep S _ ne eS;show wpAny _ X.A.in1 (updateSeq S (λ_=> #v[]) >>= _) _ _ _
   refine gH (vF ae rZ (gH (u9 (gK ?_))) (hz:=(show 2<=sizeLine by rw[iv];decide)));obtain⟨w0,w1,w2,w3,w4,w5⟩:=O;obtain⟨v0,v1,v2,v3,v4,v5⟩:=U;have J1:Inv X Z m H {s with heap:=h'}:=J.turned (t':=s.toks) keep v0 v1 v3 v4 v5;have J2:Inv X Z m H {s with heap:=h'.update S (Obj.mapSeq λ_=>(#v[]:AV))}:=J1.turned (t':=s.toks) (λb o nb e=>(mM _ _ (jd nb)).trans e) w0 w1 w3 w4 w5;exact q H _ y.1 y.2 J2 (Same.refl _) (by rw[List.zip_nil_left];rfl)
 |a::r,[],i,H,G,N,c,s,hd,J,M,hl,T,hP,eS,O,U,d,q=>by have:=T.len;simp at this
 | a::r,t::E,i,H,G,N,c,s,hd,J,M,hl,T,hP,eS,O,U,d,q=>by
  obtain⟨ab,rv,pl,_⟩:=J.list hl;have ei:=AK rv;subst ei;have af:as[i]?=some a:=by rw[<-zO,hd];rfl
  have next:as.drop (i+1)=r:=by rw[<-zk,hd];rfl
  have ha:H a=some (.tup (t.map nv)):=T.is 0 a t rZ rfl;have p:(toString "min"++toString ".loop":String)="min.loop":=by decide
  refine n6 PySem.F.entry_min_loop ?_;rw[pC vV _];show wpAny _ X.A.in1 (seqItems? (.ref S) >>= _) _ _ s;refine gH (wpAny_seqItems eS rZ ?_);show wpAny _ X.A.in1 (tryCatch (pyNext (.ref I)) _ >>= _) _ _ s;refine gH (zz (zK M pl.isList (x:= .ref a) (by simpa using af) λh1 oM aa=>?_));obtain⟨w0,w1,w2,w3,w4,w5⟩:=id O;obtain⟨v0,v1,v2,v3,v4,v5⟩:=id U;have J1:Inv X Z m H {s with heap:=h1}:=J.turned (t':=s.toks) aa.extBut v0 v1 v3 v4 v5;have ag:h1.get? S=some (seqObj "list" (Du g N G) c):=aa.extBut _ _ ne eS;obtain⟨oI,eI,cI,dI⟩:=id oM;have Jp:=J1.pin2 O U ag eI (λ_ z=>nomatch z) (λv z=>by rw[dI]at z;cases z);have go:=KG (Q:=λv Y=>v=.int (g t)/\Same H Y) F hr hb Jp (us:=[.ref a]) (vs:=[.ref a]) (.cons rZ .nil) #[a,t,rZ,ha,hP t (iO ..),λY gg=>#[rZ,gg]];show wpAny _ X.A.in1 (tryCatch (holding [Value.ref a] (call (.ref f) [Value.ref a])) _ >>= _) _ _ _;refine gH (zz (lq (kS go (λk s2 hk=>?_) λ_ _ z=>z.elim)));obtain⟨v,Y,I',ah,rfl,gg⟩:=hk;obtain⟨L,rfl⟩:=ah;obtain⟨p1,p2,p3,p4,_⟩:=I'.pin (S,_) (j6 _ (iO ..));obtain⟨d1,d2,d3,d4,_⟩:=I'.pin (I,_) (j6 _ (ja _ (iO ..)));have I2:=I'.unpin2;have T':TupsAt Y r E:=#[by simpa using T.len,λj b u e1 e2=>gg _ _ (T.is (j+1) b u (by simpa using e1) (by simpa using e2))];have put:(r.zip E).foldl (su g) (some (a,t))=((a::r).zip (t::E)).foldl (su g) G->codeAny (model X.prog X.w) X.A (.builtin "min.loop" #[[.ref I,.ref f,.ref S],[]]) R {s2 with heap:=s2.heap.update S (Obj.mapSeq λ_=> #v[.ref a,.int (g t) L])}:=λef=>by
   obtain⟨c',ai⟩:∃c',(s2.heap.update S (Obj.mapSeq λ_=> #v[.ref a,.int (g t) L])).get? S=some (seqObj "list" (Du g L (some (a,t))) c'):=#[_,v6 p1 λ_=> #v[.ref a,.int (g t) L]];have I3:Inv X Z m Y {s2 with heap:=s2.heap.update S (Obj.mapSeq λ_=> #v[.ref a,.int (g t) L])}:=I2.turned (t':=s2.toks) (λb o nb e=>(mM _ _ (jd nb)).trans e) p2 w1 w3 w4 w5;refine CC F hr hb hh ne r E (i+1) Y (some (a,t)) L c' _ next I3 #[oI,(mM _ _ ne).trans d1,cI,dI] (gg.seq hl) T' (λu hu=>hP u (ja _ hu)) ai (O.to p2) (U.to d2) (λz=>nomatch z) λH2 s3 b u I4 g4 e4=>?_
   exact q H2 s3 b u I4 (gg.trans g4) (by rw[<-ef];exact e4)
  cases G with
  |none=>
   show wpAny _ X.A.in1 (updateSeq S (λ_=> #v[Value.ref a,Value.int (g t) L]) >>= _) _ _ _;refine gH (vF p1 rZ ?_ (hz:=lV _));rw[p];exact gK #[pb vV _,put rZ]
  | some y=>
   show wpAny _ X.A.in1 (tryCatch (holding [Value.ref a,Value.int (g t) L] (richCompare .Lt (.int (g t) L) (.int (g y.2) N) >>= _)) _ >>= _) _ _ _;refine gH (zz (lq (gH (CmpOf.ints_lt (prog:=X.prog) (w:=X.w) (A:=X.A.in1) (P:=λn v=>∃t',v=.int (if n=0 then g t else g y.2) t') (λn=>if n=0 then g t else g y.2) (λ_ _ h=>h) 0 1 _ _ _ _ _ #[L,rZ] #[N,rZ] ?_))));refine gH (lq (tq ?_));refine gH (u9 (gK ?_));show wpAny _ X.A.in1 (if decide (g t<g y.2)=true then _ else _) _ _ _
   by_cases lt:g t<g y.2
   .rw[iG lt,wB rZ];refine gH (vF p1 rZ (gH (u9 ?_)) (hz:=(show 2<=sizeLine by rw[iv];decide)));rw[p];exact gK #[pb vV _,put (by rw[CV,pY];show _=(r.zip E).foldl (su g) (if g t<g y.2 then _ else _);rw[wB lt])]
   .rw[jy lt,wA (by decide)];refine gH (u9 ?_);rw[p];refine gK #[pb vV _,CC F hr hb hh ne r E (i+1) Y (some y) N c _ next I2 #[oI,d1,cI,dI] (gg.seq hl) T' (λu hu=>hP u (ja _ hu)) p1 (O.to p2) (U.to d2) (λz=>nomatch z) λH2 s3 b u I4 g4 e4=>?_];exact q H2 s3 b u I4 (gg.trans g4) (by rw[CV,pY];show(r.zip E).foldl (su g) (if g t<g y.2 then _ else _)=_;rw[wA lt];exact e4)
inductive oo(K:N2)(P:f'->Prop)(g:f'->Int)(d:List V)(H:Hp)(Q:VK):Prop|mk:∀(l:Ad) (a:As) (c:LN),d=[V.ref l]->SqL K H l (a.map V.ref)->TupsAt H a c->(∀t∈c,P t)->a≠[]->(∀b u e,Same H e->(a.zip c).foldl (su g) none=some (b,u)->Q (.ref b) e)->oo K P g d H Q
def Lm{H:Hp}{s:Sh}{Q:VK}{l:Ad}(F:FnOk X.prog X.w X.K X.mg X.base im B f D C (mF P g))(k:Room B X.A.in1)(n:Binds X.K D C [])(p:X.A.handled=none)(J:Inv X Z m H s)(h:oo X.K P g [.ref l] H Q):
  wpAny (model X.prog X.w) X.A (call (.builtin "min") [.ref l] [(Str.ofString "key",.ref f)]) (EP X Z m Q) X.xe s:=by
 obtain⟨U,r,t,v,i,T,w,x,q⟩:=h;cases v;obtain⟨y,z,A,_⟩:=J.list i;have E:=AK z;subst E;have a:(toString "min"++toString ".loop":String)="min.loop":=by decide
 refine kmk_tree PySem.F.kind_min PySem.F.plain_min PySem.F.entry_min (kmk_min_key _ _) ?_;show wpAny _ X.A.in1 (Builtin.Builtins.bindParams "min" ["key","default"] 0 #[[],[(Str.ofString "key",.ref f)]] >>= _) _ _ s;refine gH (vN (show Builtin.Builtins.bindParams "min" ["key","default"] 0 #[[],[(Str.ofString "key",.ref f)]]=pure [some (.ref f),none]from rfl) (gH (gK ?_)));refine gH (w6 A.isList (gH (wm ?_ (lV _))));rw[a];refine gK #[pb vV _,?_];generalize d:({cls:= .type "list_iterator",data:= .fields #v[.ref l,.int 0 0]}:Obj)=c;have sz:(s.heap.push c).objs.size=s.heap.objs.size+1:=size_push' ..;have G:Inv X Z m H {s with heap:=(s.heap.push c).push (seqObj "list" #v[] 0)}:=J.kept (t':=s.toks) λb o e=>xC e _ _;have I:FpOk X Z H s.heap.objs.size:=J.fpOk (gS _) (J.hok.fresh (gS _));have L:FpOk X Z H (s.heap.push c).objs.size:=J.fpOk (by rw[sz];exact vv _) (J.hok.fresh (by rw[sz];exact vv _));refine CC F k n p (by rw[sz];exact pp (pT _)) r t 0 H none 0 0 _ rZ G #[c,ig _ (i4 _ (by rw[<-d];rfl)),by rw[<-d],by rw[<-d];rfl] i T w (i4 _ rZ) L I (λ_=>x) λj Y b u M N O=>?_;exact#[.ref b,j,M,rZ,q b u j N O]
def xP(K:N2)(P:f'->Prop)(g:f'->Int)(a:TE):TE:=λm H Q=>a m H λx b=>∃d,x=.ref d/\oo K P g [.ref d] b Q
def Kv{b:Str}{e:Expr}{c:TE}{p v w a:Pos}(y:hZ X.prog X.w X.K X.mg X.base b B C (mF P g))(z:Room (B+1) X.A)(A:X.calm=true)(E:Gl X "min")(G:X.mg "min"=none)(i:Gl X b)(J:PE X e c)(j:(b==("__debug__":Str))=false:=by decide) (k:starEach [e] X.env=[(false,eval e X.env)]:=by rfl):PE X (.Call (.Name "min" p) [e] [#[some "key",.Name b v,w]] a) (xP X.K P g c):=by
 intro Z s m H Q I h;obtain⟨f,D,F,l,O,L⟩:=y;refine q0 (yF I E G PyProof.Rows.Boot.«min» ?_);refine callWith_kw ?_ (by rw[k];rfl) (by rw[k];rfl);have M:PA X [e] (nA c oA):=g9 J gX k;refine gY (M a Z s m H (λn t=>match n with| [x]=>∃d,x=.ref d/\oo X.K P g [.ref d] t Q|_=>False) I h) λT U ⟨n,t,o,r,q⟩=>?_
 match n,r,q with
 | [x],r,q=>
  obtain⟨d,rfl,q⟩:=q;obtain⟨u,rfl,N⟩:=mi r;cases N;refine kws_cons (uZ o i l (kws_nil ?_) j);exact Lm F z.in1 L (o.ok.hd A) o q
end
end L2
namespace My
open PySem L2 PyProof.Rows
abbrev sA:Str:="machine"
abbrev sB:Str:="sets_reached.<locals>.<lambda>"
abbrev sC:Str:="rooms"
abbrev sD:Str:="_law_script"
abbrev sF:Str:="_law_turn_here"
abbrev sG:Str:="most"
abbrev sH:Str:="words"
abbrev sJ:Str:="_law_machine_here"
abbrev sK:Str:="_law_other"
abbrev sL:Str:="sets_reached"
abbrev sM:Str:="turn"
abbrev sN:Str:="other"
abbrev sO:Str:="levels_in_order"
abbrev sP:Str:="sets"
abbrev sQ:Str:="_law_some"
abbrev sS:Str:="all_turns"
abbrev sT:Str:="_law_behind"
abbrev sU:Str:="sets_of_levels"
abbrev sV:Str:="own_turns"
abbrev sW:Str:="_law_one"
abbrev sX:Str:="_law_known"
abbrev sY:Str:="words_between"
abbrev sZ:Str:="is_own_double"
abbrev tE:Str:="_law_is_group"
abbrev tG:Str:="waiting"
abbrev tH:Str:="_law_cell_at"
abbrev tI:Str:="_law_machine"
abbrev tJ:Str:="_law_cell"
abbrev tK:Str:="reached"
abbrev tL:Str:="refuse_more"
abbrev tM:Str:="_law_undone"
abbrev tN:Str:="word"
abbrev tO:Str:="keepers"
abbrev tQ:Str:="_law_amid"
abbrev tR:Str:="_law_rooms"
abbrev tS:Str:="_law_cells"
abbrev tT:Str:="behind"
abbrev tV:Str:="is_covered"
abbrev tW:Str:="alike_sets"
abbrev tX:Str:="room_count"
abbrev tY:Str:="still_like"
abbrev tZ:Str:="carried"
abbrev uA:Str:="_law_k"
abbrev uB:Str:="_law_face"
abbrev uC:Str:="_law_turn"
abbrev uD:Str:="is_led_to"
abbrev uE:Str:="all_turns.<locals>.<lambda>"
abbrev uF:Str:="one"
abbrev uG:Str:="lies_in"
abbrev uH:Str:="letter"
abbrev uI:Str:="place_of"
abbrev uJ:Str:="in_order"
abbrev uK:Str:="pictures"
abbrev uL:Str:="_law_all"
abbrev uM:Str:="family"
abbrev uN:Str:="levels"
abbrev uO:Str:="still"
abbrev uP:Str:="level"
abbrev uQ:Str:="_law_numbers"
abbrev uR:Str:="tiles"
abbrev uS:Str:="keeps"
abbrev uT:Str:="_law_most"
abbrev uV:Str:="room"
abbrev uW:Str:="TooMany.__init__"
abbrev uX:Str:="_law_level"
def top(i:Nat):Stmt:=PySem.Challenge.pw_cascade_k64_whole_own_turns_are_a_group.main.body.getD i (.Pass #[0,0,0,0])
abbrev vR:Stmt:=top 4
abbrev rX:Stmt:=top 5
abbrev vY:Stmt:=top 7
abbrev uY:Stmt:=top 8
abbrev qa:Stmt:=top 10
abbrev xj:Stmt:=top 12
abbrev xa:Stmt:=top 14
abbrev wq:Stmt:=top 16
abbrev wg:Stmt:=top 17
abbrev um:Stmt:=top 18
abbrev ut:Stmt:=top 19
abbrev qj:Stmt:=top 20
abbrev vK:Stmt:=top 22
abbrev xq:Stmt:=top 23
abbrev u3:Stmt:=top 24
abbrev oQ:Stmt:=top 25
abbrev vL:Stmt:=top 27
abbrev rQ:Stmt:=top 28
abbrev u0:Stmt:=top 29
abbrev sw:Stmt:=top 30
abbrev xp:Stmt:=top 32
abbrev vB:Stmt:=top 33
abbrev xb:Stmt:=top 34
abbrev vl:Stmt:=top 35
abbrev tj:Stmt:=top 36
abbrev vf:Stmt:=top 37
abbrev wK:Stmt:=top 39
abbrev u8:Stmt:=top 40
abbrev vG:Stmt:=top 41
abbrev vg:Stmt:=top 42
abbrev wu:Stmt:=top 43
abbrev xc:Stmt:=top 44
abbrev rz:Stmt:=top 45
abbrev po:Stmt:=top 46
def Mu:Stmt->List Stmt
 | .ClassDef _ _ _ b _ _ _ _ _ _ _=>b
 |_=>[]
abbrev wn:Stmt:=(Mu (top 2)).getD 0 (.Pass #[0,0,0,0])
def IM:FnScope ["things",sG] ["things",sG] (gP vR):={}
def jD:FnScope ["start","letters","step",sG,sH,"wave","following","thing",uH,"found"] ["start","letters","step",sG] (gP rX):={}
def Kh:FnScope [sC] [sC] (gP vY):={}
def JT:FnScope [uF,sN] [uF,sN] (gP uY):={}
def kW:FnScope [sA,sG,"start",sH] [sA,sG] (gP qa):={}
def Jc:FnScope [sM] [sM] (gP xj):={}
def qQ:FnScope [sA,uV,tN,uH] [sA,uV,tN] (gP xa):={}
def Is:FnScope [sC] [sC] (gP wq):={}
def qB:FnScope [sP,"once",sC] [sP] (gP wg):={}
def Kw:FnScope [uF,sN] [uF,sN] (gP um):={}
def LF:FnScope [sA,sC,tN] [sA,sC,tN] (gP ut):={}
def J7:FnScope [sA,sC] [sA,sC] (gP qj):={}
def LL:FnScope [sM,sC] [sM,sC] (gP vK):={}
def Mw:FnScope [sM] [sM] (gP xq):={}
def Jh:FnScope [tO] [tO] (gP u3):={}
def kF:FnScope [sA,uP,sG,"turns",tO,"e"] [sA,uP,sG] (gP oQ):={}
def qF:FnScope [sA,sH] [sA] (gP vL):={}
def qM:FnScope [sA,"singles"] [sA] (gP rQ):={}
def J3:FnScope ["part",sP] ["part",sP] (gP u0):={}
def qO:FnScope [sA,sC,"within"] [sA,sC] (gP sw):={}
def jX:FnScope [sA,sH,sC] [sA] (gP xp):={}
def IK:FnScope [sH,sC] [sH,sC] (gP vB):={}
def jO:FnScope [sH,"found",sC,sP] [sH] (gP xb):={}
def JG:FnScope [sH,sP,tG] [sH,sP,tG] (gP vl):={}
def jM:FnScope [sH,tG,"told","free"] [sH,tG] (gP tj):={}
def kB:FnScope [sA,sH,"told",sP,"face","ways"] [sA] (gP vf):={}
def Jz:FnScope [sD,uA] [sD,uA] (gP wK):={}
def jN:FnScope [tJ,tR,"_law_number",sF,uA,sK] [tJ,tR] (gP u8):={}
def kG:FnScope [sD,tR,"_law_many"] [sD] (gP vG):={}
def JC:FnScope [sW,sK] [sW,sK] (gP vg):={}
def jP:FnScope [sJ,uT,"_law_found",sX,"_law_at",sF,"_law_word","_law_letter","_law_there"] [sJ,uT] (gP wu):={}
def jZ:FnScope [sF,tQ,sX,"_law_power",uA] [sF,tQ,sX] (gP xc):={}
def jF:FnScope [sQ,uB,tS,sX,sF,"_law_lone",tQ,tJ,sW,sK] [sQ,uB,tS] (gP rz):={}
def qN:FnScope [sD,sJ,sQ,uX,uQ] [sD] (gP po):={}
def KW:FnScope ["self",sG] ["self",sG] (gP wn):={}
inductive mQ(K:N2)(c:List V)(H:Hp)(Q:VK)(b:XK):Prop|mk:∀(a:Ad) (d:Zs) (k:Int),c=[.ref a,.int k]->0<=k->SqL K H a (d.map V.int)->Q (.int (d.getD k.toNat 0)) H->mQ K c H Q b
variable{P:Pg}{w:World}{K:N2}{mg:SV}{base:Heap}{f:Ad}{fd:Fd}
def Nl(F:Fun K tH tH wK f fd)(j:mg "len"=none):FnOk P w K mg base im 1 f fd [sD,uA] (mQ K):=by
 refine F.ok Jz (λl A d s H n Q E o h=>?_)
 obtain⟨a,b,k,rfl,p,i,q⟩:=h;refine#[_,(hJ (mA (ko AA (pv 1) (jv mO rZ j lW (g9 (pv 0) gX)) (jx _)) (hK (iT (jo ny (pv 0) (pv 1) (λ_ _=>rfl)))) mT) (hK (iT iI))),?_];refine#[_,rZ,_,rZ,a,_,rZ,.inl i,_,_,rZ,rZ,_,rZ,?_];have e:k=((k.toNat:Nat):Int):=by lia
 refine pz (λc=>?_) (λc=>?_)
 .have g:k<((b.map V.int).length:Nat):=lR c;rw[gL]at g;have m:k.toNat<b.length:=by lia
  refine#[_,rZ,_,rZ,a,_,_,.int (b.getD k.toNat 0),rZ,rZ,i,?_,q];rw[e];exact LI m
 .have g: ¬k<((b.map V.int).length:Nat):=λz=>c (iG z);rw[gL]at g;have:b.getD k.toNat 0=0:=by
   rw[iD,ot ()];rfl
  rw[this]at q;exact q
structure Mach(H:Hp)(m:Ad)(ts:LN)(n:Nat):Prop where
 refs:∃rs:As,H m=some (.tup (rs.map V.ref))/\rs.length=ts.length/\∀(i:Nat) r t,rs[i]?=some r->ts[i]?=some t->H r=some (.tup (t.map nv))
 some1:1<=ts.length
 few:ts.length<=4
 n1:1<=n
 n5:n<=5
 each:∀t∈ts,t.length=n/\∀x∈t,x<n
def Mach.same{H a:Hp}{m:Ad}{b:LN}{n:Nat}(M:Mach H m b n)(g:Same H a):Mach a m b n:=
 #[let⟨c,d,e,f⟩:=M.refs;#[c,g _ _ d,e,λi r t h j=>g _ _ (f i r t h j)],M.some1,M.few,M.n1,M.n5,M.each]
def Mach.at{H:Hp}{m:Ad}{ts:LN}{n:Nat}(M:Mach H m ts n){l:Nat}(b:l<ts.length):
  ∃(a:As) (r:Ad),H m=some (.tup (a.map V.ref))/\a.length=ts.length/\n9 (a.map V.ref) (l:Int)=some (.ref r)/\H r=some (.tup ((ts.getD l []).map nv))/\(ts.getD l []).length=n/\∀x∈ts.getD l [],x<n:=by
 obtain⟨a,d,f,g⟩:=M.refs;have c:l<a.length:=by lia
 have e:ts.getD l []=ts[l]:=by rw[iD,gN b];rfl
 rw[e];obtain⟨h,i⟩:=M.each ts[l] (oU b);exact#[a,a[l],d,f,pH (by rw[hA,gN c];rfl),g l _ _ (by simp[c]) (by simp[b]),h,i]
def qi(a:LN)(r:Nat)(word:f'):Nat:=word.foldl (λr l=>(a.getD l []).getD r 0) r
def L8(a:LN)(r:Nat)(word:f')(l:Nat):qi a r (word++[l])=(a.getD l []).getD (qi a r word) 0:=by
 unfold qi;rw[si];rfl
theorem xW{H:Hp}{m:Ad}{a:LN}{n:Nat}(M:Mach H m a n):∀(word:f') (r:Nat),r<n->(∀l∈word,l<a.length)->qi a r word<n
 | [],_,b,_=>b
 |l::word,r,b,h=>by
  obtain⟨_,_,_,_,_,_,e,c⟩:=M.at (h l (iO ..));exact xW M word _ (iS c ()) λx d=>h x (ja _ d)
def xA(c:Int)(n:Nat)(st:Int×f')(k:Nat):Int×f':=
 if c%5=0 then(st.1/ (n:Int),st.2.set k (st.1%(n:Int)).toNat)else if c%5<3 then(st.1/ ((k:Int)+1),(st.2.set k (st.2.getD (st.1%((k:Int)+1)).toNat 0)).set (st.1%((k:Int)+1)).toNat (st.2.getD k 0))else st
def pP(c:Int)(n i:Nat):Int×f':=(List.range i).foldl (xA c n) (c/5,List.range n)
def zo(c:Int)(n:Nat)(st:Int×f'):f':=if c%5=3 then st.2.set (st.1%(n:Int)).toNat (st.1/ (n:Int)%(n:Int)).toNat else st.2
def pM(c:Int)(n:Nat):f':=if c%5=4 then(List.range n).map λ(i:Nat)=>(((pP c n n).1%(n:Int)+(0+(i:Int)) * ((pP c n n).1/ (n:Int)%2))%(n:Int)).toNat else zo c n (pP c n n)
def DK(c:Int)(n i:Nat):pP c n (i+1)=xA c n (pP c n i) i:=by
 unfold pP;rw[w9,si];rfl
inductive oi(d:List V)(H:Hp)(Q:VK)(a:XK):Prop|mk:∀(c:Int) (n:Nat),d=[.int c,nv n]->1<=n->n<=5->(∀r b,Same H b->b r=some (.tup ((pM c n).map nv))->(pM c n).length=n->(∀y∈pM c n,y<n)->Q (.ref r) b)->oi d H Q a
def Bk(a:Zs):LN:=(List.range (1+a.getD 1 0%4).toNat).map λi=>pM (a.getD (2+i) 0) (1+a.getD 0 0%5).toNat
inductive j8(K:N2)(e:List V)(H:Hp)(Q:VK)(b:XK):Prop|mk:∀(a:Ad) (c:Zs),e=[.ref a]->SqL K H a (c.map V.int)->(∀m d,Same H d->Mach d m (Bk c) (1+c.getD 0 0%5).toNat->Q (.ref m) d)->j8 K e H Q b
def A7(H:Hp)(c:Int)(n:Nat)(st:Int×f')(d:L2.St)(b:Hp):Prop:=Same H b/\∃(l:Ad) (a:f') (num:Int) (e f:Option V),d=[some (.int c),some (nv n),some (.int num),some (.ref l),e,f]/\
 b l=some (.lst (a.map nv))/\H l=none/\a.length=n/\(∀y∈a,y<n)/\(num,a)=st
def MV(F:Fun K uC uC u8 f fd)(jC:mg "range"=none)(jE:mg "tuple"=none)(jS:mg "list"=none):FnOk P w K mg base im 1 f fd [tJ,tR] oi:=by
 refine F.ok jN (λam A aa s H vs Q E hr h=>?_)
 obtain⟨c,n,rfl,C,h5,q⟩:=h;refine#[_,(hJ (iJ (i:=2) jN.nd rZ Z0 (jj wJ (pv 0) iI)) (hJ (iJ (i:=3) jN.nd rZ Z' (m6 (Jq rZ) rZ jS boot_list (g9 (m6 C4 rZ jC boot_range (g9 (pv 1) gX)) gX))) (hJ (nH oP rZ (sE rZ jC (g9 (pv 1) gX)) (md (i:=4) jN.nd rZ Z') (hK (mA (ko Dn (jj n7 (pv 0) iI) iI (jx _)) (hJ (A8 (jj n7 (pv 2) (pv 1)) (zI (pv 3) (pv 4) zG)) (hK (iJ (i:=2) jN.nd rZ Z0 (jj wJ (pv 2) (pv 1))))) (hK (mA (ko AA (jj n7 (pv 0) iI) iI (jx _)) (hJ (iJ (i:=5) jN.nd rZ Z' (jj n7 (pv 2) (jj u4 (pv 4) iI))) (hJ (iJ (i:=2) jN.nd rZ Z0 (jj wJ (pv 2) (jj u4 (pv 4) iI))) (hK (A8 (vj (iL (gU (jo ny (pv 3) (pv 5) (λ_ _=>rfl)) (gU (jo ny (pv 3) (pv 4) (λ_ _=>rfl)) iM rZ) rZ))) (BF rZ (xo (zI (pv 3) (pv 4) zG) (xo (zI (pv 3) (pv 5) zG) Ca))))))) mT))))) (hJ (Fu (mA (ko Dn (jj n7 (pv 0) iI) iI (jx _)) (hK (A8 (jj n7 (jj wJ (pv 2) (pv 1)) (pv 1)) (zI (pv 3) (jj n7 (pv 2) (pv 1)) zG))) mT)) (hJ (Fu (mA (ko Dn (jj n7 (pv 0) iI) iI (jx _)) (hK (yx (CompSc.to (N:=[tJ,tR,"_law_number",sF,uA,sK]) (osc:=gP u8) (vs:=[uA]) {}) rZ rZ jN.nd (j:=3) rZ rZ (sE rZ jC (g9 (pv 1) gX)) (λ_ _ _ _=>nC) (λ_ _ _ _=>(jj n7 (jj u4 (jj n7 (pv 3) (pv 2)) (jj Lz (pv 0) (jj n7 (jj wJ (pv 3) (pv 2)) iI))) (pv 2))))) mT)) (hK (iT (m6 xL rZ jE vE (g9 (pv 3) gX))))))))),?_];have D:(0:Int)<(n:Int):=by lia
 refine#[_,rZ,_,_,rZ,rZ,#[by decide,by decide],?_];refine#[_,rZ,(n:Int),rZ,λp1 G=>#[p1,(n:Int),rZ,gO,(),(),λl d=>?_]];have g1:=(g0 G (.rng 0 (n:Int))).trans (g0 d (.lst (nI (n:Int).toNat)));have s1:A7 H c n (pP c n 0) [some (.int c),some (nv n),some (.int (c/5)),some (.ref l),none,none] (gI (gI H p1 (.rng 0 (n:Int))) l (.lst (nI (n:Int).toNat))):=
  #[g1,l,List.range n,c/5,none,none,rZ,by rw[gO];rfl,(g0 G _).free d,by simp,λy m=>List.mem_range.mp m,rZ]
 refine#[_,rZ,(n:Int),rZ,(),(),Ai (λi σ H'=>A7 H c n (pP c n i) σ H') s1 (λi σ H' hi p=>?_) (λσ H' p=>?_)]
 .obtain⟨g,l,u,num,I,J,rfl,v,d,b,m,st⟩:=p;have an:i<n:=by lia
  have e0:(0+(i:Int))=((i:Nat):Int):=by lia
  obtain⟨m1,Y⟩:=yu num C;have ab:decide (V.int (c%5)=V.int 0)=true->c%5=0:=λz=>by injection lR z
  have L: ¬decide (V.int (c%5)=V.int 0)=true-> ¬c%5=0:=λz e=>z (iG (by rw[e]));refine#[_,rZ,_,_,rZ,rZ,(by decide:(0:Int)<5),rZ,_,rZ,pz (λc1=>?_) (λc1=>?_)]
  .refine#[_,rZ,_,rZ,_,_,rZ,rZ,D,?_]
   try dsimp only
   rw[m1];obtain⟨k,o⟩:∃k,(num%(n:Int)).toNat=k:=#[_,rZ];rw[o]at Y|-;refine#[_,rZ,_,rZ,l,_,_,i,rZ,rZ,v,(by rw[e0,gL];exact zq ()),?_];try dsimp only
   rw[zN];refine#[_,rZ,_,rZ,_,_,rZ,rZ,#[(),()],?_];refine#[oY g d,l,_,_,_,_,rZ,gO,d,by rw[ux,b],zW m Y,?_];rw[DK,<-st];unfold xA;rw[wB (ab c1),o]
  refine#[_,rZ,_,_,rZ,rZ,(by decide:(0:Int)<5),_,_,rZ,rZ,_,rZ,pz (λc2=>?_) (λc2=>#[g,l,u,num,_,_,rZ,v,d,b,m,by rw[DK,<-st];unfold xA;rw[wA (L c1),wA λz=>c2 (decide_eq_true z)]])];have ip:(0:Int)<0+(i:Int)+1:=by lia
  refine#[_,rZ,_,rZ,_,_,rZ,rZ,_,_,rZ,rZ,ip,?_];obtain⟨k,ek,hk⟩:∃k:Nat,num%(0+(i:Int)+1)=(k:Int)/\k<=i:=#[(num%(0+(i:Int)+1)).toNat,by have:=Bf num (Int.ne_of_gt ip);lia,by have:=A1 num ip;lia]
  try dsimp only
  rw[ek];refine#[_,rZ,_,rZ,_,_,rZ,rZ,_,_,rZ,rZ,#[(),()],?_];refine#[_,rZ,_,rZ,l,_,_,_,rZ,rZ,N' v,vc (),_,rZ,_,rZ,l,_,_,_,rZ,rZ,N' v,(by rw[e0];exact vc ()),by show 2<=sizeLine;decide,λt nt=>?_];have kt:=g0 nt (.tup [nv (u.getD k 0),nv (u.getD i 0)]);refine#[t,_,rZ,N1 gO,rZ,_,_,rZ,_,rZ,_,rZ,l,_,_,i,rZ,rZ,kt _ _ v,(by rw[e0,gL];exact zq ()),?_]
  try dsimp only
  rw[zN];refine#[_,_,rZ,_,rZ,_,rZ,l,_,_,k,rZ,rZ,gO,(by rw[gL,ux];exact zq ()),?_]
  try dsimp only
  rw[zN,BQ];refine#[rZ,oY (g.trans kt) d,l,_,_,_,_,rZ,gO,d,by rw[ux,ux,b],zW (zW m (iS m ())) (iS m ()),?_];rw[DK,<-st];unfold xA;have ae:num%((i:Int)+1)=(k:Int):=by rw[<-ek,Bj]
  rw[wA (L c1),wB (lR c2),ae,pN,Bj]
 .obtain⟨g,l,u,num,I,J,rfl,v,d,b,m,st⟩:=p;have st:(num,u)=pP c n n:=st;have s1:(pP c n n).1=num:=by rw[<-st]
  have s2:(pP c n n).2=u:=by rw[<-st]
  refine#[A7 H c n (num,zo c n (num,u)),?_,λao H4 p4=>?_]
  .refine#[_,rZ,_,_,rZ,rZ,(by decide:(0:Int)<5),rZ,_,rZ,pz (λc5=>?_) (λc5=>#[g,l,u,num,I,J,rZ,v,d,b,m,by unfold zo;rw[wA λe=>c5 (decide_eq_true (congrArg V.int e))]])];obtain⟨m1,Y⟩:=yu num C;obtain⟨m3,m4⟩:=yu (num/ (n:Int)) C;refine#[_,rZ,_,rZ,_,_,rZ,rZ,#[(),()],_,rZ,_,_,rZ,rZ,D,?_];try dsimp only
   rw[m3];refine#[_,rZ,_,rZ,_,rZ,_,_,rZ,rZ,D,?_];try dsimp only
   rw[m1];have af:c%5=3:=by injection lR c5
   obtain⟨k,o⟩:∃k,(num%(n:Int)).toNat=k:=#[_,rZ];rw[o]at Y|-;refine#[l,_,_,k,rZ,rZ,v,(by rw[gL];exact zq ()),?_];try dsimp only
   rw[zN];refine#[oY g d,l,_,_,_,_,rZ,gO,d,by rw[ux,b],zW m m4,?_];unfold zo;rw[wB af,o]
  .obtain⟨M,l4,O,a,I,J,rfl,x,T,r,B,ag⟩:=p4;injection ag with ah ai
   subst ah;refine#[A7 H c n (a,pM c n),?_,λap H5 p5=>?_]
   .refine#[_,rZ,_,_,rZ,rZ,(by decide:(0:Int)<5),rZ,_,rZ,pz (λc6=>?_) (λc6=>#[M,l4,O,a,I,J,rZ,x,T,r,B,by unfold pM;rw[wA λe=>c6 (decide_eq_true (congrArg V.int e)),<-st,ai]])];have e1:(n:Int).toNat=n:=pN n;have aj:c%5=4:=by injection lR c6
    refine#[_,rZ,(n:Int),rZ,(),(),Jt (f:=λ(i:Nat)=>nv ((a%(n:Int)+(0+(i:Int)) * (a/ (n:Int)%2))%(n:Int)).toNat) (small ()) (λi Q hi q=>?_) (λl5 U=>?_)]
    .refine#[_,rZ,_,rZ,_,_,rZ,rZ,D,_,rZ,_,rZ,_,rZ,_,_,rZ,rZ,#[(),()],_,_,rZ,rZ,(by decide:(0:Int)<2),_,_,rZ,rZ,.inl #[(),()],_,_,rZ,rZ,_,rZ,_,_,rZ,rZ,D,?_]
     try dsimp only
     rw[(yu _ C).1];exact q
    .refine#[M.trans (g0 U _),l5,(List.range n).map λ(i:Nat)=>((a%(n:Int)+(0+(i:Int)) * (a/ (n:Int)%2))%(n:Int)).toNat,a,_,_,rZ,?_,M.free U,by simp,λy m=>?_,?_]
     .rw[gO,e1,lE];rfl
     .obtain⟨i,_,rfl⟩:=hX.mp m;exact(yu _ C).2
     .unfold pM;rw[wB aj,s1]
   .obtain⟨M,l4,O,num,I,J,rfl,x,T,r,B,ak⟩:=p5;injection ak with _ al
    subst al;exact#[_,rZ,l4,_,rZ,.inl #[N' x,λt ht=>q t _ (M.trans (g0 ht _)) gO r B]]
def MT(F:Fun K tI tI vG f fd)(T:hZ P w K mg base tH 1 [sD,uA] (mQ K))(kN:hZ P w K mg base uC 1 [tJ,tR] oi)(jC:mg "range"=none) (jE:mg "tuple"=none):FnOk P w K mg base im 3 f fd [sD] (j8 K):=by
 refine F.ok kG (λaf A U s H vs Q E L h=>?_)
 obtain⟨a,b,rfl,Y,q⟩:=h;refine#[_,(hJ (iJ (i:=1) kG.nd rZ Z0 (jj u4 iI (jj n7 (iV T L.m rZ (iL (gU (pv 0) (gU iI iM rZ) rZ))) iI))) (hJ (iJ (i:=2) kG.nd rZ Z' (jj u4 iI (jj n7 (iV T L.m rZ (iL (gU (pv 0) (gU iI iM rZ) rZ))) iI))) (hK (iT (m6 xL rZ jE vE (g9 (np (CompSc.to (N:=[sD,tR,"_law_many"]) (osc:=gP vG) (vs:=[uA]) {}) rZ rZ (sE rZ jC (g9 (pv 2) gX)) (λ_ _ _ _=>nC) (λ_ _ _ _=>(iV kN L.m rZ (iL (gU (iV T L.m rZ (iL (gU (pv 1) (gU (jj u4 iI (pv 0)) iM rZ) rZ))) (gU (pv 2) iM rZ) rZ))))) gX)))))),?_];refine#[_,rZ,a,b,0,rZ,Int.le_refl 0,Y,#[_,_,rZ,rZ,(by decide:(0:Int)<5),_,_,rZ,rZ,?_]];obtain⟨n,en,n1,n5,C⟩:∃n:Nat,(1+b.getD (0:Int).toNat 0%5:Int)=(n:Int)/\1<=n/\n<=5/\(1+b.getD 0 0%5:Int).toNat=n:=#[(1+b.getD 0 0%5).toNat,by show(1+b.getD 0 0%5:Int)=_;lia,(),(),rZ]
 try dsimp only
 rw[en];refine#[_,rZ,a,b,1,rZ,by decide,Y,#[_,_,rZ,rZ,(by decide:(0:Int)<4),_,_,rZ,rZ,?_]];obtain⟨k,ek,k1,k4,aa⟩:∃n:Nat,(1+b.getD (1:Int).toNat 0%4:Int)=(n:Int)/\1<=n/\n<=4/\(1+b.getD 1 0%4:Int).toNat=n:=#[(1+b.getD 1 0%4).toNat,by show(1+b.getD 1 0%4:Int)=_;lia,(),(),rZ]
 try dsimp only
 rw[ek];have em:Bk b=(List.range k).map λi=>pM (b.getD (2+i) 0) n:=by unfold Bk;rw[aa,C]
 rw[C]at q;refine#[_,rZ,(k:Int),rZ,(),(),BN (λi M D=>Same H D/\∃(c:As) (u:LN),u=((List.range i).map λi=>pM (b.getD (2+i) 0) n)/\M=c.map V.ref/\c.length=i/\u.length=i/\(∀(j:Nat) r t,c[j]?=some r->u[j]?=some t->D r=some (.tup (t.map nv)))/\∀t∈u,t.length=n/\∀x∈t,x<n)
  (small ()) #[Same.refl _,[],[],rZ,rZ,rZ,rZ,(λj r t e=>wC e (by simp)),(λt ht=>wC ht (by simp))] (λi M D _ p=>?_) (λi M D hi p=>?_) (λM D p l hl=>?_)]
 .obtain⟨_,c,u,_,rfl,e,_⟩:=p;rw[gL];lia
 .obtain⟨g,c,u,d,rfl,o,v,y,ht⟩:=p;refine#[mX,ph ?_];refine#[_,rZ,_,rZ,_,_,rZ,rZ,a,b,_,rZ,(),g.seq Y,#[_,rZ,_,n,rZ,n1,n5,λr H2 G I B hy=>?_]];have ei:(2+(0+(i:Int)):Int).toNat=2+i:=by lia
  rw[ei]at I B hy;generalize ey:pM (b.getD (2+i) 0) n=ys at I B hy;refine#[g.trans G,c++[r],u++[ys],by rw[d,w9,kg];show _++[ys]=_++[pM (b.getD (2+i) 0) n];rw[ey],by simp,by simp[o],by simp[v],λj r' t' J O=>?_,λt ab=>?_]
  .by_cases hj:j<i
   .rw[j0 ()]at J O;exact G _ _ (y j r' t' J O)
   .have ae:j=i:=by
     have:=(gV.mp J).1;rw[jc,o]at this;have:j<i+1:=this
     lia
    subst ae;rw[ku (),o,vU]at J;rw[ku (),v,vU]at O;cases J;cases O;exact I
  .rcases iC.mp ab with z|z
   .exact ht t z
   .have e:t=ys:=by simpa using z
    rw[e];exact#[B,hy]
 .obtain⟨g,c,u,d,rfl,o,v,y,ht⟩:=p;have g1:=g0 hl (.lst (c.map V.ref));refine#[l,_,rZ,.inl #[N' gO,λm hm=>?_]];have G:=g1.trans (g0 hm (.tup (c.map V.ref)));have hk:(k:Int).toNat=k:=pN k;rw[hk,<-em]at d;rw[<-d]at q;exact q m _ (g.trans G) #[#[c,gO,(),λi r t e1 I=>G _ _ (y i r t e1 I)],(),(),n1,n5,ht]
inductive pX(K:N2)(d:List V)(H:Hp)(Q:VK)(a:XK):Prop|mk:∀(m b:Ad) (c:LN) (n r:Nat) (word:f'),d=[.ref m,nv r,.ref b]->Mach H m c n->r<n->SqL K H b (word.map nv)->(∀l∈word,l<c.length)->Q (nv (qi c r word)) H->pX K d H Q a
def NQ(F:Fun K "led" "led" xa f fd):FnOk P w K mg base im 1 f fd [sA,uV,tN] (pX K):=by
 refine F.ok qQ (λu A g s H D Q E G h=>?_)
 obtain⟨m,b,k,n,r,word,rfl,M,j,t,hw,q⟩:=h;refine#[_,(hJ (nH oP rZ (lm (pv 2)) (md (i:=3) qQ.nd rZ Z') (hK (iJ (i:=1) qQ.nd rZ Z' (jo nO (jo nO (pv 0) (pv 3) (λ_ _=>rfl)) (pv 1) (λ_ _=>rfl))))) (hK (iT (pv 1)))),?_];refine#[_,rZ,b,rZ,#[_,t],rL (xs:=word.map nv) (λi c d=>d=H/\∃o,c=[some (.ref m),some (nv (qi k r (word.take i))),some (.ref b),o]) #[rZ,none,rZ] (λi c d _ p=>by obtain⟨rfl,_⟩:=p;exact t) (λi x c d a p=>?_) (λc d p=>?_)]
 .obtain⟨rfl,o,rfl⟩:=p;rw[hA]at a;cases e:word[i]? with
  |none=>rw[e]at a;cases a
  | some l=>
   rw[e]at a;cases a;obtain⟨I,v,y,J,z,B,C,L⟩:=M.at (hw l (iq e));refine#[_,rZ,_,rZ,m,_,_,_,rZ,rZ,N1 y,z,_,rZ,v,_,_,_,rZ,rZ,N1 B,vc ?_,rZ,some (nv l),?_]
   .rw[C];exact xW M _ _ j λx a=>hw x (uw a)
   .rw[om,e];show _=[some (.ref m),some (nv (qi k r (word.take i++[l]))),some (.ref b),some (nv l)];rw[L8];rfl
 .obtain⟨rfl,o,rfl⟩:=p;refine#[_,rZ,?_];rw[gL,mh];exact q
def yV(b:LN)(a word:f'):f':=a.map λr=>qi b r word
def MU{n:Nat}{a:f'}(d:n<=5)(h:∀x∈a,x<n):lB a=(List.range n).filter λi=>a.contains i:=by
 unfold lB;have e:List.range 5=List.range n++(List.range (5-n)).map (n+ ·):=by rw[<-List.range_add];congr 1;lia
 rw[e,yt];have b:((List.range (5-n)).map (n+ ·)).filter (λi=>a.contains i)=[]:=by
  rw[List.filter_eq_nil_iff];intro y c z;obtain⟨k,_,rfl⟩:=hX.mp c;have:=h _ (qk.mp z);lia
 rw[b,mW]
def EL{a:f'}{x:Nat}(h:x∈lB a):x∈a:=qk.mp (ji.mp h).2
def CN(a:f'):(lB a).length<=5:=iP (pA _ _) (by simp)
def xJ(i:Nat)(a:f'):Aa (nv i) (a.map nv)=a.contains i:=by
 unfold Aa;rw[AH]
 induction a with
 |nil=>rfl
 | cons x a b=>
  rw[wD,Bi,b]
  congr 1
  show pK (.int (x:Int)) (.int (i:Int))=(i==x);by_cases h:x=i
  .subst h;show((x:Int)==(x:Int))=(x==x);simp
  .have c: ¬(x:Int)=(i:Int):=by lia
   have d: ¬i=x:=by lia
   show((x:Int)==(i:Int))=(i==x);rw[sk.mpr c,sk.mpr d]
def M9(a:f'):(a.map nv).all nh=true:=by
 rw[List.all_map,CA];intro x _;rfl
inductive i0(K:N2)(e:List V)(H:Hp)(Q:VK)(c:XK):Prop|mk:∀(m p b:Ad) (d:LN) (n:Nat) (a word:f'),e=[.ref m,.ref p,.ref b]->Mach H m d n->SqT K H p (a.map nv)->a.length<=5->(∀r∈a,r<n)->SqL K H b (word.map nv)->(∀l∈word,l<d.length)->rc H ((lB (yV d a word)).map nv) Q->i0 K e H Q c
def Iw(F:Fun K tZ tZ ut f fd)(y:hZ P w K mg base "led" 1 [sA,uV,tN] (pX K))(z:mg "tuple"=none)(B:mg "sorted"=none)(C:mg "set"=none):FnOk P w K mg base im 3 f fd [sA,sC,tN] (i0 K):=by
 refine F.ok LF (λD A j s H vs Q E G h=>?_)
 obtain⟨m,p,b,d,n,c,word,rfl,M,u,I,g,J,hw,q⟩:=h;refine#[_,(hK (iT (m6 xL rZ z vE (g9 (jv (E6 rZ) rZ B zE (g9 (m6 (Eo rZ) rZ C AU (g9 (np (CompSc.to (N:=[sA,sC,tN]) (osc:=gP ut) (vs:=[uV]) {}) rZ rZ (wc (pv 1)) (λ_ _ _ _=>nC) (λ_ _ _ _=>(iV y G.m rZ (iL (gU (pv 1) (gU (pv 0) (gU (pv 3) iM rZ) rZ) rZ))))) gX)) gX)) gX)))),?_];have n5:=M.n5;refine#[_,rZ,p,rZ,#[_,u],xx (f:=λv=>match v with|.int i=>nv (qi d i.toNat word)|v=>v) (by rw[gL];exact small ()) u (λv Q L q=>?_) (λl O=>?_)]
 .obtain⟨r,k,rfl⟩:=hX.mp L;exact#[_,rZ,_,rZ,_,rZ,m,b,d,n,r,word,rZ,M,g r k,J,hw,q]
 .have e:(c.map nv).map (λv=>match v with|.int i=>nv (qi d i.toNat word)|v=>v)=(yV d c word).map nv:=by
   unfold yV;rw[lE,lE];rfl
  try dsimp only
  rw[e];have T:=g0 O (.lst ((yV d c word).map nv));refine#[l,_,rZ,N' gO,λx U=>?_,λa Y=>#[a,_,rZ,gO,λo ho=>?_]]
  .obtain⟨r,k,rfl⟩:=hX.mp U;have:=xW M word r (g r k) hw;lia
  .try dsimp only
   rw[CD];exact#[o,_,rZ,.inl #[N' gO,λt ht=>q t _ (T.trans ((g0 Y _).trans ((g0 ho _).trans (g0 ht _)))) gO]]
inductive kh(C:Ad)(c:List V)(H:Hp)(Q:VK)(b:XK):Prop|mk:∀(e:Ad) (n:Nat),c=[.ref e,nv n]->n<=400->H e=some (.ext (mY e C none))->(∀a,H a=none->a≠e->Q .non (gI (gI H a (.xd [(sG,nv n)])) e (.ext (mY e C (some a)))))->kh C c H Q b
inductive mC(C:Ad)(c:List V)(H:Hp)(Q:VK)(E:XK):Prop|mk:∀(d:Ad) (a:List (List ik×V)) (n:Nat),c=[.ref d,nv n]->H d=some (.dT a)->n<=400->((a.length<=n->Q .non H))->((n<a.length->∀b,H b=none->E (.ref C) (some b) (gI H b (.xd [(sG,nv n)]))))->mC C c H Q E
inductive iw(P:Pg)(w:World)(K:N2)(mg:SV)(base:Heap)(C:Ad)(h:List V)(H:Hp)(Q:VK)(E:XK):Prop|mk:∀(a st:Ad) (fd:Fd) (i:Ss) (e:f') (L:Nat) (U:LN) (g:f'->Nat->List Nat) (most:Nat),h=[.ref a,nv L,.ref st,nv most]->H a=some (.tup (e.map nv))->H st=some (mj st fd)->e∈U->((∀x∈U,∀l,l<L->g x l∈U))->U.length<=4000->L<=4000->most<=400->FnOk P w K mg base im 5 st fd i (iX (Same H) U L g)->Binds K fd i []->((∀D c j d,Same H d->WordsAt d D c j->(∀b∈D::j,H b=none)->Told g L e c->c.length<=most->Q (.ref D) d))->((∀(c:TW) d f,Same H d->H f=none->d f=some (.xd [(sG,nv most)])->(c.map (·.1)).Nodup->(∀p∈c,(∀l∈p.2,l<L)/\jw g e p.2=p.1)->most<c.length->E (.ref C) (some f) d))->iw P w K mg base C h H Q E
def AJ(C:Ad):Sp:=λa H Q E=>(∃d,a=[.ref d,.non]/\Q .non H)\/mC C a H Q E
inductive i3(P:Pg)(w:World)(K:N2)(mg:SV)(base:Heap)(f:List V)(H:Hp)(Q:VK)(c:XK):Prop|mk:∀(a st:Ad) (fd:Fd) (h:Ss) (d:f') (L:Nat) (U:LN) (g:f'->Nat->List Nat),f=[.ref a,nv L,.ref st,.non]->H a=some (.tup (d.map nv))->H st=some (mj st fd)->d∈U->((∀x∈U,∀l,l<L->g x l∈U))->U.length<=4000->L<=4000->FnOk P w K mg base im 5 st fd h (iX (Same H) U L g)->Binds K fd h []->(∀D i j e,Same H e->WordsAt e D i j->(∀b∈D::j,H b=none)->Told g L d i->Q (.ref D) e)->i3 P w K mg base f H Q c
def DR(P:Pg)(w:World)(K:N2)(mg:SV)(base:Heap)(C:Ad):Sp:=λa H Q E=>i3 P w K mg base a H Q E\/iw P w K mg base C a H Q E
def Ku{P:Pg}{w:World}{K:N2}{mg:SV}{base:Heap}{C:Ad}:∀s H Q E,i3 P w K mg base s H Q E->DR P w K mg base C s H Q E0:=λ_ _ _ _ ⟨a,b,c,d,e,f,g,h,i,j,k,l,m,n,o,p,q,r⟩=> .inl #[a,b,c,d,e,f,g,h,i,j,k,l,m,n,o,p,q,r]
def MR{P:Pg}{w:World}{K:N2}{mg:SV}{base:Heap}{C:Ad}:∀a H Q E,iw P w K mg base C a H Q E->DR P w K mg base C a H Q E:=λ_ _ _ _ h=> .inr h
section
variable{P:Pg}{w:World}{K:N2}{mg:SV}{base:Heap}{f:Ad}{j:Fd}{C D:Ad}
def Iq(F:Fun K "__init__" uW wn f j)(a:MkE K C D f)(bI:BaseI K D)(g:SetE K C sG)(i:mg "HallError"=some (.ref D)):FnOk P w K mg base im 1 f j ["self",sG] (kh C):=by
 refine F.ok KW (λl A b s H m Q E o h=>?_)
 obtain⟨e,n,rfl,p,c,q⟩:=h;refine#[_,(hJ (qc (L1 a bI rZ i (iL (gU (pv 0) (gU (MK (LZ (IP (pv 1) Nf))) iM rZ) rZ)))) (hK (IS rZ a g (pv 0) (pv 1)))),?_];have z:∀k:Fin 401,(Str.empty++Str.ofString "there are more than "++Str.ofString (toString ((k:Nat):Int))).length<=40:=by decide+kernel
 have z1:=z #[n,()];have z2:∀k:Fin 401,((k:Nat):Int).natAbs.log2<1920:=by decide+kernel
 have d:(40:Nat)<=sizeLine:=by decide
 exact#[_,rZ,by decide,_,rZ,(n:Int),rZ,z2 #[n,()],iP z1 d,iP z1 d,e,_,rZ,c,_,rZ,_,rZ,e,rZ,c,q]
def Km(F:Fun K tL tL vR f j)(t:Cf P w K mg base "TooMany" 1 ["self",sG] (kh C) C)(u:mg "len"=none):FnOk P w K mg base (CX1 P w) 3 f j ["things",sG] (AJ C):=by
 refine F.okX IM (λm H Q E h=>?_) (λv A l s H m Q E o h=>?_)
 .rcases h with⟨d,rfl,_⟩|⟨d,a,n,rfl,_⟩
  .rfl
  .rfl
 have x:=oO o;have few:∃b c,m=[b,c]:=by
  rcases h with⟨d,rfl,_⟩|⟨d,a,n,rfl,_⟩
  .exact#[_,_,rZ]
  .exact#[_,_,rZ]
 obtain⟨b,c,rfl⟩:=few;refine#[_,(hK (mA (PW.pt (Br (ko IH (pv 1) Ir (jx _)) (Bl (ko Do (jv Hu rZ u lW (g9 (pv 0) gX)) (pv 1) (jx _))))) (hK (IB rZ rZ Kd t o.m rZ (g9 (pv 1) gX))) mT)),?_]
 rcases h with⟨d,e,q⟩|h
 .cases e;exact#[_,rZ,rZ,_,rZ,q]
 obtain⟨d,a,n,e,y,B,q,D⟩:=h;cases e;refine#[_,rZ,rZ,_,rZ,mH #[_,rZ,d,a,rZ,y,_,rZ,_,_,rZ,rZ,_,rZ,pz (λc=>?_) (λc=>?_)]]
 .have c1:n<a.length:=by
   have:=lR c;lia
  refine#[_,rZ,by show 1<=sizeLine;decide,λe G=>#[e,n,rZ,B,gO,λk i p=>#[rZ,some k,gI H k (.xd [(sG,nv n)]),?_,?_,D c1 k ?_]]]
  .funext b
   unfold gI;by_cases g:b=e
   .rw[wB g,wB g]
   .rw[wA g,wA g];by_cases r:b=k
    .rw[wB r,wA g]
    .rw[wA r,wA g]
  .rw[gM (jd p)];exact G
  .rw[gM p]at i;exact i
 .exact q (by
   have: ¬(n:Int)<(a.length:Int):=λz=>c (iG z);lia)
def Nj{r O:Vl}(F:DefAt K tK rX f j r O)(o:Dy P w K mg base tL 3 ["things",sG] (AJ C))(M:mg "range"=none):FnOk P w K mg base (CX1 P w) 8 f j ["start","letters","step",sG] (DR P w K mg base C):=by
 refine F.fnOkX jD (λT H Q E h=>?_) (λA t s H T Q E h d=>?_)
 .rcases h with⟨a,st,j,u,v,L,U,g,rfl,_⟩|⟨a,st,j,u,v,L,U,g,most,rfl,_⟩
  .rfl
  .rfl
 have b:=oO d
 rcases h with h|h
 .obtain⟨a,st,Y,u,v,L,U,g,rfl,x,e,y,z,few,c,B,I,q⟩:=h;exact#[_,Gi (G:=λ_=>True) (sR:=AJ C) (mo:= .non) (EE:=E) (λH1 D l p Q1 J W N run k=> .inl #[D,rZ,k True.intro]) d.m x e y z few c B I (λD l p H' g W nw TT _=>q D l p H' g W nw TT),(hJ (iJ (i:=4) jD.nd rfl Z' (CB b (pv 0) (mZ gX))) (hJ (qc (A6 o d.m wr rfl (iL (gU (pv 4) (gU (pv 3) iM rfl) rfl)))) (hJ (iJ (i:=5) jD.nd rfl Z' (mZ (g9 (pv 0) gX))) (hJ (AB wI (Cq (pv 5) (λ_=>rfl)) (hJ (iJ (i:=6) jD.nd rfl Z' (mZ gX)) (hJ (nH wI rfl (lm (pv 5)) (md (i:=7) jD.nd rfl Z') (hK (nH wI rfl (sE rfl M (g9 (pv 1) gX)) (md (i:=8) jD.nd rfl Z') (hJ (iJ (i:=9) jD.nd rfl Z' (Ff 2 (pv 2) (iL (gU (pv 7) (gU (pv 8) iM rfl) rfl)))) (hK (mA (v8 (AF b (pv 9) (pv 4))) (hJ (we b (pv 4) (pv 9) (jj zU (uu b (pv 4) (pv 7) (λ_ _=>rfl)) (mZ (g9 (pv 8) gX))) rfl) (hJ (qc (A6 o d.m wr rfl (iL (gU (pv 4) (gU (pv 3) iM rfl) rfl)))) (hK (qc (uq vq vJ wX wY (pv 6) (g9 (pv 9) gX)))))) mT)))))) (hK (iJ (i:=5) jD.nd rfl Z' (pv 6)))))) (hK (iT (pv 4)))))))]
 obtain⟨a,st,Y,u,v,L,U,g,most,rfl,x,e,y,z,few,c,m,B,I,q,qE⟩:=h;refine#[_,Gi (G:=λl=>l.length<=most) (sR:=AJ C) (mo:=nv most) (EE:=E) (λH1 D l p Q1 J W N run k=> .inr ?_) d.m x e y z few c B I q,(hJ (iJ (i:=4) jD.nd rZ Z' (CB b (pv 0) (mZ gX))) (hJ (qc (A6 o d.m wr rZ (iL (gU (pv 4) (gU (pv 3) iM rZ) rZ)))) (hJ (iJ (i:=5) jD.nd rZ Z' (mZ (g9 (pv 0) gX))) (hJ (AB wI (Cq (pv 5) (λ_=>rfl)) (hJ (iJ (i:=6) jD.nd rZ Z' (mZ gX)) (hJ (nH wI rZ (lm (pv 5)) (md (i:=7) jD.nd rZ Z') (hK (nH wI rZ (sE rZ M (g9 (pv 1) gX)) (md (i:=8) jD.nd rZ Z') (hJ (iJ (i:=9) jD.nd rZ Z' (Ff 2 (pv 2) (iL (gU (pv 7) (gU (pv 8) iM rZ) rZ)))) (hK (mA (v8 (AF b (pv 9) (pv 4))) (hJ (we b (pv 4) (pv 9) (jj zU (uu b (pv 4) (pv 7) (λ_ _=>rfl)) (mZ (g9 (pv 8) gX))) rZ) (hJ (qc (A6 o d.m wr rZ (iL (gU (pv 4) (gU (pv 3) iM rZ) rZ)))) (hK (qc (uq vq vJ wX wY (pv 6) (g9 (pv 9) gX)))))) mT)))))) (hK (iJ (i:=5) jD.nd rZ Z' (pv 6)))))) (hK (iT (pv 4)))))))];refine#[D,a3w l p,most,rZ,W.dict,m,λh=>k (by rw[wT W.len]at h;exact h),λh dx n=>qE l _ dx (J.trans (g0 n _)) (J.free n) gO N run (by rw[wT W.len]at h;exact h)]
end
def jg:List (Str×Pos×Ad):=[(sB,(#[59,40,59,93]:Pos),121),(uE,(#[36,41,36,91]:Pos),76)]
def HN:(jg.map (·.2.2)).Nodup:=by decide
def Tabs(H:Hp):Prop:=∀q∈jg,TabOk q.1 q.2.1 H q.2.2
def _root_.L2.TabOk.most{a:Str}{c:Pos}{H f:Hp}{T:Ad}(t:TabOk a c H T)(g:∀b u,(∀d,u≠HO.dT d)->(∀h,u≠HO.lst h)->H b=some u->f b=some u):TabOk a c f T:=by
 rcases t with t|⟨i,j,k⟩
 .exact .inl (g _ _ (λ_ e=>nomatch e) (λ_ e=>nomatch e) t)
 .exact .inr #[i,g _ _ (λ_ e=>nomatch e) (λ_ e=>nomatch e) j,g _ _ (λ_ e=>nomatch e) (λ_ e=>nomatch e) k]
def Tabs.same{H a:Hp}(t:Tabs H)(g:Same H a):Tabs a:=λq b=>(t q b).same g
def Tabs.most{H c:Hp}(t:Tabs H)(g:∀b u,(∀a,u≠HO.dT a)->(∀d,u≠HO.lst d)->H b=some u->c b=some u):Tabs c:=λq e=>(t q e).most g
def KeepsBut(T:Ad)(H a:Hp):Prop:=∀b o,b≠T->H b=some o->a b=some o
def KeepsBut.keeps{T:Ad}{H a:Hp}{c:AV}(g:KeepsBut T H a)(hT:H T=some (.tbl c)):Keeps H a:=λb o d=>by
 obtain⟨z,f⟩:=vd d;exact g b o (t8 z hT λe=>f _ e) z
theorem Fw:∀{l:List (Str×Pos×Ad)} {p q:Str×Pos×Ad},(l.map (·.2.2)).Nodup->p∈l->q∈l->p.2.2=q.2.2->p=q
 | [],_,_,_,hp,_,_=>nomatch hp
 | r::l,p,q,d,hp,hq,e=>by
  obtain⟨b,f⟩:=nc.mp d
  rcases iu.mp hp with c|hp
  .rcases iu.mp hq with a|hq
   .rw[c,a]
   .exact wC (hX.mpr #[q,hq,by rw[<-c];exact e.symm]) b
  .rcases iu.mp hq with a|hq
   .exact wC (hX.mpr #[p,hp,by rw[<-a];exact e]) b
   .exact Fw f hp hq e
def Tabs.but{a:Str}{b:Pos}{T:Ad}{H d:Hp}{i:AV}(j:(a,b,T)∈jg)(t:Tabs H)(hT:H T=some (.tbl i))(g:KeepsBut T H d)(k:TabOk a b d T):Tabs d:=λf c=>by
 by_cases e:f.2.2=T
 .have:=Fw HN c j e;subst this;exact k
 .rcases t f c with t|⟨l,m,h⟩
  .exact .inl (g _ _ e t)
  .exact .inr #[l,g _ _ e m,g _ _ (nE h hT) h]
def Eg{H:Hp}{T e a:Ad}(d:Pos)(c:Str)(hT:H T=some (.tbl #v[]))(f:H e=none)(g:H a=none)(h:e≠a)(lo:HO):KeepsBut T H (gI (gI (gI H T (.tbl (nZ d a))) a (oj a c)) e lo)/\
  (gI (gI (gI H T (.tbl (nZ d a))) a (oj a c)) e lo) T=some (.tbl (nZ d a))/\(gI (gI (gI H T (.tbl (nZ d a))) a (oj a c)) e lo) a=some (oj a c):=by
 refine#[λb o i z=>?_,?_,?_]
 .rw[gM (iU z f),gM (iU z g),gM i];exact z
 .rw[gM (iU hT f),gM (iU hT g),gO]
 .rw[gM (jd h),gO]
def nY(a:LN)(x:f')(l:Nat):f':=lB (yV a x [l])
def ly(n:Nat):LN:=((List.range 32).map gQ).filter λx=>x.all λr=>decide (r<n)
inductive iy(T:Ad)(d:Pos)(g:List V)(H:Hp)(Q:VK)(e:XK):Prop|mk:∀(m p:Ad) (f:LN) (n:Nat) (a:f'),g=[.ref m,.ref p]->Mach H m f n->H p=some (.tup (a.map nv))->a∈ly n->Tabs H->(∀D h i c,Keeps H c->Tabs c->WordsAt c D h i->(∀b∈D::i,noT H b=none)->Told (nY f) f.length a h->Q (.ref D) c)->iy T d g H Q e
def gR{n:Nat}{x:f'}:x∈ly n↔lB x=x/\∀r∈x,r<n:=by
 unfold ly;rw[ji,hX,CA];constructor
 .rintro⟨⟨k,a,rfl⟩,h⟩;refine#[?_,λr c=>lR (h r c)];have z:∀k:Fin 32,lB (gQ k)=gQ k:=by decide+kernel
  exact z #[k,lY.mp a]
 .rintro⟨d,e⟩;refine#[#[o0 0 (lB x),lY.mpr ?_,by rw[CD,d];exact d],λr c=>iG (e r c)];have z:∀(b:f') (k:Nat),(∀n∈b,n<5)->k<32->o0 k b<32:=by
   intro b
   induction b with
   |nil=>intro k _ a;exact a
   |cons n b f=>intro k h a;exact f _ (λy g=>h y (ja _ g)) (GZ #[k,a] #[n,h n (iO ..)])
  exact z _ 0 (λn i=>lY.mp (ji.mp i).1) (by decide)
def FG(a:f'):lB (lB a)=lB a:=by
 unfold lB;refine DJ λi b=>?_;rw[pD,qk,qk,ji,qk];exact#[λh=>h.2,λh=>#[b,h]]
def Mach.noT{H:Hp}{m:Ad}{a:LN}{n:Nat}(M:Mach H m a n):Mach (L2.noT H) m a n:=
 #[let⟨b,c,d,e⟩:=M.refs;#[b,nU c,d,λi r t f g=>nU (e i r t f g)],M.some1,M.few,M.n1,M.n5,M.each]
def Mach.keeps{H a:Hp}{m:Ad}{b:LN}{n:Nat}(M:Mach H m b n)(g:Keeps H a):Mach a m b n:=M.noT.same g
def Mach.drop{H:Hp}{m c:Ad}{a:LN}{n:Nat}{e:Heap->Prop}(M:Mach H m a n)(b:H c=some (.ext e)):Mach (L2.drop H c) m a n:=by
 obtain⟨f,d,g,h⟩:=M.refs;refine#[#[f,?_,g,λi r t j k=>?_],M.some1,M.few,M.n1,M.n5,M.each]
 .rw[jm (nE d b)];exact d
 .have z:=h i r t j k;rw[jm (nE z b)];exact z
def FX{u c m i:Ad}{O:Obj}{p:LN}{n:Nat}{j:Hp}{v B:Vl}{a:Arguments}{f:Expr}{d:Scope}{fx a1 a2:Expr}{kw:List Keyword}{lp cp rp:Pos}(e:iE qj=[.Return (some (.Call fx [a1,a2,.Lambda a f d lp] kw cp)) rp])(jL:hZ P w K mg base tZ 3 [sA,sC,tN] (i0 K)) (M:Mach j m p n) (h1:j u=some (mj u (lO sB a f d sA c v (.ref i) B))) (T:j c=some (jf c m O)) (h3:j i=some (oj i sB)):
  FnOk P w K mg base im 5 u (lO sB a f d sA c v (.ref i) B) ["here",uH] (iX (Same j) (ly n) p.length (nY p))/\Binds K (lO sB a f d sA c v (.ref i) B) ["here",uH] []:=by
 cases e;refine#[G6 (k:=4) (m:=m) (oc:=O) #[rZ,rZ,rZ,by decide+kernel,by decide+kernel,rZ,by decide+kernel] (λU H Q E h=>?_) (λU H Q E h=>?_) (λA C s H U Q E hr h=>?_),.all λus D=>match us,D with| [_,_],_=>rfl]
 .obtain⟨t,x,l,rfl,_⟩:=h;rfl
 .obtain⟨t,x,l,rfl,g,_⟩:=h;exact#[g _ _ h1,g _ _ T,g _ _ h3]
 .obtain⟨t,x,l,rfl,g,ht,hx,D,q⟩:=h;refine#[_,(iV jL hr.m rZ (iL (gU (pv 2) (gU (pv 0) (gU (mZ (g9 (pv 1) gX)) iM rZ) rZ) rZ))),?_];obtain⟨x1,x2⟩:=gR.mp hx;have G:=g _ _ T;refine#[_,rZ,_,rZ,_,rZ,by show 1<=sizeLine;decide,λb hb=>?_];have I:=g0 hb (.lst [nv l]);have M1:=((M.same g).drop G).same I;have J:(gI (L2.drop H c) b (.lst [nv l])) t=some (.tup (x.map nv)):=I _ _ (by rw[jm (nE ht G)];exact ht);refine#[m,t,b,p,n,x,[l],rZ,M1,N1 J,by rw[<-x1];exact CN x,x2,N' gO,λz hz=>by rw[h9.mp hz];exact D,λr H3 g3 Y free=>q r _ (λy o L=>?_) ?_]
  .by_cases N:y=c
   .subst N;rw[G]at L;cases L;exact gO
   .rw[gM N];exact g3 _ _ (I _ _ (by rw[jm N];exact L))
  .rw[gM (iU Y free)];exact Y
def KC{cd T:Ad}(F:DefAt K sL qj f fd .none (.ref cd))(hC:PySem.W.CodeHd base cd T)(bm:rF mg base)(hq:((sB:Str),(#[59,40,59,93]:Pos),T)∈jg)(jL:hZ P w K mg base tZ 3 [sA,sC,tN] (i0 K))(kC:Ce P w K mg base tK 8 ["start","letters","step",sG] (i3 P w K mg base) [.non]) (jB:mg "len"=none):FnOk P w K mg base im 10 f fd [sA,sC] (iy T (#[59,40,59,93]:Pos)):=by
 refine F.fnOk J7 (λvs H Q E h=>?_) (λA ae s H vs Q E h hr=>?_)
 .obtain⟨m,p,U,n,u,rfl,_⟩:=h;rfl
 obtain⟨m,p,U,n,u,rfl,M,hp,hU,hT,q⟩:=h;refine#[_,?_,(hK (iT (K5 kC hr.m rZ (j:=0) rZ rZ rZ rZ (iL (gU (pv 1) (gU (jv mO rZ jB lW (g9 (pv 0) gX)) (gU (EH (qual:=sB) rZ hC bm (λ_ _ _ _ _=>rfl) rZ rZ) iM rZ) rZ) rZ)))))];obtain⟨rs,hm,af,_⟩:=M.refs;refine#[_,rZ,_,rZ,m,_,rZ,.inr (N1 hm),?_]
 try dsimp only
 rw[gL,af];have go:∀(v t:Ad) (I:Vl) (J:Hp) (Y:AV),H T=some (.tbl Y)->KeepsBut T H J->J T=some (.tbl (nZ (#[59,40,59,93]:Pos) t))->J t=some (oj t sB)->∀(d:Arguments) (k:Expr) (e:Scope) (pm:Vl) (c:Ad),J v=some (mj v (lO sB d k e sA c pm (.ref t) I))->
   ∀B,J c=none->(FnOk P w K mg base im 5 v (lO sB d k e sA c pm (.ref t) I) ["here",uH] (iX (Same (gI J c (jf c m B))) (ly n) U.length (nY U)))->Binds K (lO sB d k e sA c pm (.ref t) I) ["here",uH] []->
   i3 P w K mg base [.ref p,nv U.length,.ref v,.non] (gI J c (jf c m B)) (λr H2=>H2 c=some (jf c m B)/\Q r (L2.drop H2 c)) E0:=λv t I J Y aa kb h1 h2 d k e pm c h3 B C hF hB=>by
  have k1:=kb.keeps aa;have i:=g0 C (jf c m B);have n5:=M.n5;refine#[p,v,_,_,u,U.length,ly n,nY U,rZ,i _ _ (k1 _ _ (nU hp)),i _ _ h3,hU,λx hx l hl=>?_,?_,?_,hF,hB,λD ws as H2 L W nw TT=>#[L _ _ gO,q D ws as _ (λb o N=>?_) (hT.but hq aa (λb o nb N=>?_) (.inr #[t,?_,?_])) #[W.len,?_,λj a r e1 e2=>?_] (λb N=>?_) TT]]
  .obtain⟨x1,x2⟩:=gR.mp hx;refine gR.mpr #[FG _,λr hr=>?_];obtain⟨y,h4,rfl⟩:=hX.mp (EL hr);exact xW M [l] y (x2 y h4) λz hz=>by rw[h9.mp hz];exact hl
  .exact iP (pA _ _) (by rw[gL,qm];decide)
  .have:=M.few;lia
  .have z:=k1 b o N;rw[jm (iU z C)];exact L _ _ (i _ _ z)
  .have z:=kb b o nb N;rw[jm (iU z C)];exact L _ _ (i _ _ z)
  .rw[jm (iU h1 C)];exact L _ _ (i _ _ h1)
  .rw[jm (iU h2 C)];exact L _ _ (i _ _ h2)
  .rw[jm (nE W.dict (L _ _ gO))];exact W.dict
  .have z:=W.list j a r e1 e2;rw[jm (nE z (L _ _ gO))];exact z
  .have z:=nw b N;cases y:L2.noT H b with
   |none=>rfl
   |some o=>
    have z2:=i _ _ (k1 _ _ y);rw[z]at z2;cases z2
 rcases hT _ hq with g|⟨t,g,G⟩
 .refine .inl #[g,λv t I O G ne=>#[m,rZ,λB C=>?_]];obtain⟨k1,ag,ab⟩:=Eg (#[59,40,59,93]:Pos) sB g O G ne _;have i:=g0 C (jf (s.heap.objs.size+1) m B);obtain⟨F1,F2⟩:=FX rZ jL ((M.keeps (k1.keeps g)).same i) (i _ _ gO) gO (i _ _ ab);exact go v t I _ _ g k1 ag ab _ _ _ _ _ gO B C F1 F2
 .refine .inr #[t,g,G,λv I O=>#[m,rZ,λB C=>?_]];have k1:∀lo,Same H (gI H v lo):=λlo=>g0 O lo;have i:=g0 C (jf (s.heap.objs.size+1) m B);obtain⟨F1,F2⟩:=FX rZ jL ((M.same (k1 _)).same i) (i _ _ gO) gO (i _ _ (k1 _ _ _ G));exact go v t I _ _ g (λb o _ N=>k1 _ _ _ N) (k1 _ _ _ g) (k1 _ _ _ G) _ _ _ _ _ gO B C F1 F2
inductive lF(b:List V)(H:Hp)(Q:VK)(a:XK):Prop|mk:∀n:Nat,b=[nv n]->n<=1000->rc H ((List.range n).map nv) Q->lF b H Q a
def IC(F:Fun K uO uO vY f fd)(b:mg "tuple"=none)(c:mg "range"=none):FnOk P w K mg base im 1 f fd [sC] lF:=by
 refine F.ok Kh (λd A a s H g Q E i h=>?_)
 obtain⟨n,rfl,j,q⟩:=h;refine#[_,(hK (iT (m6 (EQ rZ) rZ b vE (g9 (m6 C4 rZ c boot_range (g9 (pv 0) gX)) gX)))),?_];refine#[_,rZ,(n:Int),rZ,λp e=>#[p,(n:Int),rZ,gO,(),(),λt ht=>?_]];exact q t _ ((g0 e _).trans (g0 ht _)) gO
def beh(a b:f'):f':=a.map λx=>b.getD x 0
inductive ie(f:List V)(H:Hp)(Q:VK)(d:XK):Prop|mk:∀(a b:Ad) (c e:f'),f=[.ref a,.ref b]->H a=some (.tup (c.map nv))->H b=some (.tup (e.map nv))->(∀x∈c,x<e.length)->c.length<=1000->rc H ((beh c e).map nv) Q->ie f H Q d
def Ng(F:Fun K tT tT uY f fd)(l:mg "tuple"=none):FnOk P w K mg base im 1 f fd [uF,sN] ie:=by
 refine F.ok JT (λm A c s H z Q E B h=>?_)
 obtain⟨a,b,j,d,rfl,k,n,g,o,q⟩:=h;refine#[_,(hK (iT (m6 xL rZ l vE (g9 (np (CompSc.to (N:=[uF,sN]) (osc:=gP uY) (vs:=[uV]) {}) rZ rZ (wc (pv 0)) (λ_ _ _ _=>nC) (λ_ _ _ _=>(jo (IxR.k (K:=K) nR nO rZ) (pv 2) (pv 0) (λ_ _=>rfl)))) gX)))),?_];have e:(j.map nv).map (λv=>match v with|.int i=>nv (d.getD i.toNat 0)|v=>v)=(beh j d).map nv:=by
  unfold beh;rw[lE,lE];rfl
 refine#[_,rZ,a,rZ,#[_,N1 k],xx (f:=λv=>match v with|.int i=>nv (d.getD i.toNat 0)|v=>v) (by rw[gL];exact small o) (N1 k) (λv Q r q=>?_) (λp u=>?_)]
 .obtain⟨x,y,rfl⟩:=hX.mp r;exact#[_,rZ,_,rZ,b,_,_,_,rZ,rZ,N1 n,vc (g x y),q]
 .rw[e];exact#[p,_,rZ,.inl #[N' gO,λt ht=>q t _ ((g0 u _).trans (g0 ht _)) gO]]
def iY(n:Nat):Nat->List f'
 |0=>[[]]
 |k+1=>(iY n k).flatMap λx=>(List.range n).map λr=>x++[r]
theorem gJ{n:Nat}:∀{k:Nat} {x:f'},x∈iY n k↔x.length=k/\∀r∈x,r<n
 | 0,x=>by
  show x∈[[]]↔_;rw[h9];constructor
  .rintro rfl;exact#[rZ,λr a=>nomatch a]
  .rintro⟨h,_⟩;exact rD.mp h
 | k+1,x=>by
  show x∈(iY n k).flatMap _↔_;rw[List.mem_flatMap];constructor
  .rintro⟨y,e,f⟩;obtain⟨r,a,rfl⟩:=hX.mp f;obtain⟨b,c⟩:=gJ.mp e;refine#[by simp[b],λz g=>?_]
   rcases iC.mp g with m|m
   .exact c z m
   .rw[h9.mp m];exact lY.mp a
  .rintro⟨b,c⟩;have d:x≠[]:=λz=>by rw[z]at b;cases b
   refine#[x.dropLast,gJ.mpr #[by rw[List.length_dropLast,b];rfl,λr a=>c r (List.dropLast_subset _ a)],hX.mpr #[x.getLast d,lY.mpr (c _ (List.getLast_mem d)),E3 d]]
theorem EW{n:Nat}:∀k,(iY n k).length=n ^ k
 |0=>rfl
 | k+1=>by
  show((iY n k).flatMap _).length=_;rw[List.length_flatMap];have z:∀l:LN,(l.map λx=>((List.range n).map λr=>x++[r]).length).sum=l.length * n:=by
   intro l
   induction l with
   |nil=>simp
   |cons a l b=>rw[kz,List.sum_cons,b,gL,qm,nq,Nat.succ_mul,wL]
  rw[z,EW k,zA]
def Fg{n:Nat}(h:n<=5):(iY n n).length<=4000:=by
 rw[EW];have z:∀k:Fin 6,(k:Nat) ^ (k:Nat)<=4000:=by decide
 exact z #[n,()]
def ve(n:Nat):List.range n∈iY n n:=gJ.mpr #[qm,λr a=>lY.mp a]
def gl(t:f'):Int:= -((t.length:Nat):Int)
def pd(a:LN)(t:f'):LN:=if a.contains t then a else a++[t]
def uniq(a:LN):LN:=a.foldl pd []
def LU(a:LN)(t:f'):uniq (a++[t])=pd (uniq a) t:=by
 unfold uniq;rw[si];rfl
def LJ{a:LN}{t x:f'}:x∈pd a t↔x∈a\/x=t:=by
 unfold pd;by_cases h:a.contains t=true
 .rw[wB h];constructor
  .exact .inl
  .rintro(b|rfl)
   .exact b
   .exact qk.mp h
 .rw[wA h,iC,h9]
def LD{a:LN}{t:f'}(b:a.Nodup):(pd a t).Nodup:=by
 unfold pd;by_cases h:a.contains t=true
 .rw[wB h];exact b
 .rw[wA h,wj];refine#[b,by simp,λx c y d z=>h (List.contains_iff_mem.mpr ?_)];rw[<-h9.mp d,<-z];exact c
def DF(b:LN):(uniq b).Nodup/\∀x,x∈uniq b↔x∈b:=by
 have go:∀(b a:LN),a.Nodup->(b.foldl pd a).Nodup/\∀x,x∈b.foldl pd a↔x∈a\/x∈b:=by
  intro b
  induction b with
  |nil=>intro a c;exact#[c,λx=>by simp]
  |cons t b f=>
   intro a c;obtain⟨d,e⟩:=f (pd a t) (LD c);refine#[d,λx=>?_];rw[pY,e x,LJ,iu,or_assoc]
 obtain⟨d,e⟩:=go b [] yg;exact#[d,λx=>by rw[show uniq b=b.foldl pd []from rfl,e x];simp]
def NR{b:List (List ik×V)}{d:LN}{t:f'}{v:V}(h:b.map (·.1)=d.map nk):(nL b (nk t) v).map (·.1)=(pd d t).map nk:=by
 have e:(b.any λa=>decide (a.1=nk t))=d.contains t:=by
  rw[pD,List.any_eq_true,qk];constructor
  .rintro⟨a,f,g⟩;have m:a.1∈d.map nk:=by rw[<-h];exact hX.mpr #[a,f,rZ]
   obtain⟨u,i,j⟩:=hX.mp m;have z:=uc (j.trans (lR g));rw[<-z];exact i
  .intro ht;have m:nk t∈b.map (·.1):=by rw[h];exact hX.mpr #[t,ht,rZ]
   obtain⟨a,f,g⟩:=hX.mp m;exact#[a,f,iG g]
 unfold nL pd;rw[e];by_cases c:d.contains t=true
 .rw[wB c,wB c,<-h,lE];refine qf λa _=>?_;show(if a.1=nk t then(a.1,v)else a).1=a.1;split<;>rfl
 .rw[wA c,wA c,kg,kg,h];rfl
theorem Fs{g:Type}{lt:g->g->Bool}(i:∀x,lt x x=false)(j:∀x y z,lt x y=true->lt y z=true->lt x z=true):∀{c d:List g},c.Pairwise (λx y=>lt x y=true)->d.Pairwise (λx y=>lt x y=true)->(∀x,x∈c↔x∈d)->c=d
 | [],[],_,_,_=>rfl
 | [],q::d,_,_,h=>wC ((h q).mpr (iO ..)) (by simp)
 |p::c,[],_,_,h=>wC ((h p).mp (iO ..)) (by simp)
 | p::c,q::d,m,n,h=>by
  obtain⟨k,o⟩:=yb.mp m;obtain⟨l,s⟩:=yb.mp n;have t:∀{x y:g},lt x y=true->lt y x=true->False:=λ{x y} a b=>by
   have:=j _ _ _ a b;rw[i]at this;cases this
  have u:p=q:=by
   rcases iu.mp ((h p).mp (iO ..))with e|e
   .exact e
   .rcases iu.mp ((h q).mpr (iO ..))with e'|e'
    .exact e'.symm
    .exact(t (l p e) (k q e')).elim
  subst u;have rest:c=d:=Fs i j o s λr=>by
   constructor
   .intro f
    rcases iu.mp ((h r).mp (ja _ f))with e|e
    .subst e;have:=k r f;rw[i]at this;cases this
    .exact e
   .intro f
    rcases iu.mp ((h r).mpr (ja _ f))with e|e
    .subst e;have:=l r f;rw[i]at this;cases this
    .exact e
  rw[rest]
inductive ke(e:List V)(H:Hp)(Q:VK)(c:XK):Prop|mk:∀(l:Ad) (f:As) (a U:LN),e=[.ref l]->H l=some (.lst (f.map .ref))->TupsAt H f a->(∀t∈a,t∈U)->U.length<64->a.length<=4000->(∀D bs d b,Same H b->H D=none->b D=some (.lst (bs.map .ref))->TupsAt b bs d->(∀x,x∈d↔x∈a)->d.Pairwise (λx y=>oh gl x y=true)->Q (.ref D) b)->ke e H Q c
def HR(F:Fun K uI uI wq f fd)(d:mg "len"=none):FnOk P w K mg base im 1 f fd [sC] (lK gl):=by
 refine F.ok Is (λe A b s H j Q E k h=>?_)
 obtain⟨a,t,rfl,g,q⟩:=h;refine#[_,(hK (iT (vj (iL (gU (x5 NK (jv mO rZ d lW (g9 (pv 0) gX))) (gU (pv 0) iM rZ) rZ))))),?_];refine#[_,rZ,a,_,rZ,.inr (N1 g),_,rZ,_,rZ,by show 2<=sizeLine;decide,λi c=>?_];refine q i _ (g0 c _) ?_;rw[gO,gL];rfl
def KN(F:Fun K uJ uJ wg f fd)(M:hZ P w K mg base uI 1 [sC] (lK gl))(N:mg "sorted"=none):FnOk P w K mg base im 5 f fd [sP] ke:=by
 refine F.ok qB (λO A r s H vs Q E u h=>?_)
 obtain⟨l,Y,c,U,rfl,z,T,inU,few,B,q⟩:=h;have hu:=u.units;have v:=oO u;refine#[_,(hJ (iJ (i:=1) qB.nd rZ Z' De) (hJ (nH oP rZ (lm (pv 0)) (md (i:=2) qB.nd rZ Z') (hK (we v (pv 1) (pv 2) nV rZ))) (hK (iT (Lb rZ hu M u.m rZ N rZ (pv 1)))))),?_];intro d C;have G:=g0 C (.dT []);have la:=T.len;obtain⟨un,I⟩:=DF c;refine#[_,rZ,l,rZ,#[_,N' (G _ _ z)],rL (xs:=Y.map .ref) (λi n j=>Same H j/\∃b o,j d=some (.dT b)/\b.map (·.1)=(uniq (c.take i)).map nk/\n=[some (.ref l),some (.ref d),o]) #[G,[],none,gO,rZ,rZ] (λi n j _ p=>N' (p.1 _ _ z)) (λi x n j e p=>?_) (λn j p=>?_)]
 .obtain⟨g,b,o,y,k,rfl⟩:=p;rw[hA]at e;obtain⟨a,J,rfl⟩:=jb.mp e;have li:=(gV.mp J).1;obtain⟨t,L⟩:∃t,c[i]?=some t:=#[_,gN ()];have ha:=g _ _ (T.is i a t J L);have lk:b.length<=c.length:=by
   rw[<-gL (f:=(·.1)) (as:=b),k,gL];refine iP (rE (DF _).1 (U:=c) λx e=>?_) (gS _);exact uw (((DF _).2 x).mp e)
  refine#[_,rZ,_,rZ,d,_,rZ,DPut.t y (by rw[mJ];exact ha) (by rw[iv];lia),?_];refine#[oY g C,_,_,gO,?_,rZ];rw[NR k,om,L];show _=(uniq (c.take i++[t])).map nk;rw[LU]
 .obtain⟨g,b,o,y,k,rfl⟩:=p;rw[gL,la,mh]at k;have lu:(uniq c).length<64:=yi (rE un λx e=>inU x ((I x).mp e)) few;refine#[_,rZ,d,rZ,d,b,uniq c,rZ,y,k,lu,λD bs us H2 g2 hD eD T2 m pw=>?_];exact q D bs us H2 (g.trans g2) (g.free hD) eD T2 (λx=>(m.mem_iff).trans (I x)) pw
def PicsAt(H:Hp)(l:Ad)(d:As)(e:TW):Prop:=H l=some (.lst (d.map .ref))/\d.length=e.length/\∀(j:Nat) (a:Ad) (p:f'×f'),d[j]?=some a->e[j]?=some p->∃b c,c≠l/\H a=some (.tup [.ref b,.ref c])/\H b=some (.tup (p.1.map nv))/\H c=some (.lst (p.2.map nv))
inductive jq(T:Ad)(b:Pos)(e:List V)(H:Hp)(Q:VK)(c:XK):Prop|mk:∀(m:Ad) (d:LN) (n:Nat),e=[.ref m]->Mach H m d n->Tabs H->(∀l g f a,Keeps H a->Tabs a->PicsAt a l g f->Told (nY d) d.length (List.range n) f->Q (.ref l) a)->jq T b e H Q c
def vz(a:f'):List Dt:=(a.map λ(n:Nat)=>(n:Int)).map Dt.int
def MH{a b:f'}(h:vz a=vz b):a=b:=gZ.mp (iZ Dt.tup h)
def Gn{n:Nat}(h:n<=5):List.range n∈ly n:=by
 have z:∀k:Fin 6,lB (List.range k)=List.range k:=by decide+kernel
 exact gR.mpr #[z #[n,()],λr a=>lY.mp a]
def LV{T:Ad}(F:Fun K uK uK vL f fd)(U:hZ P w K mg base uO 1 [sC] lF)(Y:hZ P w K mg base sL 10 [sA,sC] (iy T (#[59,40,59,93]:Pos)))(jB:mg "len"=none)(jS:mg "list"=none):
  FnOk P w K mg base im 12 f fd [sA] (jq T (#[59,40,59,93]:Pos)):=by
 refine F.ok qF (λaa A g s H vs Q E C h=>?_)
 obtain⟨m,ts,n,rfl,M,hT,q⟩:=h;have t1:=M.some1;have n5:=M.n5;obtain⟨_,r0,b1,b2,b3,b4,b5,b6⟩:=M.at (l:=0) ();refine#[_,(hJ (iJ (i:=1) qF.nd rZ Z' (iV Y C.m rZ (iL (gU (pv 0) (gU (iV U C.m rZ (g9 (jv mO rZ jB lW (g9 (jo nO (pv 0) iI (λ_ _=>rfl)) gX)) gX)) iM rZ) rZ)))) (hK (iT (m6 (EY rZ) rZ jS boot_list (g9 (Ho PySem.F.plainAttrs_dict PySem.F.slot_dict_items PySem.F.type_dict_items G5 (pv 1)) gX))))),?_];refine#[_,rZ,_,rZ,m,_,_,_,rZ,rZ,N1 b1,b3,r0,_,rZ,.inr (N1 b4),?_]
 try dsimp only
 rw[gL,b5];refine#[n,rZ,(),λst H1 r t=>#[m,st,ts,n,List.range n,rZ,M.same r,t,Gn n5,hT.same r,λD ws as G k2 T2 W _ TT=>?_]];refine#[_,rZ,.inr (.inr (.inl #[rZ,.inr #[_,W.dict]])),rZ,D,_,rZ,W.dict,λv hv=>?_];have u:=g0 hv (vh v D);refine#[v,D,_,rZ,gO,u _ _ W.dict,λl ps y d=>?_];have k3:Same (gI G v (vh v D)) y:=λb o e=>by
  rw[d.rest b (iU e d.new) λz=>by rw[d.news b z]at e;cases e];exact e
 have I:Same G y:=u.trans k3;refine q l ps ws y ((r.keeps.trans k2).trans I.keeps) (T2.same I) #[d.lst,by rw[d.len,wT W.len],λj a p t B=>?_] TT;obtain⟨k,x,b,J,L,f3⟩:=d.is j a t;obtain⟨hj,_⟩:=gV.mp B;obtain⟨c,N⟩:∃c,as[j]?=some c:=#[_,gN (by rw[W.len];exact hj)];rw[DG B N]at J;cases J;have O:=u _ _ (W.list j c p N B);rw[mJ]at L;exact#[b,c,iU O d.new,f3,k3 _ _ L,k3 _ _ O]
def MF{H:Hp}{m:Ad}{a:LN}{n:Nat}(M:Mach H m a n){x:f'}{l:Nat}(b:x∈ly n)(c:l<a.length):nY a x l∈ly n:=by
 obtain⟨h,d⟩:=gR.mp b;refine gR.mpr #[FG _,λr e=>?_];obtain⟨y,f,rfl⟩:=hX.mp (EL e);exact xW M [l] y (d y f) λz g=>by rw[h9.mp g];exact c
theorem DO{b:Type}{P:Nat->b->Prop}:∀{n:Nat},(∀j,j<n->∃x,P j x)->∃a:List b,a.length=n/\∀(j:Nat) (x:b),a[j]?=some x->P j x
 |0,_=>#[[],rZ,λj x e=>by simp at e]
 | n+1,h=>by
  obtain⟨a,c,d⟩:=DO (n:=n) λj f=>h j ();obtain⟨x,g⟩:=h n ();refine#[a++[x],by simp[c],λj y e=>?_];by_cases f:j<n
  .rw[j0 ()]at e;exact d j y e
  .rw[ku ()]at e;have z:j-a.length=0:=by
    have:=(gV.mp e).1;simp at this;lia
   rw[z]at e;cases e;have i:j=n:=by lia
   subst i;exact g
structure Prs(H:Hp)(l:Ad)(as:As)(bc:List (Ad×Ad))(ws:TW):Prop where
 lst:H l=some (.lst (as.map .ref))
 la:as.length=ws.length
 lb:bc.length=ws.length
 is:∀(j:Nat) (a:Ad) (q:Ad×Ad) (p:f'×f'),as[j]?=some a->bc[j]?=some q->ws[j]?=some p->q.2≠l/\H a=some (.tup [.ref q.1,.ref q.2])/\H q.1=some (.tup (p.1.map nv))/\H q.2=some (.lst (p.2.map nv))
def PicsAt.prs{H:Hp}{l:Ad}{g:As}{d:TW}(h:PicsAt H l g d):∃m,Prs H l g m d:=by
 obtain⟨o,r,s⟩:=h;obtain⟨m,t,u⟩:=DO (n:=d.length) (P:=λj (q:Ad×Ad)=>∀a p,g[j]?=some a->d[j]?=some p->q.2≠l/\H a=some (.tup [.ref q.1,.ref q.2])/\H q.1=some (.tup (p.1.map nv))/\H q.2=some (.lst (p.2.map nv))) λj v=>by
  obtain⟨a,i⟩:∃a,g[j]?=some a:=#[_,gN ()];obtain⟨p,k⟩:∃p,d[j]?=some p:=#[_,gN v];obtain⟨b,c,w,x,y,z⟩:=s j a p i k;refine#[(b,c),λB C e f=>?_];rw[i]at e;rw[k]at f;cases e;cases f;exact#[w,x,y,z]
 exact#[m,o,r,t,λj a q p i A k=>u j q A a p i k]
def Prs.at{H:Hp}{l:Ad}{as:As}{c:List (Ad×Ad)}{b:TW}(h:Prs H l as c b){j:Nat}(g:j<b.length):∃a q p,as[j]?=some a/\c[j]?=some q/\b[j]?=some p/\q.2≠l/\H a=some (.tup [.ref q.1,.ref q.2])/\H q.1=some (.tup (p.1.map nv))/\H q.2=some (.lst (p.2.map nv)):=by
 have i:=h.la;have k:=h.lb;obtain⟨a,d⟩:∃a,as[j]?=some a:=#[_,gN ()];obtain⟨q,e⟩:∃q,c[j]?=some q:=#[_,gN ()];obtain⟨p,f⟩:∃p,b[j]?=some p:=#[_,gN g];exact#[a,q,p,d,e,f,h.is j a q p d e f]
def CZ(a:LN)(n:Nat)(x:f'):Prop:=∃word:f',(∀l∈word,l<a.length)/\jw (nY a) (List.range n) word=x
structure FamOf(ts:LN)(n:Nat)(us:LN):Prop where
 up:us.Pairwise λx y=>oh gl x y=true
 mem:∀x,x∈us↔(CZ ts n x\/∃r,r<n/\x=[r])
def FamOf.uniq{b:LN}{n:Nat}{a c:LN}(d:FamOf b n a)(e:FamOf b n c):a=c:=Fs (vP gl a).irr (vP gl a).trans d.up e.up λx=>(d.mem x).trans (e.mem x).symm
def Di{a:LN}{n:Nat}{b:TW}(T:Told (nY a) a.length (List.range n) b)(x:f'):x∈b.map (·.1)↔CZ a n x:=by
 constructor
 .intro h;obtain⟨p,c,rfl⟩:=hX.mp h;obtain⟨d,e⟩:=T.run p c;exact#[p.2,d,e]
 .rintro⟨word,f,rfl⟩;obtain⟨u,g,_⟩:=T.least _ word rZ f;exact hX.mpr #[_,g,rZ]
def E7{n r:Nat}(b:n<=5)(h:r<n):[r]∈ly n:=by
 have z:∀k:Fin 5,lB [(k:Nat)]=[(k:Nat)]:=by decide+kernel
 exact gR.mpr #[z #[r,()],λx a=>by rw[h9.mp a];exact h]
def Dq{H:Hp}{m:Ad}{a:LN}{n:Nat}(M:Mach H m a n){x:f'}(h:CZ a n x):x∈ly n:=by
 obtain⟨word,b,rfl⟩:=h;exact uk (Gn M.n5) (λy c l d=>MF M c d) word b
def Ck(n:Nat):(ly n).length<=32:=iP (pA _ _) (by rw[gL,qm];decide)
def FamOf.inU{H:Hp}{m:Ad}{a:LN}{n:Nat}{b:LN}(M:Mach H m a n)(h:FamOf a n b){x:f'}(c:x∈b):x∈ly n:=by
 rcases (h.mem x).mp c with z|⟨r,d,rfl⟩
 .exact Dq M z
 .exact E7 M.n5 d
def FamOf.few{H:Hp}{m:Ad}{d:LN}{n:Nat}{c:LN}(M:Mach H m d n)(h:FamOf d n c):c.length<=32:=by
 refine iP (rE (U:=ly n) ?_ λx f=>h.inU M f) (Ck n);exact h.up.imp λ{a b} z e=>by
  subst e;rw[(vP gl c).irr]at z;cases z
def Kq{n:Nat}(a:n<=5){x:f'}(h:x∈ly n):x.length<=n:=by
 obtain⟨b,c⟩:=gR.mp h;rw[<-b,MU a c];exact iP (pA _ _) (by simp)
def y7{H:Hp}{d:Ad}{o c:HO}{bs:As}{a:LN}(T:TupsAt H bs a)(h:H d=some o)(f:∀g,o≠ .tup g):TupsAt (gI H d c) bs a:=#[T.len,λi b u j k=>by
 have z:=T.is i b u j k;rw[gM (t8 z h λe=>f _ e.symm)];exact z]
def AW{H:Hp}{bs:As}{d:LN}{p:Ad}{u:f'}(h:TupsAt H bs d)(e:H p=some (.tup (u.map nv))):TupsAt H (bs++[p]) (d++[u]):=by
 refine#[by simp[h.len],λi b v c a=>?_];have l:=h.len;by_cases f:i<d.length
 .rw[j0 ()]at c a;exact h.is i b v c a
 .rw[ku ()]at c a;have z:i-d.length=0:=by
   have:=(gV.mp a).1;simp at this;lia
  rw[l,z]at c;rw[z]at a;cases c;cases a;exact e
def MC{H:Hp}{bs e:As}{d f:LN}(h:TupsAt H bs d)(g:TupsAt H e f):TupsAt H (bs++e) (d++f):=by
 refine#[by simp[h.len,g.len],λi b v a c=>?_];have l:=h.len;by_cases j:i<d.length
 .rw[j0 ()]at a c;exact h.is i b v a c
 .rw[ku ()]at a c;rw[l]at a;exact g.is _ b v a c
def Hj{c d:LN}(h:(Dt.lst (c.map λu=> .tup (vz u)))=Dt.lst (d.map λu=> .tup (vz u))):c=d:=by
 injection h with h
 exact vp (λa b e=>by injection e with e;exact MH e) h
inductive j7(T:Ad)(b:Pos)(d:List V)(H:Hp)(Q:VK)(c:XK):Prop|mk:∀(m:Ad) (e:LN) (n:Nat),d=[.ref m]->Mach H m e n->Tabs H->(∀D bs f a,Keeps H a->Tabs a->L2.noT H D=none->a D=some (.lst (bs.map .ref))->TupsAt a bs f->FamOf e n f->Q (.ref D) a)->j7 T b d H Q c
def IA{T:Ad}(F:Fun K uM uM rQ f fd)(kY:hZ P w K mg base uK 12 [sA] (jq T (#[59,40,59,93]:Pos)))(kZ:hZ P w K mg base uJ 5 [sP] ke)(jB:mg "len"=none)(jC:mg "range"=none):FnOk P w K mg base im 14 f fd [sA] (j7 T (#[59,40,59,93]:Pos)):=by
 refine F.ok qM (λak A aa s H vs Q E hr h=>?_)
 obtain⟨m,ts,n,rfl,M,hT,q⟩:=h;have t1:=M.some1;have n1:=M.n1;have n5:=M.n5;obtain⟨_,r0,b1,b2,b3,b4,b5,b6⟩:=M.at (l:=0) ();refine#[_,(hJ (yx (CompSc.to (N:=[sA,"singles"]) (osc:=gP rQ) (vs:=[uV]) {}) rZ rZ qM.nd (j:=1) rZ rZ (sE rZ jC (g9 (jv mO rZ jB lW (g9 (jo nO (pv 0) iI (λ_ _=>rfl)) gX)) gX)) (λ_ _ _ _=>nC) (λ_ _ _ _=>(vj (g9 (pv 0) gX)))) (hK (iT (iV kZ hr.m rZ (g9 (jj zU (AS (CompSc.to (N:=[sA,"singles"]) (osc:=gP rQ) (vs:=[sC,tN]) {}) rZ (lm (iV kY hr.m rZ (g9 (pv 0) gX))) (DX (CompSc.to (N:=[sA,"singles"]) (osc:=gP rQ) (vs:=[sC,tN]) {}) rZ rZ rZ) (λ_ _ _ _=>nC) (λ_ _ _ _=>(pv 0))) (pv 1)) gX))))),?_];refine#[_,rZ,m,_,_,_,rZ,rZ,N1 b1,b3,r0,_,rZ,.inr (N1 b4),(n:Int),by rw[gL,b5],(),(),BN (λi d c=>Same H c/\∃a,d=a.map V.ref/\a.length=i/\TupsAt c a ((List.range i).map λr=>[r])) (by rw[pN];exact small ()) #[Same.refl _,[],rZ,rZ,rZ,λi b u e=>by simp at e] (λi d c _ p=>?_) (λi d c hi p=>?_) (λd H1 p U ab=>?_)]
 .obtain⟨_,a,rfl,e,_⟩:=p;rw[gL];lia
 .obtain⟨g,a,rfl,e,Y⟩:=p;have e0:V.int (0+(i:Int))=nv i:=by show V.int (0+(i:Int))=V.int (i:Int);rw[Bj]
  refine#[mX,ph #[_,rZ,by show 1<=sizeLine;decide,λp hp=>?_]];have k:=g0 hp (.tup [V.int (0+(i:Int))]);refine#[g.trans k,a++[p],by simp,by simp[e],?_];rw[w9,kg];refine AW (Y.same k) ?_;rw[gO,e0];rfl
 obtain⟨g1,a,rfl,er,Y⟩:=p;rw[pN]at Y er;have k1:=g0 ab (.lst (a.map V.ref));have I:gI H1 U (.lst (a.map V.ref)) U=some (.lst (a.map V.ref)):=gO;have T2:=Y.same k1;have B:=g1.trans k1;generalize gI H1 U (.lst (a.map V.ref))=H2 at k1 I T2 B|-;refine#[_,rZ,m,ts,n,rZ,M.same B,hT.same B,λl as ws H3 k3 T3 ae TT=>?_];obtain⟨bc,C⟩:=ae.prs;have aj:=(M.same B);have few:ws.length<=32:=by
  rw[<-gL (f:=(·.1)) (as:=ws)];exact iP (rE TT.keys λx hx=>Dq M ((Di TT x).mp hx)) (Ck n)
 refine#[l,rZ,#[_,N' C.lst],n' (xs:=as.map .ref) (λi d c=>c=H3/\∃bs,d=bs.map V.ref/\bs.length=i/\TupsAt H3 bs ((ws.take i).map (·.1))) (by rw[gL,C.la,iv];lia) #[rZ,[],rZ,rZ,rZ,λi b u e=>by simp at e] (λi d c _ p=>?_) (λi v d c hv p=>?_) (λd c p c1 af=>?_)]
 .obtain⟨rfl,bs,rfl,e,_⟩:=p;exact#[N' C.lst,by rw[gL];lia]
 .obtain⟨rfl,bs,rfl,e,J⟩:=p;rw[hA]at hv;obtain⟨a1,ea,rfl⟩:=jb.mp hv;obtain⟨a',q',p',L,al,ag,f0,f1,f2,f3⟩:=C.at (j:=i) (by have:=(gV.mp ea).1;rw[<-C.la];exact this);rw[ea]at L;cases L;refine#[a1,_,rZ,N1 f1,rZ,_,_,rZ,_,_,rZ,rZ,B6,ph #[_,rZ,rZ,bs++[q'.1],by simp,by simp[e],?_]];rw[om,ag,kg];exact AW J f2
 obtain⟨rfl,bs,rfl,e,J⟩:=p;rw[gL,C.la,mh]at J;have G:=g0 af (.lst (bs.map V.ref));have O:=G _ _ (k3 _ _ (nU I));have T5:TupsAt (gI c c1 (.lst (bs.map V.ref))) a ((List.range n).map λr=>[r]):=#[T2.len,λi b u e1 e2=>G _ _ (k3 _ _ (nU (T2.is i b u e1 e2)))];have lb:bs.length=ws.length:=by rw[J.len,gL]
 refine#[_,rZ,c1,U,_,_,rZ,rZ,N' gO,N' O,by rw[gL,gL,lb,er,iv];lia,λl2 ah=>?_];have k2:=g0 ah (.lst (bs.map V.ref++a.map V.ref));have T6:=(MC (J.same G) T5).same k2;refine#[l2,bs++a,_,ly n,rZ,by rw[gO,kg],T6,λt ht=>?_,yi (Ck n) (by decide),by rw[jc,gL,gL,qm];lia,λD ds us H5 g5 hD eD T7 mem up=>?_]
 .rcases iC.mp ht with z|z
  .exact Dq M ((Di TT t).mp z)
  .obtain⟨r,ai,rfl⟩:=hX.mp z;exact E7 n5 (lY.mp ai)
 .have kk:Keeps H H5:=((B.keeps.trans k3).trans (G.trans k2).keeps).trans g5.keeps;refine q D ds us H5 kk (T3.same ((G.trans k2).trans g5)) ?_ eD T7 #[up,λx=>?_]
  .cases y:L2.noT H D with
   |none=>rfl
   |some o=>
    have z:=(G.trans k2) _ _ ((B.keeps.trans k3) _ _ y);rw[hD]at z;cases z
  .rw[mem x,iC,Di TT x];refine or_congr Iff.rfl ?_;rw[hX];constructor
   .rintro⟨r,h1,rfl⟩;exact#[r,lY.mp h1,rZ]
   .rintro⟨r,h1,rfl⟩;exact#[r,lY.mpr h1,rZ]
def sub(x y:f'):Bool:=x.all λr=>y.contains r
inductive oF(d:List V)(H:Hp)(Q:VK)(c:XK):Prop|mk:∀(a b:Ad) (x y:f'),d=[.ref a,.ref b]->H a=some (.tup (x.map nv))->H b=some (.tup (y.map nv))->x.length<=5->(∀e,Same H e->Q (.bl (sub x y)) e)->oF d H Q c
def qr(a:LN)(x:f'):LN:=a.filter λu=>decide (u≠x)&&sub u x
def wS(a:LN)(u:f'):Bool:=a.any λv=>decide (v≠u)&&sub u v
def yB(a:LN)(x:f'):LN:=(qr a x).filter λu=> !wS (qr a x) u
inductive p6(d:List V)(H:Hp)(Q:VK)(b:XK):Prop|mk:∀(a l:Ad) (x:f') (bs:As) (c:LN),d=[.ref a,.ref l]->H a=some (.tup (x.map nv))->H l=some (.lst (bs.map .ref))->TupsAt H bs c->x.length<=5->c.length<=32->(∀e,Same H e->Q (.bl (wS c x)) e)->p6 d H Q b
inductive mR(T:Ad)(c:Pos)(e:List V)(H:Hp)(Q:VK)(d:XK):Prop|mk:∀(m p:Ad) (f:LN) (n:Nat) (x:f'),e=[.ref m,.ref p]->Mach H m f n->H p=some (.tup (x.map nv))->Tabs H->(∀D bs g a b,Keeps H b->Tabs b->L2.noT H D=none->b D=some (.lst (bs.map .ref))->TupsAt b bs g->FamOf f n a->g=yB a x->Q (.ref D) b)->mR T c e H Q d
def wR{H:Hp}{d:As}{b:LN}{f:f'->Bool}{i:Nat}{a:Ad}{t:f'}(T:TupsAt H d ((b.take i).filter f))(e:b[i]?=some t)(g:H a=some (.tup (t.map nv))):if f t=true then TupsAt H (d++[a]) ((b.take (i+1)).filter f)else TupsAt H d ((b.take (i+1)).filter f):=by
 have h:(b.take (i+1)).filter f=(b.take i).filter f++(if f t=true then[t]else[]):=by
  rw[om,e,yt];cases c:f t with
  |true=>simp[c]
  |false=>simp[c]
 rw[h];cases c:f t with
 |true=>exact AW T g
 |false=>
  rw[wA (by decide),wA (by decide),mW];exact T
def NI(F:Fun K uG uG um f fd)(g:mg "all"=none):FnOk P w K mg base im 1 f fd [uF,sN] oF:=by
 refine F.ok Kw (λj A c s H p Q E t h=>?_)
 obtain⟨a,b,x,y,rfl,d,k,l5,q⟩:=h;refine#[_,(hK (iT (jv (KZ rZ) rZ g boot_all (g9 (np (CompSc.to (N:=[uF,sN]) (osc:=gP um) (vs:=[uV]) {}) rZ rZ (wc (pv 0)) (λ_ _ _ _=>nC) (λ_ _ _ _=>(yT (OpR.k (K:=K) (λK=>DI K false) Il rZ) (pv 0) (pv 2) (by with_unfolding_all rfl)))) gX)))),?_];refine#[_,rZ,a,rZ,#[_,N1 d],xx (f:=λv=>match v with|.int i=> .bl (y.contains i.toNat)|v=>v) (by rw[gL];exact small ()) (N1 d) (λv Q m q=>?_) (λl n=>?_)]
 .obtain⟨r,u,rfl⟩:=hX.mp m;refine#[_,rZ,_,rZ,b,_,rZ,.inr (N1 k),rZ,M9 _,?_]
  try dsimp only
  rw[xJ];exact q
 .have e:(x.map nv).map (λv=>match v with|.int i=>V.bl (y.contains i.toNat)|v=>v)=(x.map λr=>y.contains r).map V.bl:=by
   rw[lE,lE];rfl
  try dsimp only
  rw[e];refine#[l,_,rZ,N' gO,?_];have o:(x.map λr=>y.contains r).all id=sub x y:=by
   unfold sub;rw[List.all_map];rfl
  try dsimp only
  rw[o];exact q _ (g0 n _)
def NV(F:Fun K tV tV u0 f fd)(L:hZ P w K mg base uG 1 [uF,sN] oF)(M:mg "any"=none):FnOk P w K mg base im 3 f fd ["part",sP] p6:=by
 refine F.ok J3 (λO A n s H vs Q E r h=>?_)
 obtain⟨a,l,x,bs,j,rfl,U,t,T,l5,few,q⟩:=h;have Y:=r.units;have lb:=T.len;refine#[_,(hK (iT (jv (Hr rZ) rZ M boot_any (g9 (np (CompSc.to (N:=["part",sP]) (osc:=gP u0) (vs:=[sN]) {}) rZ rZ (lm (pv 1)) (λ_ _ _ _=>nC) (λ_ _ _ _=>(FP (yT (OpR.k (K:=K) (λK=>nz K true) (tr Y) rZ) (pv 0) (pv 1) (jx _)) (Ei (iV L r.m rZ (iL (gU (pv 1) (gU (pv 0) iM rZ) rZ))))))) gX)))),?_];refine#[_,rZ,l,rZ,#[_,N' t],n' (xs:=bs.map .ref) (λi k m=>Same H m/\k=((j.take i).map λv=>decide (v≠x)&&sub x v).map V.bl) (by rw[gL,iv];lia) #[Same.refl _,rZ] (λi k m hi p=>?_) (λi v k m y p=>?_) (λk m p c1 o=>?_)]
 .obtain⟨g,rfl⟩:=p;exact#[N' (g _ _ t),by simp;lia]
 .obtain⟨g,rfl⟩:=p;rw[hA]at y;obtain⟨b,B,rfl⟩:=jb.mp y;have li:=(gV.mp B).1;obtain⟨u,C⟩:∃u,j[i]?=some u:=#[_,gN ()];have D:=g _ _ (T.is i b u B C);have G:=g _ _ U;have I:((j.take (i+1)).map λv=>decide (v≠x)&&sub x v).map V.bl=((j.take i).map λv=>decide (v≠x)&&sub x v).map V.bl++[V.bl (decide (u≠x)&&sub x u)]:=by
   rw[om,C,kg,kg];rfl
  refine#[mX,ph ?_];refine#[_,rZ,_,rZ,b,a,0,_,_,rZ,rZ,lP (N1 D),lP (N1 G),by decide,λc J=>?_];by_cases e:u=x
  .have d:c=true:=J.mpr (gZ.mpr e);subst d;refine#[_,rZ,j5 #[g,?_]];rw[I,jy (λz=>z e)];rfl
  .have d:c=false:=by
    cases c with
    |false=>rfl
    |true=>exact wC (gZ.mp (J.mp rZ)) e
   subst d;refine#[_,rZ,mH #[_,rZ,_,rZ,a,b,x,u,rZ,G,D,l5,λH4 g4=>#[g.trans g4,?_]]];rw[I,iG e,Ax]
 .obtain⟨g,rfl⟩:=p;rw[gL,lb,mh];have e2:(j.map λv=>decide (v≠x)&&sub x v).any id=wS j x:=by
   unfold wS;rw[AH];rfl
  refine#[c1,_,rZ,N' gO,?_]
  try dsimp only
  rw[e2];exact q _ (g.trans (g0 o _))
def KH{T:Ad}(F:Fun K uR uR sw f fd)(kE:hZ P w K mg base uM 14 [sA] (j7 T (#[59,40,59,93]:Pos)))(jW:hZ P w K mg base uG 1 [uF,sN] oF)(kH:hZ P w K mg base tV 3 ["part",sP] p6):FnOk P w K mg base im 16 f fd [sA,sC] (mR T (#[59,40,59,93]:Pos)):=by
 refine F.ok qO (λag A ab s H vs Q E hr h=>?_)
 obtain⟨m,p,ts,n,x,rfl,M,hp,hT,q⟩:=h;have hu:=hr.units;have n5:=M.n5;refine#[_,(hJ (iJ (i:=2) qO.nd rZ Z0 (np (CompSc.to (N:=[sA,sC,"within"]) (osc:=gP sw) (vs:=["part"]) {}) rZ rZ (lm (iV kE hr.m rZ (g9 (pv 0) gX))) (λ_ _ _ _=>sg (PW.pt (Br (ko (OpR.k (K:=K) (λK=>nz K true) (tr hu) rZ) (pv 0) (pv 2) (jx _)) (Bl (u6 (iV jW hr.m rZ (iL (gU (pv 0) (gU (pv 2) iM rZ) rZ)))))))) (λ_ _ _ _=>(pv 0)))) (hK (iT (np (CompSc.to (N:=[sA,sC,"within"]) (osc:=gP sw) (vs:=["part"]) {}) rZ rZ (lm (pv 2)) (λ_ _ _ _=>sg (Bs (u6 (iV kH hr.m rZ (iL (gU (pv 0) (gU (pv 3) iM rZ) rZ)))))) (λ_ _ _ _=>(pv 0)))))),?_];refine#[_,rZ,m,ts,n,rZ,M,hT,λl bs a H1 k1 T1 nl el Tf ff=>?_];have few:=ff.few M;have lb:=Tf.len;have ae:=k1 _ _ (nU hp);have l5:∀u∈a,u.length<=5:=λu h=>iP (Kq n5 (ff.inU M h)) n5;refine#[l,rZ,#[_,N' el],n' (xs:=bs.map .ref) (λi k r=>Same H1 r/\∃d,k=d.map V.ref/\d.length<=i/\TupsAt r d ((a.take i).filter λu=>decide (u≠x)&&sub u x)) (by rw[gL,iv];lia) #[Same.refl _,[],rZ,gS _,rZ,λi b u e=>by simp at e] (λi k r hi p=>?_) (λi v k r L p=>?_) (λk H2 p O af=>?_)]
 .obtain⟨g,d,rfl,e,_⟩:=p;exact#[N' (g _ _ el),by rw[gL];exact e]
 .obtain⟨g,d,rfl,e,U⟩:=p;rw[hA]at L;obtain⟨b,Y,rfl⟩:=jb.mp L;have li:=(gV.mp Y).1;obtain⟨u,B⟩:∃u,a[i]?=some u:=#[_,gN ()];have C:=g _ _ (Tf.is i b u Y B);have hx:=g _ _ ae;refine#[mX,_,rZ,_,rZ,b,_,0,_,_,rZ,rZ,lP (N1 C),lP (N1 hx),by decide,λc hc=>#[_,rZ,?_]];by_cases ex:u=x
  .have G:c=true:=hc.mpr (gZ.mpr ex);subst G;have z:=wR U B C;rw[jy (λz=>z ex),Bool.false_and,wA (by decide)]at z;refine j5 (j5 #[g,d,rZ,(),z])
  .have G:c=false:=by
    cases c with
    |false=>rfl
    |true=>exact wC (gZ.mp (hc.mp rZ)) ex
   subst G;refine mH #[_,rZ,_,rZ,b,_,u,x,rZ,C,hx,l5 u (iq B),λH4 I=>#[_,rZ,?_]];have z:=wR (U.same I) B (I _ _ C);rw[iG ex,Ax]at z;cases c2:sub u x with
   |true=>
    rw[c2,wB rZ]at z;exact mH #[_,rZ,g.trans I,d++[b],by simp,by simp;exact e,z]
   |false=>
    rw[c2,wA (by decide)]at z;exact j5 #[g.trans I,d,rZ,(),z]
 obtain⟨g2,d,rfl,_,U⟩:=p;rw[gL,lb,mh]at U;have Tw:TupsAt H2 d (qr a x):=U;have kw:=g0 af (.lst (d.map V.ref));have t:gI H2 O (.lst (d.map V.ref)) O=some (.lst (d.map V.ref)):=gO;have J:=Tw.same kw;have g3:=g2.trans kw;generalize gI H2 O (.lst (d.map V.ref))=H3 at kw t J g3|-;have lw:(qr a x).length<=32:=iP (pA _ _) few;have lc:=Tw.len;have aa:∀u∈qr a x,u∈a:=λu h=>(ji.mp h).1;refine#[_,rZ,O,rZ,#[_,N' t],n' (xs:=d.map .ref) (λi k r=>Same H3 r/\∃j,k=j.map V.ref/\j.length<=i/\TupsAt r j (((qr a x).take i).filter λu=> !wS (qr a x) u)) (by rw[gL,iv];lia) #[Same.refl _,[],rZ,gS _,rZ,λi b u e=>by simp at e] (λi k r hi p=>?_) (λi v k r L p=>?_) (λk H4 p D hD=>?_)]
 .obtain⟨g,j,rfl,e,_⟩:=p;exact#[N' (g _ _ t),by rw[gL];exact e]
 .obtain⟨g,j,rfl,e,Td⟩:=p;rw[hA]at L;obtain⟨b,Y,rfl⟩:=jb.mp L;have li:=(gV.mp Y).1;obtain⟨u,B⟩:∃u,(qr a x)[i]?=some u:=#[_,gN ()];have C:=g _ _ (J.is i b u Y B);refine#[mX,_,rZ,_,rZ,b,O,u,d,qr a x,rZ,C,g _ _ t,J.same g,l5 u (aa u (iq B)),lw,λH5 g5=>#[_,rZ,?_]];have z:=wR (Td.same g5) B (g5 _ _ C);cases c2:wS (qr a x) u with
  |true=>
   rw[c2,wA (by decide)]at z;exact j5 #[g.trans g5,j,rZ,(),z]
  |false=>
   rw[c2,wB (by decide)]at z;exact mH #[_,rZ,g.trans g5,j++[b],by simp,by simp;exact e,z]
 obtain⟨I,j,rfl,_,Td⟩:=p;rw[gL,lc,mh]at Td;have kD:=g0 hD (.lst (j.map V.ref));have gg:=g3.trans (I.trans kD);refine q D j _ a _ (k1.trans gg.keeps) (T1.same gg) ?_ gO (Td.same kD) ff rfl;cases y:L2.noT H D with
 |none=>rfl
 |some o=>
  have z:=(g3.trans I) _ _ (k1 _ _ y);rw[hD]at z;cases z
def Rch(ts:LN)(x y:f'):Prop:=∃word:f',(∀l∈word,l<ts.length)/\jw (nY ts) x word=y
open Classical in
noncomputable def ju (a:LN) (x y:f'):Bool:=decide (Rch a x y)
def hG{a:LN}{x y:f'}:ju a x y=true↔Rch a x y:=by
 unfold ju;exact @decide_eq_true_iff _ (Classical.propDecidable _)
def Rch.refl(ts:LN)(x:f'):Rch ts x x:=#[[],λ_ h=>(nomatch h),rZ]
def Rch.trans{ts:LN}{x y z:f'}(a:Rch ts x y)(b:Rch ts y z):Rch ts x z:=by
 obtain⟨u,c,rfl⟩:=a;obtain⟨v,d,rfl⟩:=b;refine#[u++v,λl e=>(iC.mp e).elim (c l) (d l),?_];unfold jw;rw[si]
def D3{a:LN}{x:f'}{b:TW}(T:Told (nY a) a.length x b)(y:f'):y∈b.map (·.1)↔Rch a x y:=by
 constructor
 .intro h;obtain⟨p,c,rfl⟩:=hX.mp h;obtain⟨d,e⟩:=T.run p c;exact#[p.2,d,e]
 .rintro⟨word,f,rfl⟩;obtain⟨u,g,_⟩:=T.least _ word rZ f;exact hX.mpr #[_,g,rZ]
abbrev WE:=Ad×TW×As
def j9(a:LN)(ys:List WE):List (List ik×V):=a3w (a.map λx=>(x,[])) (ys.map (·.1))
structure WB(H:Hp)(D:Ad)(ts:LN)(xs:LN)(ys:List WE):Prop where
 len:ys.length=xs.length
 each:∀(i:Nat) (x:f') (y:WE),xs[i]?=some x->ys[i]?=some y->WordsAt H y.1 y.2.1 y.2.2/\Told (nY ts) ts.length x y.2.1/\y.1≠D
 nd:xs.Nodup
def WB.same{H c:Hp}{D:Ad}{d e:LN}{ys:List WE}(h:WB H D d e ys)(g:Same H c):WB c D d e ys:=#[h.len,λi x y f j=>let⟨a,b⟩:=h.each i x y f j;#[a.same g,b],h.nd]
def No{H b:Hp}{D:Ad}{c:TW}{d:As}(W:WordsAt H D c d)(g:Keeps H b):WordsAt b D c d:=#[W.len,g _ _ (nU W.dict),λj a p e f=>g _ _ (nU (W.list j a p e f))]
def WB.keeps{H c:Hp}{D:Ad}{d e:LN}{ys:List WE}(h:WB H D d e ys)(g:Keeps H c):WB c D d e ys:=#[h.len,λi x y f j=>let⟨a,b⟩:=h.each i x y f j;#[No a g,b],h.nd]
def yI{a:LN}{ys:List WE}(h:ys.length=a.length):(j9 a ys).map (·.1)=a.map nk:=by
 unfold j9 L2.a3w
 induction a generalizing ys with
 |nil=>rfl
 | cons x a b=>
  cases ys with
  |nil=>simp at h
  |cons y ys=>
   have z:=b (ys:=ys) (by simpa using h);simp only[List.map_cons,List.zipWith_cons_cons];rw[z]
def WB.off{H:Hp}{D:Ad}{e f:LN}{ys:List WE}{d:List (List ik×V)}{o:HO}(h:WB H D e f ys)(g:H D=some (.dT d)):WB (gI H D o) D e f ys:=by
 refine#[h.len,λi x y k m=>?_,h.nd];obtain⟨a,b,c⟩:=h.each i x y k m;refine#[#[a.len,by rw[gM c];exact a.dict,λj l p n q=>?_],b,c];have z:=a.list j l p n q;rw[gM (nE z g)];exact z
def ET(a:LN):((a.map λx=>((x,[]):f'×f')).map (·.1))=a:=by
 rw[lE];exact List.map_id' a
def WB.get{H:Hp}{D b:Ad}{e c:LN}{ys:List WE}{x:f'}(h:WB H D e c ys)(k:Rd H D (.dT (j9 c ys)))(l:x∈c)(m:H b=some (.tup (x.map nv))):∃W f j,DGet H D (.ref b) (some (.ref W))/\WordsAt H W f j/\Told (nY e) e.length x f/\∃i:Nat,c[i]?=some x/\ys[i]?=some (W,f,j):=by
 obtain⟨i,d⟩:=jk.mp l;have n:=(gV.mp d).1;have o:=h.len;obtain⟨y,g⟩:∃y,ys[i]?=some y:=#[_,gN ()];obtain⟨a,t,_⟩:=h.each i x y d g;have v:lG (j9 c ys) (nk x)=some (.ref y.1):=BA (p:=(x,[])) (by rw[ET];exact h.nd) (by rw[hA,d];rfl) (by rw[hA,g];rfl);exact#[y.1,y.2.1,y.2.2,.inr #[_,_,b,k,rZ,by rw[mJ];exact m,v.symm],a,t,i,d,g]
def BR{H:Hp}{W c:Ad}{b:LN}{d:TW}{f:As}{x y:f'}(a:WordsAt H W d f)(t:Told (nY b) b.length x d)(g:H c=some (.tup (y.map nv))):∃o,DGet H W (.ref c) o/\o.isSome=ju b x y:=by
 refine#[_,.inr #[_,nk y,c,.inl a.dict,rZ,by rw[mJ];exact g,rZ],?_];by_cases m:y∈d.map (·.1)
 .rw[hG.mpr ((D3 t y).mp m)];obtain⟨p,h,rfl⟩:=hX.mp m;obtain⟨l,e,_⟩:=a.word t.keys h;rw[e];rfl
 .rw[zg m];cases z:ju b x y with
  |false=>rfl
  |true=>exact wC ((D3 t y).mpr (hG.mp z)) m
noncomputable def iB (ts a:LN) (x:f'):LN:=a.filter λy=>ju ts x y&&ju ts y x
noncomputable def iz (b a:LN):nM:=(a.filter λx=>(iB b a x).head? ==some x).map (iB b a)
def big(a:LN):LN:=a.filter λx=>decide (1<x.length)
inductive iN(T:Ad)(e:Pos)(h:List V)(H:Hp)(Q:VK)(f:XK):Prop|mk:∀(m:Ad) (g:LN) (n:Nat),h=[.ref m]->Mach H m g n->Tabs H->(∀D a d c,Keeps H c->Tabs c->L2.noT H D=none->FamOf g n a->c D=some (.dT (j9 (big a) d))->WB c D g (big a) d->(∀y∈d,∀b∈y.2.2,L2.noT H b=none)->d.Pairwise (λp q=>∀b∈p.2.2,b∉q.2.2)->Q (.ref D) c)->iN T e h H Q f
inductive mS(d:List V)(H:Hp)(Q:VK)(c:XK):Prop|mk:∀(D p:Ad) (o:Obj) (e a:LN) (f:List WE) (x:f'),d=[.ref D,.ref p]->H D=some (.frz o (.dT (j9 a f)))->WB H D e a f->H p=some (.tup (x.map nv))->x∈a->a.length<=32->(∀l bs b,Same H b->H l=none->b l=some (.lst (bs.map .ref))->TupsAt b bs (iB e a x)->Q (.ref l) b)->mS d H Q c
def ML{T:Ad}(F:Fun K sY sY xp f fd)(kE:hZ P w K mg base uM 14 [sA] (j7 T (#[59,40,59,93]:Pos)))(jH:hZ P w K mg base sL 10 [sA,sC] (iy T (#[59,40,59,93]:Pos)))(jB:mg "len"=none):FnOk P w K mg base im 16 f fd [sA] (iN T (#[59,40,59,93]:Pos)):=by
 refine F.ok jX (λau A ah s H vs Q E hr h=>?_)
 obtain⟨m,ts,n,rfl,M,hT,q⟩:=h;have hu:=hr.units;have ai:=oO hr;refine#[_,(hJ (iJ (i:=1) jX.nd rZ Z' De) (hJ (nH oP rZ (lm (iV kE hr.m rZ (g9 (pv 0) gX))) (md (i:=2) jX.nd rZ Z') (hK (mA (ko Do (jv mO rZ jB lW (g9 (pv 2) gX)) iI (jx _)) (hK (we ai (pv 1) (pv 2) (iV jH hr.m rZ (iL (gU (pv 0) (gU (pv 2) iM rZ) rZ))) rZ)) mT))) (hK (iT (pv 1))))),?_];intro D hD;have kD:=g0 hD (.dT []);refine#[_,rZ,m,ts,n,rZ,M.same kD,hT.same kD,λso fs d H1 k1 T1 av aa Tf ff=>?_];have aj:=k1 _ _ (nU (gO:gI H D (.dT []) D=_));have ak:=kD.keeps.trans k1;have lf:=Tf.len;have few:=ff.few M;have al:d.Nodup:=ff.up.imp λ{a b} z e=>by
  subst e;rw[(vP gl d).irr]at z;cases z
 have ab:=ME hD
 let Pv:Nat->L2.St->Hp->Prop:=λi σ N=>Keeps H N/\Tabs N/\N so=some (.lst (fs.map .ref))/\TupsAt N fs d/\∃k o2,N D=some (.dT (j9 (big (d.take i)) k))/\WB N D ts (big (d.take i)) k/\(∀y∈k,∀b∈y.2.2,L2.noT H b=none)/\k.Pairwise (λp q=>∀b∈p.2.2,b∉q.2.2)/\σ=[some (.ref m),some (.ref D),o2]
 refine#[so,rZ,#[_,N' aa],rL (xs:=fs.map .ref) Pv #[ak,T1,aa,Tf,[],none,aj,#[rZ,λi x y e=>by simp[big]at e,List.nodup_nil],λ_ h=>(nomatch h),.nil,rZ] (λi σ N _ p=>N' p.2.2.1) (λi v σ H2 hv p=>?_) (λσ H2 p=>?_)]
 .obtain⟨k2,T2,O,C,k,o2,r,B,nw,ap,rfl⟩:=p;rw[hA]at hv;obtain⟨b,eb,rfl⟩:=jb.mp hv;have li:=(gV.mp eb).1;obtain⟨x,ex⟩:∃x,d[i]?=some x:=#[_,gN ()];have hb:=C.is i b x eb ex;have mx:=iq ex;have G:big (d.take (i+1))=big (d.take i)++(if 1<x.length then[x]else[]):=by
   unfold big;rw[om,ex,yt];by_cases c:1<x.length
   .rw[wB c];simp[c]
   .rw[wA c];simp[c]
  refine#[_,rZ,b,_,rZ,.inr (N1 hb),_,_,rZ,rZ,_,rZ,pz (λc=>?_) (λc=>?_)]
  .have c1:1<x.length:=by
    have z:=lR c;rw[gL]at z;lia
   rw[wB c1]at G;refine#[_,rZ,_,rZ,m,b,ts,n,x,rZ,M.keeps k2,hb,ff.inU M mx,T2,λW ws as H3 k3 T3 Wd U TT=>?_];have t:=k3 _ _ (nU r);have am:=k3 _ _ (nU hb);have an:=B.keeps k3;have WD:W≠D:=λz=>by
    subst z;have z2:=U W (iO ..);rw[nU r]at z2;cases z2
   have xn:x∉big (d.take i):=λh=>by
    have h1:=(ji.mp h).1;obtain⟨j,Y⟩:=jk.mp h1;have lj:=(gV.mp Y).1;rw[lZ]at lj;rw[List.getElem?_take_of_lt ()]at Y;have:=(rf () al).mp (Y.trans ex.symm)
    lia
   have vn:lG (j9 (big (d.take i)) k) (nk x)=none:=zg (by rw[ET];exact xn);have lk:(j9 (big (d.take i)) k).length<sizeLine:=by
    rw[<-gL (f:=(·.1)),yI B.len,gL,iv];have z1:(big (d.take i)).length<=(d.take i).length:=pA _ _;rw[lZ]at z1;lia
   refine#[_,rZ,_,rZ,D,_,rZ,DPut.t t (by rw[mJ];exact am) lk,?_];have ae:=k3 _ _ (nU O);have ao:TupsAt H3 fs d:=#[C.len,λi b u I J=>k3 _ _ (nU (C.is i b u I J))];have ek:nL (j9 (big (d.take i)) k) (nk x) (.ref W)=j9 (big (d.take (i+1))) (k++[(W,ws,as)]):=by
    rw[zn _ vn,G];unfold j9;rw[kg,kg];exact(D9 (ws:=(big (d.take i)).map λx=>(x,[])) (as:=k.map (·.1)) (p:=(x,[])) (a:=W) (by simp[B.len])).symm
   have wo:=an.off (o:= .dT (j9 (big (d.take (i+1))) (k++[(W,ws,as)]))) t;have Wo:WordsAt (gI H3 D (.dT (j9 (big (d.take (i+1))) (k++[(W,ws,as)])))) W ws as:=#[Wd.len,by rw[gM WD];exact Wd.dict,λj l p h1 h2=>by
    have z:=Wd.list j l p h1 h2;rw[gM (nE z t)];exact z]
   rw[ek];refine#[λL o g=>?_,?_,?_,?_,k++[(W,ws,as)],_,gO,#[?_,λj x' y' I J=>?_,?_],?_,?_,rZ]
   .rw[gM λz=>?_]
    .exact(k2.trans k3) _ _ g
    .subst z;rw[ab]at g;cases g
   .exact T3.most λL u nd _ g=>by rw[gM (t8 g t λe=>nd _ e)];exact g
   .rw[gM (nE ae t)];exact ae
   .exact y7 ao t λ_ e=>nomatch e
   .rw[G,jc,jc,B.len];rfl
   .rw[G]at I;have hl:=B.len;by_cases hj:j<k.length
    .rw[j0 ()]at I;rw[j0 hj]at J;exact wo.each j x' y' I J
    .rw[ku ()]at I J;have z:j-k.length=0:=by
      have:=(gV.mp J).1;simp at this;lia
     rw[<-hl,z]at I;rw[z]at J;cases I;cases J;exact#[Wo,TT,WD]
   .rw[G,wj];refine#[B.nd,by simp,λa ha c hc e=>xn ?_];rw[h9.mp hc]at e;rw[<-e];exact ha
   .intro y hy L g
    rcases iC.mp hy with h|h
    .exact nw y h L g
    .rw[h9.mp h]at g;have z:=U L (.tail _ g);cases y2:L2.noT H L with
     |none=>rfl
     |some o=>
      have z3:=k2 _ _ y2;rw[rk z3 (vd y2).2]at z;cases z
   .rw[mB];refine#[ap,sh _ _,λp hp q' hq L g af=>?_];rw[h9.mp hq]at af;have z:=U L (.tail _ af);obtain⟨j,Y⟩:=jk.mp hp;have lj:=(gV.mp Y).1;have hl:=B.len;obtain⟨x',aq⟩:∃x',(big (d.take i))[j]?=some x':=#[_,gN ()];obtain⟨a',_⟩:=B.each j x' p aq Y;obtain⟨j2,ag⟩:=jk.mp g;have ar:=(gV.mp ag).1;have z2:=a'.list j2 L _ ag (gN (by rw[<-a'.len];exact ar));rw[nU z2]at z;cases z
  .have c1: ¬1<x.length:=by
    have z:=of_decide_eq_false (Bool.eq_false_iff.mpr c);rw[gL]at z;lia
   rw[wA c1,mW]at G;refine#[k2,T2,O,C,k,_,?_,?_,nw,ap,rZ]
   .rw[G];exact r
   .rw[G];exact B
 .obtain⟨k2,T2,O,C,k,o2,r,B,nw,ap,rfl⟩:=p;rw[gL,lf,mh]at r B;exact#[_,rZ,q D d k H2 k2 T2 ab ff r B nw ap]
def Ld(F:Fun K tW tW vB f fd):FnOk P w K mg base im 1 f fd [sH,sC] mS:=by
 refine F.ok IK (λaa A C s H vs Q E O h=>?_)
 obtain⟨D,p,o,j,G,ys,x,rfl,k,n,T,hx,few,q⟩:=h;have hu:=O.units;have d:=oO O;refine#[_,(hK (iT (np (CompSc.to (N:=[sH,sC]) (osc:=gP vB) (vs:=[sN]) {}) rZ rZ (Gy (pv 0)) (λ_ _ _ _=>sg (PW.pt (Br (v8 (Be d (pv 0) (uu d (pv 1) (pv 2) (λ_ _=>rfl)))) (Bl (v8 (Be d (pv 2) (uu d (pv 1) (pv 0) (λ_ _=>rfl)))))))) (λ_ _ _ _=>(pv 0))))),?_];refine#[_,rZ,D,_,G,rZ,yI n.len,.inr #[o,k],λo' r fz=>?_];have e2:o'=o/\r=H:=by
  rcases fz with⟨e,rfl⟩|⟨e,_⟩
  .rw[k]at e;injection e with e
   injection e with e _
   exact#[e.symm,rZ]
  .rw[k]at e;cases e
 obtain⟨rfl,rfl⟩:=e2;have U:Rd r D (.dT (j9 G ys)):= .inr #[_,k];refine Jk (yI n.len) (λi g v=>v=r/\∃c,g=c.map V.ref/\c.length<=i/\TupsAt r c ((G.take i).filter λy=>ju j x y&&ju j y x)) (by rw[iv];lia) #[rZ,[],rZ,gS _,rZ,λi b u e=>by simp at e] (λi g v _ l=>?_) (λi a t g v Y I l=>?_) (λg v l c1 m=>?_)
 .obtain⟨rfl,c,rfl,e,_⟩:=l;exact#[k,by rw[gL];exact e]
 .obtain⟨rfl,c,rfl,e,B⟩:=l;have z:=wR (f:=λy=>ju j x y&&ju j y x) B Y I;obtain⟨W,ws,as,dg,wa,tt,_⟩:=n.get U hx T;obtain⟨o1,d1,s1⟩:=BR wa tt I;have ht:=iq Y;obtain⟨W2,ab,ae,J,L,M,_⟩:=n.get U ht I;obtain⟨o2,d2,s2⟩:=BR L M T;refine#[mX,_,rZ,_,rZ,_,rZ,D,_,rZ,dg,W,o1,rZ,d1,_,rZ,?_];rw[s1];cases c1:ju j x t with
  |false=>
   rw[c1,Bool.false_and,wA (by decide)]at z;exact j5 (j5 #[rZ,c,rZ,(),z])
  | true=>
   rw[c1,Ax]at z;refine mH #[_,rZ,_,rZ,_,rZ,D,_,rZ,J,W2,o2,rZ,d2,_,rZ,?_];rw[s2];cases c2:ju j t x with
   |true=>
    rw[c2,wB rZ]at z;exact mH #[_,rZ,rZ,c++[a],by simp,by simp;exact e,z]
   |false=>
    rw[c2,wA (by decide)]at z;exact j5 #[rZ,c,rZ,(),z]
 .obtain⟨rfl,c,rfl,_,B⟩:=l;rw[mh]at B;have kc:=g0 m (.lst (c.map V.ref));exact q c1 c _ kc m gO (B.same kc)
structure LsAt(H:Hp)(as:As)(cs:nM):Prop where
 len:as.length=cs.length
 is:∀(i:Nat) (a:Ad) (c:LN),as[i]?=some a->cs[i]?=some c->∃bs:As,H a=some (.lst (bs.map .ref))/\TupsAt H bs c
def LsAt.same{H b:Hp}{d:As}{e:nM}(h:LsAt H d e)(g:Same H b):LsAt b d e:=#[h.len,λi a c f j=>let⟨bs,k,l⟩:=h.is i a c f j;#[bs,g _ _ k,l.same g]]
def LsAt.off{H:Hp}{l:Ad}{g:List V}{o:HO}{b:As}{d:nM}(h:LsAt H b d)(j:H l=some (.lst g))(k:l∉b):LsAt (gI H l o) b d:=#[h.len,λi a c f m=>by
 obtain⟨bs,n,p⟩:=h.is i a c f m;refine#[bs,?_,y7 p j λ_ e=>nomatch e];rw[gM λ(z:a=l)=>k (by rw[<-z];exact iq f)];exact n]
def LsAt.snoc{H:Hp}{g:As}{f:nM}{a:Ad}{c:LN}{bs:As}(h:LsAt H g f)(j:H a=some (.lst (bs.map .ref)))(T:TupsAt H bs c):LsAt H (g++[a]) (f++[c]):=by
 refine#[by simp[h.len],λi b v e d=>?_];have l:=h.len;by_cases k:i<f.length
 .rw[j0 ()]at e d;exact h.is i b v e d
 .rw[ku ()]at e d;have z:i-f.length=0:=by
   have:=(gV.mp d).1;simp at this;lia
  rw[l,z]at e;rw[z]at d;cases e;cases d;exact#[bs,j,T]
def HI{ts a:LN}{x:f'}(b:x∈a):x∈iB ts a x:=ji.mpr #[b,by rw[hG.mpr (Rch.refl ts x)];rfl]
inductive lQ(g:List V)(H:Hp)(Q:VK)(d:XK):Prop|mk:∀(D:Ad) (h b:LN) (e:List WE),g=[.ref D]->H D=some (.dT (j9 b e))->WB H D h b e->b.length<=32->(∀l o f c,Same (gI H D (.frz o (.dT (j9 b e)))) c->H l=none->c l=some (.lst (f.map .ref))->LsAt c f (iz h b)->(∀a∈f,H a=none)->Q (.ref l) c)->lQ g H Q d
def Jn(F:Fun K sU sU xb f fd)(kJ:hZ P w K mg base tW 1 [sH,sC] mS):FnOk P w K mg base im 3 f fd [sH] lQ:=by
 refine F.ok jO (λaj A aa s H vs Q E hr h=>?_)
 obtain⟨D,g,d,v,rfl,hD,wb,few,q⟩:=h;have hu:=hr.units;have ak:=oO hr;refine#[_,(hJ (iJ (i:=1) jO.nd rZ Z' (mZ gX)) (hJ (nH oP rZ (Gy (pv 0)) (md (i:=2) jO.nd rZ Z') (hJ (iJ (i:=3) jO.nd rZ Z' (iV kJ hr.m rZ (iL (gU (pv 0) (gU (pv 2) iM rZ) rZ)))) (hK (mA (ko (wZ hu) (jo ny (pv 3) iI (λ_ _=>rfl)) (pv 2) (jx _)) (hK (qc (uq vq vJ wX wY (pv 1) (g9 (pv 3) gX)))) mT)))) (hK (iT (pv 1))))),?_];refine#[by show 0<=sizeLine;decide,λj m=>?_];have kf:=g0 m (.lst []);have L:=kf _ _ hD;have M:j≠D:=(iU hD m).symm;refine#[_,rZ,D,_,d,rZ,yI wb.len,.inl L,λo H2 fz=>?_];have e2:H2=gI (gI H j (.lst [])) D (.frz o (.dT (j9 d v))):=by
  rcases fz with⟨e,_⟩|⟨_,e⟩
  .rw[L]at e;cases e
  .exact e
 have gz:Same (gI H D (.frz o (.dT (j9 d v)))) H2:=λb u I=>by
  rw[e2];by_cases z:b=D
  .subst z;rw[gO]at I|-;exact I
  .rw[gM z]at I|-;exact kf _ _ I
 have wz:WB (gI H D (.frz o (.dT (j9 d v)))) D g d v:=wb.off hD;have ab:H2 j=some (.lst []):=by rw[e2,gM M,gO]
 have ae:gI H D (.frz o (.dT (j9 d v))) j=none:=by rw[gM M];exact m
 clear e2 fz
 let Pv:Nat->L2.St->Hp->Prop:=λi O T=>Same (gI H D (.frz o (.dT (j9 d v)))) T/\∃k o2 o3,T j=some (.lst (k.map .ref))/\j∉k/\(∀a∈k,H a=none)/\k.length<=i/\LsAt T k (((d.take i).filter λx=>(iB g d x).head? ==some x).map (iB g d))/\O=[some (.ref D),some (.ref j),o2,o3]
 refine Kl (yI wb.len) Pv #[gz,[],none,none,ab,by simp,(λ_ h=>nomatch h),Nat.le_refl _,#[rZ,λi a c e=>by simp at e],rZ] (λi O T _ p=>p.1 _ _ gO) (λi a x O H3 ex U p=>?_) (λO H3 p=>?_)
 .obtain⟨B,k,o2,o3,n,C,r,af,N,rfl⟩:=p;have mx:=iq ex;refine#[_,rZ,_,rZ,D,a,o,g,d,v,x,rZ,B _ _ gO,wz.same B,U,mx,few,λl bs H4 J nl el Tl=>?_];have lb:=Tl.len;have self:=HI (ts:=g) mx;obtain⟨y,rest,Y⟩:∃y rest,iB g d x=y::rest:=by
   cases z:iB g d x with
   |nil=>rw[z]at self;cases self
   |cons y rest=>exact#[y,rest,rZ]
  have b1:0<bs.length:=by
   rw[lb,Y];simp
  obtain⟨b,eb⟩:∃b,bs[0]?=some b:=#[_,gN b1];have I:H4 b=some (.tup (y.map nv)):=Tl.is 0 b y eb (by rw[Y];rfl);have ag:n9 (bs.map V.ref) ((0:Nat):Int)=some (.ref b):=pH (by rw[hA,eb];rfl);have nx:((d.take (i+1)).filter λx=>(iB g d x).head? ==some x).map (iB g d)=((d.take i).filter λx=>(iB g d x).head? ==some x).map (iB g d)++(if y=x then[iB g d x]else[]):=by
   rw[om,ex,yt,kg];by_cases c:y=x
   .rw[wB c];simp[Y,c]
   .rw[wA c];simp[Y,c]
  refine#[_,rZ,l,_,_,_,rZ,rZ,N' el,ag,_,rZ,b,a,0,_,_,rZ,rZ,lP (N1 I),lP (N1 (J _ _ U)),by decide,λc hc=>#[_,rZ,?_]];have t:=J _ _ n;have ah:l≠j:=(iU n nl).symm;have ai:H l=none:=by
   cases z:H l with
   |none=>rfl
   | some u=>
    by_cases e:l=D
    .have z2:=B _ _ (gO (H:=H) (a:=D) (o:= .frz o (.dT (j9 d v))));rw[<-e,nl]at z2;cases z2
    .have z2:=B l u (by rw[gM e];exact z);rw[nl]at z2;cases z2
  by_cases e:y=x
  .have G:c=true:=hc.mpr (gZ.mpr e);subst G;rw[wB e]at nx;refine mH #[_,rZ,.inl #[rZ,_,N' t],_,rZ,j,_,_,rZ,rZ,t,by rw[gL,iv];have:=(gV.mp ex).1;lia,?_];have L4:=(N.same J).snoc el Tl;have na:j∉k++[l]:=λz=>(iC.mp z).elim C λz=>ah (h9.mp z).symm
   refine#[oY (B.trans J) ae,k++[l],_,_,by rw[gO,kg];rfl,na,(λa U=>(iC.mp U).elim (r a) λz=>by rw[h9.mp z];exact ai),by rw[jc];simp;lia,?_,rZ];rw[nx];exact L4.off t na
  .have G:c=false:=by
    cases c with
    |false=>rfl
    |true=>exact wC (gZ.mp (hc.mp rZ)) e
   subst G;rw[wA e,mW]at nx;refine j5 #[B.trans J,k,_,_,t,C,r,(),?_,rZ];rw[nx];exact N.same J
 .obtain⟨B,k,o2,o3,n,C,r,af,N,rfl⟩:=p;rw[mh]at N;exact#[_,rZ,q j o k H3 B m n N r]
noncomputable def iR (a:LN) (b:nM) (c:LN):Bool:=b.any λd=>decide (d≠c)&&ju a (d.headD []) (c.headD [])
def AE{K:N2}{H:Hp}{a:Ad}{bs:As}{c:LN}{n:Nat}(f:H a=some (.lst (bs.map .ref)))(T:TupsAt H bs c):Rep K H (n+2) (.lst (c.map λu=> .tup (vz u))) (.ref a):=by
 refine .lst (N' f) (by rw[gL,gL,T.len]) λi d v b e=>?_;rw[hA]at b e;obtain⟨p,g,rfl⟩:=jb.mp b;obtain⟨a,h,rfl⟩:=jb.mp e;exact lP (N1 (T.is i a p h g))
def zP{H:Hp}{bs:As}{c:LN}(T:TupsAt H bs c)(d:c≠[]):∃b,n9 (bs.map V.ref) 0=some (.ref b)/\H b=some (.tup ((c.headD []).map nv))/\c.headD []∈c:=by
 have e:=T.len;obtain⟨y,rest,f⟩:∃y rest,c=y::rest:=by
  cases c with
  |nil=>exact wC rZ d
  |cons y rest=>exact#[y,rest,rZ]
 subst f;obtain⟨b,a⟩:∃b,bs[0]?=some b:=#[_,gN (by rw[e];simp)];have z:n9 (bs.map V.ref) ((0:Nat):Int)=some (.ref b):=pH (by rw[hA,a];rfl);exact#[b,z,T.is 0 b y a rZ,iO ..]
inductive mL(g:List V)(H:Hp)(Q:VK)(e:XK):Prop|mk:∀(D a l:Ad) (h f:LN) (i:List WE) (c:LN) (b:nM) (bs j:As),g=[.ref D,.ref a,.ref l]->Rd H D (.dT (j9 f i))->WB H D h f i->H a=some (.lst (bs.map .ref))->TupsAt H bs c->H l=some (.lst (j.map .ref))->LsAt H j b->c≠[]->(∀d∈b,d≠[]/\∀x∈d,x∈f)->b.length<=32->(∀k,Same H k->Q (.bl (iR h b c)) k)->mL g H Q e
def NC(F:Fun K uD uD vl f fd)(qH:mg "any"=none):FnOk P w K mg base im 1 f fd [sH,sP,tG] mL:=by
 refine F.ok JG (λaa A r s H vs Q E M h=>?_)
 obtain⟨D,a,l,j,xs,ys,c,k,bs,as,rfl,rd,wb,O,T,U,L,cne,t,few,q⟩:=h;have hu:=M.units;have m:=oO M;have la:=L.len;obtain⟨b0,u,x,_⟩:=zP T cne;refine#[_,(hK (iT (jv (Hr rZ) rZ qH boot_any (g9 (np (CompSc.to (N:=[sH,sP,tG]) (osc:=gP vl) (vs:=[sN]) {}) rZ rZ (lm (pv 2)) (λ_ _ _ _=>nC) (λ_ _ _ _=>(FP (yT (OpR.k (K:=K) (λK=>nz K true) (tr hu) rZ) (pv 0) (pv 2) (jx _)) (Ei (Fz (Be m (jo (IxR.k (K:=K) nN ny rZ) (pv 2) iI (λ_ _=>rfl)) (uu m (pv 1) (jo (IxR.k (K:=K) nN ny rZ) (pv 0) iI (λ_ _=>rfl)) (λ_ _=>rfl)))))))) gX)))),?_];refine#[_,rZ,l,rZ,#[_,N' U],n' (xs:=as.map .ref) (λi b n=>n=H/\b=((k.take i).map λd=>decide (d≠c)&&ju j (d.headD []) (c.headD [])).map V.bl) (by rw[gL,iv];lia) #[rZ,rZ] (λi b n hi p=>?_) (λi v b n Y p=>?_) (λb n p c1 y=>?_)]
 .obtain⟨rfl,rfl⟩:=p;exact#[N' U,by simp;lia]
 .obtain⟨rfl,rfl⟩:=p;rw[hA]at Y;obtain⟨e,ee,rfl⟩:=jb.mp Y;have li:=(gV.mp ee).1;obtain⟨d,B⟩:∃d,k[i]?=some d:=#[_,gN ()];obtain⟨ds,he,Td⟩:=L.is i e d ee B;obtain⟨C,dx⟩:=t d (iq B);obtain⟨b1,G,I,m1⟩:=zP Td C;have nx:((k.take (i+1)).map λd=>decide (d≠c)&&ju j (d.headD []) (c.headD [])).map V.bl=((k.take i).map λd=>decide (d≠c)&&ju j (d.headD []) (c.headD [])).map V.bl++[V.bl (decide (d≠c)&&ju j (d.headD []) (c.headD []))]:=by
   rw[om,B,kg,kg];rfl
  refine#[mX,ph ?_];refine#[_,rZ,_,rZ,e,a,1,_,_,rZ,rZ,AE he Td,AE O T,by decide,λJ hc=>?_];by_cases o:d=c
  .have g:J=true:=hc.mpr (by rw[o]);subst g;refine#[_,rZ,j5 #[rZ,?_]];rw[nx,jy (λz=>z o)];rfl
  .have g:J=false:=by
    cases J with
    |false=>rfl
    |true=>exact wC (Hj (hc.mp rZ)) o
   subst g;obtain⟨W,ws,wa,dg,wt,tt,_⟩:=wb.get rd (dx _ m1) I;obtain⟨o1,d1,s1⟩:=BR wt tt x;refine#[_,rZ,mH #[_,rZ,a,_,_,_,rZ,rZ,N' O,u,_,rZ,_,rZ,e,_,_,_,rZ,rZ,N' he,G,D,_,rZ,dg,W,o1,rZ,d1,rZ,?_]];rw[nx,iG o,Ax,s1]
 .obtain⟨rfl,rfl⟩:=p;rw[gL,la,mh];have e2:(k.map λd=>decide (d≠c)&&ju j (d.headD []) (c.headD [])).any id=iR j k c:=by
   unfold iR;rw[AH];rfl
  refine#[c1,_,rZ,N' gO,?_]
  try dsimp only
  rw[e2];exact q _ (g0 y _)
inductive Ord (ts:LN):nM->List LN->Prop
 |nil:Ord ts [] []
 |cons {cs told:nM} {s:LN} (h:(cs.filter λc=> !iR ts cs c).head?=some s) (r:Ord ts (cs.filter λc=>decide (c≠s)) told):Ord ts cs (s::told)
def AI(a:LN)(b:nM):Prop:=∀c∈b,∀d∈b,ju a (c.headD []) (d.headD [])=true->ju a (d.headD []) (c.headD [])=true->c=d
def GA{a:Type}{xs:List a}{p q:a->Bool}(h:∀z∈xs,p z=true->q z=true)(e:∃z∈xs,q z=true/\p z=false):xs.countP p<xs.countP q:=by
 induction xs with
 |nil=>
  obtain⟨z,hz,_⟩:=e;cases hz
 | cons x xs d=>
  rw[zF,zF];have mono:xs.countP p<=xs.countP q:=List.countP_mono_left λz hz f=>h z (.tail _ hz) f;obtain⟨z,hz,b,c⟩:=e
  rcases iu.mp hz with rfl|hz
  .rw[b,c];simp;lia
  .have:=d (λz hz=>h z (.tail _ hz)) #[z,hz,b,c];have g:=h x (iO ..);cases c1:p x with
   |true=>
    rw[g c1];simp;lia
   |false=>
    simp;split<;>lia
theorem Fo{a:LN}{b:nM}(un:AI a b):∀(k:Nat) (s:LN),s∈b->b.countP (λt=>ju a (t.headD []) (s.headD []))<=k->∃s∈b,iR a b s=false
 |0,s,e,h=>by
  have z:0<b.countP (λt=>ju a (t.headD []) (s.headD [])):=List.countP_pos_iff.mpr #[s,e,hG.mpr (Rch.refl a _)];lia
 | k+1,s,e,h=>by
  cases c:iR a b s with
  |false=>exact#[s,e,c]
  | true=>
   obtain⟨d,f,g⟩:=List.any_eq_true.mp c;rw[rH,AD]at g;obtain⟨i,r⟩:=g;have lt:=GA (xs:=b) (p:=λt=>ju a (t.headD []) (d.headD [])) (q:=λt=>ju a (t.headD []) (s.headD [])) (λz _ j=>hG.mpr ((hG.mp j).trans (hG.mp r))) #[s,e,hG.mpr (Rch.refl a _),by
    cases z:ju a (s.headD []) (d.headD [])with
    |false=>rfl
    |true=>exact wC (un d f s e r z) i]
   exact Fo un k d f ()
def Ha{H:Hp}{d as:As}{b:nM}{f:LN->Bool}{i:Nat}{a:Ad}{c:LN}(L:LsAt H d ((b.take i).filter f))(g:b[i]?=some c){bs:As}(h:H a=some (.lst (bs.map .ref)))(T:TupsAt H bs c):if f c=true then LsAt H (d++[a]) ((b.take (i+1)).filter f)else LsAt H d ((b.take (i+1)).filter f):=by
 have e:(b.take (i+1)).filter f=(b.take i).filter f++(if f c=true then[c]else[]):=by
  rw[om,g,yt];cases z:f c with
  |true=>simp[z]
  |false=>simp[z]
 by_cases z:f c=true
 .rw[wB z,e,wB z];exact L.snoc h T
 .rw[wA z,e,wA z,mW];exact L
inductive jp(j:List V)(H:Hp)(Q:VK)(f:XK):Prop|mk:∀(D l:Ad) (g h:LN) (k:List WE) (c:nM) (i:As),j=[.ref D,.ref l]->Rd H D (.dT (j9 h k))->WB H D g h k->H l=some (.lst (i.map .ref))->LsAt H i c->(∀d∈c,d≠[]/\∀x∈d,x∈h)->AI g c->c.length<=32->(∀l2 b told e,Same H e->H l2=none->e l2=some (.lst (b.map .ref))->LsAt e b told->Ord g c told->told.length<=32->(∀d∈told,d∈c)->(∀a∈b,a∈i)->Q (.ref l2) e)->jp j H Q f
def FW{H b:Hp}{a:Ad}{u:HO}(h:Rd H a u)(g:Same H b):Rd b a u:=h.elim (λe=> .inl (g _ _ e)) λ⟨o,e⟩=> .inr #[o,g _ _ e]
def Iu(F:Fun K sO sO tj f fd)(kP:hZ P w K mg base uD 1 [sH,sP,tG] mL):FnOk P w K mg base im 3 f fd [sH,tG] jp:=by
 refine F.ok jM (λaT A aJ s H vs Q E hr h=>?_)
 obtain⟨D,l0,M,xs,ys,aa,ab,rfl,rd,wb,av,L0,aK,un,few,q⟩:=h;have hu:=hr.units;have aU:=oO hr;refine#[_,(hJ (iJ (i:=2) jM.nd rZ Z' (mZ gX)) (hJ (AB oP (Cq (pv 1) (λ_=>rfl)) (hJ (iJ (i:=3) jM.nd rZ Z0 (np (CompSc.to (N:=[sH,tG,"told","free"]) (osc:=gP tj) (vs:=[sP]) {}) rZ rZ (lm (pv 1)) (λ_ _ _ _=>sg (Bs (u6 (iV kP hr.m rZ (iL (gU (pv 1) (gU (pv 0) (gU (pv 2) iM rZ) rZ) rZ)))))) (λ_ _ _ _=>(pv 0)))) (hJ (qc (uq vq vJ wX wY (pv 2) (g9 (jo ny (pv 3) iI (λ_ _=>rfl)) gX))) (hK (iJ (i:=1) jM.nd rZ Z0 (np (CompSc.to (N:=[sH,tG,"told","free"]) (osc:=gP tj) (vs:=[sP]) {}) rZ rZ (lm (pv 1)) (λ_ _ _ _=>sg (ko (OpR.k (K:=K) (λK=>nz K true) (tr hu) rZ) (pv 0) (jo (IxR.k (K:=K) nN ny rZ) (pv 4) iI (λ_ _=>rfl)) (jx _))) (λ_ _ _ _=>(pv 0)))))))) (hK (iT (pv 2))))),?_];refine#[by show 0<=sizeLine;decide,λt O=>?_];have kf:=g0 O (.lst []);have aw:t∉ab:=λz=>by
  obtain⟨j,ej⟩:=jk.mp z;have lj:=(gV.mp ej).1;obtain⟨bs,e,_⟩:=L0.is j t _ ej (gN (by rw[<-L0.len];exact lj));rw[O]at e;cases e
 let Wv:Nat->L2.St->Hp->Prop:=λm σ C=>Same H C/\∃l B n k told o3,C l=some (.lst (B.map .ref))/\LsAt C B n/\l≠t/\t∉B/\(∀c∈n,c∈aa)/\C t=some (.lst (k.map .ref))/\LsAt C k told/\t∉k/\(∀c∈told,c∈aa)/\told.length+n.length<=32/\(∀a∈B,a∈ab)/\(∀a∈k,a∈ab)/\(∀rest,Ord M n rest->Ord M aa (told++rest))/\m=n.length/\σ=[some (.ref D),some (.ref l),some (.ref t),o3]
 refine#[Wv,#[_,kf,l0,ab,aa,[],[],none,kf _ _ av,L0.same kf,iU av O,aw,λc h=>h,gO,#[rZ,λi a c e=>by simp at e],by simp,λc h=>(nomatch h),by simpa using few,(λ_ h=>h),(λ_ h=>nomatch h),λrest h=>h,rZ,rZ],λm σ H1 p=>?_];obtain⟨g1,l,B,n,k,told,o3,el,L,aL,ak,G,al,am,aM,ag,aV,ia,ax,ah,hm,rfl⟩:=p;have la:=L.len;have aW:=am.len;refine#[_,rZ,!(B.map V.ref).isEmpty,.inl #[_,N' el,rZ],?_];by_cases an:n=[]
 .subst an;have e:B=[]:=rD.mp la;subst e;rw[wA (by simp)];have od:=ah [] .nil;rw[mW]at od;exact#[_,rZ,q t k told H1 g1 O al am od () ag ax]
 have ne:B≠[]:=λz=>an (rD.mp (by rw[<-la,z];rfl));have c1:(!(B.map V.ref).isEmpty)=true:=by
  cases B with
  |nil=>exact wC rZ ne
  |cons=>rfl
 rw[c1];refine mH ?_;refine#[λay C=>∃m',m'<m/\Wv m' ay C,λay C h=>h,?_];have ai:∀d∈n,d≠[]/\∀x∈d,x∈xs:=λd hd=>aK d (G d hd);have aN:AI M n:=λc hc d hd=>un c (G c hc) d (G d hd);have aO:=wb.same g1;have aP:=FW rd g1;refine#[_,rZ,l,rZ,#[_,N' el],n' (xs:=B.map .ref) (λi u C=>Same H1 C/\∃r,u=r.map V.ref/\r.length<=i/\(∀e∈r,e∈B)/\LsAt C r ((n.take i).filter λc=> !iR M n c)) (by rw[gL,iv];lia) #[Same.refl _,[],rZ,gS _,λ_ h=>(nomatch h),#[rZ,λi a c e=>by simp at e]] (λi u C hi p=>?_) (λi v u C hv p=>?_) (λu H2 p fr ao=>?_)]
 .obtain⟨g,r,rfl,e,_⟩:=p;exact#[N' (g _ _ el),by rw[gL];exact e]
 .obtain⟨g,r,rfl,e,sb,Le⟩:=p;rw[hA]at hv;obtain⟨a,ea,rfl⟩:=jb.mp hv;have li:=(gV.mp ea).1;obtain⟨c,ec⟩:∃c,n[i]?=some c:=#[_,gN ()];obtain⟨bs,ha,Ta⟩:=(L.same g).is i a c ea ec;have mc:=iq ec;refine#[mX,_,rZ,_,rZ,_,rZ,D,a,l,M,xs,ys,c,n,bs,B,rZ,FW aP g,aO.same g,ha,Ta,g _ _ el,L.same g,(ai c mc).1,ai,(),λH4 g4=>#[_,rZ,?_]];have z:=Ha (as:=B) (f:=λc=> !iR M n c) (Le.same g4) ec (g4 _ _ ha) (Ta.same g4);cases c2:iR M n c with
  |false=>
   rw[c2,wB (show(!false)=true from rfl)]at z;refine mH #[_,rZ,g.trans g4,r++[a],by simp,by simp;exact e,λe' he=>?_,z];exact(iC.mp he).elim (sb e') λh=>by rw[h9.mp h];exact iq ea
  |true=>
   rw[c2,wA (by decide)]at z;exact j5 #[g.trans g4,r,rZ,(),sb,z]
 obtain⟨g2,r,rfl,_,sb,Le⟩:=p;rw[gL,la,mh]at Le;have k3:=g0 ao (.lst (r.map V.ref));have ap:gI H2 fr (.lst (r.map V.ref)) fr=some (.lst (r.map V.ref)):=gO;have az:fr≠t:=(iU (g2 _ _ al) ao).symm;have aX:fr≠l:=(iU (g2 _ _ el) ao).symm;have J:=g2.trans k3;have aq:=Le.same k3;generalize gI H2 fr (.lst (r.map V.ref))=H3 at k3 ap J aq|-;obtain⟨s0,aQ,aR⟩:∃s∈n,iR M n s=false:=by
  cases n with
  |nil=>exact wC rZ an
  |cons c n=>exact Fo aN _ c (iO ..) (gS _)
 have mf:s0∈n.filter λc=> !iR M n c:=ji.mpr #[aQ,by rw[aR];rfl];obtain⟨s,hs⟩:∃s,(n.filter λc=> !iR M n c).head?=some s:=by
  cases z:n.filter λc=> !iR M n c with
  |nil=>rw[z]at mf;cases mf
  |cons y ys=>exact#[y,rZ]
 have ms:s∈n:=(ji.mp (List.mem_of_mem_head? hs)).1;have aA:(n.filter λc=> !iR M n c)[0]?=some s:=by rw[<-List.head?_eq_getElem?];exact hs
 have le:=aq.len;obtain⟨a,ea⟩:∃a,r[0]?=some a:=#[_,gN (by rw[le];exact(gV.mp aA).1)];have aB:n9 (r.map V.ref) ((0:Nat):Int)=some (.ref a):=pH (by rw[hA,ea];rfl);obtain⟨bs,ha,Ta⟩:=aq.is 0 a s ea aA;have aC:=sb a (iq ea);have aD:a≠t:=λz=>ak (z▸aC);have I:=J _ _ al;refine#[_,rZ,.inl #[rZ,_,N' I],_,rZ,fr,_,_,_,rZ,rZ,N' ap,aB,t,_,_,rZ,rZ,I,by rw[gL,iv];lia,?_];have g4:Same H (gI H3 t (.lst (k.map V.ref++[.ref a]))):=oY (g1.trans J) O;have aE:t∉k++[a]:=λz=>(iC.mp z).elim aM λz=>aD (h9.mp z).symm;have L4:=((am.same J).snoc ha Ta).off (o:= .lst (k.map V.ref++[.ref a])) I aE;have aF:=(L.same J).off (o:= .lst (k.map V.ref++[.ref a])) I ak;have T:gI H3 t (.lst (k.map V.ref++[.ref a])) t=some (.lst ((k++[a]).map V.ref)):=by rw[gO,kg];rfl
 have ar:gI H3 t (.lst (k.map V.ref++[.ref a])) l=some (.lst (B.map V.ref)):=by
  rw[gM aL];exact J _ _ el
 have aj:gI H3 t (.lst (k.map V.ref++[.ref a])) fr=some (.lst (r.map V.ref)):=by
  rw[gM az];exact ap
 have aG:gI H3 t (.lst (k.map V.ref++[.ref a])) a=some (.lst (bs.map V.ref)):=by
  rw[gM aD];exact ha
 have aH:TupsAt (gI H3 t (.lst (k.map V.ref++[.ref a]))) bs s:=y7 Ta I λ_ e=>nomatch e;generalize gI H3 t (.lst (k.map V.ref++[.ref a]))=H4 at g4 L4 aF T ar aj aG aH|-;refine#[_,rZ,l,rZ,#[_,N' ar],n' (xs:=B.map .ref) (λi u C=>C=H4/\∃r,u=r.map V.ref/\r.length<=i/\(∀e∈r,e∈B)/\LsAt H4 r ((n.take i).filter λc=>decide (c≠s))) (by rw[gL,iv];lia) #[rZ,[],rZ,gS _,λ_ h=>(nomatch h),#[rZ,λi a c e=>by simp at e]] (λi u C hi p=>?_) (λi v u C hv p=>?_) (λu H5 p wl aI=>?_)]
 .obtain⟨rfl,r,rfl,e,_⟩:=p;exact#[N' ar,by rw[gL];exact e]
 .obtain⟨rfl,U,rfl,e,Y,ae⟩:=p;rw[hA]at hv;obtain⟨b,eb,rfl⟩:=jb.mp hv;have li:=(gV.mp eb).1;obtain⟨c,ec⟩:∃c,n[i]?=some c:=#[_,gN ()];obtain⟨ds,hb,Tb⟩:=aF.is i b c eb ec;have z:=Ha (as:=B) (f:=λc=>decide (c≠s)) ae ec hb Tb;refine#[mX,_,rZ,_,rZ,fr,_,_,_,rZ,rZ,N' aj,aB,b,a,1,_,_,rZ,rZ,AE hb Tb,AE aG aH,by decide,λcc hc=>#[_,rZ,?_]];by_cases af:c=s
  .have au:cc=true:=hc.mpr (by rw[af]);subst au;rw[jy (λz=>z af),wA (by decide)]at z;exact j5 #[rZ,U,rZ,(),Y,z]
  .have au:cc=false:=by
    cases cc with
    |false=>rfl
    |true=>exact wC (Hj (hc.mp rZ)) af
   subst au;rw[iG af,wB rZ]at z;refine mH #[_,rZ,rZ,U++[b],by simp,by simp;exact e,λe' he=>?_,z];exact(iC.mp he).elim (Y e') λh=>by rw[h9.mp h];exact iq eb
 obtain⟨rfl,U,rfl,_,Y,ae⟩:=p;rw[gL,la,mh]at ae;have k5:=g0 aI (.lst (U.map V.ref));have less:(n.filter λc=>decide (c≠s)).length<n.length:=by
  rw[<-List.countP_eq_length_filter];have z:=GA (xs:=n) (p:=λc=>decide (c≠s)) (q:=λ_=>true) (λ_ _ _=>rfl) #[s,ms,rZ,jy λz=>z rZ];rw[List.countP_true]at z;exact z
 refine#[(n.filter λc=>decide (c≠s)).length,(),g4.trans k5,wl,U,n.filter λc=>decide (c≠s),k++[a],told++[s],_,gO,ae.same k5,(iU T aI).symm,λz=>ak (Y _ z),λc hc=>G c (ji.mp hc).1,k5 _ _ T,L4.same k5,aE,λc hc=>(iC.mp hc).elim (ag c) λh=>by rw[h9.mp h];exact G s ms,by rw[jc];simp only[List.length_singleton];lia,(λb hb=>ia b (Y b hb)),(λb hb=>(List.mem_append.mp hb).elim (ax b) λz=>by rw[List.mem_singleton.mp z];exact ia a aC),λrest aS=>?_,rZ,rZ];rw[lU];exact ah _ (.cons hs aS)
def Jm{H b:Hp}{a:Ad}{u:HO}(h:Rd H a u)(c:∀d,u≠ .tbl d)(g:Keeps H b):Rd b a u:=h.elim (λe=> .inl (g _ _ (rk e c))) λ⟨o,e⟩=> .inr #[o,g _ _ (nU e)]
def re{H a:Hp}{bs:As}{c:LN}(T:TupsAt H bs c)(g:Keeps H a):TupsAt a bs c:=#[T.len,λi b u d e=>g _ _ (nU (T.is i b u d e))]
def LsAt.keeps{H b:Hp}{d:As}{e:nM}(h:LsAt H d e)(g:Keeps H b):LsAt b d e:=#[h.len,λi a c f j=>let⟨bs,k,l⟩:=h.is i a c f j;#[bs,g _ _ (nU k),re l g]]
def WB.off2{H:Hp}{D l:Ad}{d e:LN}{ys:List WE}{m:List V}{o:HO}(h:WB H D d e ys)(n:H l=some (.lst m))(q:∀y∈ys,l∉y.2.2):WB (gI H l o) D d e ys:=by
 refine#[h.len,λi x y r f=>?_,h.nd];obtain⟨a,b,c⟩:=h.each i x y r f;refine#[#[a.len,by rw[gM (nE a.dict n)];exact a.dict,λj g p k s=>?_],b,c];rw[gM λ(z:g=l)=>q y (iq f) (by rw[<-z];exact iq k)];exact a.list j g p k s
def ta{ts b:LN}{c:LN}(h:c∈iz ts b):c≠[]/\c=iB ts b (c.headD [])/\c.headD []∈b/\∀x∈c,x∈b/\Rch ts (c.headD []) x/\Rch ts x (c.headD []):=by
 obtain⟨x,g,rfl⟩:=hX.mp h;obtain⟨f,i⟩:=ji.mp g;have e:(iB ts b x).headD []=x:=by
  have z:(iB ts b x).head?=some x:=eq_of_beq i;cases y:iB ts b x with
  |nil=>rw[y]at z;cases z
  |cons a l=>
   rw[y]at z;injection z with z
 refine#[λz=>?_,by rw[e],by rw[e];exact f,λy j=>?_]
 .have s:=HI (ts:=ts) f;rw[z]at s;cases s
 .obtain⟨k,d⟩:=ji.mp j;rw[rH]at d;rw[e];exact#[k,hG.mp d.1,hG.mp d.2]
def Nr(e i:LN):AI e (iz e i):=λc j d k f g=>by
 obtain⟨_,l,_⟩:=ta j;obtain⟨_,m,_⟩:=ta k;rw[l,m];generalize c.headD []=x at f g;generalize d.headD []=y at f g;refine DJ λz _=>?_;have go:∀{x y:f'},ju e x y=true->ju e y x=true->(ju e x z&&ju e z x)=true->(ju e y z&&ju e z y)=true:=λ{x y} a b h=>by
  rw[rH]at h|-;exact#[hG.mpr ((hG.mp b).trans (hG.mp h.1)),hG.mpr ((hG.mp h.2).trans (hG.mp a))]
 rw[pD];exact#[go f g,go g f]
def LevAt(H:Hp)(l:Ad)(f e:LN)(h:LN)(j:List WE)(a:Ad)(c:LN):Prop:=∃(s t v:Ad) (bs g d:As) (i:Nat) (y:WE),H a=some (.tup [.ref s,.ref t,.ref v])/\s≠l/\t≠l/\v≠l/\l∉d/\H s=some (.lst (bs.map .ref))/\TupsAt H bs c/\H t=some (.lst (g.map .ref))/\TupsAt H g (yB e (c.headD []))/\H v=some (.lst (d.map .ref))/\d.length=c.length/\h[i]?=some (c.headD [])/\j[i]?=some y/\Told (nY f) f.length (c.headD []) y.2.1/\
 (∀b∈d,b∈y.2.2)/\∀(k:Nat) (x:f') (b:Ad),c[k]?=some x->d[k]?=some b->∃word,(x,word)∈y.2.1/\H b=some (.lst (word.map nv))
def LevAt.keeps{H q:Hp}{l:Ad}{r d u:LN}{ys:List WE}{a:Ad}{c:LN}(h:LevAt H l r d u ys a c)(g:Keeps H q):LevAt q l r d u ys a c:=by
 obtain⟨s,t,v,bs,w,z,i,y,A,B,C,D,E,G,I,J,L,e,f,j,m,n,o,p⟩:=h;refine#[s,t,v,bs,w,z,i,y,g _ _ (nU A),B,C,D,E,g _ _ (nU G),re I g,g _ _ (nU J),re L g,g _ _ (nU e),f,j,m,n,o,λk x b M N=>?_];obtain⟨word,z1,z2⟩:=p k x b M N;exact#[word,z1,g _ _ (nU z2)]
def LevAt.off{H:Hp}{l:Ad}{u d w:LN}{A:List WE}{a:Ad}{c:LN}{J:List V}{o:HO}(h:LevAt H l u d w A a c)(f:H l=some (.lst J)):LevAt (gI H l o) l u d w A a c:=by
 obtain⟨s,t,v,bs,L,M,i,y,B,C,D,E,G,N,O,Q,T,g,j,m,n,p,q,r⟩:=h;refine#[s,t,v,bs,L,M,i,y,by rw[gM (nE B f)];exact B,C,D,E,G,by rw[gM C];exact N,y7 O f (λ_ e=>nomatch e),by rw[gM D];exact Q,y7 T f (λ_ e=>nomatch e),by rw[gM E];exact g,j,m,n,p,q,λk x b U I=>?_];obtain⟨word,z1,z2⟩:=r k x b U I;refine#[word,z1,?_];rw[gM λ(z:b=l)=>G (by rw[<-z];exact iq I)];exact z2
structure LevsAt(H:Hp)(l:Ad)(ts fam xs:LN)(ys:List WE)(as:As)(told:nM):Prop where
 len:as.length=told.length
 is:∀(i:Nat) (a:Ad) (c:LN),as[i]?=some a->told[i]?=some c->LevAt H l ts fam xs ys a c
def Ea(H b:Hp)(a:Ad):Prop:=∃s t v,b a=some (.tup [.ref s,.ref t,.ref v])/\L2.noT H s=none/\L2.noT H t=none/\L2.noT H v=none
inductive lL(T:Ad)(g:Pos)(k:List V)(H:Hp)(Q:VK)(h:XK):Prop|mk:∀(m:Ad) (e:LN) (n:Nat),k=[.ref m]->Mach H m e n->Tabs H->(∀l i told d j f,Keeps H f->Tabs f->L2.noT H l=none->f l=some (.lst (i.map .ref))->FamOf e n d->Ord e (iz e (big d)) told->(∀c∈told,c∈iz e (big d))->told.length<=32->LevsAt f l e d (big d) j i told->(∀y∈j,∀b∈y.2.2,L2.noT H b=none)->j.Pairwise (λp q=>∀b∈p.2.2,b∉q.2.2)->(∀a∈i,Ea H f a)->Q (.ref l) f)->lL T g k H Q h
def JE{T:Ad}(F:Fun K uN uN vf f fd)(jT:hZ P w K mg base sY 16 [sA] (iN T (#[59,40,59,93]:Pos)))(jR:hZ P w K mg base sU 3 [sH] lQ)(jQ:hZ P w K mg base sO 3 [sH,tG] jp)(qJ:hZ P w K mg base uR 16 [sA,sC] (mR T (#[59,40,59,93]:Pos))):FnOk P w K mg base im 18 f fd [sA] (lL T (#[59,40,59,93]:Pos)):=by
 refine F.ok kB (λbf A aR s H vs Q E hr h=>?_)
 obtain⟨m,ts,n,rfl,M,hT,q⟩:=h;have hu:=hr.units;have ax:=oO hr;refine#[_,(hJ (iJ (i:=1) kB.nd rZ Z0 (iV jT hr.m rZ (g9 (pv 0) gX))) (hJ (iJ (i:=2) kB.nd rZ Z' (mZ gX)) (hJ (nH oP rZ (lm (iV jQ hr.m rZ (iL (gU (pv 1) (gU (iV jR hr.m rZ (g9 (pv 1) gX)) iM rZ) rZ)))) (md (i:=3) kB.nd rZ Z') (hJ (iJ (i:=4) kB.nd rZ Z0 (jo ny (pv 3) iI (λ_ _=>rfl))) (hJ (yx (CompSc.to (N:=[sA,sH,"told",sP,"face","ways"]) (osc:=gP vf) (vs:=[sC]) {}) rZ rZ kB.nd (j:=5) rZ rZ (lm (pv 3)) (λ_ _ _ _=>nC) (λ_ _ _ _=>(uu ax (uu ax (pv 2) (pv 5) (λ_ _=>rfl)) (pv 0) (λ_ _=>rfl)))) (hK (qc (uq vq vJ wX wY (pv 2) (g9 (vj (iL (gU (pv 3) (gU (iV qJ hr.m rZ (iL (gU (pv 0) (gU (pv 4) iM rZ) rZ))) (gU (pv 5) iM rZ) rZ) rZ))) gX))))))) (hK (iT (pv 2)))))),?_];refine#[_,rZ,m,ts,n,rZ,M,hT,λD l ys H1 k1 T1 nD ff eD wb nw ap=>?_];have few:=ff.few M;have L:(big l).length<=32:=iP (pA _ _) few;refine#[by show 0<=sizeLine;decide,λto ab=>?_];have kt:=g0 ab (.lst []);have ay:∀y∈ys,to∉y.2.2:=λy hy r=>by
  obtain⟨j,ej⟩:=jk.mp hy;have lj:=(gV.mp ej).1;have hl:=wb.len;obtain⟨x',aS⟩:∃x',(big l)[j]?=some x':=#[_,gN ()];obtain⟨a',_⟩:=wb.each j x' y aS ej;obtain⟨j2,az⟩:=jk.mp r;have aT:=(gV.mp az).1;have z2:=a'.list j2 to _ az (gN (by rw[<-a'.len];exact aT));rw[ab]at z2;cases z2
 have aU:to≠D:=(iU eD ab).symm;have ao:=kt _ _ eD;refine#[_,rZ,_,rZ,D,ts,big l,ys,rZ,ao,wb.same kt,L,λwl o as H3 g3 bg aV Lw aA=>?_];have aB:H3 D=some (.frz o (.dT (j9 (big l) ys))):=g3 _ _ gO;have aC:WB H3 D ts (big l) ys:=((wb.same kt).off ao).same g3;have k13:∀{b:Ad} {u:HO},b≠D->gI H1 to (.lst []) b=some u->H3 b=some u:=λnb r=>g3 _ _ (by rw[gM nb];exact r);have O:H3 to=some (.lst []):=k13 aU gO;have aW:∀{b:Ad} {u:HO},L2.noT H b=some u->b≠D:=λr z=>by
  subst z;rw[nD]at r;cases r
 have aX:Keeps H H3:=λb u r=>k13 (aW r) (kt _ _ (k1 _ _ r));have T3:Tabs H3:=(T1.same kt).most λb u nd _ r=>k13 (t8 r ao λe=>nd _ e) r;have aY:∀d∈iz ts (big l),d≠[]/\∀x∈d,x∈big l:=λd hd=>#[(ta hd).1,λx hx=>((ta hd).2.2.2 x hx).1];have aD:(iz ts (big l)).length<=32:=by
  unfold iz;rw[gL];exact iP (pA _ _) L
 refine#[D,wl,ts,big l,ys,_,as,rZ,.inr #[o,aB],aC,aV,Lw,aY,Nr ts _,aD,λol ae told H4 g4 aZ aE Lo od a0 sub a1=>?_];have lo:=Lo.len;have aF:ol≠to:=(iU O aZ).symm;have ak:to∉ae:=λz=>by
  obtain⟨j,ej⟩:=jk.mp z;have lj:=(gV.mp ej).1;obtain⟨bs,e,_⟩:=Lo.is j to _ ej (gN (by rw[<-lo];exact lj));have ec:=oU (show j<told.length by lia);have z1:=g4 _ _ O;rw[e]at z1;injection z1 with z1
  injection z1 with z1
  have z2:bs=[]:=BP.mp z1;obtain⟨a2,e',a3⟩:=Lo.is j to _ ej (gN ());rw[e]at e';injection e' with e'
  injection e' with e'
  rw[z2]at e';have z3:a2=[]:=BP.mp e'.symm;have z4:=a3.len;rw[z3]at z4;exact(ta (sub _ ec)).1 (rD.mp z4.symm)
 have a4:Keeps H H4:=aX.trans g4.keeps;have T4:=T3.same g4;have aG:=g4 _ _ O;have aH:L2.noT H to=none:=by
  cases z:L2.noT H to with
  |none=>rfl
  |some u=>
   have z2:=k1 _ _ z;rw[ab]at z2;cases z2
 let Pv:Nat->L2.St->Hp->Prop:=λi σ t=>Keeps H t/\Tabs t/\t ol=some (.lst (ae.map .ref))/\LsAt t ae told/\Rd t D (.dT (j9 (big l) ys))/\WB t D ts (big l) ys/\∃ls o3 o4 o5,t to=some (.lst (ls.map .ref))/\LevsAt t to ts l (big l) ys ls (told.take i)/\(∀a∈ls,Ea H t a)/\σ=[some (.ref m),some (.ref D),some (.ref to),o3,o4,o5]
 refine#[ol,rZ,#[_,N' aE],rL (xs:=ae.map .ref) Pv #[a4,T4,aE,Lo,.inr #[o,g4 _ _ aB],aC.same g4,[],none,none,none,aG,#[rZ,λi a c e=>by simp at e],(λ_ h=>nomatch h),rZ] (λi σ t _ p=>N' p.2.2.1) (λi v σ H5 hv p=>?_) (λσ H5 p=>?_)]
 .obtain⟨k5,T5,am,aq,ar,au,ls,o3,o4,o5,G,U,av,rfl⟩:=p;rw[hA]at hv;obtain⟨a,ea,rfl⟩:=jb.mp hv;have li:=(gV.mp ea).1;obtain⟨c,ec⟩:∃c,told[i]?=some c:=#[_,gN ()];obtain⟨bs,ha,Ta⟩:=aq.is i a c ea ec;obtain⟨cne,_,cx,call⟩:=ta (sub c (iq ec));obtain⟨b0,a5,aI,m0⟩:=zP Ta cne;have bh:=Ta.len;have c32:c.length<=32:=by
   rw[(ta (sub c (iq ec))).2.1];exact iP (pA _ _) L
  have a6:a≠to:=λz=>ak (z▸iq ea);obtain⟨W,ws,wa,dg,wt,tt,ix,ex,ey⟩:=au.get ar cx aI;refine#[_,rZ,a,_,_,_,rZ,rZ,N' ha,a5,?_];refine#[_,rZ,a,rZ,#[_,N' ha],n' (xs:=bs.map .ref) (λj af t=>t=H5/\∃C:As,af=C.map V.ref/\C.length=j/\(∀b∈C,b∈wa)/\∀(k:Nat) (x:f') (b:Ad),c[k]?=some x->C[k]?=some b->∃word,(x,word)∈ws/\H5 b=some (.lst (word.map nv))) (by rw[gL,iv];lia) #[rZ,[],rZ,rZ,λ_ h=>(nomatch h),λk x b _ e=>by simp at e] (λj af t hi p=>?_) (λj v af t hv p=>?_) (λaf t p I ag=>?_)]
  .obtain⟨rfl,C,rfl,e,_⟩:=p;exact#[N' ha,by rw[gL];lia]
  .obtain⟨rfl,C,rfl,e,sb,al⟩:=p;rw[hA]at hv;obtain⟨b,eb,rfl⟩:=jb.mp hv;have lj:=(gV.mp eb).1;obtain⟨x,aw⟩:∃x,c[j]?=some x:=#[_,gN ()];have r:=Ta.is j b x eb aw;obtain⟨_,r1,_⟩:=call x (iq aw);obtain⟨⟨x',u⟩,hp,e'⟩:=hX.mp ((D3 tt x).mpr r1);have B:x'=x:=e';subst B;obtain⟨aJ,v1,v2⟩:=wt.word tt.keys hp;have a7:DGet t W (.ref b) (some (.ref aJ)):= .inr #[_,nk x',b,.inl wt.dict,rZ,by rw[mJ];exact r,v1.symm];refine#[mX,ph #[_,rZ,_,rZ,D,_,rZ,dg,_,rZ,W,_,rZ,a7,rZ,C++[aJ],by simp,by simp[e],λb' ah=>?_,λk x b' J B=>?_]]
   .exact(iC.mp ah).elim (sb b') λh=>by rw[h9.mp h];exact Ig v1
   .by_cases hk:k<C.length
    .rw[j0 hk]at B;exact al k x b' J B
    .rw[ku ()]at B;have z:k-C.length=0:=by
      have:=(gV.mp B).1;simp at this;lia
     rw[z]at B;cases B;have kj:k=j:=by lia
     subst kj;rw[aw]at J;cases J;exact#[u,hp,v2]
  .obtain⟨rfl,C,rfl,a8,sb,al⟩:=p;rw[gL]at a8;have kw:=g0 ag (.lst (C.map V.ref));have aK:I≠to:=(iU G ag).symm;have aL:gI t I (.lst (C.map V.ref)) I=some (.lst (C.map V.ref)):=gO;generalize gI t I (.lst (C.map V.ref))=H6 at kw aL|-;have Y:=kw _ _ G;refine#[_,rZ,.inl #[rZ,_,N' Y],_,rZ,_,rZ,_,rZ,m,b0,ts,n,c.headD [],rZ,(M.keeps k5).same kw,kw _ _ aI,T5.same kw,λtl ds us aM H7 k7 T7 ai a9 Td ba bb=>?_];have ef:aM=l:=ba.uniq ff;subst ef;subst bb;have aN:=k7 _ _ (nU Y);have aO:tl≠to:=λz=>by
    subst z;rw[nU Y]at ai;cases ai
   refine#[_,rZ,by show 3<=sizeLine;decide,λlv bc=>?_];have kl:=g0 bc (.tup [.ref a,.ref tl,.ref I]);have aj:gI H7 lv (.tup [.ref a,.ref tl,.ref I]) lv=some (.tup [.ref a,.ref tl,.ref I]):=gO;have kk:Keeps t (gI H7 lv (.tup [.ref a,.ref tl,.ref I])):=(kw.keeps.trans k7).trans kl.keeps;have aP:Keeps H6 (gI H7 lv (.tup [.ref a,.ref tl,.ref I])):=k7.trans kl.keeps;have an:=kl _ _ a9;have aQ:=Td.same kl;have T8:=T7.same kl;have g:=kl _ _ aN;generalize gI H7 lv (.tup [.ref a,.ref tl,.ref I])=H8 at kl aj kk aP an aQ T8 g|-;have bd:=U.len;rw[lZ]at bd;refine#[to,_,_,rZ,rZ,g,by rw[gL,iv];lia,?_];have aa:∀{b:Ad} {u:HO},t b=some u->(∀ps,u≠ .tbl ps)->H8 b=some u:=λr no=>kk _ _ (rk r no)
   refine#[λb u r=>?_,?_,?_,?_,?_,?_,ls++[lv],_,_,_,by rw[gO,kg];rfl,#[?_,λj a' c' J B=>?_],λa' be=>?_,rZ]
   .rw[gM λ(z:b=to)=>by subst z;rw[aH]at r;cases r];exact(k5.trans kk) _ _ r
   .exact T8.most λb' u _ nl ah=>by rw[gM (t8 ah g λe=>nl _ e)];exact ah
   .rw[gM aF];exact aa am λ_ e=>nomatch e
   .exact(aq.keeps kk).off g ak
   .rcases Jm ar (λ_ e=>nomatch e) kk with z|⟨o',z⟩
    .exact .inl (by rw[gM (nE z g)];exact z)
    .exact .inr #[o',by rw[gM (nE z g)];exact z]
   .exact(au.keeps kk).off2 g ay
   .rw[jc,lZ];simp only[List.length_singleton];lia
   .have lt':told.take (i+1)=told.take i++[c]:=by rw[om,ec];rfl
    rw[lt']at B;by_cases hj:j<ls.length
    .rw[j0 hj]at J;rw[j0 (by rw[lZ];lia)]at B;exact((U.is j a' c' J B).keeps kk).off g
    .rw[ku ()]at J;rw[ku (by rw[lZ];lia)]at B;have z:j-ls.length=0:=by
      have:=(gV.mp J).1;simp at this;lia
     have z':j-(told.take i).length=0:=by rw[lZ];lia
     rw[z]at J;rw[z']at B;cases J;cases B;refine LevAt.off #[a,tl,I,bs,ds,C,ix,(W,ws,wa),aj,a6,aO,aK,λz=>ay _ (iq ey) (sb _ z),aa ha (λ_ e=>nomatch e),re Ta kk,an,aQ,aP _ _ (nU aL),(),ex,ey,tt,sb,λk x b J B=>?_] g;obtain⟨word,z1,z2⟩:=al k x b J B;exact#[word,z1,aa z2 λ_ e=>nomatch e]
   .rcases iC.mp be with z|z
    .obtain⟨s',t',v',z1,z2⟩:=av a' z;exact#[s',t',v',(by rw[gM (nE (aa z1 λ_ e=>nomatch e) g)];exact aa z1 λ_ e=>nomatch e),z2]
    .rw[h9.mp z];refine#[a,tl,I,by rw[gM (nE aj g)];exact aj,?_,?_,?_]
     .have z1:=aA a (a1 a (iq ea));cases y:L2.noT H a with
      |none=>rfl
      |some u=>
       rw[kt _ _ (k1 _ _ y)]at z1;cases z1
     .cases y:L2.noT H tl with
      |none=>rfl
      |some u=>
       have z1:=kw _ _ (k5 _ _ y);rw[rk z1 (vd y).2]at ai;cases ai
     .cases y:L2.noT H I with
      |none=>rfl
      |some u=>
       rw[k5 _ _ y]at ag;cases ag
 .obtain⟨k5,T5,am,aq,ar,au,ls,o3,o4,o5,G,U,av,rfl⟩:=p;rw[gL,lo,mh]at U;exact#[_,rZ,q to ls told l ys H5 k5 T5 aH G ff od sub a0 U nw ap av]
def LvH(H:Hp)(a:Ad)(c h:LN)(d:LN):Prop:=∃(s t v:Ad) (bs f e:As),H a=some (.tup [.ref s,.ref t,.ref v])/\H s=some (.lst (bs.map .ref))/\TupsAt H bs c/\H t=some (.lst (f.map .ref))/\TupsAt H f h/\H v=some (.lst (e.map .ref))/\e.length=d.length/\∀(k:Nat) (b:Ad) (g:f'),e[k]?=some b->d[k]?=some g->H b=some (.lst (g.map nv))
def LvH.same{H e:Hp}{a:Ad}{c f d:LN}(h:LvH H a c f d)(g:Same H e):LvH e a c f d:=by
 obtain⟨s,t,v,bs,i,j,l,m,n,o,p,q,r,u⟩:=h;exact#[s,t,v,bs,i,j,g _ _ l,g _ _ m,n.same g,g _ _ o,p.same g,g _ _ q,r,λk b w x y=>g _ _ (u k b w x y)]
structure LvP(ts fam:LN)(c us wds:LN):Prop where
 cls:c∈iz ts (big fam)
 tl:us=yB fam (c.headD [])
 len:wds.length=c.length
 go:∀(k:Nat) (x wd:f'),c[k]?=some x->wds[k]?=some wd->(∀l∈wd,l<ts.length)/\jw (nY ts) (c.headD []) wd=x
def LevAt.lv{H:Hp}{l:Ad}{g d:LN}{z:List WE}{a:Ad}{c:LN}(h:LevAt H l g d (big d) z a c)(A:c∈iz g (big d)):∃e,LvH H a c (yB d (c.headD [])) e/\LvP g d c (yB d (c.headD [])) e:=by
 obtain⟨s,t,v,bs,B,j,i,y,C,U,Y,h4,h5,D,E,G,I,m,J,L,M,o,N,p⟩:=h;obtain⟨e,l1,l2⟩:=DO (n:=c.length) (P:=λk f=>∃x b,c[k]?=some x/\j[k]?=some b/\(x,f)∈y.2.1/\H b=some (.lst (f.map nv))) λk O=>by
  obtain⟨x,u⟩:∃x,c[k]?=some x:=#[_,gN O];obtain⟨b,w⟩:∃b,j[k]?=some b:=#[_,gN ()];obtain⟨f,z1,z2⟩:=p k x b u w;exact#[f,x,b,u,w,z1,z2]
 refine#[e,#[s,t,v,bs,B,j,C,D,E,G,I,m,(),λk b f q r=>?_],A,rZ,l1,λk x f q r=>?_]
 .obtain⟨Q,T,_,z2,_,z4⟩:=l2 k f r;rw[q]at z2;cases z2;exact z4
 .obtain⟨Q,T,z1,_,z3,_⟩:=l2 k f r;rw[q]at z1;cases z1;exact o.run _ z3
def i5(a:LN)(x:f')(l:Nat):f':=beh x (a.getD l [])
def Mach.steps{H:Hp}{m:Ad}{a:LN}{n:Nat}(M:Mach H m a n):∀x∈iY n n,∀l,l<a.length->i5 a x l∈iY n n:=λx b l c=>by
 obtain⟨d,e⟩:=gJ.mp b;obtain⟨_,_,_,_,_,_,f,g⟩:=M.at c;refine gJ.mpr #[by unfold i5 beh;rw[List.length_map,d],λr h=>?_];obtain⟨y,i,rfl⟩:=hX.mp h;exact iS g (by rw[f];exact e y i)
abbrev oR:Str:=uE
inductive i9(C:Ad)(g:List V)(H:Hp)(Q:VK)(E:XK):Prop|mk:∀(m:Ad) (f:LN) (n most:Nat),g=[.ref m,nv most]->Mach H m f n->most<=400->Tabs H->((∀l h e d,Keeps H d->Tabs d->L2.noT H l=none->(∀(a b c:Ad),a∈h->d a=some (.tup [.ref b,.ref c])->L2.noT H c=none)->PicsAt d l h e->Told (i5 f) f.length (List.range n) e->e.length<=most->Q (.ref l) d))->((∀(e:TW) d i,Keeps H d->Tabs d->d i=some (.xd [(sG,nv most)])->(e.map (·.1)).Nodup->(∀p∈e,(∀l∈p.2,l<f.length)/\jw (i5 f) (List.range n) p.2=p.1)->most<e.length->E (.ref C) (some i) d))->i9 C g H Q E
section
variable{P:Pg}{w:World}{K:N2}{mg:SV}{base:Heap}{f C:Ad}{u:Fd}
def HJ{v c m f:Ad}{N:Obj}{u:LN}{n:Nat}{i:Hp}{z B:Vl}{a:Arguments}{d:Expr}{b:Scope}{Y a1 a2 a4:Expr}{kw:List Keyword}{C:List Expr}{s0:Stmt}{rest:List Stmt}{lp cp rp:Pos}(e:iE qa=s0:: .Assign C (.Call Y [a1,a2,.Lambda a d b lp,a4] kw cp) rp::rest)(jG:hZ P w K mg base tT 1 [uF,sN] ie) (M:Mach i m u n) (h1:i v=some (mj v (lO oR a d b sA c z (.ref f) B))) (O:i c=some (jf c m N)) (h3:i f=some (oj f oR)):
  FnOk P w K mg base im 5 v (lO oR a d b sA c z (.ref f) B) [sM,uH] (iX (Same i) (iY n n) u.length (i5 u))/\Binds K (lO oR a d b sA c z (.ref f) B) [sM,uH] []:=by
 cases e;refine#[G6 (k:=4) (m:=m) (oc:=N) #[rZ,rZ,rZ,by decide+kernel,by decide+kernel,rZ,by decide+kernel] (λT H Q E h=>?_) (λT H Q E h=>?_) (λA D s H T Q E hr h=>?_),.all λus G=>match us,G with| [_,_],_=>rfl]
 .obtain⟨t,x,l,rfl,_⟩:=h;rfl
 .obtain⟨t,x,l,rfl,g,_⟩:=h;exact#[g _ _ h1,g _ _ O,g _ _ h3]
 .obtain⟨t,x,l,rfl,g,ht,hx,G,q⟩:=h;refine#[_,(iV jG hr.m rZ (iL (gU (pv 0) (gU (jo nO (pv 2) (pv 1) (λ_ _=>rfl)) iM rZ) rZ))),?_];obtain⟨x1,x2⟩:=gJ.mp hx;have I:=g _ _ O;have M1:=(M.same g).drop I;have n5:=M.n5;have J:(L2.drop H c) t=some (.tup (x.map nv)):=by rw[jm (nE ht I)];exact ht
  obtain⟨rs,r,b1,b2,b3,b4,b5,b6⟩:=M1.at G;refine#[_,rZ,_,rZ,_,rZ,m,_,_,_,rZ,rZ,N1 b1,b3,t,r,x,u.getD l [],rZ,J,b4,λy j=>?_,(),λp H3 g3 U free=>q p _ (λy o L=>?_) ?_]
  .rw[b5];exact x2 y j
  .by_cases j:y=c
   .subst j;rw[I]at L;cases L;exact gO
   .rw[gM j];exact g3 _ _ (by rw[jm j];exact L)
  .rw[gM (iU U free)];exact U
def J8{T p m c:Ad}{u:Hp}{A:LN}{n most:Nat}{σ:L2.St}{R:V->Hp->Prop}{R':XK}{U:Vl}{f:Arguments}{i:Expr}{g:Scope}{fx a1 a2 a4:Expr}{kw:List Keyword}{ah:List Expr}{s0:Stmt}{ai:List Stmt}{lp cp rp:Pos}(e:iE qa=s0:: .Assign ah (.Call fx [a1,a2,.Lambda f i g lp,a4] kw cp) rp::ai)(jG:hZ P w K mg base tT 1 [uF,sN] ie) (Y:Mach u m A n) (hp:u p=some (.tup ((List.range n).map nv))) (M:most<=400) (hq:(oR,(#[36,41,36,91]:Pos),T)∈jg) (hT:Tabs u) (aa:σ[0]?=some (some (.ref m))) (L:σ[1]?=some (some (nv most)))(rest:∀D B as I,Keeps u I->Tabs I->WordsAt I D B as->(∀b∈D::as,L2.noT u b=none)->Told (i5 A) A.length (List.range n) B->B.length<=most->R (.ref D) I)(N:∀(B:TW) I dx,Keeps u I->Tabs I->I dx=some (.xd [(sG,nv most)])->(B.map (·.1)).Nodup->(∀p∈B,(∀l∈p.2,l<A.length)/\jw (i5 A) (List.range n) p.2=p.1)->most<B.length->R' (.ref C) (some dx) I):
  nA (zc T oR f i g sA c U (#[36,41,36,91]:Pos)) (nA (ir 1) oA) σ u λxs h=>∃m1,σ[0]?=some (some (.ref m1))/\∀k,h c=none->iw P w K mg base C (.ref p:: .int (A.length:Int)::xs++[]) (gI h c (jf c m1 k)) (λr h=>h c=some (jf c m1 k)/\R r (L2.drop h c)) (λv d h=>h c=some (jf c m1 k)/\R' v d (L2.drop h c)):=by
 have n5:=Y.n5;have go:∀(x t:Ad) (J:Vl) (H:Hp) (ab:AV),u T=some (.tbl ab)->KeepsBut T u H->H T=some (.tbl (nZ (#[36,41,36,91]:Pos) t))->H t=some (oj t oR)->H x=some (mj x (lO oR f i g sA c U (.ref t) J))->
   ∀k,H c=none->(FnOk P w K mg base im 5 x (lO oR f i g sA c U (.ref t) J) [sM,uH] (iX (Same (gI H c (jf c m k))) (iY n n) A.length (i5 A)))->Binds K (lO oR f i g sA c U (.ref t) J) [sM,uH] []->
   iw P w K mg base C [.ref p,nv A.length,.ref x,nv most] (gI H c (jf c m k)) (λr h=>h c=some (jf c m k)/\R r (L2.drop h c)) (λv d h=>h c=some (jf c m k)/\R' v d (L2.drop h c)):=λx t J H ab ae kb t1 t2 t3 k E hF hB=>by
  have k1:=kb.keeps ae;have s:=g0 E (jf c m k);have kp:∀{h:Hp},Same (gI H c (jf c m k)) h->Keeps u (L2.drop h c):=λq b o O=>by
   have z:=k1 b o O;rw[jm (iU z E)];exact q _ _ (s _ _ z)
  have tb:∀{h:Hp},Same (gI H c (jf c m k)) h->Tabs (L2.drop h c):=λq=>hT.but hq ae (λb o nb O=>by
   have z:=kb b o nb O;rw[jm (iU z E)];exact q _ _ (s _ _ z))<|.inr #[t,by
   rw[jm (iU t1 E)];exact q _ _ (s _ _ t1),by
   rw[jm (iU t2 E)];exact q _ _ (s _ _ t2)]
  refine#[p,x,_,_,List.range n,A.length,iY n n,i5 A,most,rZ,s _ _ (k1 _ _ (nU hp)),s _ _ t3,ve n,Y.steps,Fg n5,?_,M,hF,hB,λD B as h q W nw TT le=>#[q _ _ gO,rest D B as _ (kp q) (tb q) #[W.len,?_,λj a r e1 e2=>?_] (λb O=>?_) TT le],λB h dx q _ af kn run lt=>#[q _ _ gO,N B _ dx (kp q) (tb q) (by rw[jm (nE af (q _ _ gO))];exact af) kn run lt]]
  .have:=Y.few;lia
  .rw[jm (nE W.dict (q _ _ gO))];exact W.dict
  .have z:=W.list j a r e1 e2;rw[jm (nE z (q _ _ gO))];exact z
  .have z:=nw b O;cases y:L2.noT u b with
   |none=>rfl
   |some o=>
    have z2:=s _ _ (k1 _ _ y);rw[z]at z2;cases z2
 rcases hT _ hq with hT|⟨t,hT,G⟩
 .refine .inl #[hT,λx t J Q G ne=>#[_,L,m,aa,λk E=>?_]];obtain⟨k1,aj,ag⟩:=Eg (#[36,41,36,91]:Pos) oR hT Q G ne (mj x (lO oR f i g sA c U (.ref t) J));have s:=g0 E (jf c m k);obtain⟨F1,F2⟩:=HJ e jG ((Y.keeps (k1.keeps hT)).same s) (s _ _ gO) gO (s _ _ ag);exact go x t J _ _ hT k1 aj ag gO k E F1 F2
 .refine .inr #[t,hT,G,λx J Q=>#[_,L,m,aa,λk E=>?_]];have k1:∀lo,Same u (gI u x lo):=λlo=>g0 Q lo;have s:=g0 E (jf c m k);obtain⟨F1,F2⟩:=HJ e jG ((Y.same (k1 _)).same s) (s _ _ gO) gO (s _ _ (k1 _ _ _ G));exact go x t J _ _ hT (λb o _ O=>k1 _ _ _ O) (k1 _ _ _ hT) (k1 _ _ _ G) gO k E F1 F2
def JH{aa:Vl}{cd T:Ad}(F:DefAt K sS qa f u aa (.ref cd))(hC:PySem.W.CodeHd base cd T)(bm:rF mg base)(hq:(oR,(#[36,41,36,91]:Pos),T)∈jg)(kT:hZ P w K mg base uO 1 [sC] lF)(jG:hZ P w K mg base tT 1 [uF,sN] ie)(kC:CalleeDX P w K mg base tK 8 ["start","letters","step",sG] (iw P w K mg base C) []) (jB:mg "len"=none) (jS:mg "list"=none):FnOk P w K mg base (CX1 P w) 10 f u [sA,sG] (i9 C):=by
 refine F.fnOkX kW (λvs H Q E h=>?_) (λA ab s H vs Q E h hr=>?_)
 .obtain⟨m,ts,n,most,rfl,_⟩:=h;rfl
 obtain⟨m,ts,n,most,rfl,M,e,hT,q,qE⟩:=h;refine#[_,?_,(hJ (iJ (i:=2) kW.nd rZ Z' (iV kT hr.m rZ (g9 (jv mO rZ jB lW (g9 (jo nO (pv 0) iI (λ_ _=>rfl)) gX)) gX))) (hJ (iJ (i:=3) kW.nd rZ Z' (KR kC hr.m wr rZ (j:=0) rZ rZ rZ rZ (iL (gU (pv 2) (gU (jv mO rZ jB lW (g9 (pv 0) gX)) (gU (EH (qual:=uE) rZ hC bm (λ_ _ _ _ _=>rfl) rZ rZ) (gU (pv 1) iM rZ) rZ) rZ) rZ)))) (hK (iT (m6 (EY rZ) rZ jS boot_list (g9 (Ho PySem.F.plainAttrs_dict PySem.F.slot_dict_items PySem.F.type_dict_items G5 (pv 3)) gX))))))];have t1:=M.some1;have n5:=M.n5;obtain⟨_,r0,b1,b2,b3,b4,b5,b6⟩:=M.at (l:=0) ();refine#[_,rZ,m,_,_,_,rZ,rZ,N1 b1,b3,r0,_,rZ,.inr (N1 b4),?_]
 try dsimp only
 rw[gL,b5];refine#[n,rZ,(),λst H0 g e0=>?_];have M0:=M.same g;obtain⟨rs,hm,ae,_⟩:=M0.refs;refine#[_,rZ,_,rZ,m,_,rZ,.inr (N1 hm),?_]
 try dsimp only
 rw[gL,ae];refine J8 (R:=λr t=>mD 3 r _ t _) rZ jG M0 e0 e hq (hT.same g) rZ rZ (λD B as L k1 T1 W nw TT le=>?_) (λB L dx k1 T1 af kn run lt=>qE B L dx (g.keeps.trans k1) T1 af kn run lt);refine#[_,rZ,.inr (.inr (.inl #[rZ,.inr #[_,W.dict]])),rZ,D,_,rZ,W.dict,λv hv=>?_];have N:=g0 hv (vh v D);refine#[v,D,_,rZ,gO,N _ _ W.dict,λl ps t d=>?_];have k3:Same (gI L v (vh v D)) t:=λb o O=>by
  rw[d.rest b (iU O d.new) λz=>by rw[d.news b z]at O;cases O];exact O
 have kk:Same L t:=N.trans k3;have nT:∀{b:Ad},L2.noT H0 b=none->L2.noT H b=none:=λ{b} z=>by
  cases y:L2.noT H b with
  |none=>rfl
  |some o=>
   have z2:=rk (g.keeps _ _ y) (vd y).2;rw[z]at z2;cases z2
 refine q l ps B t ((g.keeps.trans k1).trans kk.keeps) (T1.same kk) ?_ (λa b c ha ag=>?_) #[d.lst,by rw[d.len,wT W.len],λj a p U G=>?_] TT le
 .cases y:L2.noT H l with
  |none=>rfl
  |some o=>
   have z2:=N _ _ (k1 _ _ (rk (g.keeps _ _ y) (vd y).2));rw[d.new]at z2;cases z2
 .obtain⟨j,U⟩:=wG ha;obtain⟨Y,_⟩:=gV.mp U;have lj:j<B.length:=by rw[d.len,wT W.len]at Y;exact Y
  obtain⟨p,G⟩:∃p,B[j]?=some p:=#[_,gN lj];obtain⟨k,x,b',I,f2,f3⟩:=d.is j a U;obtain⟨c',J⟩:∃c,as[j]?=some c:=#[_,gN (by rw[W.len];exact lj)];rw[DG G J]at I;cases I;rw[ag]at f3;cases f3;exact nT (nw _ (ja _ (iq J)))
 obtain⟨k,x,b,I,f2,f3⟩:=d.is j a U;obtain⟨Y,_⟩:=gV.mp G;obtain⟨c,J⟩:∃c,as[j]?=some c:=#[_,gN (by rw[W.len];exact Y)];rw[DG G J]at I;cases I;have hc:=N _ _ (W.list j c p J G);rw[mJ]at f2;exact#[b,c,iU hc d.new,f3,k3 _ _ f2,k3 _ _ hc]
end
def oW(a:TW):List (List ik×V):=a.map λp=>(nk p.1,V.bl true)
theorem BH:∀{a:TW} {x:f'},x∉a.map (·.1)->lG (oW a) (nk x)=none
 | [],_,_=>rfl
 |p::a,x,h=>by
  have b: ¬(nk p.1:List ik)=nk x:=λz=>h (hX.mpr #[p,iO ..,uc z]);exact(rG (p:=(nk p.1,V.bl true)) (r:=oW a) b).trans (BH λz=>h (ja _ z))
theorem Ep:∀{a:TW} {x:f'},x∈a.map (·.1)->lG (oW a) (nk x)=some (.bl true)
 | [],_,h=>nomatch h
 | p::a,x,h=>by
  by_cases e:p.1=x
  .rw[<-e];exact xl (p:=(nk p.1,V.bl true)) (r:=oW a) rfl
  .have b: ¬(nk p.1:List ik)=nk x:=λz=>e (uc z);exact(rG (p:=(nk p.1,V.bl true)) (r:=oW a) b).trans (Ep ((iu.mp h).resolve_left λz=>e z.symm))
structure WAt(H0 H:Hp)(Dk wa:Ad)(ps:As)(kn ws:TW):Prop where
 g:Same H0 H
 nK:H0 Dk=none
 nW:H0 wa=none
 known:H Dk=some (.dT (oW kn))
 lst:H wa=some (.lst (ps.map .ref))
 len:ps.length=ws.length
 each:∀(j:Nat) (p:Ad) (r:f'×f'),ps[j]?=some p->ws[j]?=some r->∃t l,H p=some (.tup [.ref t,.ref l])/\H t=some (.tup (r.1.map nv))/\H l=some (.lst (r.2.map nv))/\l≠wa
def WAt.same{a H b:Hp}{c d:Ad}{e:As}{f i:TW}(h:WAt a H c d e f i)(g:Same H b):WAt a b c d e f i:=#[h.g.trans g,h.nK,h.nW,g _ _ h.known,g _ _ h.lst,h.len,λj p r k m=>let⟨t,l,n,o,q,s⟩:=h.each j p r k m;#[t,l,g _ _ n,g _ _ o,g _ _ q,s]]
def WAt.put{f H:Hp}{a g:Ad}{i:As}{c k:TW}{r:f'×f'}(h:WAt f H a g i c k):WAt f (gI H a (.dT (oW c++[(nk r.1,.bl true)]))) a g i (c++[r]) k:=by
 have off:∀{b:Ad} {u:HO},(∀d,u≠ .dT d)->H b=some u->(gI H a (.dT (oW c++[(nk r.1,.bl true)]))) b=some u:=λm l=>by
  rw[gM (t8 l h.known λe=>m _ e)];exact l
 refine#[oY h.g h.nK,h.nK,h.nW,?_,off (λ_ e=>nomatch e) h.lst,h.len,λj p n o q=>?_]
 .rw[gO];unfold oW;rw[kg];rfl
 .obtain⟨t',s,t,v,w,x⟩:=h.each j p n o q;exact#[t',s,off (λ_ e=>nomatch e) t,off (λ_ e=>nomatch e) v,off (λ_ e=>nomatch e) w,x]
def WAt.app{n H:Hp}{m c q t l:Ad}{e:As}{o s:TW}{r:f'×f'}(h:WAt n H m c e o s)(x:H q=some (.tup [.ref t,.ref l]))(ht:H t=some (.tup (r.1.map nv)))(y:H l=some (.lst (r.2.map nv)))(u:l≠c):WAt n (gI H c (.lst (e.map .ref++[.ref q]))) m c (e++[q]) o (s++[r]):=by
 have A:m≠c:=(nE h.lst h.known).symm;have a:∀{b:Ad} {g:List V},H b=some (.tup g)->(gI H c (.lst (e.map .ref++[.ref q]))) b=some (.tup g):=λk=>by
  rw[gM (nE k h.lst)];exact k
 have d:∀{b:Ad} {g:List V},b≠c->H b=some (.lst g)->(gI H c (.lst (e.map .ref++[.ref q]))) b=some (.lst g):=λB k=>by
  rw[gM B];exact k
 refine#[oY h.g h.nW,h.nK,h.nW,by rw[gM A];exact h.known,?_,by simp[h.len],λj p C f i=>?_]
 .rw[gO,kg];rfl
 .by_cases v:j<e.length
  .rw[j0 v]at f;rw[j0 (by rw[<-h.len];exact v)]at i;obtain⟨D,E,G,I,J,w⟩:=h.each j p C f i;exact#[D,E,a G,a I,d w J,w]
  .rw[ku ()]at f;rw[ku (by rw[<-h.len];lia)]at i;have z:j-e.length=0:=by
    have:=(gV.mp f).1;simp at this;lia
   rw[z]at f;rw[<-h.len,z]at i;cases f;cases i;exact#[t,l,a x,a ht,d u y,u]
termination_by (U.length-ws.length,ws.length-i,L-j)
decreasing_by
 all_goals simp_wf
 .exact Prod.Lex.right _ (Prod.Lex.left _ _ ())
 .exact Prod.Lex.right _ (Prod.Lex.right _ ())
 .exact Prod.Lex.left _ _ ()
inductive p0(e:List V)(H:Hp)(Q:VK)(c:XK):Prop|mk:∀(m:Ad) (a:LN) (n most:Nat),e=[.ref m,nv most]->Mach H m a n->most<=400->(∀l f b d,Same H d->PicsAt d l f b->(b.map (·.1)).Nodup->(∀p∈b,(∀x∈p.2,x<a.length)/\jw (i5 a) (List.range n) p.2=p.1)->(b.length<=most->Told (i5 a) a.length (List.range n) b)->Q (.ref l) d)->p0 e H Q c
def IR(F:Fun K sT sT vg f fd)(l:mg "tuple"=none):FnOk P w K mg base im 1 f fd [sW,sK] ie:=by
 refine F.ok JC (λm A c s H z Q E B h=>?_)
 obtain⟨a,b,j,d,rfl,k,n,g,o,q⟩:=h;refine#[_,(hK (iT (m6 xL rZ l vE (g9 (np (CompSc.to (N:=[sW,sK]) (osc:=gP vg) (vs:=["_law_room"]) {}) rZ rZ (wc (pv 0)) (λ_ _ _ _=>nC) (λ_ _ _ _=>(jo (IxR.k (K:=K) nR nO rZ) (pv 2) (pv 0) (λ_ _=>rfl)))) gX)))),?_];have e:(j.map nv).map (λv=>match v with|.int i=>nv (d.getD i.toNat 0)|v=>v)=(beh j d).map nv:=by
  unfold beh;rw[lE,lE];rfl
 refine#[_,rZ,a,rZ,#[_,N1 k],xx (f:=λv=>match v with|.int i=>nv (d.getD i.toNat 0)|v=>v) (by rw[gL];exact small o) (N1 k) (λv Q r q=>?_) (λp u=>?_)]
 .obtain⟨x,y,rfl⟩:=hX.mp r;exact#[_,rZ,_,rZ,b,_,_,_,rZ,rZ,N1 n,vc (g x y),q]
 .rw[e];exact#[p,_,rZ,.inl #[N' gO,λt ht=>q t _ ((g0 u _).trans (g0 ht _)) gO]]
def L5(F:Fun K uL uL wu f fd)(jA:hZ P w K mg base sT 1 [sW,sK] ie)(jE:mg "tuple"=none)(jC:mg "range"=none)(jB:mg "len"=none):FnOk P w K mg base im 3 f fd [sJ,uT] p0:=by
 refine F.ok jP (λaU A aH s H vs Q E hr h=>?_)
 obtain⟨m,g,n,most,rfl,M,aI,q⟩:=h;have ae:=oO hr;refine#[_,(hJ (iJ (i:=2) jP.nd rZ Z' (mZ (g9 (vj (iL (gU (m6 (EQ rZ) rZ jE vE (g9 (m6 C4 rZ jC boot_range (g9 (jv mO rZ jB lW (g9 (jo nO (pv 0) iI (λ_ _=>rfl)) gX)) gX)) gX)) (gU (mZ gX) iM rZ) rZ))) gX))) (hJ (iJ (i:=3) jP.nd rZ Z' (CB ae (jo nO (jo ny (pv 2) iI (λ_ _=>rfl)) iI (λ_ _=>rfl)) nV)) (hJ (iJ (i:=4) jP.nd rZ Z' iI) (hJ (AB oP (PW.pt (Br (ko AA (pv 4) (jv mO rZ jB lW (g9 (pv 2) gX)) (jx _)) (Bl (ko x4 (jv mO rZ jB lW (g9 (pv 2) gX)) (pv 1) (jx _))))) (hJ (A8 (jo ny (pv 2) (pv 4) (λ_ _=>rfl)) (BF rZ (xo (md (i:=5) jP.nd rZ Z') (xo (md (i:=6) jP.nd rZ Z') Ca)))) (hJ (nH oP rZ (sE rZ jC (g9 (jv mO rZ jB lW (g9 (pv 0) gX)) gX)) (md (i:=7) jP.nd rZ Z') (hJ (iJ (i:=8) jP.nd rZ Z' (iV jA hr.m rZ (iL (gU (pv 5) (gU (jo nO (pv 0) (pv 7) (λ_ _=>rfl)) iM rZ) rZ)))) (hK (mA (v8 (AF ae (pv 8) (pv 3))) (hJ (we ae (pv 3) (pv 8) nV rZ) (hK (qc (uq vq vJ wX wY (pv 2) (g9 (vj (iL (gU (pv 8) (gU (jj zU (pv 6) (mZ (g9 (pv 7) gX))) iM rZ) rZ))) gX))))) mT)))) (hK (iJ (i:=4) jP.nd rZ Z' (jj u4 (pv 4) iI)))))) (hK (iT (pv 2))))))),?_];have L:=M.some1;have n5:=M.n5;have t4:=M.few;obtain⟨_,r0,b1,b2,b3,b4,b5,b6⟩:=M.at (l:=0) ();refine#[_,rZ,m,_,_,_,rZ,rZ,N1 b1,b3,r0,_,rZ,.inr (N1 b4),?_]
 try dsimp only
 rw[gL,b5];refine#[(n:Int),rZ,λp hp=>#[p,(n:Int),rZ,gO,(),(),λL aJ=>?_]];have k2:=(g0 hp (.rng 0 (n:Int))).trans (g0 aJ (.tup (nI (n:Int).toNat)));have am:gI (gI H p (.rng 0 (n:Int))) L (.tup (nI (n:Int).toNat)) L=some (.tup ((List.range n).map nv)):=gO;generalize gI (gI H p (.rng 0 (n:Int))) L (.tup (nI (n:Int).toNat))=H2 at k2 am|-;refine#[by show 0<=sizeLine;decide,λl1 aK=>?_];have k3:=g0 aK (.lst []);have an:gI H2 l1 (.lst []) l1=some (.lst (([]:f').map nv)):=gO;have ao:=k3 _ _ am;have g3:=k2.trans k3;generalize gI H2 l1 (.lst [])=H3 at k3 an ao g3|-;refine#[by show 2<=sizeLine;decide,λN aL=>?_];have k4:=g0 aL (.tup [.ref L,.ref l1]);have ap:gI H3 N (.tup [.ref L,.ref l1]) N=some (.tup [.ref L,.ref l1]):=gO;have aq:=k4 _ _ ao;have af:=k4 _ _ an;have g4:=g3.trans k4;generalize gI H3 N (.tup [.ref L,.ref l1])=H4 at k4 ap aq af g4|-;refine#[by show 1<=sizeLine;decide,λo ag=>?_];have k5:=g0 ag (.lst [.ref N]);have lw:l1≠o:=iU af ag;have nW:H o=none:=g4.free ag;have ah:gI H4 o (.lst [.ref N]) o=some (.lst ([N].map .ref)):=gO;have ai:=k5 _ _ ap;have aj:=k5 _ _ aq;have ar:=k5 _ _ af;have g5:=g4.trans k5;generalize gI H4 o (.lst [.ref N])=H5 at ah ai aj ar g5|-;intro v O;have kD:=g0 O (.dT []);refine#[_,rZ,o,_,_,_,rZ,rZ,N' (kD _ _ ah),rZ,N,_,_,_,rZ,rZ,N1 (kD _ _ ai),rZ,?_];refine#[gO,L,nk (List.range n),rZ,by rw[mJ];exact kD _ _ aj,?_];have g6:Same H (gI (gI H5 v (.dT [])) v (.dT [(nk (List.range n),.bl true)])):=by rw[BQ];exact g5.trans (g0 O _)
 have k6:Same H5 (gI (gI H5 v (.dT [])) v (.dT [(nk (List.range n),.bl true)])):=by rw[BQ];exact g0 O _
 have A0:WAt H (gI (gI H5 v (.dT [])) v (.dT [(nk (List.range n),.bl true)])) v o [N] [(List.range n,[])] [(List.range n,[])]:=#[g6,g5.free O,nW,gO,k6 _ _ ah,rZ,λj p r e1 e2=>by
  cases j with
  |zero=>
   cases e1;cases e2;exact#[L,l1,k6 _ _ ai,k6 _ _ aj,k6 _ _ ar,lw]
  |succ j=>simp at e1]
 generalize gI (gI H5 v (.dT [])) v (.dT [(nk (List.range n),.bl true)])=H6 at A0|-;have hU:=M.steps;have h0:=ve n;have inU:∀{d:TW} {i j:Nat},Que (i5 g) g.length (List.range n) d i j->∀r∈d,r.1∈iY n n:=λB r hr=>by
  obtain⟨r1,r2⟩:=B.run r hr;rw[<-r2];exact uk h0 hU r.2 r1
 have few:∀{d:TW} {i j:Nat},Que (i5 g) g.length (List.range n) d i j->d.length<=4000:=λ{d i j} B=>by
  rw[<-gL (f:=(·.1)) (as:=d)];refine iP (rE B.keys (U:=iY n n) λx hx=>?_) (Fg n5);obtain⟨r,hr,rfl⟩:=hX.mp hx;exact inU B r hr
 have done:∀{d:TW} {i:Nat} {ps:As} {C:Hp},Que (i5 g) g.length (List.range n) d i 0->WAt H C v o ps d d->(d.length<=most->i=d.length)->Q (.ref o) C:=λ{d i ps C} B W hi=>
  q o ps d C W.g #[W.lst,W.len,λj a p e1 e2=>let⟨t,l,h1,h2,h3,h4⟩:=W.each j a p e1 e2;#[t,l,h4,h1,h2,h3]] B.keys B.run λle=>B.told (by have:=hi le;lia)
 let Wv:Nat->L2.St->Hp->Prop:=λk σ C=>∃(i:Nat) (d:TW) (ps:As) (o5 o6 o7 o8:Option V),Que (i5 g) g.length (List.range n) d i 0/\WAt H C v o ps d d/\k+i=4001/\i<=d.length/\σ=[some (.ref m),some (nv most),some (.ref o),some (.ref v),some (nv i),o5,o6,o7,o8]
 refine#[Wv,#[4001,0,_,_,none,none,none,none,Que.start,A0,rZ,lV _,rZ],λk σ H6 P=>?_];obtain⟨i,d,ps,o5,o6,o7,o8,B,W,hk,hi,rfl⟩:=P;have ak:=W.len;refine#[_,rZ,_,rZ,o,_,rZ,.inl (N' W.lst),_,_,rZ,rZ,_,rZ,pz (λc=>?_) (λc=>?_)]
 .have c1:i<d.length:=by
   have:=lR c;rw[gL,ak]at this;lia
  refine#[_,rZ,o,_,rZ,.inl (N' W.lst),_,rZ,_,_,rZ,rZ,_,rZ,pz (λc'=>?_) (λc'=>?_)]
  .refine#[λau C=>∃m',m'<k/\Wv m' au C,λau C h=>h,?_];obtain⟨r,D⟩:∃r,d[i]?=some r:=#[_,gN c1];obtain⟨pi,av⟩:∃pi,ps[i]?=some pi:=#[_,gN ()];obtain⟨y,l,hp,hy,hl,aM⟩:=W.each i pi r av D;obtain⟨x1,x2⟩:=gJ.mp (inU B r (iq D));have aN:n9 (ps.map V.ref) (i:Int)=some (.ref pi):=pH (by rw[hA,av];rfl);refine#[_,rZ,_,rZ,o,_,_,_,rZ,rZ,N' W.lst,aN,pi,_,rZ,N1 hp,rZ,_,_,rZ,_,_,rZ,rZ,?_];have aV:=B.short i r D;have aw:=few B;let Pj:Nat->L2.St->Hp->Prop:=λj σ C=>∃(d:TW) (ps:As) (o7 o8:Option V),Que (i5 g) g.length (List.range n) d i j/\d[i]?=some r/\WAt H C v o ps d d/\C y=some (.tup (r.1.map nv))/\C l=some (.lst (r.2.map nv))/\σ=[some (.ref m),some (nv most),some (.ref o),some (.ref v),some (nv i),some (.ref y),some (.ref l),o7,o8]
   obtain⟨rs,hm,aO,_⟩:=(M.same W.g).refs;refine#[_,rZ,m,_,rZ,.inr (N1 hm),(g.length:Int),by rw[gL,aO],(),(),Ai Pj #[d,ps,_,_,B,D,W,hy,hl,rZ] (λj σ H7 hj p=>?_) (λσ H7 p=>?_)]
   .obtain⟨d,ps,o7,o8,B,D,W,hy,hl,rfl⟩:=p;have ax:j<g.length:=by simpa using hj
    have zj:V.int ((0:Int)+((j:Nat):Int))=nv j:=by show V.int (0+(j:Int))=V.int (j:Int);rw[Bj]
    rw[zj];have li:=(gV.mp D).1;obtain⟨rs,rr,b1,b2,b3,b4,b5,b6⟩:=(M.same W.g).at ax;have aw:=few B;refine#[_,rZ,_,rZ,_,rZ,m,_,_,_,rZ,rZ,N1 b1,b3,y,rr,r.1,g.getD j [],rZ,hy,b4,λx hx=>by rw[b5];exact x2 x hx,(),λth H8 k8 G=>?_];have W8:=W.same k8;have ay:=k8 _ _ hy;have az:=k8 _ _ hl;have G:H8 th=some (.tup ((i5 g r.1 j).map nv)):=G;refine#[_,rZ,_,rZ,v,_,rZ,DGet.t W8.known (by rw[mJ];exact G),_,rZ,?_];by_cases I:i5 g r.1 j∈d.map (·.1)
    .rw[Ep I];exact j5 #[d,ps,_,_,B.old D I,D,W8,ay,az,rZ]
    .rw[BH I];refine mH #[_,rZ,_,rZ,v,_,rZ,DPut.t W8.known (by rw[mJ];exact G) (by rw[show(oW d).length=d.length by unfold oW;rw[List.length_map],sizeLine_eq];lia),?_];rw[zn _ (BH I)];have W9:=W8.put (r:=(i5 g r.1 j,r.2++[j]));have J:∀{b:Ad} {u:HO},(∀aP,u≠ .dT aP)->H8 b=some u->(gI H8 v (.dT (oW d++[(nk (i5 g r.1 j),.bl true)]))) b=some u:=λnu hb=>by
      rw[gM (t8 hb W8.known λe=>nu _ e)];exact hb
     have Y:=J (u:=HO.tup _) (λ_ e=>nomatch e) G;have aA:=J (u:=HO.tup _) (λ_ e=>nomatch e) ay;have al:=J (u:=HO.lst _) (λ_ e=>nomatch e) az;generalize gI H8 v (.dT (oW d++[(nk (i5 g r.1 j),.bl true)]))=H9 at W9 Y aA al|-;refine#[_,rZ,.inl #[rZ,_,N' W9.lst],_,rZ,_,rZ,_,rZ,by show 1<=sizeLine;decide,λp1 aQ=>?_];have ka:=g0 aQ (.lst [nv j]);refine#[l,p1,_,_,rZ,rZ,N' (ka _ _ al),N' gO,by rw[gL,iv];show r.2.length+1<=_;lia,λl2 aB=>?_];have kb:=ka.trans (g0 aB (.lst (r.2.map nv++[nv j])));have aC:gI (gI H9 p1 (.lst [nv j])) l2 (.lst (r.2.map nv++[nv j])) l2=some (.lst ((r.2++[j]).map nv)):=by rw[gO,kg];rfl
     have aD:l2≠o:=(iU (ka _ _ W9.lst) aB).symm;generalize gI (gI H9 p1 (.lst [nv j])) l2 (.lst (r.2.map nv++[nv j]))=aE at kb aC|-;refine#[by show 2<=sizeLine;decide,λq2 aR=>?_];have kc:=g0 aR (.tup [.ref th,.ref l2]);have aF:gI aE q2 (.tup [.ref th,.ref l2]) q2=some (.tup [.ref th,.ref l2]):=gO;have kd:=kb.trans kc;have aa:=kc _ _ aC;generalize gI aE q2 (.tup [.ref th,.ref l2])=aW at kc aF kd aa|-;have T:=W9.same kd;have aS:=T.len;refine#[o,_,_,rZ,rZ,T.lst,by rw[gL,iv];lia,?_];have aT:=T.app (r:=(i5 g r.1 j,r.2++[j])) aF (kd _ _ Y) aa aD;have ab:=kd _ _ aA;have aG:=kd _ _ al;refine#[d++[(i5 g r.1 j,r.2++[j])],ps++[q2],_,_,B.new D ax I,by rw[j0 li];exact D,aT,?_,?_,rZ]
     .rw[gM (nE ab T.lst)];exact ab
     .rw[gM aM];exact aG
   .obtain⟨d,ps,o7,o8,B,D,W,hy,hl,rfl⟩:=p;have aw:=few B;have li:=(gV.mp D).1;exact#[_,rZ,_,_,rZ,rZ,k-1,(),i+1,d,ps,_,_,_,_,Que.next (by simpa using B) D,W,(),(),rZ]
  .refine#[_,rZ,done B W λle=>wC (iG ?_) c'];rw[gL,ak];lia
 .have c1: ¬i<d.length:=λz=>c (by rw[gL,ak];exact iG ());exact j5 #[_,rZ,done B W λ_=>by lia]
def pV(a:LN):List (List ik×V):=a.map λx=>(nk x,V.bl true)
theorem GF:∀{a:LN} {x:f'},x∉a->lG (pV a) (nk x)=none
 | [],_,_=>rfl
 |p::a,x,h=>(rG (p:=(nk p,V.bl true)) (r:=pV a) λz=>h (iu.mpr (.inl (uc z).symm))).trans (GF λz=>h (ja _ z))
theorem DC:∀{a:LN} {x:f'},x∈a->lG (pV a) (nk x)=some (.bl true)
 | [],_,h=>nomatch h
 | p::a,x,h=>by
  by_cases e:p=x
  .rw[<-e];exact xl (p:=(nk p,V.bl true)) (r:=pV a) rfl
  .exact(rG (p:=(nk p,V.bl true)) (r:=pV a) λz=>e (uc z)).trans (DC ((iu.mp h).resolve_left λz=>e z.symm))
def LvH.keeps{H e:Hp}{a:Ad}{c f d:LN}(h:LvH H a c f d)(g:Keeps H e):LvH e a c f d:=by
 obtain⟨s,t,v,bs,i,j,l,m,n,o,p,q,r,u⟩:=h;exact#[s,t,v,bs,i,j,g _ _ (nU l),g _ _ (nU m),re n g,g _ _ (nU o),re p g,g _ _ (nU q),r,λk b w x y=>g _ _ (nU (u k b w x y))]
def CT:(jg[0]'(by decide))∈jg:=oU _
def DS:(jg[1]'(by decide))∈jg:=oU _
def pj(t u:f'):f':=lB (u.map λr=>t.getD r 0)
def oG(t:f'):Bool:=decide (beh t t=t)
def j3(t:f'):Int:=((oZ (t.map λ(n:Nat)=>(n:Int))).length:Int)
def i8(t:f'):t.map nv=(t.map λ(n:Nat)=>(n:Int)).map V.int:=by rw[lE];rfl
def AN{n:Nat}{t a:f'}(h:t∈iY n n)(b:a∈iY n n):beh t a∈iY n n:=by
 obtain⟨a1,a2⟩:=gJ.mp h;obtain⟨c,d⟩:=gJ.mp b;refine gJ.mpr #[by unfold beh;rw[List.length_map,a1],λr e=>?_];obtain⟨y,f,rfl⟩:=hX.mp e;exact iS d (by rw[c];exact a2 y f)
def hO{n:Nat}{x t u:f'}(b:x∈iY n n)(ht:t∈iY n n):beh (beh x t) u=beh x (beh t u):=by
 unfold beh;rw[lE];refine qf λa c=>?_;have d:a<t.length:=by rw[(gJ.mp ht).1];exact(gJ.mp b).2 a c
 show u.getD (t.getD a 0) 0=(t.map λx=>u.getD x 0).getD a 0;rw[iD (l:=t.map _),hA,iD (l:=t),gN d];rfl
def jh{n:Nat}{t:f'}(ht:t∈iY n n):beh (List.range n) t=t:=by
 obtain⟨a1,_⟩:=gJ.mp ht;unfold beh;refine vt (by rw[gL,qm,a1]) λi b a=>?_;rw[ye,List.getElem_range,iD,gN a];rfl
def Nk{n:Nat}{t:f'}(ht:t∈iY n n):beh t (List.range n)=t:=by
 unfold beh;refine(qf λa b=>?_).trans (zY t);rw[iD,tF ((gJ.mp ht).2 a b)];rfl
theorem zX{b:LN}{n:Nat}(c:∀t∈b,t∈iY n n):∀(w:f') (x:f'),(∀l∈w,l<b.length)->x∈iY n n->jw (i5 b) x w=beh x (jw (i5 b) (List.range n) w)/\jw (i5 b) x w∈iY n n
 | [],x,_,d=>#[(Nk d).symm,d]
 | l::w,x,hw,d=>by
  have f:=hw l (iO ..);have ht:b.getD l []∈iY n n:=by
   rw[iD,gN f];exact c _ (oU f)
  have e:∀a∈w,a<b.length:=λa g=>hw a (ja _ g);have h:i5 b x l∈iY n n:=AN d ht;have i:i5 b (List.range n) l∈iY n n:=AN (ve n) ht;obtain⟨j,k⟩:=zX c w (i5 b x l) e h;obtain⟨m,_⟩:=zX c w (i5 b (List.range n) l) e i;refine#[?_,k];show jw (i5 b) (i5 b x l) w=beh x (jw (i5 b) (i5 b (List.range n) l) w);rw[j,m];show beh (beh x (b.getD l [])) _=beh x (beh (beh (List.range n) (b.getD l [])) _);rw[jh ht,hO d ht]
def GI{b:LN}{n:Nat}{c:TW}(a:∀t∈b,t∈iY n n)(T:Told (i5 b) b.length (List.range n) c){u v:f'}(j:u∈c.map (·.1))(k:v∈c.map (·.1)):beh u v∈c.map (·.1):=by
 obtain⟨p,m,rfl⟩:=hX.mp j;obtain⟨q,o,rfl⟩:=hX.mp k;obtain⟨d,f⟩:=T.run p m;obtain⟨g,r⟩:=T.run q o;have h:=(zX a p.2 (List.range n) d (ve n)).2;rw[f]at h;have e:=(zX a q.2 p.1 g h).1;rw[r]at e;have s:jw (i5 b) (List.range n) (p.2++q.2)=jw (i5 b) p.1 q.2:=by
  rw[<-f];unfold jw;rw[si]
 obtain⟨w,i,_⟩:=T.least _ (p.2++q.2) rZ λl x=>by
  rcases iC.mp x with z|z
  .exact d l z
  .exact g l z
 rw[s,e]at i;exact hX.mpr #[_,i,rZ]
def qt(a:Option f')(x:f'):Option f':=match a with
 |none=>some x
 |some y=>if j3 x<j3 y then some x else some y
theorem Ef:∀(b:List (Ad×f')) (a:Option (Ad×f')),(b.foldl (su j3) a).map (·.2)=(b.map (·.2)).foldl qt (a.map (·.2))
 | [],a=>rfl
 | p::b,a=>by
  rw[pY,kz,pY,Ef b]
  congr 1
  cases a with
  |none=>rfl
  |some y=>
   show(if j3 p.2<j3 y.2 then some p else some y).map (·.2)=if j3 p.2<j3 y.2 then some p.2 else some y.2;split<;>rfl
theorem BU:∀(b:LN) (a:Option f') (u:f'),b.foldl qt a=some u->u∈b\/a=some u
 | [],a,u,h=> .inr h
 | p::b,a,u,h=>by
  rcases BU b _ u h with z|z
  .exact .inl (ja _ z)
  .cases a with
   |none=>cases z;exact .inl (iO ..)
   |some y=>
    have c:(if j3 p<j3 y then some p else some y)=some u:=z;split at c
    .cases c;exact .inl (iO ..)
    .exact .inr c
theorem E':∀(b:List (Ad×f')) (a:Option (Ad×f')) (u:Ad×f'),b.foldl (su j3) a=some u->u∈b\/a=some u
 | [],a,u,h=> .inr h
 | p::b,a,u,h=>by
  rcases E' b _ u h with z|z
  .exact .inl (ja _ z)
  .cases a with
   |none=>cases z;exact .inl (iO ..)
   |some y=>
    have c:(if j3 p.2<j3 y.2 then some p else some y)=some u:=z;split at c
    .cases c;exact .inl (iO ..)
    .exact .inr c
def oy(b:LN)(a:f'):LN:=b.filter λt=>decide (pj t a=a)
def kq(b:LN)(a:f'):f':=(((oy b a).filter oG).foldl qt none).getD []
def qw(b:LN)(a:f'):LN:=(oy b a).map λt=>beh (beh (kq b a) t) (kq b a)
def oV(b:LN)(a:f'):f':=(List.range b.length).filter λk=>decide (b.getD k []∈qw b a)
def Dp{n:Nat}{c:LN}{b:f'}(d:List.range n∈c)(f:b∈ly n):List.range n∈(oy c b).filter oG:=by
 obtain⟨g,h⟩:=gR.mp f;refine ji.mpr #[ji.mpr #[d,iG ?_],iG (jh (ve n))];unfold pj;have e:b.map (λr=>(List.range n).getD r 0)=b:=by
  refine(qf λa i=>?_).trans (zY b);rw[iD,tF (h a i)];rfl
 rw[e,g]
theorem FO:∀(a:LN) (b:Option f'),(b≠none\/a≠[])->∃u,a.foldl qt b=some u
 | [],none,h=>wC rZ (h.resolve_left λz=>z rZ)
 | [],some y,_=>#[y,rZ]
 | p::a,b,_=>FO a _ (.inl (by
   cases b with
   |none=>exact λz=>nomatch z
   |some y=>
    show(if j3 p<j3 y then some p else some y)≠none;split<;>exact λz=>nomatch z))
def EM{n:Nat}{b:LN}{a:f'}(c:List.range n∈b)(d:a∈ly n):((oy b a).filter oG).foldl qt none=some (kq b a)/\kq b a∈b:=by
 obtain⟨u,e⟩:=FO ((oy b a).filter oG) none (.inr λz=>by have:=Dp c d;rw[z]at this;cases this);have f:kq b a=u:=by unfold kq;rw[e];rfl
 rw[f];refine#[e,?_]
 rcases BU _ _ u e with z|z
 .exact(ji.mp (ji.mp z).1).1
 .cases z
def Mb{d:Zs}{c:f'}(f:d.Pairwise (· < ·))(j:c.Pairwise (· < ·))(h:∀x:Int,x∈d↔ ∃k∈c,x=(k:Int)):d=c.map λ(n:Nat)=>(n:Int):=by
 have g:(c.map λ(n:Nat)=>(n:Int)).Pairwise (· < ·):=uv.mpr (j.imp λz=>by lia);have i:∀{l:Zs},l.Pairwise (· < ·)->l.Nodup:=λh=>h.imp λz e=>by lia
 refine List.Perm.eq_of_pairwise (le:=(· <= ·)) (λx y _ _=>Int.le_antisymm) (f.imp λz=>by lia) (g.imp λz=>by lia) ((List.perm_ext_iff_of_nodup (i f) (i g)).mpr λx=>?_);rw[h,hX];exact#[λ⟨k,a,b⟩=>#[k,a,b.symm],λ⟨k,a,b⟩=>#[k,a,b.symm]]
def yW{b:Type}{a:List b}(c:a.Nodup){i j:Nat}{x:b}(d:a[i]?=some x)(e:a[j]?=some x):i=j:=by
 obtain⟨h,f⟩:=gV.mp d;obtain⟨k,g⟩:=gV.mp e;exact(CP c).mp (f.trans g.symm)
def i6{d:LN}{a:f'}{k:Nat}:k∈oV d a↔ ∃x,d[k]?=some x/\x∈qw d a:=by
 unfold oV;rw[ji,lY,AD];constructor
 .rintro⟨b,c⟩;rw[iD,gN b]at c;exact#[_,gN b,c]
 .rintro⟨x,b,c⟩;refine#[(gV.mp b).1,?_];rw[iD,b];exact c
def Ny{b:LN}{a:f'}{e:f'}{f:Zs}(m:b.Nodup)(g:e.length=(oy b a).length)(ok:∀(k j:Nat) t,e[k]?=some j->(oy b a)[k]?=some t->b[j]?=some (beh (beh (kq b a) t) (kq b a)))(o:f.Perm (qW (e.map λ(n:Nat)=>(n:Int)))) (p:f.Pairwise (· < ·)):f=(oV b a).map λ(n:Nat)=>(n:Int):=by
 refine Mb p (Dx.filter _) λx=>?_;rw[o.mem_iff,KA,hX];constructor
 .rintro⟨k,c,rfl⟩;refine#[k,i6.mpr ?_,rZ];obtain⟨i,h⟩:=jk.mp c;obtain⟨t,d⟩:∃t,(oy b a)[i]?=some t:=#[_,gN (by rw[<-g];exact(gV.mp h).1)];exact#[_,ok i k t h d,hX.mpr #[t,iq d,rZ]]
 .rintro⟨k,c,rfl⟩;obtain⟨y,q,r⟩:=i6.mp c;obtain⟨t,ht,rfl⟩:=hX.mp r;obtain⟨i,d⟩:=jk.mp ht;obtain⟨j,l⟩:∃j,e[i]?=some j:=#[_,gN (by rw[g];exact(gV.mp d).1)];have:=yW m (ok i j t l d) q;subst this;exact#[j,iq l,rZ]
def FJ{H:Hp}{bs:As}{a:LN}{i:Nat}{b:Ad}{t:f'}(T:TupsAt H bs (a.take i))(c:a[i]?=some t)(d:H b=some (.tup (t.map nv))):TupsAt H (bs++[b]) (a.take (i+1)):=by
 rw[om,c];exact AW T d
def MD(b:LN)(a:f'):(oV b a).Pairwise (· < ·):=Dx.filter _
inductive pE(c:List V)(H:Hp)(Q:VK)(b:XK):Prop|mk:∀(a:Ad) (u:f'),c=[.ref a]->H a=some (.tup (u.map nv))->(∀x∈u,x<u.length)->u.length<=1000->(∀d,Same H d->Q (.bl (oG u)) d)->pE c H Q b
inductive mN(c:List V)(H:Hp)(Q:VK)(b:XK):Prop|mk:∀(a p:Ad) (t u:f') (n:Nat),c=[.ref a,.ref p]->H a=some (.tup (t.map nv))->H p=some (.tup (u.map nv))->t∈iY n n->1<=n->n<=5->u∈ly n->(∀d,Same H d->Q (.bl (decide (pj t u=u))) d)->mN c H Q b
inductive nX(K:N2)(e:List V)(H:Hp)(Q:VK)(c:XK):Prop|mk:∀(l:Ad) (f:As) (a:LN) (n:Nat),e=[.ref l]->SqL K H l (f.map V.ref)->TupsAt H f a->(∀t∈a,t∈iY n n)->n<=5->a.length<=4000->(∃t∈a,oG t=true)->(∀b u d,Same H d->d b=some (.tup (u.map nv))->(a.filter oG).foldl qt none=some u->Q (.ref b) d)->nX K e H Q c
inductive qb(C:Ad)(f:List V)(H:Hp)(Q:VK)(E:XK):Prop|mk:∀(m lv:Ad) (d:LN) (n most:Nat) (c h e:LN),f=[.ref m,.ref lv,nv most]->Mach H m d n->most<=400->Tabs H->LvH H lv c h e->c≠[]->c.headD []∈ly n->((∀l b a,Keeps H a->Tabs a->L2.noT H l=none->a l=some (.lst ((oV (b.map (·.1)) (c.headD [])).map nv))->Told (i5 d) d.length (List.range n) b->b.length<=most->Q (.ref l) a))->((∀(b:TW) a g,Keeps H a->Tabs a->a g=some (.xd [(sG,nv most)])->(b.map (·.1)).Nodup->(∀p∈b,(∀l∈p.2,l<d.length)/\jw (i5 d) (List.range n) p.2=p.1)->most<b.length->E (.ref C) (some g) a))->qb C f H Q E
def yE{H:Hp}{mt a:Ad}{t:f'}{n:Nat}(c:H mt=some (.tup [.ref a]))(d:H a=some (.tup (t.map nv)))(ht:t∈iY n n)(e:1<=n)(f:n<=5):Mach H mt [t] n:=by
 refine#[#[[a],c,rZ,λi r u b g=>?_],gS _,(show 1<=4 by decide),e,f,λu h=>by rw[h9.mp h];exact gJ.mp ht];cases i with
 |zero=>cases b;cases g;exact d
 |succ i=>simp at b
section
variable{P:Pg}{w:World}{K:N2}{mg:SV}{base:Heap}{f C:Ad}{d:Fd}
def Lh(F:Fun K sZ sZ xj f d)(j:hZ P w K mg base tT 1 [uF,sN] ie):FnOk P w K mg base im 3 f d [sM] pE:=by
 refine F.ok Jc (λk A b s H x Q E g h=>?_)
 obtain⟨a,u,rfl,c,hT,l,q⟩:=h;have m:=g.units;refine#[_,(hK (iT (yT (wZ m) (iV j g.m rZ (iL (gU (pv 0) (gU (pv 0) iM rZ) rZ))) (pv 0) (jx _)))),?_];refine#[_,rZ,_,rZ,a,a,u,u,rZ,c,c,hT,l,λr n i o=>#[_,rZ,r,a,0,_,_,rZ,rZ,lP (N1 o),lP (N1 (i _ _ c)),by decide,λv t=>?_]];have e:v=oG u:=by
  rw[pD];exact(t.trans gZ).trans (AD (p:=beh u u=u)).symm
 subst e;exact q n i
def Lj(F:Fun K tX tX xq f d)(g:mg "len"=none)(i:mg "set"=none):FnOk P w K mg base im 1 f d [sM] (mF (λt=>t.length<=5) j3):=by
 refine F.ok Mw (λj A c s H l Q E m h=>?_)
 obtain⟨a,t,rfl,e,l5,q⟩:=h;refine#[_,(hK (iT (jv Lp rZ g lW (g9 (m6 (LP rZ) rZ i AU (g9 (pv 0) gX)) gX)))),?_];rw[i8]at e;exact#[_,rZ,a,_,rZ,N1 e,by rw[gL];lia,λb k=>#[b,_,rZ,gO,q _ (g0 k _)]]
def K7(F:Fun K uS uS vK f d)(x:hZ P w K mg base tZ 3 [sA,sC,tN] (i0 K)):FnOk P w K mg base im 5 f d [sM,sC] mN:=by
 refine F.ok LL (λy A g s H Y Q E j h=>?_)
 obtain⟨a,p,t,u,n,rfl,z,k,ht,B,C,D,q⟩:=h;have G:=j.units;refine#[_,(hK (iT (yT (wZ G) (iV x j.m rZ (iL (gU (vj (g9 (pv 0) gX)) (gU (pv 1) (gU (mZ (g9 iI gX)) iM rZ) rZ) rZ))) (pv 1) (jx _)))),?_];obtain⟨I,J⟩:=gR.mp D;refine#[_,rZ,by show 1<=sizeLine;decide,λmt i=>?_];have L:=g0 i (.tup [.ref a]);refine#[_,rZ,by show 1<=sizeLine;decide,λb M=>?_];have m:=g0 M (.lst [.int 0]);have c:=L.trans m;refine#[mt,p,b,[t],n,u,[0],rZ,yE (m _ _ gO) (c _ _ z) ht B C,N1 (c _ _ k),by rw[<-I];exact CN u,J,N' gO,λl N=>by rw[h9.mp N];exact Nat.one_pos,λr O o T=>#[_,rZ,r,p,0,_,_,rZ,rZ,lP (N1 T),lP (N1 (o _ _ (c _ _ k))),by decide,λv U=>?_]];have e:v=decide (pj t u=u):=by
  rw[pD];exact(U.trans gZ).trans (AD (p:=pj t u=u)).symm
 subst e;exact q O (c.trans o)
def Nw(F:Fun K tY tY u3 f d)(jU:hZ P w K mg base sZ 3 [sM] pE)(kK:hZ P w K mg base tX 1 [sM] (mF (λt=>t.length<=5) j3))(qI:mg "min"=none):FnOk P w K mg base im 5 f d [tO] (nX K):=by
 refine F.ok Jh (λaa A B s H vs Q E G h=>?_)
 obtain⟨l,as,c,n,rfl,I,T,hm,n5,few,j,q⟩:=h;refine#[_,(hK (iT (Kv kK G.m rZ rZ qI rZ (np (CompSc.to (N:=[tO]) (osc:=gP u3) (vs:=[sM]) {}) rZ rZ (lm (pv 0)) (λ_ _ _ _=>sg (u6 (iV jU G.m rZ (g9 (pv 0) gX)))) (λ_ _ _ _=>(pv 0)))))),?_];have lb:=T.len;have J:∀t∈c,(∀x∈t,x<t.length)/\t.length<=5:=λt ht=>by
  obtain⟨a1,a2⟩:=gJ.mp (hm t ht);exact#[λx hx=>by rw[a1];exact a2 x hx,()]
 refine#[_,rZ,l,rZ,#[_,I],n' (xs:=as.map .ref) (λi m k=>Same H k/\∃a,m=a.map V.ref/\a.length<=i/\TupsAt k a ((c.take i).filter oG)) (by rw[gL,iv];lia) #[Same.refl _,[],rZ,gS _,rZ,λi b u e=>by simp at e] (λi m k hi p=>?_) (λi v m k L p=>?_) (λm H2 p M C=>?_)]
 .obtain⟨g,a,rfl,e,_⟩:=p;exact#[g.seq I,by rw[gL];exact e]
 .obtain⟨g,a,rfl,e,o⟩:=p;rw[hA]at L;obtain⟨b,O,rfl⟩:=jb.mp L;have li:=(gV.mp O).1;obtain⟨u,D⟩:∃u,c[i]?=some u:=#[_,gN ()];have U:=g _ _ (T.is i b u O D);obtain⟨z1,z2⟩:=J u (iq D);refine#[mX,_,rZ,b,u,rZ,U,z1,(),λH4 r=>#[_,rZ,?_]];have z:=wR (o.same r) D (r _ _ U);cases c2:oG u with
  |true=>
   rw[c2,wB rZ]at z;exact mH #[_,rZ,g.trans r,a++[b],by simp,by simp;exact e,z]
  |false=>
   rw[c2,wA (by decide)]at z;exact j5 #[g.trans r,a,rZ,(),z]
 obtain⟨g,a,rfl,_,o⟩:=p;rw[gL,lb,mh]at o;have Y:=g0 C (.lst (a.map V.ref));have y:=o.same Y;refine#[M,rZ,M,a,c.filter oG,rZ,N' gO,y,λt ht=>(J t (ji.mp ht).1).2,λz=>?_,λb u k g' e=>?_]
 .obtain⟨t,h1,h2⟩:=j;have z2:=y.len;rw[z]at z2;have z3:=ji.mpr #[h1,h2];rw[rD.mp z2.symm]at z3;cases z3
 have ez:(a.zip (c.filter oG)).map (·.2)=c.filter oG:=List.map_snd_zip (vo y.len.symm);have ef:=Ef (a.zip (c.filter oG)) none;rw[e,ez]at ef
 rcases E' _ _ _ e with z|z
 .obtain⟨i,ei⟩:=jk.mp z;obtain⟨e1,e2⟩:=List.getElem?_zip_eq_some.mp ei;exact q b u k ((g.trans Y).trans g') (g' _ _ (y.is i b u e1 e2)) ef.symm
 .cases z
def II{ax cv:Vl}(F:DefAt K sV oQ f d ax cv)(kQ:CalleeDX P w K mg base sS 10 [sA,sG] (i9 C) [])(qK:hZ P w K mg base uS 5 [sM,sC] mN)(kL:hZ P w K mg base tY 5 [tO] (nX K))(jG:hZ P w K mg base tT 1 [uF,sN] ie)(jI:mg "sorted"=none)(kM:mg "set"=none):FnOk P w K mg base (CX1 P w) 12 f d [sA,uP,sG] (qb C):=by
 refine F.fnOkX kF (λvs H Q E h=>?_) (λA ay s H vs Q E h hr=>?_)
 .obtain⟨m,lv,ts,n,most,c,us,az,rfl,_⟩:=h;rfl
 obtain⟨m,lv,ts,n,most,c,us,az,rfl,M,af,hT,aA,cne,ag,q,qE⟩:=h;have hu:=hr.units;have aP:=oO hr;refine#[_,?_,(hJ (iJ (i:=3) kF.nd rZ Z0 (AS (CompSc.to (N:=[sA,uP,sG,"turns",tO,"e"]) (osc:=gP oQ) (vs:=[sM,tN]) {}) rZ (lm (BW kQ hr.m wr rZ (iL (gU (pv 0) (gU (pv 2) iM rZ) rZ)))) (DX (CompSc.to (N:=[sA,uP,sG,"turns",tO,"e"]) (osc:=gP oQ) (vs:=[sM,tN]) {}) rZ rZ rZ) (λ_ _ _ _=>nC) (λ_ _ _ _=>(pv 0)))) (hJ (yx (CompSc.to (N:=[sA,uP,sG,"turns",tO,"e"]) (osc:=gP oQ) (vs:=[sM]) {}) rZ rZ kF.nd (j:=4) rZ rZ (lm (pv 3)) (λ_ _ _ _=>sg (u6 (iV qK hr.m rZ (iL (gU (pv 0) (gU (jo (IxR.k (K:=K) nN ny rZ) (jo (IxR.k (K:=K) nR nO rZ) (pv 2) iI (λ_ _=>rfl)) iI (λ_ _=>rfl)) iM rZ) rZ))))) (λ_ _ _ _=>(pv 0))) (hJ (iJ (i:=5) kF.nd rZ Z0 (iV kL hr.m rZ (g9 (pv 4) gX))) (hK (iT (jv (K9 rZ) rZ jI zE (g9 (m6 (JP rZ) rZ kM AU (g9 (np (CompSc.to (N:=[sA,uP,sG,"turns",tO,"e"]) (osc:=gP oQ) (vs:=[sM]) {}) rZ rZ (lm (pv 4)) (λ_ _ _ _=>nC) (λ_ _ _ _=>(NT (K:=K) mV rZ (uq vq PySem.F.slot_list_index PySem.F.type_list_index (Jb hu) (pv 4) (g9 (iV jG hr.m rZ (iL (gU (iV jG hr.m rZ (iL (gU (pv 6) (gU (pv 0) iM rZ) rZ))) (gU (pv 6) iM rZ) rZ))) gX))))) gX)) gX)))))))];refine#[_,rZ,_,rZ,m,ts,n,most,rZ,M,af,hT,λl as O H1 k1 T1 nl _ Pi TT le=>?_,qE];obtain⟨hl,ak,al⟩:=id Pi;have n1:=M.n1;have n5:=M.n5;have inU:∀p∈O,p.1∈iY n n:=λp hp=>by
  obtain⟨r1,r2⟩:=TT.run p hp;rw[<-r2];exact uk (ve n) M.steps p.2 r1
 refine#[l,rZ,#[_,N' hl],n' (xs:=as.map .ref) (λi L J=>J=H1/\∃bs:As,L=bs.map V.ref/\TupsAt H1 bs ((O.map (·.1)).take i)) (by rw[gL,ak,iv];lia) #[rZ,[],rZ,rZ,λj b u e=>by simp at e] (λi L J hi p=>?_) (λi v L J hv p=>?_) (λL J p so aB=>?_)]
 .obtain⟨rfl,bs,rfl,Tb⟩:=p;refine#[N' hl,?_];rw[gL,Tb.len,lZ];exact Nat.min_le_left ..
 .obtain⟨rfl,bs,rfl,Tb⟩:=p;rw[hA]at hv;obtain⟨a1,ea,rfl⟩:=jb.mp hv;obtain⟨hi,_⟩:=gV.mp ea;obtain⟨r,er⟩:∃r,O[i]?=some r:=#[_,gN ()];obtain⟨b,c',_,f1,f2,f3⟩:=al i a1 r ea er;refine#[a1,_,rZ,N1 f1,rZ,_,_,rZ,_,_,rZ,rZ,B6,ph #[_,rZ,rZ,bs++[b],by simp,FJ Tb (by rw[List.getElem?_map,er];rfl) f2]]
 obtain⟨rfl,bs,rfl,Tb⟩:=p;rw[gL,ak,<-gL (f:=(·.1)) (as:=O),mh]at Tb;have ks:=g0 aB (.lst (bs.map V.ref));have U:gI J so (.lst (bs.map V.ref)) so=some (.lst (bs.map V.ref)):=gO;have Y:=Tb.same ks;have T:∀u∈O.map (·.1),u∈iY n n:=λu hu=>by
  obtain⟨p,hp,rfl⟩:=hX.mp hu;exact inU p hp
 have h0:List.range n∈O.map (·.1):=by
  obtain⟨_,h1,_⟩:=TT.least _ [] rZ (λ_ h=>nomatch h);exact hX.mpr #[_,h1,rZ]
 have ah:∀{u v},u∈O.map (·.1)->v∈O.map (·.1)->beh u v∈O.map (·.1):=λhu hv=>GI (λt ht=>gJ.mpr (M.each t ht)) TT hu hv;have aC:=LvH.keeps aA k1;have nd:(O.map (·.1)).Nodup:=TT.keys;have aa:(O.map (·.1)).length<=400:=by rw[gL];lia
 generalize aD:O.map (·.1)=D at Y T h0 ah nd aa;have am:=aC.same ks;generalize aQ:gI J so (.lst (bs.map V.ref))=H2 at ks U Y am|-;obtain⟨s',t',v',an,ds,I,h1,h2,h3,h4,h5,h6,h7,h8⟩:=am;obtain⟨B,aE,rfl⟩:∃a b,c=a::b:=by
  cases c with
  |nil=>exact wC rZ cne
  |cons a b=>exact#[a,b,rZ]
 have G:B∈ly n:=ag;obtain⟨fa,ao⟩:∃fa,an[0]?=some fa:=#[_,gN (by rw[h3.len];exact Nat.succ_pos _)];have aF:=h3.is 0 fa B ao rfl;have aG:n9 (an.map V.ref) ((0:Nat):Int)=some (.ref fa):=pH (by rw[hA,ao];rfl);have lb:=Y.len;refine#[_,rZ,so,rZ,#[_,N' U],n' (xs:=bs.map .ref) (λi L J=>Same H2 J/\∃I,L=I.map V.ref/\I.length<=i/\TupsAt J I ((D.take i).filter λt=>decide (pj t B=B))) (by rw[gL,iv];lia) #[Same.refl _,[],rZ,gS _,rZ,λi b u e=>by simp at e] (λi L J hi p=>?_) (λi v L J hv p=>?_) (λL H3 p wl aH=>?_)]
 .obtain⟨g,I,rfl,e,_⟩:=p;exact#[N' (g _ _ U),by rw[gL];exact e]
 .obtain⟨g,I,rfl,e,Tc⟩:=p;rw[hA]at hv;obtain⟨b,eb,rfl⟩:=jb.mp hv;have li:=(gV.mp eb).1;obtain⟨u,eu⟩:∃u,D[i]?=some u:=#[_,gN ()];have hb:=g _ _ (Y.is i b u eb eu);refine#[mX,_,rZ,_,rZ,lv,_,_,_,rZ,rZ,N1 (g _ _ h1),rZ,s',_,_,_,rZ,rZ,N' (g _ _ h2),aG,b,fa,u,B,n,rZ,hb,g _ _ aF,T u (iq eu),n1,n5,G,λH4 g4=>#[_,rZ,?_]];have z:=wR (Tc.same g4) eu (g4 _ _ hb);by_cases c2:pj u B=B
  .rw[iG c2,wB rZ]at z;rw[iG c2];exact mH #[_,rZ,g.trans g4,I++[b],by simp,by simp;exact e,z]
  .rw[jy c2,wA (by decide)]at z;rw[jy c2];exact j5 #[g.trans g4,I,rZ,(),z]
 obtain⟨g3,I,rfl,_,Tc⟩:=p;rw[gL,lb,mh]at Tc;have kw:=g0 aH (.lst (I.map V.ref));have ew:gI H3 wl (.lst (I.map V.ref)) wl=some (.lst (I.map V.ref)):=gO;have Tk:TupsAt (gI H3 wl (.lst (I.map V.ref))) I (oy D B):=Tc.same kw;have g4:=g3.trans kw;generalize gI H3 wl (.lst (I.map V.ref))=H4 at ew Tk g4|-;have ap:∀t∈oy D B,t∈D:=λt ht=>(ji.mp ht).1;obtain⟨aI,ai⟩:=EM h0 G;refine#[_,rZ,wl,I,oy D B,n,rZ,N' ew,Tk,λt ht=>T t (ap t ht),n5,iP (pA _ _) (),#[_,(ji.mp (Dp h0 G)).1,(ji.mp (Dp h0 G)).2],λe u H5 g5 he ef=>?_];have eu:u=kq D B:=lX (ef.symm.trans aI);subst eu;have lk:=Tk.len;have aR:(oy D B).length<=400:=iP (pA _ _) aa;have aj:=g4.trans g5;refine#[_,rZ,wl,rZ,#[_,N' (g5 _ _ ew)],n' (xs:=I.map .ref) (λi L J=>Same H5 J/\∃js:f',L=js.map nv/\js.length=i/\∀(k j:Nat) t,js[k]?=some j->(oy D B)[k]?=some t->D[j]?=some (beh (beh (kq D B) t) (kq D B))) (by rw[gL,iv];lia) #[Same.refl _,[],rZ,rZ,λk j t z=>by simp at z] (λi L J hi p=>?_) (λi v L J hv p=>?_) (λL H6 p aJ aq=>?_)]
 .obtain⟨g,js,rfl,e,_⟩:=p;exact#[N' ((g5.trans g) _ _ ew),by rw[gL];lia]
 .obtain⟨g,js,rfl,lj,ok⟩:=p;rw[hA]at hv;obtain⟨b,eb,rfl⟩:=jb.mp hv;obtain⟨t,et⟩:∃t,(oy D B)[i]?=some t:=#[_,gN (by rw[<-lk];exact(gV.mp eb).1)];have hb:=(g5.trans g) _ _ (Tk.is i b t eb et);have ar:=ap t (iq et);obtain⟨a1,a2⟩:=gJ.mp (T _ ai);obtain⟨t1,t2⟩:=gJ.mp (T _ ar);have ab:=ah ai ar;obtain⟨b1,b2⟩:=gJ.mp (T _ ab);obtain⟨j,ej⟩:=jk.mp (ah ab ai);refine#[mX,ph #[_,rZ,.inl #[rZ,_,N' ((aj.trans g) _ _ U)],_,rZ,_,rZ,e,b,_,t,rZ,g _ _ he,hb,λx hx=>by rw[t1];exact a2 x hx,(),λr H7 g7 e7=>#[_,rZ,r,e,_,_,rZ,e7,g7 _ _ (g _ _ he),λx hx=>by rw[a1];exact b2 x hx,(),λr2 H8 g8 e8=>?_]]];have au:=g7.trans g8;have ae:=(aj.trans g).trans au;refine#[so,_,1,.tup (vz (beh (beh (kq D B) t) (kq D B))),D.map (λu=> .tup (vz u)),_,j,rZ,rZ,N' (ae _ _ U),by rw[gL,gL,lb],lP (N1 e8),λi' d' v' z1 z2=>?_,by decide,by rw[hA,ej];rfl,λi' lt z=>?_,g.trans au,js++[j],by simp,by simp[lj],λk j' t' z1 z2=>?_]
  .rw[hA]at z1 z2;obtain⟨u,eu,rfl⟩:=jb.mp z1;obtain⟨b',aK,rfl⟩:=jb.mp z2;exact lP (N1 (ae _ _ (Y.is i' b' u aK eu)))
  .rw[hA]at z;obtain⟨u,eu,ez⟩:=jb.mp z;have:=gZ.mp ez
   subst this;exact wC (yW nd eu ej) ()
  .by_cases hk:k<i
   .rw[j0 ()]at z1;exact ok k j' t' z1 z2
   .have aL:k=i:=by
     have:=(gV.mp z1).1;rw[jc,lj]at this;have:k<i+1:=this
     lia
    subst aL;rw[ku (),lj,vU]at z1;cases z1;rw[et]at z2;cases z2;exact ej
 obtain⟨g6,js,rfl,lj,ok⟩:=p;rw[gL]at lj;have kn:=g0 aq (.lst ((js.map λ(n:Nat)=>(n:Int)).map V.int));rw[i8];refine#[aJ,_,rZ,N' gO,by rw[gL];lia,λsa aM=>#[sa,_,rZ,gO,iP (KO _) (by rw[gL];lia),λl2 jz av z1 z2=>?_]];have aN:=Ny nd (lj.trans lk) ok z1 z2;subst aN;have aO:=g0 aM (Ap w sa (qW (js.map λ(n:Nat)=>(n:Int))));have gz:=(((ks.trans aj).trans g6).trans kn).trans aO;have aw:=gz.trans (g0 av (.lst (((oV D B).map λ(n:Nat)=>(n:Int)).map V.int)));refine q l2 O _ (k1.trans aw.keeps) (T1.same aw) ?_ (by rw[aD,i8];exact gO) TT le;cases y:L2.noT H l2 with
 |none=>rfl
 |some o=>
  exact nomatch av.symm.trans (gz _ _ (k1 _ _ y))
end
structure Grp(n:Nat)(gs:LN)(e:f'):Prop where
 n1:1<=n
 n5:n<=5
 nd:gs.Nodup
 tn:∀t∈gs,Cyc.Tn n t
 te:Cyc.Tn n e
 id:Cyc.Idem e
 me:e∈gs
 ins:∀t∈gs,Cyc.In t e
 pws:∀t∈gs,∀k,1<=k->Cyc.pw t k∈gs
 beh:∀t∈gs,∀v∈gs,Cyc.beh t v∈gs
 few:gs.length<=400
def KQ{n:Nat}{u e:f'}(h:Cyc.Tn n u)(g:1<=n)(j:n<=5)(l:Cyc.Idem e)(i:Cyc.In u e):∃k,k<30/\Cyc.pw u (k+2)=e:=by
 obtain⟨b,c,R,_⟩:=Cyc.ring_of h.turn;have p:=(Cyc.again_ring R).mp i.1;have c6:=(Cyc.ring_five h.turn (by rw[h.1];exact g) (by rw[h.1];exact j) R).2;have q:=R.pos;have m:Cyc.Idem (Cyc.pw u (c * 2)):=by
  have z:=Cyc.idem_ex h R;have f:=Cyc.idem_mul h z 1;by_cases a:b=1
  .subst a;exact z
  .have d:b=0:=by lia
   subst d;rw[qh,Nat.mul_one]at z f;rw[f];exact z
 obtain⟨_,k,o,rfl⟩:=i;exact#[c * 2-2,(),by rw[show c * 2-2+2=c * 2 by lia];exact Cyc.idem_uniq h () o m l]
def Lr{a:f'}{r:Nat}:r∈lB a↔r<5/\r∈a:=by
 unfold lB;rw[ji,lY,qk]
def v9{n:Nat}{t v:f'}(ht:t∈iY n n){r:Nat}(a:r<n):(beh t v).getD r 0=v.getD (t.getD r 0) 0:=by
 have l:=(gJ.mp ht).1;unfold beh;rw[iD,hA,iD (l:=t),gN (show r<t.length by lia)];rfl
def Bw{n:Nat}{t:f'}(ht:t∈iY n n){r:Nat}(a:r<n):t.getD r 0∈t/\t.getD r 0<n:=by
 obtain⟨l,h⟩:=gJ.mp ht;have m:t.getD r 0∈t:=by
  rw[iD,gN (show r<t.length by lia)];exact oU _
 exact#[m,h _ m]
def IF{n:Nat}{t v:f'}(ht:t∈iY n n)(a:v∈iY n n)(h:∀r,r<n->t.getD r 0=v.getD r 0):t=v:=by
 have l1:=(gJ.mp ht).1;have l2:=(gJ.mp a).1;refine vt () λi b c=>?_;have z:=h i ();rw[iD,iD,gN b,gN c]at z;exact z
def HD{n:Nat}{t:f'}(ht:t∈iY n n){x:Nat}(a:x∈t):∃r,r<n/\t.getD r 0=x:=by
 obtain⟨i,e⟩:=jk.mp a;exact#[i,by have:=(gV.mp e).1;have:=(gJ.mp ht).1;lia,by rw[iD,e];rfl]
def Kp(n:Nat)(a t:f'):Prop:=t∈iY n n/\pj t a=a
def Kp.mem{n:Nat}{a t:f'}(k:Kp n a t)(x:Nat):x∈a↔x<5/\∃s∈a,t.getD s 0=x:=by
 conv=>lhs;rw[<-k.2]
 unfold pj;rw[Lr,hX]
def Kp.go{n:Nat}{a t:f'}(c:n<=5)(d:∀r∈a,r<n)(k:Kp n a t){r:Nat}(b:r∈a):t.getD r 0∈a:=
 (k.mem _).mpr #[j4 (Bw k.1 (d r b)).2 c,r,b,rZ]
def Kp.beh{n:Nat}{a t v:f'}(d:n<=5)(c:∀r∈a,r<n)(e:lB a=a)(k:Kp n a t)(k2:Kp n a v):Kp n a (beh t v):=by
 refine#[AN k.1 k2.1,?_];unfold pj
 conv=>rhs;rw[<-e]
 unfold lB;refine DJ λi g=>?_;rw[pD,qk,qk,hX];constructor
 .rintro⟨r,b,rfl⟩;rw[v9 k.1 (c r b)];exact k2.go d c (k.go d c b)
 .intro h;obtain⟨_,s,f,rfl⟩:=(k2.mem i).mp h;obtain⟨_,r,b,rfl⟩:=(k.mem s).mp f;exact#[r,b,v9 k.1 (c r b)]
def mG{b:Zs}{y:Int}:y∈oZ b↔y∈b:=by
 have all:∀(b a:Zs),y∈b.foldl pe a↔y∈a\/y∈b:=λb=>by
  induction b with
  |nil=>intro a;simp
  | cons x b c=>
   intro a;rw[pY,c,iu];unfold pe;split
   .rename_i h
    exact#[λz=>z.elim .inl λz=> .inr (.inr z),λz=>z.elim .inl λz=>z.elim (λe=> .inl (e▸h)) .inr]
   .rw[iC,h9,or_assoc]
 rw[oZ,all];simp
def JV(d:Zs):(oZ d).Nodup:=by
 have all:∀(d c:Zs),c.Nodup->(d.foldl pe c).Nodup:=λd=>by
  induction d with
  |nil=>intro c h;exact h
  | cons x d e=>
   intro c h;rw[pY];refine e _ ?_;unfold pe;split
   .exact h
   .rename_i f
    exact wj.mpr #[h,nc.mpr #[List.not_mem_nil,yg],λa g b i=>by rw[h9.mp i];exact λz=>f (z▸g)]
 exact all d [] yg
def JD{f e:f'}(sub:∀x∈f,x∈e)(b:j3 e<=j3 f):∀x∈e,x∈f:=λx c=>by
 refine yR λd=>?_;have m:∀(t:f') (y:Nat),(y:Int)∈oZ (t.map λ(n:Nat)=>(n:Int))↔y∈t:=λt y=>by
  rw[mG,hX];exact#[λ⟨z,g,o⟩=>(show z=y by lia)▸g,λh=>#[y,h,rZ]]
 have i:((x:Int)::oZ (f.map λ(n:Nat)=>(n:Int))).Nodup:=nc.mpr #[λz=>d ((m f x).mp z),JV _];have a:=BJ i (l₂:=oZ (e.map λ(n:Nat)=>(n:Int))) λy j=>by
  rcases iu.mp j with rfl|z
  .exact(m e x).mpr c
  .obtain⟨k,l,rfl⟩:=hX.mp (mG.mp z);exact(m e k).mpr (sub k l)
 unfold j3 at b;rw[nq]at a;lia
theorem HC:∀(d:LN) (a:Option f') (u:f'),d.foldl qt a=some u->(∀p∈d,j3 u<=j3 p)/\∀y,a=some y->j3 u<=j3 y
 | [],a,u,h=>#[(λ_ z=>nomatch z),λy e=>by rw[e]at h;cases h;exact Int.le_refl _]
 | p::d,a,u,h=>by
  obtain⟨f,g⟩:=HC d (qt a p) u h;cases a with
  |none=>
   refine#[λq b=>?_,λy e=>nomatch e]
   rcases iu.mp b with rfl|z
   .exact g _ rfl
   .exact f q z
  | some y=>
   by_cases c:j3 p<j3 y
   .have e:qt (some y) p=some p:=wB c;have z:=g p e;refine#[λq b=>?_,λi e=>by cases e;lia]
    rcases iu.mp b with rfl|w
    .exact z
    .exact f q w
   .have e:qt (some y) p=some y:=wA c;have z:=g y e;refine#[λq b=>?_,λi e=>by cases e;exact z]
    rcases iu.mp b with rfl|w
    .lia
    .exact f q w
def Mm{n:Nat}{f e:f'}(a:f∈iY n n)(c:e∈iY n n)(i:beh f f=f)(g:beh e f=f)(h:beh f e=f)(j:j3 e<=j3 f):f=e:=by
 have sub:∀x∈f,x∈e:=λx k=>by
  obtain⟨r,b,rfl⟩:=HD a k;rw[<-h,v9 a b];exact(Bw c (Bw a b).2).1
 have all:=JD sub j;refine IF a c λr b=>?_;obtain⟨s,l,d⟩:=HD a (all _ (Bw c b).1);have z:=v9 (v:=f) c b;rw[g,<-d]at z;have y:=v9 (v:=f) a l;rw[i]at y;rw[z,<-y,d]
structure Own(n:Nat)(us:LN)(face:f'):Prop where
 n1:1<=n
 n5:n<=5
 nd:us.Nodup
 uU:∀u∈us,u∈iY n n
 h0:List.range n∈us
 hf:face∈ly n
 clo:∀u∈us,∀v∈us,beh u v∈us
 few:us.length<=400
section
variable{n:Nat}{d:LN}{a:f'}
def Own.amid(O:Own n d a):kq d a∈d/\Kp n a (kq d a)/\beh (kq d a) (kq d a)=kq d a/\∀f∈d,Kp n a f->beh f f=f->j3 (kq d a)<=j3 f:=by
 obtain⟨a1,a2⟩:=EM O.h0 O.hf
 rcases BU _ _ _ a1 with z|z
 .obtain⟨z1,z2⟩:=ji.mp z;obtain⟨z3,z4⟩:=ji.mp z1;refine#[a2,#[O.uU _ a2,lR z4],lR z2,λf b k i=>(HC _ _ _ a1).1 f (ji.mpr #[ji.mpr #[b,iG k.2],iG i])]
 .cases z
def Own.prod(O:Own n d a){x:f'}:x∈qw d a↔x∈d/\Kp n a x/\beh (kq d a) x=x/\beh x (kq d a)=x:=by
 obtain⟨a1,a2,a3,_⟩:=O.amid;obtain⟨e,f⟩:=gR.mp O.hf;have b:=O.uU _ a1;constructor
 .intro h;obtain⟨t,ht,rfl⟩:=hX.mp h;obtain⟨g,i⟩:=ji.mp ht;have c:=O.uU t g;have j:Kp n a t:=#[c,lR i];refine#[O.clo _ (O.clo _ a1 _ g) _ a1,(a2.beh O.n5 f e j).beh O.n5 f e a2,?_,?_]
  .rw[hO b c,<-hO b b,a3]
  .rw[hO (AN b c) b,a3]
 .rintro⟨l,k,m,o⟩;exact hX.mpr #[x,ji.mpr #[l,iG k.2],by rw[m,o]]
theorem Own.pws(O:Own n d a){x:f'}(h:x∈qw d a):∀k,1<=k->Cyc.pw x k∈qw d a
 |0,z=>wC z (by decide)
 | k+1,_=>by
  by_cases f:k=0
  .subst f;rw[Cyc.pw_one];exact h
  .obtain⟨g,b,i,p⟩:=O.prod.mp (O.pws h k ());obtain⟨j,c,q,l⟩:=O.prod.mp h;obtain⟨a1,a2,a3,_⟩:=O.amid;obtain⟨m,o⟩:=gR.mp O.hf;have e:Cyc.pw x (k+1)=beh (Cyc.pw x k) x:=rfl;rw[e];refine O.prod.mpr #[O.clo _ g _ j,b.beh O.n5 o m c,?_,?_]
   .rw[<-hO (O.uU _ a1) b.1,i]
   .rw[hO b.1 c.1,l]
def Own.mul(O:Own n d a){x y:f'}(e:x∈qw d a)(f:y∈qw d a):beh x y∈qw d a:=by
 obtain⟨g,b,h,m⟩:=O.prod.mp e;obtain⟨i,c,o,j⟩:=O.prod.mp f;obtain⟨a1,a2,a3,_⟩:=O.amid;obtain⟨k,l⟩:=gR.mp O.hf;refine O.prod.mpr #[O.clo _ g _ i,b.beh O.n5 l k c,?_,?_]
 .rw[<-hO (O.uU _ a1) b.1,h]
 .rw[hO b.1 c.1,j]
def Own.ins(O:Own n d a){x:f'}(h:x∈qw d a):Cyc.In x (kq d a):=by
 obtain⟨r,k,l,s⟩:=O.prod.mp h;have g:Cyc.Tn n x:=gJ.mp k.1;obtain⟨b,c,R,_⟩:=Cyc.ring_of g.turn;have i:=Cyc.idem_ex g R;have f:1<=c * (b+1):=Nat.mul_pos R.pos (Nat.succ_pos _);obtain⟨m,j,o,p⟩:=O.prod.mp (O.pws h _ f);obtain⟨a1,a2,a3,q⟩:=O.amid;have e:=Mm j.1 a2.1 i o p (q _ m j i);refine#[#[_,f,?_],_,f,e];show Cyc.beh (Cyc.pw x (c * (b+1))) x=x;rw[e];exact l
def Own.still(O:Own n d a){r:Nat}(b:r∈a):(kq d a).getD r 0=r:=by
 obtain⟨a1,a2,a3,_⟩:=O.amid;obtain⟨f,c⟩:=gR.mp O.hf;obtain⟨_,s,e,rfl⟩:=(a2.mem r).mp b;have z:=v9 (v:=kq d a) a2.1 (c s e);rw[a3]at z;exact z.symm
def rV(O:Own n d a){t:f'}:t∈((oV d a).map λk=>d.getD k [])↔t∈qw d a:=by
 rw[hX];constructor
 .rintro⟨k,b,rfl⟩;obtain⟨x,e,h⟩:=i6.mp b;rw[iD,e];exact h
 .intro h;obtain⟨k,e⟩:=jk.mp (O.prod.mp h).1;exact#[k,i6.mpr #[t,e,h],by rw[iD,e];rfl]
def Own.grp(O:Own n d a):Grp n ((oV d a).map λk=>d.getD k []) (kq d a):=by
 obtain⟨a1,a2,a3,h⟩:=O.amid;refine#[O.n1,O.n5,?_,λt ht=>gJ.mp (O.prod.mp ((rV O).mp ht)).2.1.1,gJ.mp a2.1,a3,(rV O).mpr (O.prod.mpr #[a1,a2,a3,a3]),λt ht=>O.ins ((rV O).mp ht),λt ht k b=>(rV O).mpr (O.pws ((rV O).mp ht) k b),λt ht v f=>(rV O).mpr (O.mul ((rV O).mp ht) ((rV O).mp f)),?_]
 .refine uv.mpr (List.Pairwise.imp_of_mem (λ{j k} g b lt z=>?_) (MD d a));obtain⟨x,c,_⟩:=i6.mp g;obtain⟨y,e,_⟩:=i6.mp b;rw[iD,iD,c,e]at z;cases(show x=y from z);exact wC (yW O.nd c e) ()
 .rw[gL];have:=O.few;exact iP (pA _ _) (by rw[qm];lia)
end
def Ec{n:Nat}{u:f'}(h:Cyc.Tn n u)(a:n<=5):Cyc.Turn u/\u.length<=5:=#[h.turn,by rw[h.1];exact a]
inductive lN(g:List V)(H:Hp)(Q:VK)(c:XK):Prop|mk:∀(a b d:Ad) (u e:f') (n:Nat) (f:LN),g=[.ref a,.ref b,.ref d]->H a=some (.tup (u.map nv))->H b=some (.tup (e.map nv))->H d=some (.dT (pV f))->u∈f->Grp n f e->(∀h,Same H h->Q (.bl true) h)->lN g H Q c
inductive km(K:N2)(f:List V)(H:Hp)(Q:VK)(b:XK):Prop|mk:∀(l fa c:Ad) (g:As) (i:Zs) (a e:f') (n:Nat) (d:LN),f=[.ref l,.ref fa,.ref c]->H l=some (.lst (g.map .ref))->H c=some (.lst (i.map V.int))->TupsAt H g d->Grp n d e->H fa=some (.tup (a.map nv))->a∈ly n->(∀r∈a,e.getD r 0=r)->(∀t∈d,pj t a=a)->(∀h,Same H h->Q (.bl true) h)->km K f H Q b
section
variable{P:Pg}{w:World}{K:N2}{mg:SV}{base:Heap}{f C:Ad}{m:Fd}
def JA(F:Fun K tM tM xc f m)(T:hZ P w K mg base sT 1 [sW,sK] ie)(jC:mg "range"=none):FnOk P w K mg base im 3 f m [sF,tQ,sX] lN:=by
 refine F.ok jZ (λaa A C s H vs Q E o h=>?_)
 obtain⟨a,b,d,u,e,n,gs,rfl,D,hb,hd,I,G,q⟩:=h;have hu:=o.units;have J:=oO o;have L:=G.tn u I;have ul:u.length<=5:=by rw[L.1];exact G.n5
 have hT:=L.turn;refine#[_,(hJ (iJ (i:=3) jZ.nd rZ Z' (pv 0)) (hJ (nH oP rZ (sE rZ jC (g9 iI gX)) (md (i:=4) jZ.nd rZ Z') (hJ (mA (ko (wZ hu) (iV T o.m rZ (iL (gU (pv 3) (gU (pv 0) iM rZ) rZ))) (pv 1) (jx _)) (hK (iT (Fz (Be J (pv 3) (pv 2))))) mT) (hK (iJ (i:=3) jZ.nd rZ Z' (iV T o.m rZ (iL (gU (pv 3) (gU (pv 0) iM rZ) rZ))))))) (hK (iT nV)))),?_];refine#[_,rZ,30,rZ,by decide,by decide,Ai (n:=30) (λi M U=>Same H U/\(∀j,j<i->Cyc.pw u (j+2)≠e)/\∃(p:Ad) (N:Option V),U p=some (.tup ((Cyc.pw u (i+1)).map nv))/\M=[some (.ref a),some (.ref b),some (.ref d),some (.ref p),N]) #[Same.refl _,λj Y=>wC Y (pk _),a,none,by rw[Cyc.pw_one];exact D,rZ] (λi M H2 hi p=>?_) (λM H2 p=>?_)]
 .obtain⟨g,O,p,N,t,rfl⟩:=p;refine#[_,rZ,_,rZ,p,a,Cyc.pw u (i+1),u,rZ,t,g _ _ D,Cyc.pw_lt hT _,by rw[Cyc.pw_len];lia,λr H3 x e3=>#[_,rZ,r,b,0,_,_,rZ,rZ,lP (N1 e3),lP (N1 (x _ _ (g _ _ hb))),by decide,λv B=>#[_,rZ,?_]]];have B:v=true↔Cyc.pw u (i+2)=e:=B.trans gZ;have c:=g.trans x;cases v with
  |true=>
   have ei:=B.mp rfl;refine mH ?_;have l:=DGet.t (k:=nk (Cyc.pw u (i+1))) (c _ _ hd) (b:=p) (by rw[mJ];exact x _ _ t);rw[DC (G.pws u I (i+1) ())]at l;refine#[_,rZ,_,rZ,d,_,rZ,l,?_];exact q H3 c
  | false=>
   refine j5 #[_,rZ,_,rZ,p,a,Cyc.pw u (i+1),u,rZ,x _ _ t,c _ _ D,Cyc.pw_lt hT _,by rw[Cyc.pw_len];lia,λr2 H4 g4 e4=>?_];refine#[c.trans g4,λj Y=>?_,r2,_,e4,rZ];by_cases z:j<i
   .exact O j z
   .have:j=i:=by lia
    subst this;exact λy=>Bool.noConfusion (B.mpr y)
 .obtain⟨g,O,p,N,t,rfl⟩:=p;obtain⟨k,h1,h2⟩:=KQ L G.n1 G.n5 G.id (G.ins u I);exact wC h2 (O k h1)
def MN(F:Fun K tE tE rz f m)(jA:hZ P w K mg base sT 1 [sW,sK] ie)(kA:hZ P w K mg base tM 3 [sF,tQ,sX] lN)(jB:mg "len"=none)(jI:mg "sorted"=none)(kM:mg "set"=none)(jS:mg "list"=none):FnOk P w K mg base im 5 f m [sQ,uB,tS] (km K):=by
 refine F.ok jF (λaI A ay s H vs Q E hr h=>?_)
 obtain⟨l,fa,c,gb,cs,t,e,n,O,rfl,hl,hc,Tg,G,ag,hU,aa,ah,q⟩:=h;have hu:=hr.units;have ak:=oO hr;have lg:=Tg.len;have few:=G.few;have n5:=G.n5;refine#[_,(hJ (iJ (i:=3) jF.nd rZ Z' De) (hJ (nH oP rZ (lm (pv 0)) (md (i:=4) jF.nd rZ Z0) (hK (we ak (pv 3) (pv 4) nV rZ))) (hJ (yx (CompSc.to (N:=[sQ,uB,tS,sX,sF,"_law_lone",tQ,tJ,sW,sK]) (osc:=gP rz) (vs:=[sF]) {}) rZ rZ jF.nd (j:=5) rZ rZ (lm (pv 0)) (λ_ _ _ _=>sg (ko (OpR.k (K:=K) (λK=>nz K false) (wZ hu) rZ) (iV jA hr.m rZ (iL (gU (pv 0) (gU (pv 0) iM rZ) rZ))) (pv 0) (jx _))) (λ_ _ _ _=>(pv 0))) (hJ (mA (PW.pt (xX (ko CG (jv mO rZ jB lW (g9 (pv 5) gX)) iI (jx _)) (DE (ko CG (jv Hu rZ jB lW (g9 (pv 3) gX)) (jv mO rZ jB lW (g9 (pv 0) gX)) (jx _))))) (hK (iT nV)) mT) (hJ (iJ (i:=6) jF.nd rZ Z0 (jo ny (pv 5) iI (λ_ _=>rfl))) (hJ (mA (ko (tr hu) (np (CompSc.to (N:=[sQ,uB,tS,sX,sF,"_law_lone",tQ,tJ,sW,sK]) (osc:=gP rz) (vs:=["_law_room"]) {}) rZ rZ (wc (pv 1)) (λ_ _ _ _=>sg (ko CG (jo (IxR.k (K:=K) nR nO rZ) (pv 7) (pv 0) (λ_ _=>rfl)) (pv 0) (jx _))) (λ_ _ _ _=>(pv 0))) (mZ gX) (jx _)) (hK (iT nV)) mT) (hJ (nH oP rZ (lm (pv 0)) (md (i:=4) jF.nd rZ Z0) (hJ (mA (PW.pt (xX (ko (tr hu) (iV jA hr.m rZ (iL (gU (pv 4) (gU (pv 6) iM rZ) rZ))) (pv 4) (jx _)) (xX (ko (tr hu) (iV jA hr.m rZ (iL (gU (pv 6) (gU (pv 4) iM rZ) rZ))) (pv 4) (jx _)) (DE (Bs (u6 (iV kA hr.m rZ (iL (gU (pv 4) (gU (pv 6) (gU (pv 3) iM rZ) rZ) rZ))))))))) (hK (iT nV)) mT) (hK (mA (ko (tr hu) (jv (E6 rZ) rZ jI zE (g9 (m6 (Eo rZ) rZ kM AU (g9 (np (CompSc.to (N:=[sQ,uB,tS,sX,sF,"_law_lone",tQ,tJ,sW,sK]) (osc:=gP rz) (vs:=["_law_room"]) {}) rZ rZ (wc (pv 1)) (λ_ _ _ _=>nC) (λ_ _ _ _=>(jo (IxR.k (K:=K) nR nO rZ) (pv 5) (pv 0) (λ_ _=>rfl)))) gX)) gX)) (m6 Ie rZ jS boot_list (g9 (pv 1) gX)) (jx _)) (hK (iT nV)) mT)))) (hJ (nH oP rZ (lm (pv 2)) (md (i:=7) jF.nd rZ Z') (hJ (iJ (i:=8) jF.nd rZ Z' (jo ny (pv 0) (jj n7 (pv 7) (jv mO rZ jB lW (g9 (pv 0) gX))) (λ_ _=>rfl))) (hJ (iJ (i:=9) jF.nd rZ Z' (jo ny (pv 0) (jj n7 (jj wJ (pv 7) (jv mO rZ jB lW (g9 (pv 0) gX))) (jv mO rZ jB lW (g9 (pv 0) gX))) (λ_ _=>rfl))) (hK (mA (v8 (AF ak (iV jA hr.m rZ (iL (gU (pv 8) (gU (pv 9) iM rZ) rZ))) (pv 3))) (hK (iT nV)) mT))))) (hK (iT nV)))))))))),?_];refine λd hd=>?_;have gd:=g0 hd (.dT []);refine#[_,rZ,l,rZ,#[_,N' (gd _ _ hl)],rL (xs:=gb.map .ref) (λi L B=>Same H B/\B d=some (.dT (pV (O.take i)))/\∃o3,L=[some (.ref l),some (.ref fa),some (.ref c),some (.ref d),o3,none,none,none,none,none]) #[gd,gO,none,rZ] (λi L B _ p=>N' (p.1 _ _ hl)) (λi v L B C p=>?_) (λL H1 p=>?_)]
 .obtain⟨g,ed,o3,rfl⟩:=p;rw[hA]at C;obtain⟨b,eb,rfl⟩:=jb.mp C;obtain⟨hi,_⟩:=gV.mp eb;obtain⟨u,eu⟩:∃u,O[i]?=some u:=#[_,gN ()];have hb:=g _ _ (Tg.is i b u eb eu);have no:u∉O.take i:=λz=>by
   obtain⟨j,ej⟩:=wG z;rw[Bv]at ej;split at ej
   .next hj=>exact wC (yW G.nd ej eu) ()
   .cases ej
  refine#[_,rZ,_,rZ,d,_,rZ,DPut.t (k:=nk u) ed (by rw[mJ];exact hb) (by unfold pV;rw[List.length_map,List.length_take,sizeLine_eq];lia),?_];rw[zn _ (GF no)];refine#[oY g hd,?_,_,rZ];rw[gO,om,eu];unfold pV;rw[kg];rfl
 obtain⟨g1,ed,o3,rfl⟩:=p;rw[gL,lg,mh]at ed;have al:∀u∈O,(Cyc.Idem u↔u=e):=λu mu=>by
  constructor
  .intro i;obtain⟨_,k,hk,ek⟩:=G.ins u mu;have z:=Cyc.idem_uniq (G.tn u mu) (gS 1) hk (by rw[Cyc.pw_one];exact i) (by rw[ek];exact G.id);rw[Cyc.pw_one,ek]at z;exact z
  .rintro rfl;exact G.id
 obtain⟨je,ab⟩:=wG G.me;obtain⟨aJ,_⟩:=gV.mp ab;obtain⟨D,am⟩:∃D,gb[je]?=some D:=#[_,gN ()];refine#[_,rZ,l,rZ,#[_,N' (g1 _ _ hl)],n' (xs:=gb.map .ref) (λi ys B=>Same H1 B/\ys=(if je<i then[V.ref D]else[])) (by rw[gL,iv];lia) #[Same.refl _,rZ] (λi ys B hi p=>?_) (λi v ys B C p=>?_) (λys B p lo az=>?_)]
 .obtain⟨g,rfl⟩:=p;refine#[N' (g _ _ (g1 _ _ hl)),?_];split
  .show 1<=i;lia
  .exact lV _
 .obtain⟨g,rfl⟩:=p;rw[hA]at C;obtain⟨b,eb,rfl⟩:=jb.mp C;obtain⟨hi,_⟩:=gV.mp eb;obtain⟨u,eu⟩:∃u,O[i]?=some u:=#[_,gN ()];have mu:=iq eu;have hb:=(g1.trans g) _ _ (Tg.is i b u eb eu);have tu:=G.tn u mu;obtain⟨t1,t2⟩:=Ec tu n5;refine#[mX,_,rZ,_,rZ,b,b,u,u,rZ,hb,hb,t1,(),λr H5 g5 e5=>#[_,rZ,r,b,0,_,_,rZ,rZ,lP (N1 e5),lP (N1 (g5 _ _ hb)),by decide,λv T=>#[_,rZ,?_]]];have T:v=true↔u=e:=(T.trans gZ).trans (al u mu);cases v with
  |true=>
   have ue:=T.mp rfl;subst ue;have ij:je=i:=yW G.nd ab eu;subst ij;rw[am]at eb;cases eb;refine mH #[_,rZ,g.trans g5,?_];rw[wA (oC _),wB (pT _)];rfl
  | false=>
   refine j5 #[g.trans g5,?_];have ij:je≠i:=λz=>by
    subst z;rw[ab]at eu;cases eu;exact Bool.noConfusion (T.mpr rZ)
   by_cases z:je<i
   .rw[wB z,wB ()]
   .rw[wA z,wA ()]
 obtain⟨g2,rfl⟩:=p;rw[gL,wB ()];have kl:=g0 az (.lst [V.ref D]);have U:gI B lo (.lst [V.ref D]) lo=some (.lst [V.ref D]):=gO;have Y:=(g1.trans g2).trans kl;have I:=kl _ _ (g2 _ _ ed);generalize gI B lo (.lst [V.ref D])=H3 at U Y I|-;have J:=Y _ _ (Tg.is je D e am ab);refine#[_,rZ,lo,_,rZ,.inl (N' U),rZ,_,rZ,?_];rw[show(!decide (V.int (([V.ref D]:List V).length:Int)=V.int 1))=false by simp];refine j5 #[_,rZ,d,_,rZ,I,_,rZ,l,_,rZ,.inl (N' (Y _ _ hl)),rZ,_,rZ,?_];rw[show(pV O).length=O.length by simp[pV],List.length_map,lg,show(!decide (V.int (O.length:Int)=V.int (O.length:Int)))=false by simp];refine j5 ?_;refine#[_,rZ,lo,_,_,_,rZ,rZ,N' U,rZ,?_];obtain⟨x1,x2⟩:=gR.mp hU;have te:=G.te;have l5:t.length<=5:=by rw[<-x1];exact CN t
 refine#[_,rZ,fa,rZ,#[_,N1 (Y _ _ ag)],Hm (xs:=t.map nv) (λi ys B=>B=H3/\ys=[]) (by rw[gL];exact small ()) #[rZ,rZ] (λi ys B _ p=>#[by rw[p.1];exact N1 (Y _ _ ag),by rw[p.2];exact lV _]) (λi v ys B C p=>?_) (λys B p e1 aA=>?_)]
 .obtain⟨rfl,rfl⟩:=p;rw[hA]at C;obtain⟨r,er,rfl⟩:=jb.mp C;have hr:=iq er;refine#[mX,_,rZ,_,rZ,D,_,_,_,rZ,rZ,N1 J,vc (by rw[te.1];exact x2 r hr),_,rZ,rZ,_,rZ,?_];rw[aa r hr,show(!decide (nv r=nv r))=false by simp];exact j5 #[rZ,rZ]
 obtain⟨rfl,rfl⟩:=p;have aB:=g0 aA (.lst []);refine#[by show 0<=sizeLine;decide,λe2 aC=>?_];have an:=g0 aC (.lst []);have ao:gI (gI B e1 (.lst [])) e2 (.lst []) e1=some (.lst (([]:f').map nv)):=an _ _ gO;have ap:gI (gI B e1 (.lst [])) e2 (.lst []) e2=some (.lst (([]:f').map nv)):=gO;have k12:=aB.trans an;have Y:=Y.trans k12;have U:=k12 _ _ U;have I:=k12 _ _ I;have J:=k12 _ _ J;generalize gI (gI B e1 (.lst [])) e2 (.lst [])=H3 at ao ap Y U I J|-;refine#[e1,e2,0,_,_,rZ,rZ,wy (N' ao),wy (N' ap),by decide,λcc aD=>#[_,rZ,?_]];rw[show cc=true from aD.mpr rZ];refine j5 ?_;refine#[_,rZ,l,rZ,#[_,N' (Y _ _ hl)],rL (xs:=gb.map .ref) (λi L B=>Same H3 B/\∃o3,L=[some (.ref l),some (.ref fa),some (.ref c),some (.ref d),o3,some (.ref lo),some (.ref D),none,none,none]) #[Same.refl _,_,rZ] (λi L B _ p=>N' (p.1 _ _ (Y _ _ hl))) (λi v L B C p=>?_) (λL H4 p=>?_)]
 .obtain⟨g,o3,rfl⟩:=p;rw[hA]at C;obtain⟨b,eb,rfl⟩:=jb.mp C;obtain⟨hi,_⟩:=gV.mp eb;obtain⟨u,eu⟩:∃u,O[i]?=some u:=#[_,gN ()];have mu:=iq eu;have gg:=Y.trans g;have hb:=gg _ _ (Tg.is i b u eb eu);have tu:=G.tn u mu;obtain⟨t1,t2⟩:=Ec tu n5;obtain⟨_,ue,ae,_⟩:=Cyc.in_unit tu G.id (G.ins u mu);refine#[_,rZ,_,rZ,b,D,u,e,rZ,hb,g _ _ J,λx hx=>by rw[te.1];exact tu.2 x hx,(),λr H5 g5 e5=>#[_,rZ,r,b,0,_,_,rZ,rZ,lP (N1 e5),lP (N1 (g5 _ _ hb)),by decide,λv T=>#[_,rZ,?_]]];rw[show v=true from(T.trans gZ).mpr ue];have aq:=g.trans g5;refine j5 #[_,rZ,_,rZ,D,b,e,u,rZ,aq _ _ J,g5 _ _ hb,λx hx=>by rw[tu.1];exact te.2 x hx,by rw[te.1];lia,λr2 H6 g6 e6=>#[_,rZ,r2,b,0,_,_,rZ,rZ,lP (N1 e6),lP (N1 (g6 _ _ (g5 _ _ hb))),by decide,λv2 aE=>#[_,rZ,?_]]];rw[show v2=true from(aE.trans gZ).mpr ae];have ai:=aq.trans g6;refine j5 #[_,rZ,_,rZ,_,rZ,b,D,d,u,e,n,O,rZ,g6 _ _ (g5 _ _ hb),ai _ _ J,ai _ _ I,mu,G,λH7 g7=>#[_,rZ,j5 ?_]];have ar:=ai.trans g7;have aF:=g7 _ _ (g6 _ _ (g5 _ _ hb));have aj:=(Y.trans ar) _ _ ag;refine#[_,rZ,fa,rZ,#[_,N1 aj],xx (f:=λv=>match v with|.int i=>nv (u.getD i.toNat 0)|v=>v) (by rw[gL];exact small ()) (N1 aj) (λv Q C q=>?_) (λl1 aG=>?_)]
  .obtain⟨r,h1,rfl⟩:=hX.mp C;exact#[_,rZ,_,rZ,b,_,_,_,rZ,rZ,N1 aF,vc (by rw[tu.1];exact x2 r h1),q]
  .have e2:(t.map nv).map (λv=>match v with|.int i=>nv (u.getD i.toNat 0)|v=>v)=(t.map λr=>u.getD r 0).map nv:=by
    rw[lE,lE];rfl
   try dsimp only
   rw[e2];have k1:=g0 aG (.lst ((t.map λr=>u.getD r 0).map nv));refine#[l1,_,rZ,N' gO,λx hx=>?_,λa ha=>#[a,_,rZ,gO,λo ho=>?_]]
   .obtain⟨r,h1,rfl⟩:=hX.mp hx;have:=iS tu.2 (show r<u.length by rw[tu.1];exact x2 r h1);lia
   .try dsimp only
    rw[CD];have k2:=k1.trans ((g0 ha (ra w a (o0 0 (t.map λr=>u.getD r 0)))).trans (g0 ho (.lst ((lB (t.map λr=>u.getD r 0)).map nv))));refine#[_,rZ,fa,_,rZ,.inr (N1 (k2 _ _ aj)),λlf as=>?_];have k3:=k2.trans (g0 as (.lst (t.map nv)));refine#[o,lf,0,_,_,rZ,rZ,wy (N' (g0 as (.lst (t.map nv)) _ _ gO)),wy (N' gO),by decide,λv C=>#[_,rZ,?_]];rw[show v=true from C.mpr (by rw[show lB (t.map λr=>u.getD r 0)=t from ah u mu])];exact j5 #[ar.trans k3,_,rZ]
 obtain⟨g4,o3,rfl⟩:=p;have af:=Y.trans g4;have aH:0<O.length:=List.length_pos_of_mem G.me;have M:0<(((gb.map V.ref).length:Nat):Int):=by
  rw[gL];lia
 refine#[_,rZ,c,rZ,#[_,N' (af _ _ hc)],rL (xs:=cs.map V.int) (λi L B=>Same H4 B/\∃o5 o6 o7,L=[some (.ref l),some (.ref fa),some (.ref c),some (.ref d),o3,some (.ref lo),some (.ref D),o5,o6,o7]) #[Same.refl _,_,_,_,rZ] (λi L B _ p=>N' (p.1 _ _ (af _ _ hc))) (λi v L B C p=>?_) (λL H5 p=>?_)]
 .obtain⟨g,o5,o6,o7,rfl⟩:=p;rw[hA]at C;obtain⟨z,ez,rfl⟩:=jb.mp C;have gg:=af.trans g;have pick:∀y:Int,∃(j:Nat) (b:Ad) (u:f'),y%(((gb.map V.ref).length:Nat):Int)=(j:Int)/\gb[j]?=some b/\O[j]?=some u:=λy=>by
   have h1:=Bf y (b:=(((gb.map V.ref).length:Nat):Int)) ();have h2:=A1 y M;rw[gL]at h1 h2|-;have hj:(y%((gb.length:Nat):Int)).toNat<gb.length:=by lia
   exact#[(y%((gb.length:Nat):Int)).toNat,_,_,(),gN hj,gN ()]
  obtain⟨j1,b1,u1,y1,au,av⟩:=pick z;obtain⟨j2,b2,u2,y2,aw,ae⟩:=pick (z/ (((gb.map V.ref).length:Nat):Int));have m1:=iq av;have m2:=iq ae;have t1:=G.tn u1 m1;have t2:=G.tn u2 m2;refine#[_,rZ,_,rZ,_,rZ,l,_,rZ,.inl (N' (gg _ _ hl)),_,_,rZ,rZ,M,?_]
  try dsimp only
  rw[y1];refine#[l,_,_,_,rZ,rZ,N' (gg _ _ hl),pH (j:=j1) (v:= .ref b1) (by rw[hA,au];rfl),?_];refine#[_,rZ,_,rZ,_,rZ,l,_,rZ,.inl (N' (gg _ _ hl)),_,_,rZ,rZ,#[M,by rw[gL];lia],_,rZ,l,_,rZ,.inl (N' (gg _ _ hl)),_,_,rZ,rZ,M,?_]
  try dsimp only
  rw[y2];refine#[l,_,_,_,rZ,rZ,N' (gg _ _ hl),pH (j:=j2) (v:= .ref b2) (by rw[hA,aw];rfl),?_];have h1:=gg _ _ (Tg.is j1 b1 u1 au av);have h2:=gg _ _ (Tg.is j2 b2 u2 aw ae);refine#[_,rZ,_,rZ,b1,b2,u1,u2,rZ,h1,h2,λx hx=>by rw[t2.1];exact t1.2 x hx,by rw[t1.1];lia,λr H6 g6 e6=>?_];have ax:=DGet.t (k:=nk (Cyc.beh u1 u2)) (g6 _ _ (g _ _ (g4 _ _ I))) (b:=r) (by rw[mJ];exact e6);rw[DC (G.beh u1 m1 u2 m2)]at ax;exact#[_,rZ,d,_,rZ,ax,_,rZ,j5 #[g.trans g6,_,_,_,rZ]]
 .obtain⟨g,o5,o6,o7,rfl⟩:=p;exact q _ (af.trans g)
end
inductive m8(K:N2)(c:List V)(H:Hp)(Q:VK)(b:XK):Prop|mk:∀(a:Ad) (d:Zs),c=[.ref a]->SqL K H a (d.map V.int)->d.length<=63->Tabs H->(∀e,Q (.bl true) e)->m8 K c H Q b
def Gv{f:f'->Nat->List Nat}{L:Nat}{c:f'}{a b:TW}(T:Told f L c b)(e:(a.map (·.1)).Nodup)(run:∀p∈a,(∀l∈p.2,l<L)/\jw f c p.2=p.1):a.length<=b.length:=by
 rw[<-gL (f:=(·.1)) (as:=a),<-gL (f:=(·.1)) (as:=b)];refine rE e λx g=>?_;obtain⟨p,h,rfl⟩:=hX.mp g;obtain⟨i,j⟩:=run p h;obtain⟨u,d,_⟩:=T.least _ p.2 rZ i;rw[j]at d;exact hX.mpr #[_,d,rZ]
def _root_.L2.SqL.keeps{K:N2}{H b:Hp}{a:Ad}{c:List V}(h:SqL K H a c)(g:Keeps H b):SqL K b a c:=by
 rcases h with(h|⟨o,h⟩)|h
 .exact .inl (.inl (g _ _ (nU h)))
 .exact .inl (.inr #[o,g _ _ (nU h)])
 .exact .inr h
section
variable{P:Pg}{w:World}{K:N2}{mg:SV}{base:Heap}{f C:Ad}{c:Fd}
def Mf{T:Ad}(F:Fun K "law" "law" po f c)(jY:hZ P w K mg base tI 3 [sD] (j8 K))(qA:hZ P w K mg base uL 3 [sJ,uT] p0)(d:CalleeDX P w K mg base sS 10 [sA,sG] (i9 C) [nv 400]) (qG:hZ P w K mg base uN 18 [sA] (lL T (#[59,40,59,93]:Pos))) (g:CalleeDX P w K mg base sV 12 [sA,uP,sG] (qb C) [nv 400])(jV:hZ P w K mg base tE 5 [sQ,uB,tS] (km K)) (jB:mg "len"=none) (qT:mg "max"=none) (qI:mg "min"=none):FnOk P w K mg base im 20 f c [sD] (m8 K):=by
 refine F.ok qN (λa9 A aD s H D Q E J h=>?_)
 obtain⟨a,ns,rfl,hS,ba,hT,q⟩:=h;have hu:=J.units;have bb:=oO J;refine#[_,(hJ (iJ (i:=1) qN.nd rZ Z' (iV jY J.m rZ (g9 (pv 0) gX))) (hJ (mA (ko Do (jv mO rZ jB lW (g9 (iV qA J.m rZ (iL (gU (pv 1) (gU iI iM rZ) rZ))) gX)) iI (jx _)) (hK (iT nV)) mT) (hJ (iJ (i:=2) qN.nd rZ Z0 (AS (CompSc.to (N:=[sD,sJ,sQ,uX,uQ]) (osc:=gP po) (vs:=[sF,"_law_word"]) {}) rZ (lm (BW d J.m FU rZ (g9 (pv 1) gX))) (DX (CompSc.to (N:=[sD,sJ,sQ,uX,uQ]) (osc:=gP po) (vs:=[sF,"_law_word"]) {}) rZ rZ rZ) (λ_ _ _ _=>nC) (λ_ _ _ _=>(pv 0)))) (hJ (nH oP rZ (lm (iV qG J.m rZ (g9 (pv 1) gX))) (md (i:=3) qN.nd rZ Z') (hJ (iJ (i:=4) qN.nd rZ Z' (BW g J.m FU rZ (iL (gU (pv 1) (gU (pv 3) iM rZ) rZ)))) (hJ (mA (PW.pt (xX (ko (wZ hu) (pv 4) (mZ gX) (jx _)) (xX (ko AA (jv (Np rZ) rZ qI boot_min (g9 (pv 4) gX)) iI (jx _)) (DE (ko xO (jv (Mp rZ) rZ qT boot_max (g9 (pv 4) gX)) (jv mO rZ jB lW (g9 (pv 2) gX)) (jx _)))))) (hK (iT nV)) mT) (hK (mA (Bs (u6 (iV jV J.m rZ (iL (gU (np (CompSc.to (N:=[sD,sJ,sQ,uX,uQ]) (osc:=gP po) (vs:=[uA]) {}) rZ rZ (lm (pv 4)) (λ_ _ _ _=>nC) (λ_ _ _ _=>(jo (IxR.k (K:=K) nN ny rZ) (pv 3) (pv 0) (λ_ _=>rfl)))) (gU (jo ny (jo nO (pv 3) iI (λ_ _=>rfl)) iI (λ_ _=>rfl)) (gU (Ix MA (pv 0) (Er iI) (Er iI)) iM rZ) rZ) rZ))))) (hK (iT nV)) mT))))) (hK (iT nV)))))),?_];refine#[_,rZ,a,ns,rZ,hS,λm H1 g1 M=>?_];generalize bc:Bk ns=ts at M;generalize hn:(1+ns.getD 0 0%5).toNat=n at M;have aE:=hT.same g1;have aF:=g1.seq hS;have n5:=M.n5;have n1:=M.n1;refine#[_,rZ,m,ts,n,400,rZ,M,gS _,λl0 aG ai H2 g2 aH kn run told=>?_];obtain⟨aI,aj,_⟩:=id aH;refine#[l0,_,rZ,.inl (N' aI),_,_,rZ,rZ,_,rZ,pz (λc2=>q _) (λc2=>?_)];have aJ:ai.length<=400:=by
  have: ¬(400:Int)<((aG.map V.ref).length:Int):=λz=>c2 (iG z);rw[gL,aj]at this;lia
 have ak:=told aJ;refine#[_,rZ,m,ts,n,400,rZ,M.same g2,gS _,aE.same g2,λl ps ws H3 k3 T3 _ _ Pi TT le=>?_,λD H7 dx _ _ _ aK al lt=>wC (Gv ak aK al) ()];have aL:ws=ai:=TT.uniq ak;subst aL;obtain⟨hl,am,an⟩:=id Pi;refine#[l,rZ,#[_,N' hl],n' (xs:=ps.map .ref) (λi ys L=>L=H3/\∃bs:As,ys=bs.map V.ref/\TupsAt H3 bs ((ws.map (·.1)).take i)) (by rw[gL,am,iv];lia) #[rZ,[],rZ,rZ,λj b u e=>by simp at e] (λi ys L hi p=>?_) (λi v ys L U p=>?_) (λys L p so aM=>?_)]
 .obtain⟨rfl,bs,rfl,Tb⟩:=p;refine#[N' hl,?_];rw[gL,Tb.len,lZ];exact Nat.min_le_left ..
 .obtain⟨rfl,bs,rfl,Tb⟩:=p;rw[hA]at U;obtain⟨a1,ea,rfl⟩:=jb.mp U;obtain⟨hi,_⟩:=gV.mp ea;obtain⟨r,er⟩:∃r,ws[i]?=some r:=#[_,gN ()];obtain⟨b,c',_,f1,f2,f3⟩:=an i a1 r ea er;exact#[a1,_,rZ,N1 f1,rZ,_,_,rZ,_,_,rZ,rZ,B6,ph #[_,rZ,rZ,bs++[b],by simp,FJ Tb (by rw[List.getElem?_map,er];rfl) f2]]
 obtain⟨rfl,bs,rfl,Tb⟩:=p;rw[gL,am,<-gL (f:=(·.1)) (as:=ws),mh]at Tb;have ks:=g0 aM (.lst (bs.map V.ref));have ao:gI L so (.lst (bs.map V.ref)) so=some (.lst (bs.map V.ref)):=gO;have Tu:TupsAt (gI L so (.lst (bs.map V.ref))) bs (ws.map (·.1)):=Tb.same ks;have k4:=k3.trans ks.keeps;have T4:=T3.same ks;generalize gI L so (.lst (bs.map V.ref))=H4 at ao Tu k4 T4|-;have M4:=(M.same g2).keeps k4;have aN:=(g2.seq aF).keeps k4;refine#[_,rZ,m,ts,n,rZ,M4,T4,λll as ag bd ys H5 k5 T5 nl el ff od sub be Lv nw ap bf=>?_];have M5:=M4.keeps k5;have la:=Lv.len;have aq:=k5 _ _ (nU ao);have aO:=re Tu k5;have aP:=aN.keeps k5
 let Pv:Nat->L2.St->Hp->Prop:=λ_ σ L=>Keeps H5 L/\Tabs L/\∃o3 o4,σ=[some (.ref a),some (.ref m),some (.ref so),o3,o4]
 refine#[ll,rZ,#[_,N' el],rL (xs:=as.map .ref) Pv #[Keeps.refl _,T5,none,none,rZ] (λi σ L _ p=>N' (p.1 _ _ (nU el))) (λi v σ H6 U p=>?_) (λσ H6 p=>q _)];obtain⟨k6,T6,o3,o4,rfl⟩:=p;rw[hA]at U;obtain⟨lv,ar,rfl⟩:=jb.mp U;have li:=(gV.mp ar).1;obtain⟨o,au⟩:∃o,ag[i]?=some o:=#[_,gN ()];obtain⟨aQ,aR,lp⟩:=(Lv.is i lv o ar au).lv (sub o (iq au));have av:=LvH.keeps aR k6;obtain⟨cne,bg,aS,_⟩:=ta lp.cls;have y:o.headD []∈ly n:=ff.inU M (ji.mp aS).1;refine#[_,rZ,_,rZ,m,lv,ts,n,400,o,_,aQ,rZ,M5.keeps k6,gS _,T6,av,cne,y,λfo D H7 k7 T7 bh af aT bi=>?_,λD H7 dx _ _ _ aU aw bj=>wC (Gv TT aU aw) ()];have aV:D=ws:=aT.uniq TT;subst aV;have O:Own n (D.map (·.1)) (o.headD []):=by
  refine#[n1,n5,TT.keys,λu hu=>?_,?_,y,λu hu v U=>GI (λt ht=>gJ.mpr (M.each t ht)) TT hu U,by rw[gL];lia]
  .obtain⟨p,hp,rfl⟩:=hX.mp hu;obtain⟨r1,r2⟩:=TT.run p hp;rw[<-r2];exact uk (ve n) M.steps p.2 r1
  .obtain⟨_,h1,_⟩:=TT.least _ [] rZ (λ_ h=>nomatch h);exact hX.mpr #[_,h1,rZ]
 have G:=O.grp;have still:=λ{r:Nat} (J:r∈o.headD [])=>O.still J;have keep:∀t∈((oV (D.map (·.1)) (o.headD [])).map λk=>(D.map (·.1)).getD k []),pj t (o.headD [])=o.headD []:=λt ht=>(O.prod.mp ((rV O).mp ht)).2.1.2;have Y:oV (D.map (·.1)) (o.headD [])≠[]:=λz=>by
  have:=G.me;rw[z]at this;cases this
 have lt:∀k∈oV (D.map (·.1)) (o.headD []),k<(D.map (·.1)).length:=λk hk=>by
  obtain⟨x,e,_⟩:=i6.mp hk;exact(gV.mp e).1
 have few:(oV (D.map (·.1)) (o.headD [])).length<=400:=by
  have:=G.few;rw[gL]at this;exact this
 have ax:=k7 _ _ (nU (k6 _ _ (rk aq λ_ e=>nomatch e)));have ah:=re (re aO k6) k7;have aW:=(aP.keeps k6).keeps k7;have aX:=LvH.keeps av k7;obtain⟨s',t',v',bq,ds,bk,h1,h2,h3,h4,h5,h6,h7,h8⟩:=aX;obtain⟨fa,aY,aZ,_⟩:=zP h3 cne;have ay:=ah.len;generalize oV (D.map (·.1)) (o.headD [])=xs at af G keep Y lt few;generalize kq (D.map (·.1)) (o.headD [])=e at G still;generalize bl:D.map (·.1)=us at G keep lt ah ay;have az:H7 fo=some (.lst ((xs.map λ(n:Nat)=>(n:Int)).map V.int)):=by rw[<-i8];exact af
 have aA:(xs.map λ(n:Nat)=>(n:Int))≠[]:=λz=>Y (BP.mp z);refine#[_,rZ,(by show 0<=sizeLine;decide),λl2 aB=>#[fo,l2,0,_,_,rZ,rZ,wy (N' (g0 aB _ _ _ af)),wy (is:=[]) (N' gO),by decide,λv U=>#[_,rZ,?_]]];have ev:v=false:=by
  cases v with
  |false=>rfl
  |true=>exact wC (rM.mp (U.mp rZ)) Y
 subst ev;have k2:=g0 aB (.lst []);have aa:=k2 _ _ af;have B:=k2 _ _ az;have ab:=k2 _ _ ax;generalize gI H7 l2 (.lst [])=H8 at k2 aa B ab|-;refine j5 #[_,rZ,fo,_,rZ,N' B,aA,λM1 a0 _=>#[_,_,rZ,rZ,_,rZ,pz (λc1=>?_) (λc1=>#[_,rZ,fo,_,rZ,N' B,aA,λM2 a2 _=>#[_,rZ,so,_,rZ,.inl (N' ab),_,_,rZ,rZ,_,rZ,pz (λc3=>?_) (λc3=>?_)]])]]
 .obtain⟨k,hk,rfl⟩:=hX.mp a0;have:=lR c1;lia
 .obtain⟨k,hk,rfl⟩:=hX.mp a2;have z:=lR c3;have:=lt k hk;rw[gL,ay]at z;lia
 refine#[_,rZ,fo,rZ,#[_,N' aa],Kn (f:=λv=>match v with|.int i=>V.ref (bs.getD i.toNat 0)|v=>v) (by rw[gL,iv];lia) (N' aa) (λv Q U q=>?_) (λgl a3=>?_)]
 .obtain⟨k,hk,rfl⟩:=hX.mp U;have bm:=lt k hk;refine#[_,rZ,_,rZ,so,_,_,_,rZ,rZ,N' ab,pH (j:=k) (v:= .ref (bs.getD k 0)) ?_,q];rw[hA,gN (),iD,gN ()];rfl
 have a4:(xs.map nv).map (λv=>match v with|.int i=>V.ref (bs.getD i.toNat 0)|v=>v)=(xs.map λk=>bs.getD k 0).map V.ref:=by
  rw[lE,lE];rfl
 rw[a4];have a5:=g0 a3 (.lst ((xs.map λk=>bs.getD k 0).map V.ref));have eg:gI H8 gl (.lst ((xs.map λk=>bs.getD k 0).map V.ref)) gl=some (.lst ((xs.map λk=>bs.getD k 0).map V.ref)):=gO;have I:=k2.trans a5;generalize gI H8 gl (.lst ((xs.map λk=>bs.getD k 0).map V.ref))=H9 at eg I|-;have a6:TupsAt H9 (xs.map λk=>bs.getD k 0) (xs.map λk=>us.getD k []):=#[by simp,λi b' u' e1 e2=>by
  rw[hA]at e1 e2;obtain⟨k,ek,rfl⟩:=jb.mp e1;rw[ek]at e2;cases e2;have hk:=lt k (iq ek);exact I _ _ (ah.is k (bs.getD k 0) (us.getD k []) (by rw[iD,gN ()];rfl) (by rw[iD,gN hk];rfl))]
 refine#[_,rZ,lv,_,_,_,rZ,rZ,N1 (I _ _ h1),rZ,s',_,_,_,rZ,rZ,N' (I _ _ h2),aY,?_];refine#[_,rZ,_,rZ,_,rZ,a,_,rZ,I.seq aW,λsl a7=>?_];have k10:=g0 a7 (.lst (uo (ns.map V.int) (some 6) (some 36)));obtain⟨cs,a8⟩:∃cs:Zs,uo (ns.map V.int) (some 6) (some 36)=cs.map V.int:=by
  unfold uo;exact#[_,by rw[<-List.map_drop,<-List.map_take]]
 rw[a8]at k10|-;have ae:=I.trans k10;refine#[gl,fa,sl,_,cs,o.headD [],e,n,_,rZ,k10 _ _ eg,gO,a6.same k10,G,ae _ _ aZ,y,λr J=>still J,keep,λbn aC=>#[_,rZ,j5 #[(k6.trans k7).trans (ae.trans aC).keeps,T7.same (ae.trans aC),_,_,rZ]]]
end
theorem oH{b:Type}{P:List b->Prop}(h:∀a,P [a]):∀c:List b,c.length=1->P c
 | [a],_=>h a
theorem nB{b:Type}{P:List b->Prop}(h:∀a a1,P [a,a1]):∀c:List b,c.length=2->P c
 | [a,a1],_=>h a a1
theorem vi{b:Type}{P:List b->Prop}(h:∀a a1 a2,P [a,a1,a2]):∀c:List b,c.length=3->P c
 | [a,a1,a2],_=>h a a1 a2
theorem LO{b:Type}{P:List b->Prop}(h:∀a a1 a2 a3,P [a,a1,a2,a3]):∀c:List b,c.length=4->P c
 | [a,a1,a2,a3],_=>h a a1 a2 a3
set_option maxHeartbeats 0 in
def d5f{l:W.OpenLaw}{w:World}{K:N2}{h:Heap}{mg:SV}{fa f1 f2 f3 f4 f5 f6 f7 f8 f9 aE aF y aG aH aI z aJ aK aL aM aN aO aP aQ aR aS aT aU aV aW aX aY aZ a0 A B m q g:Ad}(X:K.In h)(G:h.Ns mainGlobals mg)(fh:mg "law"=some (.ref fa)){fi fj fk bg fl fm fn fo fp bh fq fr fs ft fu fv fw fx bi bj bk bl bm E bn bo bp bq br bs bt H bu bv bw bx bz bA bB bC bD bE bF bG bH bJ bK bL bM bN bO bP bQ bR bS bT bU bV bW bX bY bZ b0 b1 b2 b3 b4 I:Option Ad} {fy fz fA fB fC fD fE fF fG b5 b6 b7 b8 b9 ca cb cc cd ce cf cg ch ci cj ck cl cm cn co cp cq cr cs ct:Array (Option Vl)} {fH fJ fK fL cu fM fN cv cw cx C cy fO fP fQ fR cz fS fT fU fV fW cA fX fY cB cC cD cE fZ f0 ga gb cF gc gd ge gf gg cG gh gi gj gk gm cH gn gp gq gr gs cJ gt cK cL cM cN J cO cP cQ cR cS L cT cU M N O Q cV cW cX cY T cZ c0 da db dc U dd de df dg dh Y di dj aa ab ae n af dk dm dn dp ag dq dr ds dt du ah dv dw dx dy dz ai dA dB dC dD dE aj dF dG dH dI dJ ak dK dL dM dN dO al dP dQ dR dS dT am dU dV dW dX dY an dZ d1 d2 d3 d4 ao d5 d6 d7 d8 d9 ap ea eb ec ed ee aq ef eg eh ei ej ar ek el en eo ep as eq er es et eu au ev ew ex ey ez av eA eB eC eD eE aw eF eG eH eJ eK ax eL eM ay az aA r aB:Vl} {eN:Obj} {gu:Nat} {eO:Obj} {gv:Nat} {eP:Tok} {aC:Obj} {eQ:Nat} {aD:Tok}(a1:W.nsIn K mainGlobals tL=some (some (.ref f1))) (l1:K.lookup f1=some #[fH,fi,.func (W.fnOf tL tL (iQ vR) (iE vR) (gP vR) .none fJ fK fL fj cu fM),fy]) (c1:W.codeIn K cu tL=true) (k1:W.keepIn K (.ref f1)=true)(a2:W.nsIn K mainGlobals tK=some (some (.ref f2))) (l2:K.lookup f2=some #[fN,fk,.func (W.fnOf tK tK (iQ rX) (iE rX) (gP rX) (.ref A) cv cw cx bg C cy),fz]) (c2:W.codeIn K C tK=true) (k2:W.keepIn K (.ref f2)=true)(lD2:K.lookup A=some eN) (qD2:eN.data=.seq ([.none]:Vs).toArray gu)(a3:W.nsIn K mainGlobals uO=some (some (.ref f3))) (l3:K.lookup f3=some #[fO,fl,.func (W.fnOf uO uO (iQ vY) (iE vY) (gP vY) .none fP fQ fR fm cz fS),fA]) (c3:W.codeIn K cz uO=true) (k3:W.keepIn K (.ref f3)=true)(a4:W.nsIn K mainGlobals tT=some (some (.ref f4))) (l4:K.lookup f4=some #[fT,fn,.func (W.fnOf tT tT (iQ uY) (iE uY) (gP uY) .none fU fV fW fo cA fX),fB]) (c4:W.codeIn K cA tT=true) (k4:W.keepIn K (.ref f4)=true)(a5:W.nsIn K mainGlobals sS=some (some (.ref f5))) (l5:K.lookup f5=some #[fY,fp,.func (W.fnOf sS sS (iQ qa) (iE qa) (gP qa) (.ref B) cB cC cD bh (.ref q) cE),fC]) (c5:W.codeIn K (.ref q) sS=true) (k5:W.keepIn K (.ref f5)=true)(lD5:K.lookup B=some eO) (qD5:eO.data=.seq ([.int 400 eP]:Vs).toArray gv)(hd5:W.codeHdIn K q 76=true)(a6:W.nsIn K mainGlobals sZ=some (some (.ref f6))) (l6:K.lookup f6=some #[fZ,fq,.func (W.fnOf sZ sZ (iQ xj) (iE xj) (gP xj) .none f0 ga gb fr cF gc),fD]) (c6:W.codeIn K cF sZ=true) (k6:W.keepIn K (.ref f6)=true)(a7:W.nsIn K mainGlobals "led"=some (some (.ref f7))) (l7:K.lookup f7=some #[gd,fs,.func (W.fnOf "led" "led" (iQ xa) (iE xa) (gP xa) .none ge gf gg ft cG gh),fE]) (c7:W.codeIn K cG "led"=true) (k7:W.keepIn K (.ref f7)=true)(a8:W.nsIn K mainGlobals uI=some (some (.ref f8))) (l8:K.lookup f8=some #[gi,fu,.func (W.fnOf uI uI (iQ wq) (iE wq) (gP wq) .none gj gk gm fv cH gn),fF]) (c8:W.codeIn K cH uI=true) (k8:W.keepIn K (.ref f8)=true)(a9:W.nsIn K mainGlobals uJ=some (some (.ref f9))) (l9:K.lookup f9=some #[gp,fw,.func (W.fnOf uJ uJ (iQ wg) (iE wg) (gP wg) .none gq gr gs fx cJ gt),fG]) (c9:W.codeIn K cJ uJ=true) (k9:W.keepIn K (.ref f9)=true)(a10:W.nsIn K mainGlobals uG=some (some (.ref aE))) (l10:K.lookup aE=some #[cK,bi,.func (W.fnOf uG uG (iQ um) (iE um) (gP um) .none cL cM cN bj J cO),b5]) (c10:W.codeIn K J uG=true) (k10:W.keepIn K (.ref aE)=true)(a11:W.nsIn K mainGlobals tZ=some (some (.ref aF))) (l11:K.lookup aF=some #[cP,bk,.func (W.fnOf tZ tZ (iQ ut) (iE ut) (gP ut) .none cQ cR cS bl L cT),b6]) (c11:W.codeIn K L tZ=true) (k11:W.keepIn K (.ref aF)=true)(a12:W.nsIn K mainGlobals sL=some (some (.ref y))) (l12:K.lookup y=some #[cU,bm,.func (W.fnOf sL sL (iQ qj) (iE qj) (gP qj) .none M N O E (.ref g) Q),b7]) (c12:W.codeIn K (.ref g) sL=true) (k12:W.keepIn K (.ref y)=true)(hd12:W.codeHdIn K g 121=true)(a13:W.nsIn K mainGlobals uS=some (some (.ref aG))) (l13:K.lookup aG=some #[cV,bn,.func (W.fnOf uS uS (iQ vK) (iE vK) (gP vK) .none cW cX cY bo T cZ),b8]) (c13:W.codeIn K T uS=true) (k13:W.keepIn K (.ref aG)=true)(a14:W.nsIn K mainGlobals tX=some (some (.ref aH))) (l14:K.lookup aH=some #[c0,bp,.func (W.fnOf tX tX (iQ xq) (iE xq) (gP xq) .none da db dc bq U dd),b9]) (c14:W.codeIn K U tX=true) (k14:W.keepIn K (.ref aH)=true)(a15:W.nsIn K mainGlobals tY=some (some (.ref aI))) (l15:K.lookup aI=some #[de,br,.func (W.fnOf tY tY (iQ u3) (iE u3) (gP u3) .none df dg dh bs Y di),ca]) (c15:W.codeIn K Y tY=true) (k15:W.keepIn K (.ref aI)=true)(a16:W.nsIn K mainGlobals sV=some (some (.ref z))) (l16:K.lookup z=some #[dj,bt,.func (W.fnOf sV sV (iQ oQ) (iE oQ) (gP oQ) (.ref m) aa ab ae H n af),cb]) (c16:W.codeIn K n sV=true) (k16:W.keepIn K (.ref z)=true)(lD16:K.lookup m=some aC) (qD16:aC.data=.seq ([.int 400 aD]:Vs).toArray eQ)(a17:W.nsIn K mainGlobals uK=some (some (.ref aJ))) (l17:K.lookup aJ=some #[dk,bu,.func (W.fnOf uK uK (iQ vL) (iE vL) (gP vL) .none dm dn dp bv ag dq),cc]) (c17:W.codeIn K ag uK=true) (k17:W.keepIn K (.ref aJ)=true)(a18:W.nsIn K mainGlobals uM=some (some (.ref aK))) (l18:K.lookup aK=some #[dr,bw,.func (W.fnOf uM uM (iQ rQ) (iE rQ) (gP rQ) .none ds dt du bx ah dv),cd]) (c18:W.codeIn K ah uM=true) (k18:W.keepIn K (.ref aK)=true)(a19:W.nsIn K mainGlobals tV=some (some (.ref aL))) (l19:K.lookup aL=some #[dw,bz,.func (W.fnOf tV tV (iQ u0) (iE u0) (gP u0) .none dx dy dz bA ai dA),ce]) (c19:W.codeIn K ai tV=true) (k19:W.keepIn K (.ref aL)=true)(a20:W.nsIn K mainGlobals uR=some (some (.ref aM))) (l20:K.lookup aM=some #[dB,bB,.func (W.fnOf uR uR (iQ sw) (iE sw) (gP sw) .none dC dD dE bC aj dF),cf]) (c20:W.codeIn K aj uR=true) (k20:W.keepIn K (.ref aM)=true)(a21:W.nsIn K mainGlobals sY=some (some (.ref aN))) (l21:K.lookup aN=some #[dG,bD,.func (W.fnOf sY sY (iQ xp) (iE xp) (gP xp) .none dH dI dJ bE ak dK),cg]) (c21:W.codeIn K ak sY=true) (k21:W.keepIn K (.ref aN)=true)(a22:W.nsIn K mainGlobals tW=some (some (.ref aO))) (l22:K.lookup aO=some #[dL,bF,.func (W.fnOf tW tW (iQ vB) (iE vB) (gP vB) .none dM dN dO bG al dP),ch]) (c22:W.codeIn K al tW=true) (k22:W.keepIn K (.ref aO)=true)(a23:W.nsIn K mainGlobals sU=some (some (.ref aP))) (l23:K.lookup aP=some #[dQ,bH,.func (W.fnOf sU sU (iQ xb) (iE xb) (gP xb) .none dR dS dT bJ am dU),ci]) (c23:W.codeIn K am sU=true) (k23:W.keepIn K (.ref aP)=true)(a24:W.nsIn K mainGlobals uD=some (some (.ref aQ))) (l24:K.lookup aQ=some #[dV,bK,.func (W.fnOf uD uD (iQ vl) (iE vl) (gP vl) .none dW dX dY bL an dZ),cj]) (c24:W.codeIn K an uD=true) (k24:W.keepIn K (.ref aQ)=true)(a25:W.nsIn K mainGlobals sO=some (some (.ref aR))) (l25:K.lookup aR=some #[d1,bM,.func (W.fnOf sO sO (iQ tj) (iE tj) (gP tj) .none d2 d3 d4 bN ao d5),ck]) (c25:W.codeIn K ao sO=true) (k25:W.keepIn K (.ref aR)=true)(a26:W.nsIn K mainGlobals uN=some (some (.ref aS))) (l26:K.lookup aS=some #[d6,bO,.func (W.fnOf uN uN (iQ vf) (iE vf) (gP vf) .none d7 d8 d9 bP ap ea),cl]) (c26:W.codeIn K ap uN=true) (k26:W.keepIn K (.ref aS)=true)(a27:W.nsIn K mainGlobals tH=some (some (.ref aT))) (l27:K.lookup aT=some #[eb,bQ,.func (W.fnOf tH tH (iQ wK) (iE wK) (gP wK) .none ec ed ee bR aq ef),cm]) (c27:W.codeIn K aq tH=true) (k27:W.keepIn K (.ref aT)=true)(a28:W.nsIn K mainGlobals uC=some (some (.ref aU))) (l28:K.lookup aU=some #[eg,bS,.func (W.fnOf uC uC (iQ u8) (iE u8) (gP u8) .none eh ei ej bT ar ek),cn]) (c28:W.codeIn K ar uC=true) (k28:W.keepIn K (.ref aU)=true)(a29:W.nsIn K mainGlobals tI=some (some (.ref aV))) (l29:K.lookup aV=some #[el,bU,.func (W.fnOf tI tI (iQ vG) (iE vG) (gP vG) .none en eo ep bV as eq),co]) (c29:W.codeIn K as tI=true) (k29:W.keepIn K (.ref aV)=true)(a30:W.nsIn K mainGlobals sT=some (some (.ref aW))) (l30:K.lookup aW=some #[er,bW,.func (W.fnOf sT sT (iQ vg) (iE vg) (gP vg) .none es et eu bX au ev),cp]) (c30:W.codeIn K au sT=true) (k30:W.keepIn K (.ref aW)=true)(a31:W.nsIn K mainGlobals uL=some (some (.ref aX))) (l31:K.lookup aX=some #[ew,bY,.func (W.fnOf uL uL (iQ wu) (iE wu) (gP wu) .none ex ey ez bZ av eA),cq]) (c31:W.codeIn K av uL=true) (k31:W.keepIn K (.ref aX)=true)(a32:W.nsIn K mainGlobals tM=some (some (.ref aY))) (l32:K.lookup aY=some #[eB,b0,.func (W.fnOf tM tM (iQ xc) (iE xc) (gP xc) .none eC eD eE b1 aw eF),cr]) (c32:W.codeIn K aw tM=true) (k32:W.keepIn K (.ref aY)=true)(a33:W.nsIn K mainGlobals tE=some (some (.ref aZ))) (l33:K.lookup aZ=some #[eG,b2,.func (W.fnOf tE tE (iQ rz) (iE rz) (gP rz) .none eH eJ eK b3 ax eL),cs]) (c33:W.codeIn K ax tE=true) (k33:W.keepIn K (.ref aZ)=true)(a34:W.nsIn K mainGlobals "law"=some (some (.ref a0))) (l34:K.lookup a0=some #[eM,b4,.func (W.fnOf "law" "law" (iQ po) (iE po) (gP po) .none ay az aA I r aB),ct]) (c34:W.codeIn K r "law"=true) (k34:W.keepIn K (.ref a0)=true){kU kR:Ad} (n_TooMany:W.nsIn K mainGlobals "TooMany"=some (some (.ref kU))) (n_HallError:W.nsIn K mainGlobals "HallError"=some (some (.ref kR))){fI:Ad} {gw gx:Option Ad} {gy:Array (Option Vl)} {gz gA gB gC eR gD:Vl} (lI:K.lookup fI=some #[gz,gw,.func (W.fnOf "__init__" uW (iQ wn) (iE wn) (gP wn) .none gA gB gC gx eR gD),gy]) (cI:W.codeIn K eR uW=true) (kI:W.keepIn K (.ref fI)=true)(eI:MkE K kU kR fI) (bI:BaseI K kR) (sI:SetE K kU sG)(ba:W.nsIn K mainGlobals "len"=some none) (t:W.nsIn K mainGlobals "range"=some none) (u:W.nsIn K mainGlobals "tuple"=some none) (D:W.nsIn K mainGlobals "list"=some none) (o:W.nsIn K mainGlobals "sorted"=some none) (bb:W.nsIn K mainGlobals "set"=some none) (bc:W.nsIn K mainGlobals "all"=some none) (bd:W.nsIn K mainGlobals "any"=some none) (be:W.nsIn K mainGlobals "min"=some none) (bf:W.nsIn K mainGlobals "max"=some none):
  ∃fd:Fd,(∀(s:Sh) (v:Vl),BindsTo s fd #[[v],[]] [(sD,v)])/\∀base:Heap,K.In base->base.Ns mainGlobals mg->rF mg base->FnOk l.prog w K mg base im 20 fa fd [sD] (m8 K):=by
 have e:=fh.symm.trans (i7 X G a34);cases e;have F1:=jr (st:=vR) l1 c1 k1;have F2:DefAt K tK rX f2 (W.fnOf tK tK (iQ rX) (iE rX) (gP rX) (.ref A) cv cw cx bg C cy) (.ref A) C:=#[c2,#[_,_,_,_,_,rZ],_,_,_,l2];have F3:=jr (st:=vY) l3 c3 k3;have F4:=jr (st:=uY) l4 c4 k4;have F5:DefAt K sS qa f5 (W.fnOf sS sS (iQ qa) (iE qa) (gP qa) (.ref B) cB cC cD bh (.ref q) cE) (.ref B) (.ref q):=#[c5,#[_,_,_,_,_,rZ],_,_,_,l5];have F6:=jr (st:=xj) l6 c6 k6;have F7:=jr (st:=xa) l7 c7 k7;have F8:=jr (st:=wq) l8 c8 k8;have F9:=jr (st:=wg) l9 c9 k9;have eS:=jr (st:=um) l10 c10 k10;have eT:=jr (st:=ut) l11 c11 k11;have gE:DefAt K sL qj y (W.fnOf sL sL (iQ qj) (iE qj) (gP qj) .none M N O E (.ref g) Q) .none (.ref g):=#[c12,#[_,_,_,_,_,rZ],_,_,_,l12];have eU:=jr (st:=vK) l13 c13 k13;have eV:=jr (st:=xq) l14 c14 k14;have eW:=jr (st:=u3) l15 c15 k15;have gF:DefAt K sV oQ z (W.fnOf sV sV (iQ oQ) (iE oQ) (gP oQ) (.ref m) aa ab ae H n af) (.ref m) n:=#[c16,#[_,_,_,_,_,rZ],_,_,_,l16];have eX:=jr (st:=vL) l17 c17 k17;have eY:=jr (st:=rQ) l18 c18 k18;have eZ:=jr (st:=u0) l19 c19 k19;have e0:=jr (st:=sw) l20 c20 k20;have e1:=jr (st:=xp) l21 c21 k21;have e2:=jr (st:=vB) l22 c22 k22;have e3:=jr (st:=xb) l23 c23 k23;have e4:=jr (st:=vl) l24 c24 k24;have e5:=jr (st:=tj) l25 c25 k25;have e6:=jr (st:=vf) l26 c26 k26;have e7:=jr (st:=wK) l27 c27 k27;have e8:=jr (st:=u8) l28 c28 k28;have e9:=jr (st:=vG) l29 c29 k29;have fb:=jr (st:=vg) l30 c30 k30;have fc:=jr (st:=wu) l31 c31 k31;have fe:=jr (st:=xc) l32 c32 k32;have ff:=jr (st:=rz) l33 c33 k33;have gG:=jr (st:=po) l34 c34 k34;have p:=ql X G ba;have jC:=ql X G t;have jE:=ql X G u;have jS:=ql X G D;have jI:=ql X G o;have kM:=ql X G bb;have qS:=ql X G bc;have qH:=ql X G bd;have qI:=ql X G be;have qT:=ql X G bf;have qP:=i7 X G n_TooMany;have kO:=i7 X G n_HallError;refine#[W.fnOf "law" "law" (iQ po) (iE po) (gP po) .none ay az aA I r aB,λs v=> .of_eq rZ,λbase KB _ fg=>?_];have qL:=W.codeHd_of_K KB hd5;have qD:=W.codeHd_of_K KB hd12;have jK:hZ l.prog w K mg base tH _ _ _:=#[_,_,Nl (P:=l.prog) (w:=w) (base:=base) e7 p,i7 X G a27,k27,e7.binds (ps:=[sD,uA]) λ_ _ _ _ _ _=>nB (λ_ _=>rfl)];have kN:hZ l.prog w K mg base uC _ _ _:=#[_,_,MV (P:=l.prog) (w:=w) (base:=base) e8 jC jE jS,i7 X G a28,k28,e8.binds (ps:=[tJ,tR]) λ_ _ _ _ _ _=>nB (λ_ _=>rfl)];have jY:hZ l.prog w K mg base tI _ _ _:=#[_,_,MT (P:=l.prog) (w:=w) (base:=base) e9 jK kN jC jE,i7 X G a29,k29,e9.binds (ps:=[sD]) λ_ _ _ _ _ _=>oH (λ_=>rfl)];have qR:hZ l.prog w K mg base "led" _ _ _:=#[_,_,NQ (P:=l.prog) (w:=w) (base:=base) F7,i7 X G a7,k7,F7.binds (ps:=[sA,uV,tN]) λ_ _ _ _ _ _=>vi (λ_ _ _=>rfl)];have kX:hZ l.prog w K mg base uI _ _ _:=#[_,_,HR (P:=l.prog) (w:=w) (base:=base) F8 p,i7 X G a8,k8,F8.binds (ps:=[sC]) λ_ _ _ _ _ _=>oH (λ_=>rfl)];have kZ:hZ l.prog w K mg base uJ _ _ _:=#[_,_,KN (P:=l.prog) (w:=w) (base:=base) F9 kX jI,i7 X G a9,k9,F9.binds (ps:=[sP]) λ_ _ _ _ _ _=>oH (λ_=>rfl)];have jL:hZ l.prog w K mg base tZ _ _ _:=#[_,_,Iw (P:=l.prog) (w:=w) (base:=base) eT qR jE jI kM,i7 X G a11,k11,eT.binds (ps:=[sA,sC,tN]) λ_ _ _ _ _ _=>vi (λ_ _ _=>rfl)];have FI:=jr (st:=wn) lI cI kI;have qC:Cf l.prog w K mg base "TooMany" _ _ _ kU:=#[_,_,_,eI,Iq (P:=l.prog) (w:=w) (mg:=mg) (base:=base) FI eI bI sI kO,FI.binds (ps:=["self",sG]) λ_ _ _ _ _ _=>nB (λ_ _=>rfl),qP];have jJ:Dy l.prog w K mg base tL _ _ _:=#[_,_,Km (P:=l.prog) (w:=w) (base:=base) F1 qC p,i7 X G a1,k1,F1.binds (ps:=["things",sG]) λ_ _ _ _ _ _=>nB (λ_ _=>rfl)];have c:=Nj (P:=l.prog) (w:=w) (base:=base) F2 jJ jC;have kC:CalleeDX l.prog w K mg base tK _ _ _ []:=#[_,_,[],c,i7 X G a2,k2,(λs i KX j=>by have x:i.length=4:=(by simpa using j);clear j;revert i;exact LO (λ_ _ _ _=>BindsTo.of_defaults rZ (KX _ _ lD2) qD2 rZ rZ)),.nil];have k:CalleeDX l.prog w K mg base tK _ _ _ [.non]:=#[_,_,[.none],c,i7 X G a2,k2,(λs i KX j=>by have x:i.length=3:=(by simpa using j);clear j;revert i;exact vi (λ_ _ _=>BindsTo.of_defaults rZ (KX _ _ lD2) qD2 rZ rZ)),.cons rZ .nil];have jH:hZ l.prog w K mg base sL _ _ _:=#[_,_,KC (P:=l.prog) (w:=w) (base:=base) gE qD fg CT jL (k.calm<|Ku) p,i7 X G a12,k12,.all (nB (λ_ _=>rfl))];have kT:hZ l.prog w K mg base uO _ _ _:=#[_,_,IC (P:=l.prog) (w:=w) (base:=base) F3 jE jC,i7 X G a3,k3,F3.binds (ps:=[sC]) λ_ _ _ _ _ _=>oH (λ_=>rfl)];have jG:hZ l.prog w K mg base tT _ _ _:=#[_,_,Ng (P:=l.prog) (w:=w) (base:=base) F4 jE,i7 X G a4,k4,F4.binds (ps:=[uF,sN]) λ_ _ _ _ _ _=>nB (λ_ _=>rfl)];have a:=JH (P:=l.prog) (w:=w) (base:=base) F5 qL fg DS kT jG (kC.imp<|MR) p jS;have kQ:CalleeDX l.prog w K mg base sS _ _ _ []:=#[_,_,[],a,i7 X G a5,k5,(λs i KX j=>by have x:i.length=2:=(by simpa using j);clear j;revert i;exact nB (λ_ _=>BindsTo.of_defaults rZ (KX _ _ lD5) qD5 rZ rZ)),.nil];have d:CalleeDX l.prog w K mg base sS _ _ _ [.int 400]:=#[_,_,[.int 400 eP],a,i7 X G a5,k5,(λs i KX j=>by have x:i.length=1:=(by simpa using j);clear j;revert i;exact oH (λ_=>BindsTo.of_defaults rZ (KX _ _ lD5) qD5 rZ rZ)),.cons #[_,rZ] .nil];have kY:hZ l.prog w K mg base uK _ _ _:=#[_,_,LV (P:=l.prog) (w:=w) (base:=base) eX kT jH p jS,i7 X G a17,k17,eX.binds (ps:=[sA]) λ_ _ _ _ _ _=>oH (λ_=>rfl)];have kE:hZ l.prog w K mg base uM _ _ _:=#[_,_,IA (P:=l.prog) (w:=w) (base:=base) eY kY kZ p jC,i7 X G a18,k18,eY.binds (ps:=[sA]) λ_ _ _ _ _ _=>oH (λ_=>rfl)];have jW:hZ l.prog w K mg base uG _ _ _:=#[_,_,NI (P:=l.prog) (w:=w) (base:=base) eS qS,i7 X G a10,k10,eS.binds (ps:=[uF,sN]) λ_ _ _ _ _ _=>nB (λ_ _=>rfl)];have kH:hZ l.prog w K mg base tV _ _ _:=#[_,_,NV (P:=l.prog) (w:=w) (base:=base) eZ jW qH,i7 X G a19,k19,eZ.binds (ps:=["part",sP]) λ_ _ _ _ _ _=>nB (λ_ _=>rfl)];have qJ:hZ l.prog w K mg base uR _ _ _:=#[_,_,KH (P:=l.prog) (w:=w) (base:=base) e0 kE jW kH,i7 X G a20,k20,e0.binds (ps:=[sA,sC]) λ_ _ _ _ _ _=>nB (λ_ _=>rfl)];have jT:hZ l.prog w K mg base sY _ _ _:=#[_,_,ML (P:=l.prog) (w:=w) (base:=base) e1 kE jH p,i7 X G a21,k21,e1.binds (ps:=[sA]) λ_ _ _ _ _ _=>oH (λ_=>rfl)];have kJ:hZ l.prog w K mg base tW _ _ _:=#[_,_,Ld (P:=l.prog) (w:=w) (base:=base) e2,i7 X G a22,k22,e2.binds (ps:=[sH,sC]) λ_ _ _ _ _ _=>nB (λ_ _=>rfl)];have jR:hZ l.prog w K mg base sU _ _ _:=#[_,_,Jn (P:=l.prog) (w:=w) (base:=base) e3 kJ,i7 X G a23,k23,e3.binds (ps:=[sH]) λ_ _ _ _ _ _=>oH (λ_=>rfl)];have kP:hZ l.prog w K mg base uD _ _ _:=#[_,_,NC (P:=l.prog) (w:=w) (base:=base) e4 qH,i7 X G a24,k24,e4.binds (ps:=[sH,sP,tG]) λ_ _ _ _ _ _=>vi (λ_ _ _=>rfl)];have jQ:hZ l.prog w K mg base sO _ _ _:=#[_,_,Iu (P:=l.prog) (w:=w) (base:=base) e5 kP,i7 X G a25,k25,e5.binds (ps:=[sH,tG]) λ_ _ _ _ _ _=>nB (λ_ _=>rfl)];have qG:hZ l.prog w K mg base uN _ _ _:=#[_,_,JE (P:=l.prog) (w:=w) (base:=base) e6 jT jR jQ qJ,i7 X G a26,k26,e6.binds (ps:=[sA]) λ_ _ _ _ _ _=>oH (λ_=>rfl)];have jU:hZ l.prog w K mg base sZ _ _ _:=#[_,_,Lh (P:=l.prog) (w:=w) (base:=base) F6 jG,i7 X G a6,k6,F6.binds (ps:=[sM]) λ_ _ _ _ _ _=>oH (λ_=>rfl)];have qK:hZ l.prog w K mg base uS _ _ _:=#[_,_,K7 (P:=l.prog) (w:=w) (base:=base) eU jL,i7 X G a13,k13,eU.binds (ps:=[sM,sC]) λ_ _ _ _ _ _=>nB (λ_ _=>rfl)];have kK:hZ l.prog w K mg base tX _ _ _:=#[_,_,Lj (P:=l.prog) (w:=w) (base:=base) eV p kM,i7 X G a14,k14,eV.binds (ps:=[sM]) λ_ _ _ _ _ _=>oH (λ_=>rfl)];have kL:hZ l.prog w K mg base tY _ _ _:=#[_,_,Nw (P:=l.prog) (w:=w) (base:=base) eW jU kK qI,i7 X G a15,k15,eW.binds (ps:=[tO]) λ_ _ _ _ _ _=>oH (λ_=>rfl)];have b:=II (P:=l.prog) (w:=w) (base:=base) gF kQ qK kL jG jI kM;have qU:CalleeDX l.prog w K mg base sV _ _ _ []:=#[_,_,[],b,i7 X G a16,k16,(λs i KX j=>by have x:i.length=3:=(by simpa using j);clear j;revert i;exact vi (λ_ _ _=>BindsTo.of_defaults rZ (KX _ _ lD16) qD16 rZ rZ)),.nil];have f:CalleeDX l.prog w K mg base sV _ _ _ [.int 400]:=#[_,_,[.int 400 aD],b,i7 X G a16,k16,(λs i KX j=>by have x:i.length=2:=(by simpa using j);clear j;revert i;exact nB (λ_ _=>BindsTo.of_defaults rZ (KX _ _ lD16) qD16 rZ rZ)),.cons #[_,rZ] .nil];have jA:hZ l.prog w K mg base sT _ _ _:=#[_,_,IR (P:=l.prog) (w:=w) (base:=base) fb jE,i7 X G a30,k30,fb.binds (ps:=[sW,sK]) λ_ _ _ _ _ _=>nB (λ_ _=>rfl)];have qA:hZ l.prog w K mg base uL _ _ _:=#[_,_,L5 (P:=l.prog) (w:=w) (base:=base) fc jA jE jC p,i7 X G a31,k31,fc.binds (ps:=[sJ,uT]) λ_ _ _ _ _ _=>nB (λ_ _=>rfl)];have kA:hZ l.prog w K mg base tM _ _ _:=#[_,_,JA (P:=l.prog) (w:=w) (base:=base) fe jA jC,i7 X G a32,k32,fe.binds (ps:=[sF,tQ,sX]) λ_ _ _ _ _ _=>vi (λ_ _ _=>rfl)];have jV:hZ l.prog w K mg base tE _ _ _:=#[_,_,MN (P:=l.prog) (w:=w) (base:=base) ff jA kA p jI kM jS,i7 X G a33,k33,ff.binds (ps:=[sQ,uB,tS]) λ_ _ _ _ _ _=>vi (λ_ _ _=>rfl)];exact Mf (P:=l.prog) (w:=w) (base:=base) gG jY qA d qG f jV p qT qI
def c9e:As:=[121,76]
def walk{l:PySem.W.OpenLaw}{q:Pg}{b:Ss}{j:SV->Heap->Prop}{g:World->Heap->Prop}{d:DefRec}{K:Params->N2}(m:l.most=some 63)(i:d.params.defaults=[])(o:∀(w:World) (h:Heap),g w h->(K w.params).In h) (hT:∀w:World,∀t∈c9e,(K w.params).lookup t=none/\((∃y c,PySem.W.tabIn (K w.params) y=some (c,t)/\∃e,(recsOf q).find? (λr=>r.name==y)=some e)\/((∃c,PySem.W.codeHdIn (K w.params) c t=true)/\∀h,g w h->h.get? t=some (PySem.W.tabObj #v[]))))(F:∀(w:World) (mg:SV) (fa:Ad) (h:Heap),(K w.params).In h->h.Ns mainGlobals mg->mg d.name=some (.ref fa)->
   ∃fd:Fd,(∀(s:Sh) (u:Vl),BindsTo s fd #[[u],[]] [(sD,u)])/\∀base:Heap,(K w.params).In base->base.Ns mainGlobals mg->rF mg base->FnOk l.prog w (K w.params) mg base im 20 fa fd [sD] (m8 (K w.params))):
  PySem.W.WalkO q b j g l.row.toRowW d [] (λf p=>PySem.call f p):=
 L2.c3p (n:=63) (k:=20) (x:=sD) (tabs:=c9e) (sp:=λw=>m8 (K w.params)) m (by decide) i #[rZ,by decide,by decide] o hT F λw H a v z ht A=>#[a,v,rZ,A,z,(λq B=> .inl (ht _ ((show jg.map (·.2.2)=c9e from rfl)▸List.mem_map_of_mem B))),λ_=>rfl]
end My
namespace PySem.W.Fast
def tw16802250571667011188:=0
theorem te16802250571667011188 : True := ⟨⟩
def tw4587430998146926979:=0
def tw8564650960377370620:=0
def tw14269155862193994272:=0
def tw5818673935001939933:=0
def tw4615021286996014466:=0
def tw16004611130422819051:=0
def tw15376331333396790385:=0
def tw11905563181433121449:=0
def tw215546342844210608:=0
def tw11833188301734808608:=0
def tw17904601371991949403:=0
def tw9558182455187956088:=0
def tw4040910305378079044:=0
def tw6908321821438162965:=0
def tw13296583857991468759:=0
def tw3239977874702297138:=0
def tw13150664670293887198:=0
def tw13547619207250992417:=0
def tw11947060382371183779:=0
def tw3521603305552818066:=0
def tw6631632901384961351:=0
def tw534748544741881935:=0
def tw15041566442240722719:=0
def tw2347987468898209624:=0
def tw16550943684501457241:=0
def tw9462058356330819279:=0
def tw15839842033346164291:=0
def tw606034547472035438:=0
def tw13366197632787232856:=0
def tw5096918642718164208:=0
def tw515586838867217942:=0
def tw15010770008989933269:=0
def tw8873154483451492729:=0
def tw17673223795904629408:=0
def tw15734103051481522072:=0
def tw14091864587349151326:=0
def tw426650898065126472:=0
def tw12655037963632150946:=0
def tw8254165300384256718:=0
def tw4846881142322663807:=0
def tw8310427191114353577:=0
def tw14824465098037850906:=0
def tw2772197677682091240:=0
def tw17680871683411916936:=0
def tw15346855381824764996:=0
def tw3610519053367403166:=0
def tw6808818594519188360:=0
def tw12751162053853927387:=0
def tw14607356548684617650:=0
def tw13253644861311946227:=0
def tw16276117647777838436:=0
def tw17274638452914737590:=0
def tw15713426469201432202:=0
def tw3292992846648882797:=0
def tw3093400400230629192:=0
def tw7074324166083861262:=0
def tw5509582665060996515:=0
def tw9352362941232029432:=0
def tw11110869661799936831:=0
def tw12437869922938222090:=0
def tw8797172913275563401:=0
def tw6672098322258477030:=0
def tw8976657327631165953:=0
def tw12314814558899736306:=0
def tw6781894227484270818:=0
def tw17981846504426161648:=0
def tw16723943109658539450:=0
def tw3183347258426032084:=0
def tw1203627897807366844:=0
def tw15966938318673920873:=0
def tw18134116408214937375:=0
def tw3253444202432583396:=0
def tw12808566346060288500:=0
def tw9099946032977173450:=0
def tw4259602005316627569:=0
def tw11524784780039723142:=0
def tw8569296012957742613:=0
def tw15423977751123421929:=0
def tw14691819804344190315:=0
def tw11581787778518585097:=0
def tw5707263854896087107:=0
def tw17673931753732336206:=0
def tw13607678740730851509:=0
def tw7344769979772219099:=0
def tw17391831055879976328:=0
def tw986676160258053358:=0
def tw15188645427752215401:=0
def tw10882766804830347463:=0
def tw3014608779916074998:=0
def tw17633515695144992053:=0
def tw5055991750624306159:=0
def tw220276404172519434:=0
def tw15854148771719336949:=0
def tw1918511049479367627:=0
def tw1008840746991412690:=0
def tw5075443450876146142:=0
def tw3270707901777222400:=0
def tw13284260957599699793:=0
def tw9935003860432313485:=0
def tw11596533675840017450:=0
def tw3692165781110878764:=0
def tw14017895107956610136:=0
def tw1543699241255714759:=0
def tw1658680159451510666:=0
def tw16779298894270997717:=0
def tw7410285045758558391:=0
def tw3838187769222211139:=0
def tw6976339982898060593:=0
def tw2203484755878463930:=0
def tw455825549589282991:=0
def tw13392260817255595968:=0
def tw8116868435764058199:=0
def tw245761677230248823:=0
def tw15402518150136747473:=0
def tw13381286120832745713:=0
def tw7730452511472911529:=0
def tw14992498138355356601:=0
def tw6224998700831914034:=0
def tw10026921157018747932:=0
def tw14643082788662655012:=0
def tw18194686818633144713:=0
def tw1941071519188544975:=0
def tw9299172242731570793:=0
def tw14915361422831634799:=0
def tw1665703896919321706:=0
def tw4631168685983709365:=0
def tw14140991587177253683:=0
def tw3263023314332673736:=0
def tw13590535539455782750:=0
def tw5042148342775344152:=0
end PySem.W.Fast
open PySem PySem.W PyProof.Rows
set_option maxRecDepth 100000 in
set_option maxHeartbeats 0 in
theorem PySem.Challenge.cw_cascade_k64_whole_own_turns_are_a_group_holds : PySem.Challenge.rw_cascade_k64_whole_own_turns_are_a_group.Holds := by
 w_on; o_law; k_head; (case hw => w_witness2)
 k_fill
 refine' My.walk (l := PySem.Challenge.rw_cascade_k64_whole_own_turns_are_a_group) rfl rfl (fun w h Y => PySem.W.km_in_of Y) ?hT ?F
 case hT =>
  intro w t ht
  simp only [My.c9e, List.mem_cons, List.not_mem_nil, or_false] at ht
  rcases ht with rfl | rfl
  ·exact ⟨by kernel_rfl, .inl ⟨"sets_reached", 125, by kernel_rfl, _, rfl⟩⟩
  ·exact ⟨by kernel_rfl, .inr ⟨⟨80, by kernel_rfl⟩, fun h Y => PySem.W.km_tabs_of Y _ (by simp)⟩⟩
 case F =>
  intro w mg fa h KX G hmg
  refine' My.d5f KX G hmg ?a1 ?l1 ?c1 ?k1 ?a2 ?l2 ?c2 ?k2 ?lD2 ?qD2 ?a3 ?l3 ?c3 ?k3 ?a4 ?l4 ?c4 ?k4 ?a5 ?l5 ?c5 ?k5 ?lD5 ?qD5 ?hd5 ?a6 ?l6 ?c6 ?k6 ?a7 ?l7 ?c7 ?k7 ?a8 ?l8 ?c8 ?k8 ?a9 ?l9 ?c9 ?k9 ?a10 ?l10 ?c10 ?k10 ?a11 ?l11 ?c11 ?k11 ?a12 ?l12 ?c12 ?k12 ?hd12 ?a13 ?l13 ?c13 ?k13 ?a14 ?l14 ?c14 ?k14 ?a15 ?l15 ?c15 ?k15 ?a16 ?l16 ?c16 ?k16 ?lD16 ?qD16 ?a17 ?l17 ?c17 ?k17 ?a18 ?l18 ?c18 ?k18 ?a19 ?l19 ?c19 ?k19 ?a20 ?l20 ?c20 ?k20 ?a21 ?l21 ?c21 ?k21 ?a22 ?l22 ?c22 ?k22 ?a23 ?l23 ?c23 ?k23 ?a24 ?l24 ?c24 ?k24 ?a25 ?l25 ?c25 ?k25 ?a26 ?l26 ?c26 ?k26 ?a27 ?l27 ?c27 ?k27 ?a28 ?l28 ?c28 ?k28 ?a29 ?l29 ?c29 ?k29 ?a30 ?l30 ?c30 ?k30 ?a31 ?l31 ?c31 ?k31 ?a32 ?l32 ?c32 ?k32 ?a33 ?l33 ?c33 ?k33 ?a34 ?l34 ?c34 ?k34 ?n_TooMany ?n_HallError ?lI ?cI ?kI ?eI ?bI ?sI  ?z0 ?z1 ?z2 ?z3 ?z4 ?z5 ?z6 ?z7 ?z8 ?z9
  (case a1 => k_is); (case l1 => k_is); (case c1 => k_is); (case k1 => k_is)
  (case a2 => k_is); (case l2 => k_is); (case c2 => k_is); (case k2 => k_is)
  (case lD2 => k_is); (case qD2 => rfl)
  (case a3 => k_is); (case l3 => k_is); (case c3 => k_is); (case k3 => k_is)
  (case a4 => k_is); (case l4 => k_is); (case c4 => k_is); (case k4 => k_is)
  (case a5 => k_is); (case l5 => k_is); (case c5 => k_is); (case k5 => k_is)
  (case lD5 => k_is); (case qD5 => rfl)
  (case hd5 => kernel_rfl)
  (case a6 => k_is); (case l6 => k_is); (case c6 => k_is); (case k6 => k_is)
  (case a7 => k_is); (case l7 => k_is); (case c7 => k_is); (case k7 => k_is)
  (case a8 => k_is); (case l8 => k_is); (case c8 => k_is); (case k8 => k_is)
  (case a9 => k_is); (case l9 => k_is); (case c9 => k_is); (case k9 => k_is)
  (case a10 => k_is); (case l10 => k_is); (case c10 => k_is); (case k10 => k_is)
  (case a11 => k_is); (case l11 => k_is); (case c11 => k_is); (case k11 => k_is)
  (case a12 => k_is); (case l12 => k_is); (case c12 => k_is); (case k12 => k_is)
  (case hd12 => kernel_rfl)
  (case a13 => k_is); (case l13 => k_is); (case c13 => k_is); (case k13 => k_is)
  (case a14 => k_is); (case l14 => k_is); (case c14 => k_is); (case k14 => k_is)
  (case a15 => k_is); (case l15 => k_is); (case c15 => k_is); (case k15 => k_is)
  (case a16 => k_is); (case l16 => k_is); (case c16 => k_is); (case k16 => k_is)
  (case lD16 => k_is); (case qD16 => rfl)
  (case a17 => k_is); (case l17 => k_is); (case c17 => k_is); (case k17 => k_is)
  (case a18 => k_is); (case l18 => k_is); (case c18 => k_is); (case k18 => k_is)
  (case a19 => k_is); (case l19 => k_is); (case c19 => k_is); (case k19 => k_is)
  (case a20 => k_is); (case l20 => k_is); (case c20 => k_is); (case k20 => k_is)
  (case a21 => k_is); (case l21 => k_is); (case c21 => k_is); (case k21 => k_is)
  (case a22 => k_is); (case l22 => k_is); (case c22 => k_is); (case k22 => k_is)
  (case a23 => k_is); (case l23 => k_is); (case c23 => k_is); (case k23 => k_is)
  (case a24 => k_is); (case l24 => k_is); (case c24 => k_is); (case k24 => k_is)
  (case a25 => k_is); (case l25 => k_is); (case c25 => k_is); (case k25 => k_is)
  (case a26 => k_is); (case l26 => k_is); (case c26 => k_is); (case k26 => k_is)
  (case a27 => k_is); (case l27 => k_is); (case c27 => k_is); (case k27 => k_is)
  (case a28 => k_is); (case l28 => k_is); (case c28 => k_is); (case k28 => k_is)
  (case a29 => k_is); (case l29 => k_is); (case c29 => k_is); (case k29 => k_is)
  (case a30 => k_is); (case l30 => k_is); (case c30 => k_is); (case k30 => k_is)
  (case a31 => k_is); (case l31 => k_is); (case c31 => k_is); (case k31 => k_is)
  (case a32 => k_is); (case l32 => k_is); (case c32 => k_is); (case k32 => k_is)
  (case a33 => k_is); (case l33 => k_is); (case c33 => k_is); (case k33 => k_is)
  (case a34 => k_is); (case l34 => k_is); (case c34 => k_is); (case k34 => k_is)
  (case n_TooMany => k_is)
  (case n_HallError => k_is)
  (case eI => exact ⟨⟨(by show PySem.W.excIn _ _ L2.veMro "ValueError.__new__" = true; k_exc), _, _, _, _, _, _, _, _, _, _, _, _, _, _, by k_is⟩, by k_is, by k_is, by k_is⟩)
  (case lI => k_is); (case cI => k_is); (case kI => k_is)
  (case bI => exact ⟨by k_is, by k_is, by k_is⟩)
  (case sI => exact ⟨by k_is, by k_is⟩)
  (case z0 => k_is)
  (case z1 => k_is)
  (case z2 => k_is)
  (case z3 => k_is)
  (case z4 => k_is)
  (case z5 => k_is)
  (case z6 => k_is)
  (case z7 => k_is)
  (case z8 => k_is)
  (case z9 => k_is)
